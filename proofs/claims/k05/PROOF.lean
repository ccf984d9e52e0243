import PyProof.Rows.All
import Wide.All
import OpenK.AllK
import Wide.FinOn
import Lean
import PyProof.EqAt
import PyProof.EqKinds
import PyProof.TupleCall
import PySem.Challenge.RW_earworks_k05_whole_ways
set_option Elab.async false
set_option linter.all false
set_option maxRecDepth 100000
open PySem.W (instObj methodObj hideAll hideAll_get of_hideAll Frag lookIn InstAt plainGet hasDictIn findIn handedIn plainGet_of isFn plainOver takerIn makesIn typeIn emptyDict keepIn methodCall_KW specialIn takesIn mroIn kitOne kia_one kitx_list kitx_dict callWith_K cellsFrom_some fnOf codeIn OpenLaw WalkO subIn clsIn nsIn mg_of excIn exmOne Looks kIn_of)
open PyProof.Rows (callWith_type1 envOfC IntsAre step_dedup firstMet boot_set sorted_ints sortedAll boot_list boot_range boot_isinstance boot_int boot_bool boot_tuple boot_all AllBare slot_tuple_getitem boot_min boot_max boot_sorted boot_any)
open PySem.F (plainAttrs_list)
def ub:=@PySem.wpAny_bind
def uc:=@PySem.wpAny_pure
def ud:=@Option.bind_some
def uf:=@List.mem_cons_of_mem
def ug:=@List.getElem?_cons_succ
def uj:=@List.getElem?_cons_zero
def uk:=@List.length_map
def um:=@Bool.and_eq_true
def yV:=@PySem.Heap.get?_push_of_some
def yW:=@List.getElem?_eq_getElem
def yX:=@List.getElem?_eq_some_iff
def yY:=@List.mem_cons_self
def yZ:=@PySem.Heap.lt_size
def zb:=@List.map_cons
def zc:=@List.getElem?_map
def zd:=@List.mem_append_right
def zf:=@List.size_toArray
def zg:=@PySem.Heap.get?_push_size
def zj:=@List.mem_cons
def zk:=@PySem.wpAny_ite_false
def zm:=@List.Nodup.length_le_of_subset
def zp:=@Nat.le_refl
def zw:=@List.getElem?_append_left
def zy:=@List.length_append
def zz:=@Nat.lt_of_lt_of_le
def zB:=@List.mem_append
def zC:=@List.mem_append_left
def zD:=@List.getElem?_set_ne
def zF:=@PySem.Heap.get?_update_self
def zG:=@List.getElem?_set_self
def zH:=@List.mem_map
def zJ:=@Nat.ne_of_lt
def zK:=@Bool.false_ne_true
def zL:=@List.filter_eq_self
def zM:=@List.length_filter_le
def zN:=@Nat.le_trans
def zP:=@Nat.lt_irrefl
def zQ:=@List.length_cons
def zR:=@List.getElem?_append_right
def zT:=@List.map_append
def zV:=@List.map_map
def zW:=@PySem.Heap.get?_update_other
def zX:=@List.mem_flatMap
def zY:=@PySem.W.Fast.te10110043849684766642
def zZ:=@PySem.W.Fast.te14364793385576792824
def Ab:=@Option.some.inj
def Ac:=@Nat.le_of_lt
def Ad:=@Nat.zero_le
def Af:=@List.mem_filter
def Ag:=@List.all_eq_true
def Aj:=@List.length_replicate
def Ak:=@PySem.wpAny_field
def Am:=@PySem.wpAny_setField
def Ap:=@PySem.wpAny_mono
def Aq:=@List.mem_of_mem_tail
def Av:=@decide_eq_true
def Aw:=@decide_eq_false
noncomputable section
section
namespace L2
open PySem PySem.Spec PyProof.Rows
abbrev Key:=Sum Int Str
def keyIs:Key->Value->Bool
 | .inl k,v=>Value.isInt k v
 | .inr x,v=>Value.isStrOf x v
def keyH (w:World):Key->Int
 | .inl k=>hashInt k
 | .inr x=>hashStr w x
theorem bU:∀ {k:Key} {v:Value},keyIs k v=true->(∃ i t,k=Sum.inl i/\v=Value.int i t)\/(∃ x t,k=Sum.inr x/\v=Value.str x t)
 | .inl i,v,h=>by
  obtain ⟨t,e⟩:=Value.isInt_shape (k:=i) (v:=v) h;exact .inl ⟨i,t,rfl,e⟩
 | .inr x,v,h=>by
  obtain ⟨t,e⟩:=Value.isStrOf_shape (x:=x) (v:=v) h;exact .inr ⟨x,t,rfl,e⟩
theorem key_ll (a b:Int):decide ((Sum.inl a:Key)=Sum.inl b)=(a==b):=by
 by_cases e:a=b
 ·subst e;simp
 ·have h:¬(Sum.inl a:Key)=Sum.inl b:=fun q=>e (Sum.inl.inj q);rw [Aw h];exact (beq_eq_false_iff_ne.mpr e).symm
theorem key_rr (a b:Str):decide ((Sum.inr a:Key)=Sum.inr b)=decide (a=b):=by
 by_cases e:a=b
 ·subst e;simp
 ·have h:¬(Sum.inr a:Key)=Sum.inr b:=fun q=>e (Sum.inr.inj q);rw [Aw h,Aw e]
theorem key_lr (a:Int) (b:Str):decide ((Sum.inl a:Key)=Sum.inr b)=false:=Aw (fun q=>nomatch q)
theorem key_rl (a:Str) (b:Int):decide ((Sum.inr a:Key)=Sum.inl b)=false:=Aw (fun q=>nomatch q)
noncomputable def mixKind (prog:Program) (w:World):PySem.KeyKind prog w Key where
 is:=keyIs
 hash:=keyH w
 inj:=fun v a b ha hb=>by
  rcases bU ha with ⟨i,t,rfl,rfl⟩ | ⟨x,t,rfl,rfl⟩
  ·rcases bU hb with ⟨j,u,rfl,e⟩ | ⟨y,u,rfl,e⟩
   ·injection e with e1 _;rw [e1]
   ·exact nomatch e
  ·rcases bU hb with ⟨j,u,rfl,e⟩ | ⟨y,u,rfl,e⟩
   ·exact nomatch e
   ·injection e with e1 _;rw [e1]
 byValue:=fun k v h=>by
  rcases bU h with ⟨i,t,rfl,rfl⟩ | ⟨x,t,rfl,rfl⟩ <;> rfl
 pyHash:=fun hv h=>by
  rcases bU hv with ⟨i,t,rfl,rfl⟩ | ⟨x,t,rfl,rfl⟩
  ·exact wpAny_pyHash_int h
  ·exact wpAny_pyHash_str h
 eqBool:=fun hu hv h=>by
  rcases bU hu with ⟨i,t,rfl,rfl⟩ | ⟨x,t,rfl,rfl⟩
  ·rcases bU hv with ⟨j,u,rfl,rfl⟩ | ⟨y,u,rfl,rfl⟩
   ·rw [key_ll] at h;exact wpAny_eqBool_int h
   ·rw [key_lr] at h;exact SeqAt.EqAt.int_str i t y u _ _ _ _ h
  ·rcases bU hv with ⟨j,u,rfl,rfl⟩ | ⟨y,u,rfl,rfl⟩
   ·rw [key_rl] at h;exact SeqAt.EqAt.str_int x t j u _ _ _ _ h
   ·rw [key_rr] at h;exact wpAny_eqBool_str h
 «strs»:=fun k x t v h=>by
  rcases bU h with ⟨i,u,rfl,e⟩ | ⟨y,u,rfl,e⟩
  ·exact nomatch e
  ·injection e with e1 _;subst e1;cases v <;> rfl
inductive V where
 | non | bl (b:Bool) | int (i:Int) | str (x:Str) | byt (b:Array UInt8) | flt (b:UInt64) | ref (a:Addr) | ty (n:String)
 deriving DecidableEq
noncomputable def RelV:V->Value->Prop
 | .non,u=>u=Value.none
 | .bl b,u=>u=Value.bool b
 | .int i,u=>∃ t,u=Value.int i t
 | .str x,u=>∃ t,u=Value.str x t
 | .byt b,u=>∃ t,u=Value.bytes b t
 | .flt b,u=>∃ t,u=Value.float b t
 | .ref a,u=>u=Value.ref a
 | .ty n,u=>u=Value.type n
abbrev aT:List V->List Value->Prop:=Paired RelV
theorem aT.length {xs:List V} {us:List Value} (r:aT xs us):xs.length=us.length:=Paired.length r
theorem aT.get:∀ {xs:List V} {us:List Value} {i:Nat} {x:V},aT xs us->xs[i]?=some x->∃ u,us[i]?=some u/\RelV x u
 | _,_,_,_,.nil,e=>by simp at e
 | _,_,0,_,.cons r _,e=>by simp at e;subst e;exact ⟨_,rfl,r⟩
 | _,_,i+1,x,.cons _ t,e=>by
  obtain ⟨u,h1,h2⟩:=aT.get (i:=i) (x:=x) t (by simpa using e);exact ⟨u,by simpa using h1,h2⟩
theorem aT.append:∀ {xs ys:List V} {us ws:List Value},aT xs us->aT ys ws->aT (xs++ys) (us++ws)
 | _,_,_,_,.nil,s=>s
 | _,_,_,_,.cons r t,s=>.cons r (aT.append t s)
theorem aT.take:∀ {xs:List V} {us:List Value} (n:Nat),aT xs us->aT (xs.take n) (us.take n)
 | _,_,0,_=>.nil
 | _,_,_+1,.nil=>.nil
 | _,_,n+1,.cons r t=>.cons r (aT.take n t)
theorem aT.drop:∀ {xs:List V} {us:List Value} (n:Nat),aT xs us->aT (xs.drop n) (us.drop n)
 | _,_,0,r=>r
 | _,_,_+1,.nil=>.nil
 | _,_,n+1,.cons _ t=>aT.drop n t
def RelO:Option V->Option Value->Prop
 | some v,some u=>RelV v u
 | none,none=>True
 | _,_=>False
noncomputable def KV {κ:Type}:List (κ×V)->List (κ×Value)->Prop:=Paired fun (p:κ×V) (q:κ×Value)=>p.1=q.1/\RelV p.2 q.2
def kV:Key->V
 | .inl i=>.int i
 | .inr x=>.str x
inductive HO where
 | lst (xs:List V)
 | tup (xs:List V)
 | dK (uD:List (Key×V)) | dT (uD:List (List Key×V))
 | set (S:Int->Bool) (n:Nat)
 | ins (C dx:Addr) (fs:List (Str×V))
 | own (x:Addr)
 | xd (fs:List (Str×V))
 | met (f x:Addr)
 | rng (lo hi:Int)
 | frz (o:Obj) (u:HO)
 | tbl (ps:Array Value)
 | ext (φ:Heap->Prop)
abbrev Hp:=Addr->Option HO
def upd (H:Hp) (a:Addr) (o:HO):Hp:=fun b=>if b=a then some o else H b
theorem aw {H:Hp} {a:Addr} {o:HO}:upd H a o a=some o:=by unfold upd;rw [if_pos rfl]
theorem av {H:Hp} {a b:Addr} {o:HO} (h:b≠a):upd H a o b=H b:=by unfold upd;rw [if_neg h]
theorem aK {H:Hp} {a b:Addr} {o:HO} (h:H a=some o) (h':H b=none):a≠b:=by
 intro e;subst e;rw [h] at h';cases h'
section
variable (P:Program) (w:World)
noncomputable def cI (H:Hp) (h:Heap) (a:Addr):HO->Prop
 | .lst xs=>xs.length<=sizeLine/\∃ (its:List Value) (n:Nat),aT xs its/\h.get? a=some { cls:=.type "list",data:=.seq its.toArray n }
 | .tup xs=>xs.length<=sizeLine/\∃ its:List Value,aT xs its/\IsTup h a its.toArray
 | .dK uD=>uD.length<=sizeLine/\(a==sysModules)=false/\∃ vs,KV uD vs/\h.DictOf (mixKind P w) a vs
 | .dT uD=>uD.length<=sizeLine/\(a==sysModules)=false/\∃ xs:List (List Key×Addr×Value),
  Paired (fun (p:List Key×V) (q:List Key×Addr×Value)=>p.1=q.1/\H q.2.1=some (.tup (p.1.map kV))/\RelV p.2 q.2.2) uD xs/\
  ∃ o es ep,h.get? a=some o/\o.ExactDict/\o.data=.dict es ep/\es.toList=xs.map (entryOfKey (tupleKind (mixKind P w)))/\(xs.map (·.1)).Nodup
 | .set S n=>h.SetOf (intKind P w) a S n
 | .ins C dx fs=>H dx=some (.own a)/\fs.length<=1000/\dx≠a/\h.get? a=some (instObj C dx)/\
  ∃ mA,h.Ns1 dx mA/\(∀ f,RelO (fs.lookup f) (mA f))/\PySem.Within mA (fs.map (·.1))
 | .own _=>∃ o,h.get? a=some o
 | .xd fs=>∃ mA,h.Ns1 a mA/\∀ f,RelO (fs.lookup f) (mA f)
 | .rng lo hi=>∃ t u v,h.get? a=some { cls:=.type "range",data:=.fields #[.int lo t,.int hi u,.int 1 v] }
 | .frz o u=>h.get? a=some o/\cI H h a u
 | .tbl ps=>h.get? a=some { cls:=.none,data:=.fields ps }
 | .met f x=>h.get? a=some (methodObj (.ref f) (.ref x))
 | .ext φ=>φ h/\(∃ o,h.get? a=some o)/\∀ h1 h2:Heap,φ h1->(∀ o,h1.get? a=some o->h2.get? a=some o)->φ h2
def HOk (H:Hp) (h:Heap):Prop:=∀ a o,H a=some o->cI P w H h a o
end
section
variable {P:Program} {w:World} {H H':Hp} {h h':Heap} {a:Addr} {o:HO}
theorem cI.lt (x:cI P w H h a o):a<h.objs.size:=by
 cases o with
 | lst xs=>obtain ⟨_,_,_,_,e⟩:=x;exact yZ e
 | tup xs=>obtain ⟨_,_,_,p⟩:=x;exact p.lt
 | dK uD=>obtain ⟨_,_,_,_,o,_,_,e,_⟩:=x;exact yZ e
 | dT uD=>obtain ⟨_,_,_,_,o,_,_,e,_⟩:=x;exact yZ e
 | set S n=>obtain ⟨o,_,_,_,e,_⟩:=x;exact yZ e
 | ins C dx fs=>obtain ⟨_,_,_,e,_⟩:=x;exact yZ e
 | own y=>obtain ⟨_,e⟩:=x;exact yZ e
 | xd fs=>obtain ⟨_,⟨_,_,_,e,_⟩,_⟩:=x;exact yZ e
 | rng lo hi=>obtain ⟨_,_,_,e⟩:=x;exact yZ e
 | frz ob u=>obtain ⟨e,_⟩:=x;exact yZ e
 | tbl ps=>exact yZ (show h.get? a=some _ from x)
 | met f y=>exact yZ (show h.get? a=some _ from x)
 | ext φ=>obtain ⟨_,⟨_,e⟩,_⟩:=x;exact yZ e
theorem Paired.mapP {α β:Type} {F G:α->β->Prop}:∀ {l₁:List α} {l₂:List β},Paired F l₁ l₂->(∀ a b,F a b->G a b)->Paired G l₁ l₂
 | _,_,.nil,_=>.nil
 | _,_,.cons r t,f=>.cons (f _ _ r) (Paired.mapP t f)
theorem cI.stay (x:cI P w H h a o) (k:∀ b u,(b=a\/H b=some (.own a))->h.get? b=some u->h'.get? b=some u)
  (ho:∀ b,H b=some (.own a)->H' b=some (.own a)) (ht:∀ b xs,H b=some (.tup xs)->H' b=some (.tup xs)):cI P w H' h' a o:=by
 induction o with
 | lst xs=>obtain ⟨z,its,n,r,e⟩:=x;exact ⟨z,its,n,r,k _ _ (.inl rfl) e⟩
 | tup xs=>obtain ⟨z,its,r,ob,e,c⟩:=x;exact ⟨z,its,r,ob,k _ _ (.inl rfl) e,c⟩
 | dK uD=>obtain ⟨z,y,vs,r,ob,es,ep,e,c⟩:=x;exact ⟨z,y,vs,r,ob,es,ep,k _ _ (.inl rfl) e,c⟩
 | dT uD=>
  obtain ⟨z,y,xs,r,ob,es,ep,e,c⟩:=x;exact ⟨z,y,xs,Paired.mapP r fun p q z=>⟨z.1,ht _ _ z.2.1,z.2.2⟩,ob,es,ep,k _ _ (.inl rfl) e,c⟩
 | set S n=>obtain ⟨ob,es,ep,t,e,c⟩:=x;exact ⟨ob,es,ep,t,k _ _ (.inl rfl) e,c⟩
 | ins C dx fs=>
  obtain ⟨d,z,ne,e,mA,⟨od,es,ep,e2,c⟩,r⟩:=x;exact ⟨ho _ d,z,ne,k _ _ (.inl rfl) e,mA,⟨od,es,ep,k _ _ (.inr d) e2,c⟩,r⟩
 | own y=>obtain ⟨ob,e⟩:=x;exact ⟨ob,k _ _ (.inl rfl) e⟩
 | xd fs=>obtain ⟨mA,⟨od,es,ep,e,c⟩,r⟩:=x;exact ⟨mA,⟨od,es,ep,k _ _ (.inl rfl) e,c⟩,r⟩
 | rng lo hi=>obtain ⟨t,u,v,e⟩:=x;exact ⟨t,u,v,k _ _ (.inl rfl) e⟩
 | frz ob u ih=>obtain ⟨e,q⟩:=x;exact ⟨k _ _ (.inl rfl) e,ih q⟩
 | tbl ps=>
  have e:h.get? a=some { cls:=.none,data:=.fields ps }:=x;show h'.get? a=some { cls:=.none,data:=.fields ps };exact k a _ (.inl rfl) e
 | met f y=>
  have e:h.get? a=some (methodObj (.ref f) (.ref y)):=x;show h'.get? a=some (methodObj (.ref f) (.ref y));exact k a _ (.inl rfl) e
 | ext φ=>obtain ⟨p,⟨o,e⟩,st⟩:=x;exact ⟨st _ _ p fun o q=>k _ _ (.inl rfl) q,⟨o,k _ _ (.inl rfl) e⟩,st⟩
theorem HOk.lt (x:HOk P w H h) (e:H a=some o):a<h.objs.size:=(x a o e).lt
theorem HOk.fresh (x:HOk P w H h) (e:h.objs.size<=a):H a=none:=by
 cases q:H a with
 | none=>rfl
 | some u=>exact absurd (zz (x.lt q) e) (zP _)
theorem HOk.kept (x:HOk P w H h) (k:∀ b u,h.get? b=some u->h'.get? b=some u):HOk P w H h':=fun a o e=>
 (x a o e).stay (fun b u _ q=>k b u q) (fun _ q=>q) fun _ _ q=>q
theorem HOk.laid (x:HOk P w H h) (k:∀ b u,h.get? b=some u->h'.get? b=some u) (hp:h.objs.size<=a) (new:cI P w (upd H a o) h' a o):HOk P w (upd H a o) h':=fun b u e=>by
 have hn:=x.fresh hp;by_cases hb:b=a
 ·subst hb;rw [aw] at e;cases e;exact new
 ·rw [av hb] at e;exact (x b u e).stay (fun c v _ q=>k c v q) (fun c q=>by rw [av (aK q hn)];exact q) fun c xs q=>by rw [av (aK q hn)];exact q
end
def Rd (H:Hp) (a:Addr) (u:HO):Prop:=H a=some u\/∃ o,H a=some (.frz o u)
theorem Rd.ok {P:Program} {w:World} {H:Hp} {h:Heap} {a:Addr} {u:HO} (r:Rd H a u) (x:HOk P w H h):cI P w H h a u:=by
 rcases r with r | ⟨o,r⟩
 ·exact x a u r
 ·obtain ⟨_,q⟩:=x a _ r;exact q
noncomputable def Mut:Option HO->Prop
 | some (.lst _)=>True
 | some (.dK _)=>True
 | some (.dT _)=>True
 | some (.set _ _)=>True
 | some (.ins _ _ _)=>True
 | some (.ext _)=>True
 | _=>False
section
variable {P:Program} {w:World} {H:Hp} {h h':Heap} {x e:Addr} {o':HO}
theorem HOk.write (ok:HOk P w H h) (mu:Mut (H x)) (he:e=x\/H e=some (.own x)) (k:∀ b u,b≠e->h.get? b=some u->h'.get? b=some u) (xS:∃ u,h'.get? e=some u)
  (new:cI P w (upd H x o') h' x o'):HOk P w (upd H x o') h':=fun b u q=>by
 have yh:∀ c y,H c=some (.own y)->c≠x:=fun c y r z=>by subst z;rw [r] at mu;exact mu
 have ntup:∀ c xs,H c=some (.tup xs)->c≠x:=fun c xs r z=>by subst z;rw [r] at mu;exact mu
 by_cases hb:b=x
 ·subst hb;rw [aw] at q;cases q;exact new
 ·rw [av hb] at q;by_cases tY:b=e
  ·have q':H b=some (.own x):=by
    rcases he with z | z
    ·exact absurd (tY.trans z) hb
    ·rw [tY];exact z
   rw [q] at q';cases q';obtain ⟨v,hv⟩:=xS;exact ⟨v,by rw [tY];exact hv⟩
  ·refine (ok b u q).stay (fun c v hc r=>k c v ?_ r) (fun c r=>by rw [av (yh c b r)];exact r) fun c xs r=>by rw [av (ntup c xs r)];exact r
   rcases hc with rfl | hc
   ·exact tY
   ·rintro rfl;rcases he with z | z
    ·exact yh c b hc z
    ·rw [hc] at z;cases z;exact hb rfl
end
structure Un (fs ex:List Addr) (H H':Hp) (h h':Heap):Prop where
 keep:∀ b o,h.get? b=some o->H b=none->b∉fs->b∉ex->h'.get? b=some o
 slot:∀ b o,h.get? b=some o->H b=none->b∈fs->b∉ex->∃ sl,h'.get? b=some { o with slots:=sl }
 free:∀ b o,h.get? b=some o->H b=none->b∉ex->H' b=none
 there:∀ b o,h.get? b=some o->b∉ex->∃ o',h'.get? b=some o'
 tups:∀ b xs,H b=some (.tup xs)->H' b=some (.tup xs)
 frzs:∀ b o u,H b=some (.frz o u)->H' b=some (.frz o u)
 tbls:∀ b ps,H b=some (.tbl ps)->∃ more,H' b=some (.tbl (ps++more))
section
variable {fs fs' ex ex':List Addr} {H H1 H2:Hp} {h h1 h2 h':Heap} {a x e:Addr} {o:HO}
theorem Un.any (u:Un fs ex H H1 h h1) {b:Addr} {ob:Obj} (q:h.get? b=some ob) (n:H b=none) (hx:b∉ex):∃ sl,h1.get? b=some { ob with slots:=sl }:=by
 by_cases hb:b∈fs
 ·exact u.slot b ob q n hb hx
 ·exact ⟨ob.slots,u.keep b ob q n hb hx⟩
theorem Un.kept (k:∀ b u,h.get? b=some u->h'.get? b=some u):Un fs ex H H h h':=
 ⟨fun b ob q _ _ _=>k b ob q,fun b ob q _ _ _=>⟨ob.slots,k b ob q⟩,fun _ _ _ n _=>n,fun b ob q _=>⟨ob,k b ob q⟩,fun _ _ q=>q,fun _ _ _ q=>q,fun _ ps q=>⟨#[],by rw [q];simp⟩⟩
theorem Un.refl:Un fs ex H H h h:=Un.kept fun _ _ q=>q
theorem Un.laid (k:∀ b u,h.get? b=some u->h'.get? b=some u) (hp:h.objs.size<=a) (hn:H a=none):Un fs ex H (upd H a o) h h' where
 keep:=fun b u q _ _ _=>k b u q
 slot:=fun b u q _ _ _=>⟨u.slots,k b u q⟩
 free:=fun b u q n _=>by rw [av (zJ (zz (yZ q) hp))];exact n
 there:=fun b u q _=>⟨u,k b u q⟩
 tups:=fun b xs q=>by rw [av (aK q hn)];exact q
 frzs:=fun b u xs q=>by rw [av (aK q hn)];exact q
 tbls:=fun b ps q=>⟨#[],by rw [av (aK q hn),q];simp⟩
theorem Un.write (mu:Mut (H x)) (he:e=x\/H e=some (.own x)) (k:∀ b u,b≠e->h.get? b=some u->h'.get? b=some u) (xS:∃ u,h'.get? e=some u):Un fs ex H (upd H x o) h h':=by
 have hx:∀ b,H b=none->b≠x:=fun b n z=>by subst z;rw [n] at mu;exact mu
 have hb:∀ b,H b=none->b≠e:=fun b n z=>by
  subst z;rcases he with r | r
  ·exact hx b n r
  ·rw [n] at r;cases r
 have hm:∀ b u,H b=some u->¬Mut (some u)->b≠x:=fun b u q nm z=>by subst z;rw [q] at mu;exact nm mu
 refine ⟨fun b u q n _ _=>k b u (hb b n) q,fun b u q n _ _=>⟨u.slots,k b u (hb b n) q⟩,fun b u q n _=>by rw [av (hx b n)];exact n,fun b u q _=>?_,
  fun b xs q=>by rw [av (hm b _ q fun z=>z)];exact q,fun b u xs q=>by rw [av (hm b _ q fun z=>z)];exact q,fun b ps q=>⟨#[],by rw [av (hm b _ q fun z=>z),q];simp⟩⟩
 by_cases tY:b=e
 ·subst tY;exact xS
 ·exact ⟨u,k b u tY q⟩
end
def trk (h:Heap) (H:Hp):List Addr:=(List.range h.objs.size).filter fun a=>(H a).isSome
def hidT (h:Heap) (H:Hp):Heap:=hideAll h (trk h H)
theorem hidT_size (h:Heap) (H:Hp):(hidT h H).objs.size=h.objs.size:=PySem.W.hideAll_size _ _
theorem hidT_get {h:Heap} {H:Hp} {b:Addr} {o:Obj} (e:h.get? b=some o) (n:H b=none):(hidT h H).get? b=some o:=
 hideAll_get _ e fun hm=>by
  have q:(H b).isSome=true:=(Af.mp hm).2;rw [n] at q;simp at q
theorem of_hidT {h:Heap} {H:Hp} {b:Addr} {o:Obj} (e:(hidT h H).get? b=some o):h.get? b=some o/\H b=none:=by
 have e':h.get? b=some o:=of_hideAll (trk h H) e;refine ⟨e',?_⟩;cases q:H b with
 | none=>rfl
 | some x=>
  have hm:b∈trk h H:=Af.mpr ⟨List.mem_range.mpr (yZ e'),by simp [q]⟩;have z:(hidT h H).get? b=none:=PySem.W.hideAll_none (trk h H) hm;rw [z] at e;cases e
structure Mod (K:Frag) (mg:Str->Option Value) (base:Heap):Prop where
 kin:K.In base
 glob:base.Ns mainGlobals mg
 blt:∃ mb,base.Ns builtinsNs mb/\∀ x:Str,x≠"__name__"->mb x=bootBuiltins x
 nolimit:base.NoLimit
structure Cx where
 prog:Program
 w:World
 K:Frag
 mg:Str->Option Value
 base:Heap
 A:Around
 N:List Str
 s₀:Shared
 H₀:Hp
 env:Env
 outer:List Env
 stack:List Env
 ex:List Addr
 fn:Str->Bool
 calm:Bool
 pn:List (Addr×Obj)
 xe:Value->Shared->Prop
def frs (l:List Env):List Addr:=l.filterMap (·.frame)
abbrev Cx.fs (X:Cx):List Addr:=frs X.outer
noncomputable def Vis (sc:Scope) (x:Str):Prop:=sc.names.lookup x=some .local\/sc.names.lookup x=some .cell\/sc.names.lookup x=some .free
def Loc (sc:Scope) (x:Str):Prop:=sc.names.lookup x=some .local\/sc.names.lookup x=some .cell
noncomputable def Look (env:Env) (h:Heap) (m:Str->Option Value) (x:Str) (u:Value):Prop:=
 (env.kindOf x=some .local/\m x=some u)\/((env.kindOf x=some .cell\/env.kindOf x=some .free)/\∃ c,env.cells.lookup x=some c/\h.IsCell c (some u))
structure Cx.Ok (X:Cx):Prop where
 mod:Mod X.K X.mg X.base
 kind:X.env.scope.kind=.function
 glob:X.env.globals=mainGlobals
 blt:X.env.builtins=builtinsNs
 above:X.s₀.heap.objs.size<=X.env.locals
 inj:∀ x y c,X.env.cells.lookup x=some c->X.env.cells.lookup y=some c->x=y
 has:∀ x,(X.env.kindOf x=some .cell\/X.env.kindOf x=some .free)->∃ c,X.env.cells.lookup x=some c
 cab:∀ x c,X.fn x=true->X.env.cells.lookup x=some c->X.s₀.heap.objs.size<=c
 hd:X.calm=true->X.A.handled=none
 frames:X.A.frames=some X.stack
 stk:X.stack=X.outer\/(X.stack=X.env::X.outer/\X.env.frame=some X.env.locals)
 exf:∀ b∈X.ex,b≠X.env.locals/\∀ x c,X.env.cells.lookup x=some c->c≠b
 bs:∀ b o,X.base.get? b=some o->X.s₀.heap.get? b=some o/\X.H₀ b=none
 bsz:X.base.objs.size<=X.s₀.heap.objs.size
 noex:∀ b o,X.base.get? b=some o->b∉X.ex
 exfs:∀ b∈X.ex,b∉X.fs
 funs:X.s₀.heap.FunFrames X.base X.outer
 frf:∀ b∈X.fs,X.H₀ b=none
structure Inv (X:Cx) (pins:List (Addr×Obj)) (σ:List (Option V)) (H:Hp) (s:Shared):Prop where
 ok:X.Ok
 os:s.os=X.s₀.os
 bare:AllBare s.gens
 base:Un X.fs X.ex X.H₀ H X.s₀.heap s.heap
 loc:∃ m,s.heap.Ns X.env.locals m/\∀ (i:Nat) (x:Str) (v:V),X.N[i]?=some x->σ[i]?=some (some v)->Vis X.env.scope x->∃ u,RelV v u/\Look X.env s.heap m x u
 cell:∀ x c,X.env.cells.lookup x=some c->∃ v,s.heap.IsCell c v
 free:H X.env.locals=none
 freeC:∀ x c,X.env.cells.lookup x=some c->H c=none
 pin:∀ p∈X.pn++pins,s.heap.get? p.1=some p.2/\H p.1=none/\p.1≠X.env.locals/\p.1∉X.fs/\∀ v,p.2.data≠.cell v
 hok:HOk X.prog X.w H s.heap
 len:σ.length=X.N.length
section
variable {X:Cx} {pins:List (Addr×Obj)} {σ:List (Option V)} {H H':Hp} {s:Shared} {h':Heap}
theorem Cx.Ok.nofr (ok:X.Ok) {b:Addr} {o:Obj} (e:X.base.get? b=some o):b∉X.fs:=fun hb=>by
 have:=(ok.funs.mem hb).1;rw [e] at this;cases this
theorem Inv.bs (I:Inv X pins σ H s):∀ b o,X.base.get? b=some o->s.heap.get? b=some o/\H b=none:=fun b o e=>
 ⟨I.base.keep b o (I.ok.bs b o e).1 (I.ok.bs b o e).2 (I.ok.nofr e) (I.ok.noex b o e),I.base.free b o (I.ok.bs b o e).1 (I.ok.bs b o e).2 (I.ok.noex b o e)⟩
theorem Inv.bk (I:Inv X pins σ H s):∀ b o,X.base.get? b=some o->s.heap.get? b=some o:=fun b o e=>(I.bs b o e).1
theorem Inv.mod (I:Inv X pins σ H s):Mod X.K X.mg X.base:=I.ok.mod
theorem Inv.kIn (I:Inv X pins σ H s):X.K.In s.heap:=I.ok.mod.kin.keeps I.bk
theorem Inv.lt (I:Inv X pins σ H s):X.env.locals<s.heap.objs.size:=let ⟨_,hn,_⟩:=I.loc;hn.lt
theorem Inv.sz (I:Inv X pins σ H s):X.s₀.heap.objs.size<=s.heap.objs.size:=zN I.ok.above (Ac I.lt)
theorem Inv.nofs (I:Inv X pins σ H s) {a:Addr} (h:s.heap.objs.size<=a):a∉X.fs:=fun hb=>by
 obtain ⟨_,o,ho,_⟩:=I.ok.funs.mem hb;exact absurd (zz (yZ ho) (zN I.sz h)) (zP _)
theorem Inv.cne (I:Inv X pins σ H s):∀ x c,X.env.cells.lookup x=some c->c≠X.env.locals:=fun x c e z=>by
 obtain ⟨v,o,ho,hd⟩:=I.cell x c e;obtain ⟨m,⟨o',es,ep,uC,hd',_⟩,_⟩:=I.loc;rw [z,uC] at ho;cases ho;rw [hd'] at hd;cases hd
theorem Inv.funs (I:Inv X pins σ H s):s.heap.FunFrames X.base X.outer:=by
 have all:∀ (l:List Env),(∀ b∈frs l,b∈X.fs)->X.s₀.heap.FunFrames X.base l->s.heap.FunFrames X.base l:=by
  intro l
  induction l with
  | nil=>intro _ _;trivial
  | cons env r ih=>
   intro hs hl;obtain ⟨hk,⟨L,o,hf,hn,ho,hd⟩,hr⟩:=hl;have hL:L∈X.fs:=hs L (by unfold frs;rw [List.filterMap_cons,hf];exact yY);obtain ⟨sl,e⟩:=I.base.slot L o ho (I.ok.frf L hL) hL fun z=>I.ok.exfs L z hL;exact ⟨hk,⟨L,_,hf,hn,e,hd⟩,ih (fun b hb=>hs b (by unfold frs;rw [List.filterMap_cons,hf];exact uf _ hb)) hr⟩
 exact all X.outer (fun _ hb=>hb) I.ok.funs
theorem Inv.stack (I:Inv X pins σ H s):s.heap.FunFrames X.base X.stack:=by
 rcases I.ok.stk with e | ⟨e,hf⟩
 ·rw [e];exact I.funs
 ·rw [e];obtain ⟨m,hn,_⟩:=I.loc;refine .cons (by rw [I.ok.kind];decide) hf hn ?_ I.funs;exact Heap.get?_none_of_le (zN I.ok.bsz I.ok.above)
theorem Inv.stkSub (I:Inv X pins σ H s):∀ b∈frs X.stack,b∈X.env.locals::X.fs:=fun b hb=>by
 rcases I.ok.stk with e | ⟨e,hf⟩
 ·rw [e] at hb;exact uf _ hb
 ·rw [e] at hb;unfold frs at hb;rw [List.filterMap_cons,hf] at hb;exact hb
theorem Inv.stkFree (I:Inv X pins σ H s):∀ b∈frs X.stack,H b=none:=fun b hb=>by
 rcases zj.mp (I.stkSub b hb) with e | hb
 ·rw [e];exact I.free
 ·obtain ⟨_,o,ho,_⟩:=I.ok.funs.mem hb;exact I.base.free b o ho (I.ok.frf b hb) fun z=>I.ok.exfs b z hb
theorem Inv.step {g':Array GenState} {t':Nat} {d':Drawn} {ch:List Addr} (I:Inv X pins σ H s)
  (uM:∀ b∈ch,(b∈X.ex\/X.s₀.heap.objs.size<=b)/\b≠X.env.locals/\(∀ x c,X.env.cells.lookup x=some c->c≠b)/\∀ p∈X.pn++pins,p.1≠b)
  (keep:∀ b o,b≠X.env.locals->b∉X.fs->b∉ch->s.heap.get? b=some o->H b=none->h'.get? b=some o)
  (slot:∀ b o,b≠X.env.locals->b∈X.fs->b∉ch->s.heap.get? b=some o->H b=none->∃ sl,h'.get? b=some { o with slots:=sl }) (free:∀ b o,b∉ch->s.heap.get? b=some o->H b=none->H' b=none)
  (there:∀ b o,b∉ch->s.heap.get? b=some o->∃ o',h'.get? b=some o')
  (tups:∀ b xs,H b=some (.tup xs)->H' b=some (.tup xs)) (frzs:∀ b o u,H b=some (.frz o u)->H' b=some (.frz o u)) (tbls:∀ b ps,H b=some (.tbl ps)->∃ more,H' b=some (.tbl (ps++more)))
  (ns:∀ m,s.heap.Ns X.env.locals m->h'.Ns X.env.locals m) (hok:HOk X.prog X.w H' h') (hg:AllBare g') :
  Inv X pins σ H' { s with heap:=h',gens:=g',drawn:=d',toks:=t' }:=by
 have neL:∀ b o,X.s₀.heap.get? b=some o->b≠X.env.locals:=fun b o e=>zJ (zz (yZ e) I.ok.above);have neC:∀ b o,X.s₀.heap.get? b=some o->b∉X.ex->b∉ch:=fun b o e hx hb=>by
  rcases (uM b hb).1 with z | z
  ·exact hx z
  ·exact absurd (zz (yZ e) z) (zP _)
 have cellK:∀ x c,X.env.cells.lookup x=some c->∀ v,s.heap.IsCell c v->h'.IsCell c v:=fun x c e v ⟨o,ho,hd⟩=>by
  have we:c∉ch:=fun z=>(uM c z).2.2.1 x c e rfl;by_cases hc:c∈X.fs
  ·obtain ⟨sl,q⟩:=slot c o (I.cne x c e) hc we ho (I.freeC x c e);exact ⟨_,q,hd⟩
  ·exact ⟨o,keep c o (I.cne x c e) hc we ho (I.freeC x c e),hd⟩
 refine ⟨I.ok,I.os,hg,⟨fun b o e n hb hx=>?_,fun b o e n hb hx=>?_,fun b o e n hx=>?_,fun b o e hx=>?_,fun b xs e=>tups b xs (I.base.tups b xs e),fun b o xs e=>frzs b o xs (I.base.frzs b o xs e),fun b ps e=>?_⟩,?_,fun x c e=>?_,?_,fun x c e=>?_,fun p hp=>?_,hok,I.len⟩
 ·exact keep b o (neL b o e) hb (neC b o e hx) (I.base.keep b o e n hb hx) (I.base.free b o e n hx)
 ·obtain ⟨sl,e1⟩:=I.base.slot b o e n hb hx;obtain ⟨ve,e2⟩:=slot b _ (neL b o e) hb (neC b o e hx) e1 (I.base.free b o e n hx);exact ⟨ve,e2⟩
 ·obtain ⟨o',e1⟩:=I.base.there b o e hx;exact free b o' (neC b o e hx) e1 (I.base.free b o e n hx)
 ·obtain ⟨o',e1⟩:=I.base.there b o e hx;exact there b o' (neC b o e hx) e1
 ·obtain ⟨m1,e1⟩:=I.base.tbls b ps e;obtain ⟨m2,e2⟩:=tbls b _ e1;exact ⟨m1++m2,by rw [e2,Array.append_assoc]⟩
 ·obtain ⟨m,hn,hl⟩:=I.loc;refine ⟨m,ns m hn,fun i x v e1 e2 e3=>?_⟩;obtain ⟨u,r,l⟩:=hl i x v e1 e2 e3;refine ⟨u,r,?_⟩;rcases l with l | ⟨k,c,e,z⟩
  ·exact .inl l
  ·exact .inr ⟨k,c,e,cellK x c e _ z⟩
 ·obtain ⟨v,z⟩:=I.cell x c e;exact ⟨v,cellK x c e v z⟩
 ·obtain ⟨m,⟨o,_,_,ho,_⟩,_⟩:=I.loc;exact free _ o (fun z=>(uM _ z).2.1 rfl) ho I.free
 ·obtain ⟨v,o,ho,hd⟩:=I.cell x c e;exact free c o (fun z=>(uM c z).2.2.1 x c e rfl) ho (I.freeC x c e)
 ·obtain ⟨e,n,ne,nf,d⟩:=I.pin p hp;have we:p.1∉ch:=fun z=>(uM p.1 z).2.2.2 p hp rfl;exact ⟨keep p.1 p.2 ne nf we e n,free p.1 p.2 we e n,ne,nf,d⟩
theorem Inv.un {t':Nat} (I:Inv X pins σ H s) (u:Un X.fs [] H H' s.heap h') (hok:HOk X.prog X.w H' h'):Inv X pins σ H' { s with heap:=h',toks:=t' }:=by
 obtain ⟨m,⟨o,es,ep,ho,r⟩,_⟩:=id I.loc;obtain ⟨sl,hL⟩:=u.any ho I.free (by simp);exact I.step (g':=s.gens) (d':=s.drawn) (ch:=[]) (fun _ z=>nomatch z) (fun b o _ hb _ e n=>u.keep b o e n hb (by simp)) (fun b o _ hb _ e n=>u.slot b o e n hb (by simp)) (fun b o _ e n=>u.free b o e n (by simp)) (fun b o _ e=>u.there b o e (by simp)) u.tups u.frzs u.tbls (fun m' hm=>by
  obtain ⟨o',es',ep',uC,r'⟩:=hm;rw [ho] at uC;cases uC;exact ⟨_,es',ep',hL,r'⟩) hok I.bare
theorem Inv.call {g':Array GenState} {t':Nat} {d':Drawn} {ch:List Addr} (I:Inv X pins σ H s) (u:Un (frs X.stack) ch H H' s.heap h') (hok:HOk X.prog X.w H' h') (hg:AllBare g')
  (uM:∀ b∈ch,(b∈X.ex\/X.s₀.heap.objs.size<=b)/\b≠X.env.locals/\(∀ x c,X.env.cells.lookup x=some c->c≠b)/\∀ p∈X.pn++pins,p.1≠b) :
  Inv X pins σ H' { s with heap:=h',gens:=g',drawn:=d',toks:=t' }:=by
 obtain ⟨m,⟨o,es,ep,ho,r⟩,_⟩:=id I.loc;obtain ⟨sl,hL⟩:=u.any ho I.free fun z=>(uM _ z).2.1 rfl;exact I.step (ch:=ch) uM (fun b o hL hb hc e n=>u.keep b o e n (fun z=>(zj.mp (I.stkSub b z)).elim hL hb) hc) (fun b o _ _ hc e n=>u.any e n hc) (fun b o hc e n=>u.free b o e n hc) (fun b o hc e=>u.there b o e hc) u.tups u.frzs u.tbls (fun m' hm=>by
  obtain ⟨o',es',ep',uC,r'⟩:=hm;rw [ho] at uC;cases uC;exact ⟨_,es',ep',hL,r'⟩) hok hg
theorem Inv.turned {t':Nat} {it:Addr} (I:Inv X pins σ H s) (k:∀ b o,b≠it->s.heap.get? b=some o->h'.get? b=some o) (hn:H it=none) (hL:it≠X.env.locals)
  (h1:it∈X.ex\/X.s₀.heap.objs.size<=it) (h2:∀ x c,X.env.cells.lookup x=some c->c≠it) (h3:∀ p∈X.pn++pins,p.1≠it):Inv X pins σ H { s with heap:=h',toks:=t' }:=by
 have nit:∀ b u,H b=some u->b≠it:=fun b u e z=>by rw [z,hn] at e;cases e
 refine I.step (g':=s.gens) (d':=s.drawn) (ch:=[it]) (fun b hb=>?_) (fun b o _ _ hc e _=>k b o (fun z=>hc (by simp [z])) e) (fun b o _ _ hc e _=>⟨o.slots,k b o (fun z=>hc (by simp [z])) e⟩) (fun _ _ _ _ n=>n)
  (fun b o hc e=>⟨o,k b o (fun z=>hc (by simp [z])) e⟩) (fun _ _ e=>e) (fun _ _ _ e=>e) (fun b ps e=>⟨#[],by rw [e];simp⟩) (fun m hm=>?_) (fun b u e=>?_) I.bare
 ·have e:b=it:=by simpa using hb
  subst e;exact ⟨h1,hL,h2,h3⟩
 ·obtain ⟨o,es,ep,ho,r⟩:=hm;exact ⟨o,es,ep,k _ o (Ne.symm hL) ho,r⟩
 ·refine (I.hok b u e).stay (fun c v hc q=>k c v ?_ q) (fun _ q=>q) fun _ _ q=>q;rcases hc with z | z
  ·rw [z];exact nit b u e
  ·exact nit c _ z
theorem Inv.tok (I:Inv X pins σ H s) (t:Nat):Inv X pins σ H { s with toks:=t }:=I.un (h':=s.heap) (t':=t) Un.refl I.hok
theorem Inv.kept {t':Nat} (I:Inv X pins σ H s) (k:∀ b u,s.heap.get? b=some u->h'.get? b=some u):Inv X pins σ H { s with heap:=h',toks:=t' }:=I.un (Un.kept k) (I.hok.kept k)
theorem Inv.laid {a:Addr} {o:HO} {t':Nat} (I:Inv X pins σ H s) (k:∀ b u,s.heap.get? b=some u->h'.get? b=some u) (hp:s.heap.objs.size<=a) (new:cI X.prog X.w (upd H a o) h' a o) :
 Inv X pins σ (upd H a o) { s with heap:=h',toks:=t' }:=I.un (Un.laid k hp (I.hok.fresh hp)) (I.hok.laid k hp new)
theorem Inv.write {x e:Addr} {o:HO} {t':Nat} (I:Inv X pins σ H s) (mu:Mut (H x)) (he:e=x\/H e=some (.own x)) (k:∀ b u,b≠e->s.heap.get? b=some u->h'.get? b=some u) (xS:∃ u,h'.get? e=some u)
 (new:cI X.prog X.w (upd H x o) h' x o):Inv X pins σ (upd H x o) { s with heap:=h',toks:=t' }:=I.un (Un.write mu he k xS) (I.hok.write mu he k xS new)
theorem Inv.pins_of {w9:List (Addr×Obj)} (I:Inv X pins σ H s) (h:∀ p∈w9,s.heap.get? p.1=some p.2/\H p.1=none/\p.1≠X.env.locals/\p.1∉X.fs/\∀ v,p.2.data≠.cell v):Inv X w9 σ H s:=
 ⟨I.ok,I.os,I.bare,I.base,I.loc,I.cell,I.free,I.freeC,fun p hp=>(zB.mp hp).elim (fun z=>I.pin p (zC _ z)) (h p),I.hok,I.len⟩
theorem qI {N:List Str} (hN:N.Nodup) {i j:Nat} {x:Str} (a:N[i]?=some x) (b:N[j]?=some x):i=j:=by
 obtain ⟨h1,e1⟩:=yX.mp a;obtain ⟨h2,e2⟩:=yX.mp b;exact (List.getElem_inj hN).mp (e1.trans e2.symm)
theorem oN {M:Model} {A:Around} {E:Value->Shared->Prop} {i:Nat} {x:Str} {v:V} {u:Value} {Q:Unit->Shared->Prop} (I:Inv X pins σ H s) (hN:X.N.Nodup) (hi:X.N[i]?=some x) (hx:Loc X.env.scope x) (r:RelV v u)
  (h:∀ s',Inv X pins (σ.set i (some v)) H s'->(∃ a,Heap.SameBut a s.heap s'.heap/\(a=X.env.locals\/X.env.cells.lookup x=some a))->Q () s') (hf:X.fn x=true\/X.env.scope.names.lookup x=some .local:=by first | exact .inl rfl | exact .inr rfl | assumption):wpAny M A (storeName X.env x u) Q E s:=by
 obtain ⟨m,hn,hl⟩:=id I.loc;have hcls:(X.env.scope.kind==.class||(X.env.scope.kind==.module&&X.env.locals != X.env.globals))=false:=by rw [I.ok.kind];rfl
 have yy:i<σ.length:=by rw [I.len];exact (yX.mp hi).1
 have cne:=I.cne;have tracked:∀ {a:Addr} {h':Heap},(∃ o,s.heap.get? a=some o/\H a=none)->Heap.SameBut a s.heap h'->HOk X.prog X.w H h':=fun {a h'} ha hs b ob e=>by
  obtain ⟨_,_,uL⟩:=ha;refine (I.hok b ob e).stay (fun c w' hc q=>(hs.2 c ?_).trans q) (fun _ q=>q) fun _ _ q=>q;rintro rfl;rcases hc with rfl | hc
  ·rw [uL] at e;cases e
  ·rw [uL] at hc;cases hc
 rcases hx with hk | hk
 ·refine wpAny_storeName_local hk hn (fun h' hn' hs=>?_) hcls;obtain ⟨oL,_,_,hoL,_⟩:=id hn;refine h _ ⟨I.ok,I.os,I.bare,⟨fun b o e n hb hx=>?_,fun b o e n hb hx=>?_,I.base.free,fun b o e hx=>?_,I.base.tups,I.base.frzs,I.base.tbls⟩,⟨_,hn',fun j y v' e1 e2 e3=>?_⟩,fun y c e=>?_,I.free,I.freeC,fun p hp=>?_,tracked ⟨oL,hoL,I.free⟩ hs,by simpa using I.len⟩ ⟨_,hs,.inl rfl⟩
  ·exact (hs.2 b (zJ (zz (yZ e) I.ok.above))).trans (I.base.keep b o e n hb hx)
  ·obtain ⟨sl,e1⟩:=I.base.slot b o e n hb hx;exact ⟨sl,(hs.2 b (zJ (zz (yZ e) I.ok.above))).trans e1⟩
  ·obtain ⟨o',e1⟩:=I.base.there b o e hx;exact ⟨o',(hs.2 b (zJ (zz (yZ e) I.ok.above))).trans e1⟩
  ·by_cases hj:j=i
   ·subst hj;rw [hi] at e1;cases e1;rw [zG yy] at e2;cases e2;exact ⟨u,r,.inl ⟨hk,by simp⟩⟩
   ·rw [zD (Ne.symm hj)] at e2;obtain ⟨u',r',q⟩:=hl j y v' e1 e2 e3;refine ⟨u',r',?_⟩;rcases q with ⟨k,e⟩ | ⟨k,c,e,z⟩
    ·refine .inl ⟨k,?_⟩;have:y≠x:=fun e=>hj (qI hN e1 (e▸hi));simp [this,e]
    ·exact .inr ⟨k,c,e,z.sameBut hs (cne y c e)⟩
  ·obtain ⟨w',z⟩:=I.cell y c e;exact ⟨w',z.sameBut hs (cne y c e)⟩
  ·obtain ⟨e,n,ne,nf,d⟩:=I.pin p hp;exact ⟨(hs.2 p.1 ne).trans e,n,ne,nf,d⟩
 ·have hfn:X.fn x=true:=by
   rcases hf with z | z
   ·exact z
   ·rw [z] at hk;cases hk
  obtain ⟨c,hc⟩:=I.ok.has x (.inl hk);obtain ⟨w',z⟩:=I.cell x c hc;refine wpAny_storeName_cell I.ok.kind hk hc z (fun h' yF hs=>?_);obtain ⟨oc,hoc,hocd⟩:=id z;refine h { s with heap:=h' } ⟨I.ok,I.os,I.bare,⟨fun b o e n hb hx=>?_,fun b o e n hb hx=>?_,I.base.free,fun b o e hx=>?_,I.base.tups,I.base.frzs,I.base.tbls⟩,⟨m,hn.sameBut hs (Ne.symm (cne x c hc)),fun j y v' e1 e2 e3=>?_⟩,fun y c' e=>?_,I.free,I.freeC,fun p hp=>?_,tracked ⟨oc,hoc,I.freeC x c hc⟩ hs,by simpa using I.len⟩ ⟨c,hs,.inr hc⟩
  ·exact (hs.2 b (zJ (zz (yZ e) (I.ok.cab x c hfn hc)))).trans (I.base.keep b o e n hb hx)
  ·obtain ⟨sl,e1⟩:=I.base.slot b o e n hb hx;exact ⟨sl,(hs.2 b (zJ (zz (yZ e) (I.ok.cab x c hfn hc)))).trans e1⟩
  ·obtain ⟨o',e1⟩:=I.base.there b o e hx;exact ⟨o',(hs.2 b (zJ (zz (yZ e) (I.ok.cab x c hfn hc)))).trans e1⟩
  ·by_cases hj:j=i
   ·subst hj;rw [hi] at e1;cases e1;rw [zG yy] at e2;cases e2;exact ⟨u,r,.inr ⟨.inl hk,c,hc,yF⟩⟩
   ·rw [zD (Ne.symm hj)] at e2;obtain ⟨u',r',q⟩:=hl j y v' e1 e2 e3;refine ⟨u',r',?_⟩;rcases q with q | ⟨k,c',e,z'⟩
    ·exact .inl q
    ·refine .inr ⟨k,c',e,z'.sameBut hs ?_⟩;rintro rfl;exact hj (qI hN e1 (I.ok.inj _ _ _ e hc▸hi))
  ·by_cases yE:c'=c
   ·subst yE;exact ⟨_,yF⟩
   ·obtain ⟨w2,z2⟩:=I.cell y c' e;exact ⟨w2,z2.sameBut hs yE⟩
  ·obtain ⟨e,n,ne,nf,d⟩:=I.pin p hp;refine ⟨(hs.2 p.1 ?_).trans e,n,ne,nf,d⟩;intro q;rw [q,hoc] at e;have q':oc=p.2:=Ab e;exact d w' (by rw [<-q'];exact hocd)
theorem gj {M:Model} {A:Around} {E:Value->Shared->Prop} {i:Nat} {x:Str} {v:V} {u:Value} {Q:Unit->Shared->Prop} (I:Inv X pins σ H s) (hN:X.N.Nodup) (hi:X.N[i]?=some x) (hx:Loc X.env.scope x) (r:RelV v u)
  (h:∀ s',Inv X pins (σ.set i (some v)) H s'->Q () s') (hf:X.fn x=true\/X.env.scope.names.lookup x=some .local:=by first | exact .inl rfl | exact .inr rfl | assumption):wpAny M A (storeName X.env x u) Q E s:=
 oN I hN hi hx r (fun s' I' _=>h s' I') hf
theorem Inv.call' {s':Shared} {ch:List Addr} (I:Inv X pins σ H s) (ho:s'.os=s.os) (u:Un (frs X.stack) ch H H' s.heap s'.heap) (hok:HOk X.prog X.w H' s'.heap) (hg:AllBare s'.gens)
  (uM:∀ b∈ch,(b∈X.ex\/X.s₀.heap.objs.size<=b)/\b≠X.env.locals/\(∀ x c,X.env.cells.lookup x=some c->c≠b)/\∀ p∈X.pn++pins,p.1≠b):Inv X pins σ H' s':=by
 obtain ⟨h',g',d',t',o'⟩:=s';have e:o'=s.os:=ho;subst e;exact I.call (g':=g') (t':=t') (d':=d') u hok hg uM
end
abbrev XK:=Value->Option Addr->Hp->Prop
abbrev St:=List (Option V)
abbrev VK:=V->Hp->Prop
abbrev TE:=St->Hp->VK->Prop
abbrev TT:=St->Hp->(Bool->Hp->Prop)->Prop
abbrev TA:=St->Hp->(List V->Hp->Prop)->Prop
structure Ends where
 nx:St->Hp->Prop
 rt:VK
 bk:St->Hp->Prop:=fun _ _=>False
 ct:St->Hp->Prop:=fun _ _=>False
abbrev TS:=Ends->St->Hp->Prop
noncomputable def EP (X:Cx) (pins:List (Addr×Obj)) (σ:St) (Q:VK) (u:Value) (s':Shared):Prop:=∃ v H',Inv X pins σ H' s'/\RelV v u/\Q v H'
noncomputable def TP (X:Cx) (pins:List (Addr×Obj)) (σ:St) (Q:Bool->Hp->Prop) (b:Bool) (s':Shared):Prop:=∃ H',Inv X pins σ H' s'/\Q b H'
noncomputable def AP (X:Cx) (pins:List (Addr×Obj)) (σ:St) (Q:List V->Hp->Prop) (us:List Value) (s':Shared):Prop:=∃ vs H',Inv X pins σ H' s'/\aT vs us/\Q vs H'
noncomputable def SP (X:Cx) (pins:List (Addr×Obj)) (D:Ends) (f:Flow) (s':Shared):Prop:=
 match f with
 | .next=>∃ tO H',Inv X pins tO H' s'/\D.nx tO H'
 | .brk=>∃ tO H',Inv X pins tO H' s'/\D.bk tO H'
 | .cont=>∃ tO H',Inv X pins tO H' s'/\D.ct tO H'
 | .ret u=>∃ v tO H',Inv X pins tO H' s'/\RelV v u/\D.rt v H'
noncomputable def PE (X:Cx) (e:Expr) (t:TE):Prop:=
 ∀ (pins:List (Addr×Obj)) (s:Shared) (σ:St) (H:Hp) (Q:VK),Inv X pins σ H s->t σ H Q->wpAny (model X.prog X.w) X.A (eval e X.env) (EP X pins σ Q) X.xe s
noncomputable def PT (X:Cx) (e:Expr) (t:TT):Prop:=
 ∀ (pins:List (Addr×Obj)) (s:Shared) (σ:St) (H:Hp) (Q:Bool->Hp->Prop),Inv X pins σ H s->t σ H Q->wpAny (model X.prog X.w) X.A (isTrue e X.env (eval e X.env)) (TP X pins σ Q) X.xe s
noncomputable def PW (X:Cx) (e:Expr) (t:TT):Prop:=
 ∀ (whole:Sem Value) (pins:List (Addr×Obj)) (s:Shared) (σ:St) (H:Hp) (Q:Bool->Hp->Prop),Inv X pins σ H s->t σ H Q->wpAny (model X.prog X.w) X.A (isTrue e X.env whole) (TP X pins σ Q) X.xe s
theorem PW.pt {X:Cx} {e:Expr} {t:TT} (h:PW X e t):PT X e t:=h _
noncomputable def PA (X:Cx) (es:List Expr) (t:TA):Prop:=
 ∀ (pos:Pos) (pins:List (Addr×Obj)) (s:Shared) (σ:St) (H:Hp) (Q:List V->Hp->Prop),Inv X pins σ H s->t σ H Q->wpAny (model X.prog X.w) X.A (spliced (backTo pos (starEach es X.env))) (AP X pins σ Q) X.xe s
noncomputable def PS (X:Cx) (st:Stmt) (t:TS):Prop:=
 ∀ (pins:List (Addr×Obj)) (s:Shared) (σ:St) (H:Hp) (D:Ends),Inv X pins σ H s->t D σ H->wpAny (model X.prog X.w) X.A (exec st X.env) (SP X pins D) X.xe s
noncomputable def PSs (X:Cx) (st:List Stmt) (t:TS):Prop:=
 ∀ (pins:List (Addr×Obj)) (s:Shared) (σ:St) (H:Hp) (D:Ends),Inv X pins σ H s->t D σ H->wpAny (model X.prog X.w) X.A (execs st X.env) (SP X pins D) X.xe s
theorem thn {α:Type} {t:Sem α} {Q Q':α->Shared->Prop} {M:Model} {A:Around} {E:Value->Shared->Prop} {s:Shared} (h:wpAny M A t Q E s) (hQ:∀ a s,Q a s->Q' a s):wpAny M A t Q' E s:=Ap h hQ fun _ _ x=>x
section
variable {X:Cx}
theorem bin {a b:Expr} {ta tb:TE} (ha:PE X a ta) (hb:PE X b tb) {pins:List (Addr×Obj)} {s:Shared} {σ:St} {H:Hp} {R:V->V->Hp->Prop} (I:Inv X pins σ H s) (h:ta σ H fun x H1=>tb σ H1 fun y H2=>R x y H2)
  {α:Type} {Q:α->Shared->Prop} {f:Value->Value->Sem α}
  (hf:∀ v u s2 x y H2,Inv X pins σ H2 s2->RelV x v->RelV y u->R x y H2->wpAny (model X.prog X.w) X.A (f v u) Q X.xe s2) :
  wpAny (model X.prog X.w) X.A (eval a X.env) (fun v tM=>wpAny (model X.prog X.w) X.A (eval b X.env) (fun u uO=>wpAny (model X.prog X.w) X.A (f v u) Q X.xe uO) X.xe tM) X.xe s:=by
 refine thn (ha pins s σ H _ I h) fun v s1 ⟨x,H1,I1,r1,q1⟩=>?_;refine thn (hb pins s1 σ H1 _ I1 q1) fun u s2 ⟨y,H2,I2,r2,q2⟩=>?_;exact hf v u s2 x y H2 I2 r1 r2 q2
def kX (i:Nat):TE:=fun σ H Q=>∃ v,σ[i]?=some (some v)/\Q v H
def tC (v:V):TE:=fun _ H Q=>Q v H
theorem pe_var {i:Nat} {x:Str} {pos:Pos} (hN:X.N[i]?=some x) (hv:Vis X.env.scope x) (hd:(x==("__debug__" : Str))=false:=by decide) (uX:(x==("__classdict__" : Str))=false:=by decide):PE X (.Name x pos) (kX i):=by
 intro pins s σ H Q I h;obtain ⟨v,e,h⟩:=h;obtain ⟨m,hn,hl⟩:=I.loc;obtain ⟨u,r,l⟩:=hl i x v hN e hv;have fin:EP X pins σ Q u s:=⟨v,H,I,r,h⟩;rcases l with ⟨hk,hm⟩ | ⟨hk,c,hc,vH⟩
 ·exact wpAny_Name (wpAny_loadName_local I.ok.kind hk hn hm fin) hd
 ·rcases hk with hk | hk
  ·exact wpAny_Name (wpAny_loadName_cell I.ok.kind hk hc vH fin) hd
  ·exact wpAny_Name (wpAny_loadName_free I.ok.kind hk hc vH fin uX) hd
theorem pe_int {i j pos}:PE X (.Constant (.int i) j pos) (tC (.int i)):=fun _ _ _ H _ I h=>wpAny_Constant_int ⟨.int i,H,I.tok _,⟨_,rfl⟩,h⟩
theorem pe_bl {b j pos}:PE X (.Constant (.bool b) j pos) (tC (.bl b)):=fun _ _ _ H _ I h=>Constant_bool ⟨.bl b,H,I,rfl,h⟩
theorem pe_non {j pos}:PE X (.Constant .none j pos) (tC .non):=fun _ _ _ H _ I h=>Constant_none ⟨.non,H,I,rfl,h⟩
theorem pe_str {x j pos}:PE X (.Constant (.str x) j pos) (tC (.str x)):=fun _ _ _ H _ I h=>Calls.Constant_str ⟨.str x,H,I.tok _,⟨_,rfl⟩,h⟩
def Gl (X:Cx) (x:Str):Prop:=X.env.kindOf x=some .globalImplicit
theorem i9 {E:Value->Shared->Prop} {pins:List (Addr×Obj)} {s:Shared} {σ:St} {H:Hp} {x:Str} {u:Value} {pos:Pos} {Q:Value->Shared->Prop} (I:Inv X pins σ H s) (hg:Gl X x) (hm:X.mg x=some u) (h:Q u s)
  (hd:(x==("__debug__" : Str))=false:=by decide):wpAny (model X.prog X.w) X.A (eval (.Name x pos) X.env) Q E s:=
 Calls.Name_function_global I.ok.kind hg (Calls.loadGlobal_global (by rw [I.ok.glob];exact I.mod.glob.keeps I.bk) hm h) hd
theorem jK {E:Value->Shared->Prop} {pins:List (Addr×Obj)} {s:Shared} {σ:St} {H:Hp} {x:Str} {u:Value} {pos:Pos} {Q:Value->Shared->Prop} (I:Inv X pins σ H s) (hg:Gl X x) (hm:X.mg x=none) (hv:bootBuiltins x=some u) (h:Q u s)
  (hn:x≠"__name__":=by decide) (hd:(x==("__debug__" : Str))=false:=by decide):wpAny (model X.prog X.w) X.A (eval (.Name x pos) X.env) Q E s:=by
 obtain ⟨mb,h1,h2⟩:=I.mod.blt;exact Calls.Name_function_global I.ok.kind hg (Calls.loadGlobal_builtin (by rw [I.ok.glob];exact I.mod.glob.keeps I.bk) hm (by rw [I.ok.blt];exact h1.keeps I.bk) ((h2 x hn).trans hv) h) hd
theorem pI {x:Str} {v:V} {u:Value} {pos:Pos} (hg:Gl X x) (hm:X.mg x=some u) (r:RelV v u) (hd:(x==("__debug__" : Str))=false:=by decide):PE X (.Name x pos) (tC v):=
 fun _ _ _ H _ I h=>i9 I hg hm ⟨v,H,I,r,h⟩ hd
theorem j8 {x:Str} {v:V} {u:Value} {pos:Pos} (hg:Gl X x) (hm:X.mg x=none) (hv:bootBuiltins x=some u) (r:RelV v u) (hn:x≠"__name__":=by decide) (hd:(x==("__debug__" : Str))=false:=by decide):PE X (.Name x pos) (tC v):=
 fun _ _ _ H _ I h=>jK I hg hm hv ⟨v,H,I,r,h⟩ hn hd
variable {a b:Expr} {ta tb:TE} {pos:Pos}
noncomputable def PC (X:Cx) (op:CmpOp) (a b:Expr) (t:TE):Prop:=
 ∀ (pins:List (Addr×Obj)) (s:Shared) (σ:St) (H:Hp) (Q:VK),Inv X pins σ H s->t σ H Q->
  wpAny (model X.prog X.w) X.A (eval a X.env) (fun v tM=>wpAny (model X.prog X.w) X.A (eval b X.env) (fun u uO=>wpAny (model X.prog X.w) X.A (compareOp op v u) (EP X pins σ Q) X.xe uO) X.xe tM) X.xe s
def tB (t:TE):TT:=fun σ H Q=>t σ H fun x H1=>∃ c,x=.bl c/\Q c H1
theorem pt_cmp {op:CmpOp} {t:TE} (h:PC X op a b t) (h1:behindInMarks op b=false:=by first | exact yi _ (by decide) (by decide) | rfl):PT X (.Compare a [op] [b] pos) (tB t):=by
 intro pins s σ H Q I hw;refine wpAny_isTrue_Compare1 (thn (h pins s σ H _ I hw) fun v s1 h1=>thn h1 fun u s2 h2=>thn h2 fun c s3 ⟨x,H1,I1,r1,q1⟩=>?_) h1;obtain ⟨d,rfl,q⟩:=q1;cases r1;exact wpAny_truthy_bool ⟨H1,I1,q⟩
theorem pt_val {e:Expr} {t:TE} (h:PE X e t) (he:∀ whole,isTrue e X.env whole=(do let v <-whole;standAt e.pos;holding [v] (truthy v)):=by intro _;rfl):PT X e (tB t):=by
 intro pins s σ H Q I hw;refine isTrue_plain (thn (h pins s σ H _ I hw) fun v s1 ⟨x,H1,I1,r1,q1⟩=>?_) (he _);obtain ⟨d,rfl,q⟩:=q1;cases r1;exact wpAny_truthy_bool ⟨H1,I1,q⟩
variable {tA tB':TT} {rest:List Expr}
def tAnd (t u:TT):TT:=fun σ H Q=>t σ H fun c H1=>if c=true then u σ H1 Q else Q false H1
def tOr (t u:TT):TT:=fun σ H Q=>t σ H fun c H1=>if c=true then Q true H1 else u σ H1 Q
def tNot (t:TT):TT:=fun σ H Q=>t σ H fun c H1=>Q (!c) H1
theorem pw_and1 (ha:PT X a tA):PW X (.BoolOp .And [a] pos) tA:=by
 intro wh pins s σ H Q I h;refine isTrue_and (thn (ha pins s σ H Q I h) fun c s1 e=>?_);cases c with
 | true=>exact isTrue_and_nil e
 | false=>exact e
theorem pw_or1 (ha:PT X a tA):PW X (.BoolOp .Or [a] pos) tA:=by
 intro wh pins s σ H Q I h;refine isTrue_or (thn (ha pins s σ H Q I h) fun c s1 e=>?_);cases c with
 | false=>exact isTrue_or_nil e
 | true=>exact e
theorem pw_and (ha:PT X a tA) (hb:PW X (.BoolOp .And (b::rest) pos) tB'):PW X (.BoolOp .And (a::b::rest) pos) (tAnd tA tB'):=by
 intro wh pins s σ H Q I h;refine isTrue_and (thn (ha pins s σ H _ I h) fun c s1 ⟨H1,I1,q1⟩=>?_);cases c with
 | true=>exact hb wh pins s1 σ H1 Q I1 q1
 | false=>exact ⟨H1,I1,q1⟩
theorem pw_or (ha:PT X a tA) (hb:PW X (.BoolOp .Or (b::rest) pos) tB'):PW X (.BoolOp .Or (a::b::rest) pos) (tOr tA tB'):=by
 intro wh pins s σ H Q I h;refine isTrue_or (thn (ha pins s σ H _ I h) fun c s1 ⟨H1,I1,q1⟩=>?_);cases c with
 | true=>exact ⟨H1,I1,q1⟩
 | false=>exact hb wh pins s1 σ H1 Q I1 q1
theorem pt_not (ha:PT X a tA):PT X (.UnaryOp .Not a pos) (tNot tA):=by
 intro pins s σ H Q I h;exact isTrue_not (ha pins s σ H (fun c H1=>Q (!c) H1) I h)
noncomputable def tAndV (ta tb:TE):TE:=fun σ H Q=>ta σ H fun x H1=>∃ c,x=.bl c/\if c=true then tb σ H1 Q else Q (.bl false) H1
def tNotV (ta:TE):TE:=fun σ H Q=>ta σ H fun x H1=>∃ c,x=.bl c/\Q (.bl (!c)) H1
theorem pe_one {op} {t:TE} (h:PE X a t):PE X (.BoolOp op [a] pos) t:=fun pins s σ H Q I hw=>BoolOp_one (h pins s σ H Q I hw)
theorem pe_and (ha:PE X a ta) (hb:PE X (.BoolOp .And (b::rest) pos) tb):PE X (.BoolOp .And (a::b::rest) pos) (tAndV ta tb):=by
 intro pins s σ H Q I h;refine BoolOp_and (thn (ha pins s σ H _ I h) fun v s1 ⟨x,H1,I1,r1,q1⟩=>?_);obtain ⟨c,rfl,q1⟩:=q1;cases r1;refine wpAny_truthy_bool ?_;cases c with
 | true=>exact hb pins s1 σ H1 Q I1 q1
 | false=>exact ⟨.bl false,H1,I1,rfl,q1⟩
theorem pe_not (ha:PE X a ta):PE X (.UnaryOp .Not a pos) (tNotV ta):=by
 intro pins s σ H Q I h;refine UnaryOp_ (thn (ha pins s σ H _ I h) fun v s1 ⟨x,H1,I1,r1,q1⟩=>?_);obtain ⟨c,rfl,q1⟩:=q1;cases r1;exact not_of (wpAny_truthy_bool ⟨.bl (!c),H1,I1,rfl,q1⟩)
end
noncomputable def SqL (K:Frag) (H:Hp) (a:Addr) (xs:List V):Prop:=
 Rd H a (.lst xs)\/
  ∃ (o:Obj) (its:Array Value) (n:Nat),K.lookup a=some o/\o.cls=.type "list"/\o.dict=none/\o.data=.seq its n/\its.size<=sizeLine/\aT xs its.toList
noncomputable def SqT (K:Frag) (H:Hp) (a:Addr) (xs:List V):Prop:=
 Rd H a (.tup xs)\/
  ∃ (o:Obj) (its:Array Value) (n:Nat),K.lookup a=some o/\o.cls=.type "tuple"/\o.data=.seq its n/\its.size<=sizeLine/\aT xs its.toList
noncomputable def absV:Value->Option V
 | .none=>some .non
 | .bool b=>some (.bl b)
 | .int i _=>some (.int i)
 | .str x _=>some (.str x)
 | .bytes b _=>some (.byt b)
 | .float b _=>some (.flt b)
 | .ref a=>some (.ref a)
 | .type n=>some (.ty n)
 | _=>none
theorem RelV.abs {x:V} {u:Value} (r:RelV x u):absV u=some x:=by
 cases x with
 | non=>cases r;rfl
 | bl _=>cases r;rfl
 | int _=>obtain ⟨t,rfl⟩:=r;rfl
 | str _=>obtain ⟨t,rfl⟩:=r;rfl
 | byt _=>obtain ⟨t,rfl⟩:=r;rfl
 | flt _=>obtain ⟨t,rfl⟩:=r;rfl
 | ref _=>cases r;rfl
 | ty _=>cases r;rfl
theorem RelV.inj {x y:V} {u:Value} (r:RelV x u) (q:RelV y u):x=y:=Ab (r.abs.symm.trans q.abs)
theorem aT.inj:∀ {xs ys:List V} {us:List Value},aT xs us->aT ys us->xs=ys
 | _,_,_,.nil,.nil=>rfl
 | _,_,_,.cons r t,.cons r' t'=>by rw [r.inj r',aT.inj t t']
section
variable {X:Cx} {pins:List (Addr×Obj)} {σ:St} {H:Hp} {s:Shared} {a:Addr} {xs ys:List V}
theorem SqL.of {K:Frag} (h:H a=some (.lst xs)):SqL K H a xs:=.inl (.inl h)
theorem SqT.of {K:Frag} (h:H a=some (.tup xs)):SqT K H a xs:=.inl (.inl h)
theorem Inv.list (I:Inv X pins σ H s) (h:SqL X.K H a xs):∃ its:List Value,aT xs its/\PlainL s.heap a its.toArray/\xs.length<=sizeLine:=by
 rcases h with h | ⟨o,its,n,hk,hc,hd,hs,hz,r⟩
 ·obtain ⟨z,its,n,r,e⟩:=h.ok I.hok;exact ⟨its,r,⟨_,n,e,rfl,rfl,rfl⟩,z⟩
 ·refine ⟨its.toList,r,⟨o,n,I.kIn a o hk,hc,hd,by simpa using hs⟩,?_⟩;have e:=r.length;simp only [Array.length_toList] at e;omega
theorem Inv.tuple (I:Inv X pins σ H s) (h:SqT X.K H a xs):∃ its:List Value,aT xs its/\IsTup s.heap a its.toArray/\xs.length<=sizeLine:=by
 rcases h with h | ⟨o,its,n,hk,hc,hs,hz,r⟩
 ·obtain ⟨z,its,r,p⟩:=h.ok I.hok;exact ⟨its,r,p,z⟩
 ·refine ⟨its.toList,r,⟨o,I.kIn a o hk,hc,n,by simpa using hs⟩,?_⟩;have e:=r.length;simp only [Array.length_toList] at e;omega
theorem Inv.list_inj (I:Inv X pins σ H s) (h:SqL X.K H a xs) (h':SqL X.K H a ys):xs=ys:=by
 obtain ⟨its,r,⟨o,n,e,_,_,d⟩,_⟩:=I.list h;obtain ⟨its',r',⟨o',n',e',_,_,d'⟩,_⟩:=I.list h';rw [e] at e';cases e';rw [d] at d';injection d' with d1 _;have:its=its':=by simpa using congrArg Array.toList d1
 subst this;exact r.inj r'
end
abbrev Cx.wish (X:Cx) (E:Value->Shared->Prop):Cx:={ X with xe:=E }
abbrev Cx.nox (X:Cx):Cx:=X.wish fun _ _=>False
theorem Cx.Ok.wish {X:Cx} (ok:X.Ok) (E:Value->Shared->Prop):(X.wish E).Ok:=
 ⟨ok.mod,ok.kind,ok.glob,ok.blt,ok.above,ok.inj,ok.has,ok.cab,ok.hd,ok.frames,ok.stk,ok.exf,ok.bs,ok.bsz,ok.noex,ok.exfs,ok.funs,ok.frf⟩
theorem Cx.Ok.unwish {X:Cx} {E:Value->Shared->Prop} (ok:(X.wish E).Ok):X.Ok:=
 ⟨ok.mod,ok.kind,ok.glob,ok.blt,ok.above,ok.inj,ok.has,ok.cab,ok.hd,ok.frames,ok.stk,ok.exf,ok.bs,ok.bsz,ok.noex,ok.exfs,ok.funs,ok.frf⟩
section
variable {X:Cx} {pins:List (Addr×Obj)} {σ:St} {H:Hp} {s:Shared} {E:Value->Shared->Prop}
theorem Inv.wish (I:Inv X pins σ H s) (E:Value->Shared->Prop):Inv (X.wish E) pins σ H s:=⟨I.ok.wish E,I.os,I.bare,I.base,I.loc,I.cell,I.free,I.freeC,I.pin,I.hok,I.len⟩
theorem Inv.unwish (I:Inv (X.wish E) pins σ H s):Inv X pins σ H s:=⟨I.ok.unwish,I.os,I.bare,I.base,I.loc,I.cell,I.free,I.freeC,I.pin,I.hok,I.len⟩
theorem SP.unwish {D:Ends} {f:Flow} {s':Shared} (h:SP (X.wish E) pins D f s'):SP X pins D f s':=by
 cases f with
 | next=>obtain ⟨tO,H',I,q⟩:=h;exact ⟨tO,H',I.unwish,q⟩
 | brk=>obtain ⟨tO,H',I,q⟩:=h;exact ⟨tO,H',I.unwish,q⟩
 | cont=>obtain ⟨tO,H',I,q⟩:=h;exact ⟨tO,H',I.unwish,q⟩
 | ret u=>obtain ⟨v,tO,H',I,r,q⟩:=h;exact ⟨v,tO,H',I.unwish,r,q⟩
theorem PSs.nox {st:List Stmt} {t:TS} (h:PSs X.nox st t):PSs X st t:=fun pins s σ H D I hw=>
 Ap (h pins s σ H D (I.wish _) hw) (fun _ _ q=>q.unwish) fun _ _ z=>False.elim z
end
section
variable {X:Cx} {st:Stmt} {rest:List Stmt} {t u:TS} {e:Expr} {te:TE} {pos:Pos}
def tNext:TS:=fun D σ H=>D.nx σ H
def tSeq (t u:TS):TS:=fun D σ H=>t { D with nx:=u D } σ H
theorem pss_nil:PSs X [] tNext:=fun _ _ σ H _ I h=>wpAny_execs_nil ⟨σ,H,I,h⟩
theorem qJ (h1:PS X st t) (h2:PSs X rest u):PSs X (st::rest) (tSeq t u):=by
 intro pins s σ H D I h;refine wpAny_execs_cons (thn (h1 pins s σ H { D with nx:=u D } I h) fun f s1 q=>?_);cases f with
 | next=>
  obtain ⟨tO,H',I',q⟩:=q;exact h2 pins s1 tO H' D I' q
 | ret v=>exact q
 | brk=>exact q
 | cont=>exact q
theorem pss_one (h1:PS X st t):PSs X [st] t:=by
 intro pins s σ H D I h;refine wpAny_execs_cons (thn (h1 pins s σ H D I h) fun f s1 q=>?_);cases f with
 | next=>exact wpAny_execs_nil q
 | ret v=>exact q
 | brk=>exact q
 | cont=>exact q
theorem Inv.quiet {pins:List (Addr×Obj)} {σ:St} {H:Hp} {s:Shared} (I:Inv X pins σ H s):interactive X.env=false:=by simp [interactive,I.ok.kind]
def tDrop (te:TE):TS:=fun D σ H=>te σ H fun _ H1=>D.nx σ H1
theorem ja (he:PE X e te) (hs:swapsWith e none pos.line X.env=pure false:=by rfl):PS X (.Expr e pos) (tDrop te):=by
 intro pins s σ H D I h;exact wpAny_Expr_any (thn (he pins s σ H _ I h) fun v s1 ⟨x,H1,I1,r1,q1⟩=>⟨σ,H1,I1,q1⟩) I.quiet hs
def tRet (te:TE):TS:=fun D σ H=>te σ H D.rt
theorem pJ (he:PE X e te):PS X (.Return (some e) pos) (tRet te):=by
 intro pins s σ H D I h;exact wpAny_Return_some (thn (he pins s σ H _ I h) fun v s1 ⟨x,H1,I1,r1,q1⟩=>⟨x,σ,H1,I1,r1,q1⟩)
def tIfS (c:TT) (t u:TS):TS:=fun D σ H=>c σ H fun b H1=>if b=true then t D σ H1 else u D σ H1
theorem ps_if {c:Expr} {a b:List Stmt} {tc:TT} (hc:PT X c tc) (ha:PSs X a t) (hb:PSs X b u):PS X (.If c a b pos) (tIfS tc t u):=by
 intro pins s σ H D I h;refine wpAny_If (thn (hc pins s σ H _ I h) fun d s1 ⟨H1,I1,q1⟩=>?_);cases d with
 | true=>exact ha pins s1 σ H1 D I1 q1
 | false=>exact hb pins s1 σ H1 D I1 q1
end
abbrev TG:=V->St->Hp->(St->Hp->Prop)->Prop
abbrev TGs:=List V->St->Hp->(St->Hp->Prop)->Prop
noncomputable def PG (X:Cx) (target:Expr) (t:TG):Prop:=
 ∀ (pins:List (Addr×Obj)) (s:Shared) (σ:St) (H:Hp) (v:V) (u:Value) (Q:St->Hp->Prop),Inv X pins σ H s->RelV v u->t v σ H Q->
  wpAny (model X.prog X.w) X.A (assign target X.env u) (fun _ s'=>∃ tO H',Inv X pins tO H' s'/\Q tO H') X.xe s
noncomputable def PGs (X:Cx) (ts:List Expr) (t:TGs):Prop:=
 ∀ (pins:List (Addr×Obj)) (s:Shared) (σ:St) (H:Hp) (vs:List V) (us:List Value) (Q:St->Hp->Prop),Inv X pins σ H s->aT vs us->t vs σ H Q->
  wpAny (model X.prog X.w) X.A (assignInOrder ((assignEach ts X.env).map (·.2)) us) (fun _ s'=>∃ tO H',Inv X pins tO H' s'/\Q tO H') X.xe s
abbrev TIp:=V->V->Hp->VK->Prop
noncomputable def PIp (X:Cx) (op:Operator) (t:TIp):Prop:=
 ∀ (pins:List (Addr×Obj)) (s:Shared) (σ:St) (H:Hp) (x y:V) (v u:Value) (Q:VK),Inv X pins σ H s->RelV x v->RelV y u->t x y H Q->
  wpAny (model X.prog X.w) X.A (inplaceOp op v u) (EP X pins σ Q) X.xe s
section
variable {X:Cx} {pos:Pos}
def oO (i:Nat):TG:=fun v σ H Q=>Q (σ.set i (some v)) H
theorem pg_name {i:Nat} {x:Str} (hN:X.N.Nodup) (hi:X.N[i]?=some x) (hx:Loc X.env.scope x) (hf:X.fn x=true\/X.env.scope.names.lookup x=some .local:=by first | exact .inl rfl | exact .inr rfl | assumption):PG X (.Name x pos) (oO i):=by
 intro pins s σ H v u Q I r h;exact wpAny_assign_Name (gj I hN hi hx r (fun s' I'=>⟨_,H,I',h⟩) hf)
def gNil:TGs:=fun vs σ H Q=>vs=[]/\Q σ H
def gCons (t:TG) (u:TGs):TGs:=fun vs σ H Q=>∃ v r,vs=v::r/\t v σ H fun tO H'=>u r tO H' Q
theorem pgs_nil:PGs X [] gNil:=by
 intro pins s σ H vs us Q I r h;obtain ⟨e,h⟩:=h;subst e;cases r;exact assignInOrder_nil ⟨σ,H,I,h⟩
theorem pgs_cons {e:Expr} {es:List Expr} {t:TG} {u:TGs} (h1:PG X e t) (h2:PGs X es u)
  (hs:(assignEach (e::es) X.env).map (·.2)=assign e X.env::(assignEach es X.env).map (·.2):=by rfl):PGs X (e::es) (gCons t u):=by
 intro pins s σ H vs us Q I r h;obtain ⟨v,vr,e1,h⟩:=h;subst e1;cases r with
 | cons r rr=>
  rw [hs];refine assignInOrder_cons (thn (h1 pins s σ H _ _ _ I r h) fun _ s1 ⟨uN,H1,I1,q1⟩=>?_);exact h2 pins s1 uN H1 _ _ Q I1 rr q1
noncomputable def gTup (K:Frag) (n:Nat) (t:TGs):TG:=fun v σ H Q=>∃ a xs,v=.ref a/\SqT K H a xs/\xs.length=n/\t xs σ H Q
theorem pg_tup {es:List Expr} {k:Nat} {t:TGs} {n:Nat} (hc:X.calm=true) (h:PGs X es t)
  (hn:(assignEach es X.env).length=n:=by rfl) (uh:(assignEach es X.env).findIdx? (·.1)=none:=by rfl):PG X (.Tuple es k pos) (gTup X.K n t):=by
 intro pins s σ H v u Q I r hw;obtain ⟨a,xs,e1,hq,hl,hw⟩:=hw;subst e1;cases r;obtain ⟨its,rv,ht,hz⟩:=I.tuple hq;refine assign_Tuple_tuple (I.ok.hd hc) ht (by simp [hn,<-hl,rv.length]) uh fun h' hx=>?_;have I1:Inv X pins σ H { s with heap:=h' }:=I.kept (t':=s.toks) fun b o e=>hx b o (zJ (yZ e)) e;exact h pins _ σ H xs _ Q I1 (by simpa using rv) hw
def tAsg (te:TE) (g:TG):TS:=fun D σ H=>te σ H fun x H1=>g x σ H1 D.nx
theorem ps_asg {tg e:Expr} {te:TE} {g:TG} (he:PE X e te) (hg:PG X tg g) (hs:swapsWithSole [tg] e pos.line X.env=pure false:=by rfl) (hw:swappedStores [tg] e X.env=pure none:=by rfl)
  (h1:(assignEach [tg] X.env).map (·.2)=[assign tg X.env]:=by rfl):PS X (.Assign [tg] e pos) (tAsg te g):=by
 intro pins s σ H D I h;refine wpAny_Assign_stores (thn (he pins s σ H _ I h) fun v s1 ⟨x,H1,I1,r1,q1⟩=>?_) hs hw;rw [h1];exact thn (hg pins s1 σ H1 x v _ I1 r1 q1) fun _ s2 q=>q
theorem ps_set {i:Nat} {x:Str} {e:Expr} {te:TE} {pos':Pos} (hN:X.N.Nodup) (hi:X.N[i]?=some x) (hx:Loc X.env.scope x) (he:PE X e te) (hs:swapsWith e (some (.Name x pos')) pos.line X.env=pure false:=by rfl) (hf:X.fn x=true\/X.env.scope.names.lookup x=some .local:=by first | exact .inl rfl | exact .inr rfl | assumption) :
  PS X (.Assign [.Name x pos'] e pos) (tAsg te (oO i)):=by
 intro pins s σ H D I h;refine wpAny_Assign_Name (thn (he pins s σ H _ I h) fun v s1 ⟨y,H1,I1,r1,q1⟩=>?_) hs;exact gj I1 hN hi hx r1 (fun s2 I2=>⟨_,H1,I2,q1⟩) hf
noncomputable def tPar (i j:Nat) (ta:TA):TS:=fun D σ H=>ta σ H fun vs H1=>∃ v w,vs=[v,w]/\D.nx ((σ.set i (some v)).set j (some w)) H1
theorem ps_par {i j:Nat} {x y:Str} {a b:Expr} {ta:TA} {px py pt:Pos} {kt k2 xl} (hc:X.calm=true) (hN:X.N.Nodup) (hi:X.N[i]?=some x) (hj:X.N[j]?=some y) (xG:i≠j)
  (hx:X.env.scope.names.lookup x=some .local) (hy:X.env.scope.names.lookup y=some .local) (ha:PA X [a,b] ta)
  (hw:swappedStores [.Tuple [.Name x px,.Name y py] kt pt] (.Tuple [a,b] k2 xl) X.env=pure (some [x,y]))
  (hs:swapsWithSole [.Tuple [.Name x px,.Name y py] kt pt] (.Tuple [a,b] k2 xl) pos.line X.env=pure false:=by rfl) :
  PS X (.Assign [.Tuple [.Name x px,.Name y py] kt pt] (.Tuple [a,b] k2 xl) pos) (tPar i j ta):=by
 intro pins s σ H D I h;rw [exec_Assign_arm];refine ub (wpAny_standAt ?_);rw [hs];refine ub (uc ?_);rw [if_neg (by decide)];refine ub (Tuple_ (thn (ha _ pins s σ H _ I h) fun us s1 ⟨vs,H1,I1,r1,q1⟩=>?_));obtain ⟨v,w,e1,q1⟩:=q1;subst e1;obtain ⟨u1,u2,rfl,rv,u5⟩ : ∃ u1 u2,us=[u1,u2]/\RelV v u1/\RelV w u2:=by
  cases r1 with
  | cons p q=>
   cases q with
   | cons p' q'=>
    cases q';exact ⟨_,_,rfl,p,p'⟩
 refine wpAny_newObj_type ?_ (by show 2<=sizeLine;decide);have I2:Inv X pins σ H1 { s1 with heap:=s1.heap.push { cls:=.type "tuple",data:=.seq [u1,u2].toArray } }:=I1.kept (t':=s1.toks) fun b o e=>yV _ e;rw [hw];refine ub (uc ?_);show wpAny (model X.prog X.w) X.A (do rule "assign.swapped-stores";let items <-unpackItems (.ref s1.heap.objs.size) 2 none;assignInOrder [fun v=>bindName X.env y v,fun v=>bindName X.env x v] items.reverse;pure Flow.next) _ _ _;refine ub (wpAny_rule (ub (unpackItems_tuple (items:=#[u1,u2]) (I.ok.hd hc) (IsTup.new s1.heap _) fun h' xr=>?_)));have I3:=I2.kept (h':=h') (t':=s1.toks) fun b o e=>xr b o (zJ (yZ e)) e;show wpAny _ _ (assignInOrder [fun v=>bindName X.env y v,fun v=>bindName X.env x v] [u2,u1] >>= fun _=>pure Flow.next) _ _ _;refine ub (assignInOrder_cons (wpAny_bindName (gj I3 hN hj (.inl hy) u5 (fun s2 I4=>?_) (.inr hy))));refine assignInOrder_cons (wpAny_bindName (gj I4 hN hi (.inl hx) rv (fun s3 I5=>assignInOrder_nil (uc ?_)) (.inr hx)));rw [List.set_comm _ _ (Ne.symm xG)] at I5;exact ⟨_,H1,I5,q1⟩
noncomputable def tAug (i:Nat) (te:TE) (ti:TIp):TS:=fun D σ H=>∃ x,σ[i]?=some (some x)/\te σ H fun y H1=>ti x y H1 fun z H2=>D.nx (σ.set i (some z)) H2
theorem ps_aug {i:Nat} {x:Str} {e:Expr} {te:TE} {op:Operator} {ti:TIp} {pos':Pos} (hN:X.N.Nodup) (hi:X.N[i]?=some x) (hx:Loc X.env.scope x) (he:PE X e te) (ho:PIp X op ti) (hf:X.fn x=true\/X.env.scope.names.lookup x=some .local:=by first | exact .inl rfl | exact .inr rfl | assumption) :
  PS X (.AugAssign (.Name x pos') op e pos) (tAug i te ti):=by
 intro pins s σ H D I h;obtain ⟨v,e1,h⟩:=h;obtain ⟨m,hn,hl⟩:=I.loc;have vis:Vis X.env.scope x:=by rcases hx with k | k;exact .inl k;exact .inr (.inl k)
 obtain ⟨u,r,l⟩:=hl i x v hi e1 vis;refine wpAny_AugAssign_Name ?_;have go:wpAny (model X.prog X.w) X.A (eval e X.env) (fun w uO=>wpAny (model X.prog X.w) X.A (inplaceOp op u w) (fun r vJ=>wpAny (model X.prog X.w) X.A (storeName X.env x r) (fun _=>SP X pins D .next) X.xe vJ) X.xe uO) X.xe s:=by
  refine thn (he pins s σ H _ I h) fun w s1 ⟨y,H1,I1,r1,q1⟩=>?_;refine thn (ho pins s1 σ H1 v y u w _ I1 r r1 q1) fun z s2 ⟨zv,H2,I2,r2,q2⟩=>?_;exact gj I2 hN hi hx r2 (fun s3 I3=>⟨_,H2,I3,q2⟩) hf
 rcases l with ⟨hk,hm⟩ | ⟨hk,c,hc,vH⟩
 ·exact wpAny_loadName_local I.ok.kind hk hn hm go
 ·rcases hk with hk | hk
  ·exact wpAny_loadName_cell I.ok.kind hk hc vH go
  ·rcases hx with k | k
   ·have:X.env.scope.names.lookup x=some .free:=hk;rw [k] at this;cases this
   ·have:X.env.scope.names.lookup x=some .free:=hk;rw [k] at this;cases this
def ipI (f:Int->Int->Int):TIp:=fun x y H Q=>∃ i j,x=.int i/\y=.int j/\Q (.int (f i j)) H
theorem ip_add:PIp X .Add (ipI fun i j=>i+j):=by
 intro pins s σ H x y v u Q I r1 r2 h;obtain ⟨i,j,e1,e2,q⟩:=h;subst e1;subst e2;obtain ⟨t,rfl⟩:=r1;obtain ⟨t',rfl⟩:=r2;exact iadd_int ⟨.int _,H,I.tok _,⟨_,rfl⟩,q⟩
end
section
variable {X:Cx} {pos:Pos}
noncomputable def tWhile (c:TT) (tb:TS):TS:=fun D σ H=>∃ W:Nat->St->Hp->Prop,(∃ m,W m σ H)/\∀ m σ H,W m σ H->
 c σ H fun b H1=>if b=true then ∃ N:St->Hp->Prop,(∀ tO H',N tO H'->∃ m',m'<m/\W m' tO H')/\tb { D with nx:=N,ct:=N,bk:=D.nx } σ H1 else D.nx σ H1
theorem ps_while {c:Expr} {body:List Stmt} {tc:TT} {tb:TS} (hp:PassesOwn (model X.prog X.w) X.A X.env X.xe) (hc:PT X c tc) (hb:PSs X body tb):PS X (.While c body [] pos) (tWhile tc tb):=by
 intro pins s σ H D I h;obtain ⟨W,⟨m0,w0⟩,turn⟩:=h;refine wpAny_While (codeAny_whileLoop (fun n s'=>∃ tO H',Inv X pins tO H' s'/\W n tO H') ?_ m0 ⟨σ,H,I,w0⟩);rintro n s1 ⟨uN,H1,I1,w1⟩;refine wpAny_passesOwn hp (thn (hc pins s1 uN H1 _ I1 (turn n uN H1 w1)) fun b s2 ⟨H2,I2,q2⟩=>?_);cases b with
 | true=>
  obtain ⟨N,hN,q2⟩:=q2;rw [if_pos rfl];refine wpAny_passesOwn hp (thn (hb pins s2 uN H2 _ I2 q2) fun f s3 q3=>?_);cases f with
  | next=>
   obtain ⟨wb,H3,I3,n3⟩:=q3;obtain ⟨m',hm,w3⟩:=hN wb H3 n3;exact ⟨m',hm,wb,H3,I3,w3⟩
  | cont=>
   obtain ⟨wb,H3,I3,n3⟩:=q3;obtain ⟨m',hm,w3⟩:=hN wb H3 n3;exact ⟨m',hm,wb,H3,I3,w3⟩
  | brk=>exact q3
  | ret v=>exact q3
 | false=>
  rw [if_neg zK];exact wpAny_execs_nil ⟨uN,H2,I2,q2⟩
end
structure It where
 go:Nat->Hp->Prop
 yld:Nat->Hp->V->Hp->Prop
 stop:Nat->Hp->Prop
noncomputable def FpOk (X:Cx) (pins:List (Addr×Obj)) (H:Hp) (b:Addr):Prop:=
 H b=none/\b≠X.env.locals/\b∉X.fs/\(b∈X.ex\/X.s₀.heap.objs.size<=b)/\(∀ x c,X.env.cells.lookup x=some c->c≠b)/\∀ p∈X.pn++pins,p.1≠b
theorem Inv.fpOk {X:Cx} {pins:List (Addr×Obj)} {σ:St} {H H':Hp} {s:Shared} {b:Addr} (I:Inv X pins σ H s) (hb:s.heap.objs.size<=b) (hn:H' b=none):FpOk X pins H' b:=by
 refine ⟨hn,Nat.ne_of_gt (zz I.lt hb),I.nofs hb,.inr (zN I.sz hb),fun x c e z=>?_,fun p hp z=>?_⟩
 ·obtain ⟨v,q⟩:=I.cell x c e;exact absurd (zz q.lt (by rw [z];exact hb)) (zP _)
 ·exact absurd (zz (yZ (I.pin p hp).1) (by rw [z];exact hb)) (zP _)
structure Turn (P:Program) (w:World) (K:Frag) (tg:Expr) (J:It) (fp:List Addr) (it:Addr) (tn:Nat->Heap->Prop):Prop where
 mem:it∈fp
 obj:∀ i h,tn i h->∀ b∈fp,∃ o,h.get? b=some o/\∀ v,o.data≠.cell v
 keep:∀ i h h',tn i h->(∀ b∈fp,∀ o,h.get? b=some o->h'.get? b=some o)->tn i h'
 item:∀ (X:Cx),X.prog=P->X.w=w->X.K=K->X.calm=true->∀ (i:Nat) (pins:List (Addr×Obj)) (s:Shared) (σ:St) (H:Hp) (E:Value->Shared->Prop),Inv X pins σ H s->(∀ b∈fp,FpOk X pins H b)->tn i s.heap->J.go i H->
  wpAny (model P w) X.A (pyNext (.ref it)) (fun r s1=>∃ u,r=some u/\
   wpAny (model P w) X.A (letOwnedTupleGo tg (.ref it) u) (fun _ s2=>∃ x H',Inv X pins σ H' s2/\RelV x u/\J.yld i H x H'/\tn (i+1) s2.heap/\∀ b∈fp,H' b=none) E s1) E s
 done:∀ (X:Cx),X.prog=P->X.w=w->X.K=K->X.calm=true->∀ (i:Nat) (pins:List (Addr×Obj)) (s:Shared) (σ:St) (H:Hp) (E:Value->Shared->Prop),Inv X pins σ H s->(∀ b∈fp,FpOk X pins H b)->tn i s.heap->J.stop i H->
  wpAny (model P w) X.A (pyNext (.ref it)) (fun r s1=>r=none/\Inv X pins σ H s1) E s
 self:∀ (A:Around) (i:Nat) (s:Shared) (Q:Value->Shared->Prop) (E:Value->Shared->Prop),tn i s.heap->Q (.ref it) s->wpAny (model P w) A (pyIter (.ref it)) Q E s
abbrev TI:=St->Hp->(It->Hp->Prop)->Prop
noncomputable def PIE (X:Cx) (pins:List (Addr×Obj)) (σ:St) (tg:Expr) (R:It->Hp->Prop) (itv:Value) (s2:Shared):Prop:=
 ∃ (it:Addr) (fp:List Addr) (tn:Nat->Heap->Prop) (J:It) (H':Hp),itv=.ref it/\Inv X pins σ H' s2/\Turn X.prog X.w X.K tg J fp it tn/\tn 0 s2.heap/\(∀ b∈fp,FpOk X pins H' b)/\R J H'
noncomputable def PI (X:Cx) (tg iter:Expr) (wi:TI):Prop:=
 ∀ (pins:List (Addr×Obj)) (s:Shared) (σ:St) (H:Hp) (R:It->Hp->Prop),Inv X pins σ H s->wi σ H R->
  wpAny (model X.prog X.w) X.A (eval iter X.env) (fun v s1=>wpAny (model X.prog X.w) X.A (pyIter v) (PIE X pins σ tg R) X.xe s1) X.xe s
theorem go_of {M:Model} {A:Around} {E:Value->Shared->Prop} {s:Shared} {tg:Expr} {it:Addr} {u:Value} {o:Obj} {n:String} {vs:Array Value} {Q:Unit->Shared->Prop} (ho:s.heap.get? it=some o) (hc:o.cls=.type n) (hd:o.data=.fields vs)
    (hn:["enumerate", "zip", "dict_itemiterator", "dict_reverseitemiterator", "odict_iterator", "itertools.zip_longest", "itertools.pairwise"].contains n=false) (hQ:Q () s):wpAny M A (letOwnedTupleGo tg (.ref it) u) Q E s:=by
  unfold letOwnedTupleGo;cases tg <;> first
    | exact uc hQ
    | (cases u <;> first
        | exact uc hQ
        | (refine ub (wpAny_load ho ?_)
           rw [hc,hd];show wpAny M A (if (["enumerate", "zip", "dict_itemiterator", "dict_reverseitemiterator", "odict_iterator", "itertools.zip_longest", "itertools.pairwise"].contains n&&vs[0]?==some (rawInt _))=true then _ else _) Q E s;rw [if_neg (by intro h;rw [hn,Bool.false_and] at h;cases h)];exact uc hQ))
noncomputable def Itl (K:Frag) (a:Addr):It:=
 ⟨fun i H=>∃ xs x,SqL K H a xs/\xs[i]?=some x,fun i H x H'=>H'=H/\∀ xs,SqL K H a xs->xs[i]?=some x,fun i H=>∃ xs,SqL K H a xs/\xs.length<=i⟩
def Itr (lo:Int) (n:Nat):It:=⟨fun i _=>i<n,fun i H x H'=>H'=H/\x=.int (lo+i),fun i _=>n<=i⟩
theorem turn_list {P:Program} {w:World} {K:Frag} {tg:Expr} (a it:Addr):Turn P w K tg (Itl K a) [it] it (fun i h=>h.IsListIter it a i) where
 mem:=by simp
 obj:=fun i h st b hb=>by
  have e:b=it:=by simpa using hb
  subst e;obtain ⟨o,e,c,d⟩:=st;exact ⟨o,e,fun v z=>by rw [d] at z;cases z⟩
 keep:=fun i h h' st k=>st.at fun o e=>k it (by simp) o e
 item:=by
  intro X hP hw hK hc i pins s σ H E I hf st hg;subst hP hw hK;obtain ⟨xs,x,hq,hx⟩:=hg;obtain ⟨its,rv,p,hz⟩:=I.list hq;obtain ⟨u,hu,ru⟩:=rv.get hx;obtain ⟨f0,f1,f2,f3,f4,f5⟩:=hf it (by simp);refine wpAny_pyNext_list_item st p.isList (x:=u) (by simpa using hu) fun h' ur sb=>?_;have I1:Inv X pins σ H { s with heap:=h' }:=I.turned (t':=s.toks) (fun b o hb e=>(sb.2 b hb).trans e) f0 f1 f3 f4 f5;obtain ⟨o,e,c,d⟩:=id ur;exact ⟨u,rfl,go_of (s:={ s with heap:=h' }) e c d (by decide) ⟨x,H,I1,ru,⟨rfl,fun ys hy=>by rw [I.list_inj hy hq];exact hx⟩,ur,fun b hb=>(hf b hb).1⟩⟩
 done:=by
  intro X hP hw hK hc i pins s σ H E I hf st hg;subst hP hw hK;obtain ⟨xs,hq,hx⟩:=hg;obtain ⟨its,rv,p,hz⟩:=I.list hq;obtain ⟨f0,f1,f2,f3,f4,f5⟩:=hf it (by simp);have hl:=rv.length;exact wpAny_pyNext_list_end (I.ok.hd hc) st p.isList (by simp;omega) fun h' eb=>⟨rfl,I.turned (t':=s.toks) (fun b o hb e=>eb b o hb e) f0 f1 f3 f4 f5⟩
 self:=fun _ _ _ _ _ st h=>wpAny_pyIter_listiter st h
theorem sC {P:Program} {w:World} {K:Frag} {tg:Expr} (it:Addr) (lo:Int) (n:Nat):Turn P w K tg (Itr lo n) [it] it (fun i h=>IsRangeIter h it (lo+(i:Nat)*1) ((n:Int)-(i:Nat)) 1) where
 mem:=by simp
 obj:=fun i h st b hb=>by
  have e:b=it:=by simpa using hb
  subst e;exact ⟨_,st,fun v z=>by
   have z':Data.fields _=Data.cell v:=z;cases z'⟩
 keep:=fun i h h' st k=>k it (by simp) _ st
 item:=by
  intro X hP hw hK hc i pins s σ H E I hf st hg;subst hP hw hK;obtain ⟨f0,f1,f2,f3,f4,f5⟩:=hf it (by simp);have W:=Walks.range (prog:=X.prog) (w:=X.w) (I.ok.hd hc) it lo 1 n;refine W.item i s _ _ hg st fun v h' tk hv ur kk=>?_;obtain ⟨t,rfl⟩:=hv;have I1:Inv X pins σ H { s with heap:=h',toks:=tk }:=I.turned (fun b o hb e=>kk b o (by simpa using hb) e) f0 f1 f3 f4 f5;refine ⟨_,rfl,go_of (s:={ s with heap:=h',toks:=tk }) (n:="range_iterator") ur rfl rfl (by decide) ⟨.int (lo+i),H,I1,⟨t,?_⟩,⟨rfl,rfl⟩,ur,fun b hb=>(hf b hb).1⟩⟩;rw [Int.mul_one]
 done:=by
  intro X hP hw hK hc i pins s σ H E I hf st hg;subst hP hw hK;obtain ⟨f0,f1,f2,f3,f4,f5⟩:=hf it (by simp);exact wpAny_pyNext_range_end (I.ok.hd hc) st (by have:n<=i:=hg;omega) fun h' eb=>⟨rfl,I.turned (t':=s.toks) (fun b o hb e=>eb b o hb e) f0 f1 f3 f4 f5⟩
 self:=fun _ _ _ _ _ st h=>wpAny_pyIter_rangeiter st h
section
variable {X:Cx} {tg:Expr}
noncomputable def iList (K:Frag) (tl:TE):TI:=fun σ H R=>tl σ H fun x H1=>∃ a,x=.ref a/\(∃ xs,SqL K H1 a xs)/\R (Itl K a) H1
theorem pi_list {l:Expr} {tl:TE} (hl:PE X l tl):PI X tg l (iList X.K tl):=by
 intro pins s σ H R I h;refine thn (hl pins s σ H _ I h) fun v s1 ⟨x,H1,I1,r1,q1⟩=>?_;obtain ⟨a,e,⟨xs,hq⟩,q⟩:=q1;subst e;cases r1;obtain ⟨its,rv,p,hz⟩:=I1.list hq;refine wpAny_pyIter_list p.isList ?_;refine ⟨s1.heap.objs.size,[s1.heap.objs.size],_,_,H1,rfl,I1.kept (t':=s1.toks) fun b o e=>yV _ e,turn_list a _,⟨_,zg _ rfl,rfl,rfl⟩,fun b hb=>?_,q⟩;have e:b=s1.heap.objs.size:=by simpa using hb
 subst e;exact I1.fpOk (zp _) (I1.hok.fresh (zp _))
theorem range_it {pins:List (Addr×Obj)} {σ:St} {H:Hp} {s:Shared} {R:It->Hp->Prop} {E:Value->Shared->Prop} {lo hi:Int} {t u v:Tok} {tk:Nat} (I:Inv X pins σ H s) (h1:-(2 ^ 62)<=lo) (h2:lo<2 ^ 62) (h3:-(2 ^ 62)<=hi) (h4:hi<2 ^ 62)
  (q:R (Itr lo (hi-lo).toNat) H):wpAny (model X.prog X.w) X.A (pyIter (.ref s.heap.objs.size)) (PIE X pins σ tg R) E { s with heap:=s.heap.push { cls:=.type "range",data:=.fields #[.int lo t,.int hi u,.int 1 v] },toks:=tk }:=by
 refine wpAny_pyIter_range (IsRange.new ..) (small_one h1 h2 h3 h4) ?_;have I1:Inv X pins σ H { s with heap:=s.heap.push { cls:=.type "range",data:=.fields #[.int lo t,.int hi u,.int 1 v] },toks:=tk }:=I.kept fun b o e=>yV _ e;refine ⟨(s.heap.push { cls:=.type "range",data:=.fields #[.int lo t,.int hi u,.int 1 v] }).objs.size,[(s.heap.push { cls:=.type "range",data:=.fields #[.int lo t,.int hi u,.int 1 v] }).objs.size],_,_,H,rfl,
  I1.kept (t':=tk) fun b o e=>yV _ e,sC _ lo (hi-lo).toNat,?_,fun b hb=>?_,q⟩
 ·have e1:lo+((0:Nat):Int)*1=lo:=by simp
  have e2:(((hi-lo).toNat:Nat):Int)-((0:Nat):Int)=Builtin.Range.rangeSize lo hi 1:=by rw [rangeSize_one];split <;> omega
  show IsRangeIter _ _ (lo+((0:Nat):Int)*1) ((((hi-lo).toNat:Nat):Int)-((0:Nat):Int)) 1;rw [e1,e2];exact zg _ rfl
 ·have e:b=(s.heap.push { cls:=.type "range",data:=.fields #[.int lo t,.int hi u,.int 1 v] }).objs.size:=by simpa using hb
  subst e;exact I1.fpOk (zp _) (I1.hok.fresh (zp _))
noncomputable def iRng1 (ta:TA):TI:=fun σ H R=>ta σ H fun vs H1=>∃ j:Int,vs=[.int j]/\-(2 ^ 62)<=j/\j<2 ^ 62/\R (Itr 0 j.toNat) H1
theorem pi_range1 {a:Expr} {ta:TA} {p pos:Pos} (hg:Gl X "range") (hm:X.mg "range" = none) (ha:PA X [a] ta) (hs:starEach [a] X.env=[(false,eval a X.env)]:=by rfl):PI X tg (.Call (.Name "range" p) [a] [] pos) (iRng1 ta):=by
 intro pins s σ H R I h;refine Call_ (jK I hg hm boot_range (callWith_type1 (thn (ha pos pins s σ H _ I h) fun us s1 ⟨vs,H1,I1,r1,q1⟩=>?_) hs rfl));obtain ⟨j,e,q1,q2,q⟩:=q1;subst e;cases r1 with
 | cons r rr=>
  cases rr;obtain ⟨t,rfl⟩:=r;exact call_range_1 (range_it I1 (by omega) (by omega) q1 q2 (by simpa using q))
noncomputable def tFor (wi:TI) (g:TG) (tb:TS):TS:=fun D σ H=>wi σ H fun J H1=>∃ W:Nat->Nat->St->Hp->Prop,(∃ m,W 0 m σ H1)/\∀ i m σ H,W i m σ H->
 (J.stop i H/\D.nx σ H)\/(J.go i H/\∃ N:St->Hp->Prop,(∀ tO H',N tO H'->∃ m',m'<m/\W (i+1) m' tO H')/\∀ x H',J.yld i H x H'->g x σ H' fun wc H2=>tb { D with nx:=N,ct:=N,bk:=D.nx } wc H2)
def mJ (fp:List Addr) (h:Heap):List (Addr×Obj):=fp.filterMap fun b=>(h.get? b).map fun o=>(b,o)
theorem gK {fp:List Addr} {h:Heap} {b:Addr} {o:Obj} (hb:b∈fp) (e:h.get? b=some o):(b,o)∈mJ fp h:=List.mem_filterMap.mpr ⟨b,hb,by rw [e];rfl⟩
theorem of_pinsAt {fp:List Addr} {h:Heap} {p:Addr×Obj} (hp:p∈mJ fp h):p.1∈fp/\h.get? p.1=some p.2:=by
 obtain ⟨b,hb,e⟩:=List.mem_filterMap.mp hp;cases q:h.get? b with
 | none=>rw [q] at e;cases e
 | some o=>
  rw [q] at e;have e':(b,o)=p:=Ab e;subst e';exact ⟨hb,q⟩
theorem Inv.pinned {pins:List (Addr×Obj)} {σ:St} {H:Hp} {s:Shared} {fp:List Addr} (I:Inv X pins σ H s) (hf:∀ b∈fp,FpOk X pins H b) (ho:∀ b∈fp,∃ o,s.heap.get? b=some o/\∀ v,o.data≠.cell v):Inv X (pins++mJ fp s.heap) σ H s:=
 I.pins_of fun p hp=>(zB.mp hp).elim (fun z=>I.pin p (zd _ z)) fun z=>by
  obtain ⟨hb,e⟩:=of_pinsAt z;obtain ⟨f0,f1,f2,_⟩:=hf p.1 hb;obtain ⟨o,e',d⟩:=ho p.1 hb;rw [e] at e';cases e';exact ⟨e,f0,f1,f2,d⟩
theorem Inv.unpinned {pins pl:List (Addr×Obj)} {σ:St} {H:Hp} {s:Shared} (I:Inv X (pins++pl) σ H s):Inv X pins σ H s:=I.pins_of fun p hp=>I.pin p (zd _ (zC _ hp))
theorem ps_for {iter:Expr} {body:List Stmt} {wi:TI} {g:TG} {tb:TS} {pos:Pos} (hp:PassesOwn (model X.prog X.w) X.A X.env X.xe) (hc:X.calm=true) (hi:PI X tg iter wi) (hg:PG X tg g) (hb:PSs X body tb)
  (hs:∀ x,foldedSetIterable iter X.env x=pure x:=by intro _;rfl):PS X (.For tg iter body [] pos) (tFor wi g tb):=by
 intro pins s σ H D I h;refine wpAny_For (thn (hi pins s σ H _ I h) fun v s1 h1=>thn h1 fun itv s2 h2=>?_) hs;obtain ⟨it,fp,tn,J,H2,e,I2,T,wH,f2,W,⟨m0,w0⟩,turn⟩:=h2;subst e;have u9:∀ {H':Hp},(∀ b∈fp,H' b=none)->∀ b∈fp,FpOk X pins H' b:=fun hn b hb=>⟨hn b hb,(f2 b hb).2⟩;refine codeAny_forLoop_any (fun n s'=>∃ i tO H',Inv X pins tO H' s'/\tn i s'.heap/\(∀ b∈fp,H' b=none)/\W i n tO H') ?_ m0 ⟨0,σ,H2,I2,wH,fun b hb=>(f2 b hb).1,w0⟩;rintro n s3 ⟨i,wb,H3,I3,st3,fr3,w3⟩;rcases turn i n wb H3 w3 with ⟨stop,qn⟩ | ⟨go,N,hN,step⟩
 ·refine wpAny_passesOwn hp (thn (T.done X rfl rfl rfl hc i pins s3 wb H3 X.xe I3 (u9 fr3) st3 stop) fun r s4 ⟨hr,I4⟩=>?_);subst hr;exact wpAny_execs_nil ⟨wb,H3,I4,qn⟩
 ·refine wpAny_passesOwn hp (thn (T.item X rfl rfl rfl hc i pins s3 wb H3 X.xe I3 (u9 fr3) st3 go) fun r s4 ⟨u,hr,h4⟩=>?_);subst hr;refine wpAny_passesOwn hp (thn h4 fun _ s5 ⟨x,H5,I5,r5,y5,st5,fr5⟩=>?_);have I5':=I5.pinned (u9 fr5) (T.obj _ _ st5);refine wpAny_passesOwn hp (thn (hg _ s5 wb H5 x u _ I5' r5 (step x H5 y5)) fun _ s6 ⟨σ6,H6,I6,q6⟩=>?_);refine wpAny_passesOwn hp (thn (hb _ s6 σ6 H6 _ I6 q6) fun f s7 q7=>?_);have again:∀ {wa:St} {H7:Hp},Inv X (pins++mJ fp s5.heap) wa H7 s7->N wa H7->∃ m,m<n/\∃ i tO H',Inv X pins tO H' s7/\tn i s7.heap/\(∀ b∈fp,H' b=none)/\W i m tO H':=fun {wa H7} I7 n7=>by
   obtain ⟨m',hm,w7⟩:=hN wa H7 n7;refine ⟨m',hm,i+1,wa,H7,I7.unpinned,T.keep _ _ _ st5 fun b hb o e=>(I7.pin (b,o) (zd _ (zd _ (gK hb e)))).1,fun b hb=>?_,w7⟩;obtain ⟨o,e,d⟩:=T.obj _ _ st5 b hb;exact (I7.pin (b,o) (zd _ (zd _ (gK hb e)))).2.1
  cases f with
  | next=>obtain ⟨wa,H7,I7,n7⟩:=q7;exact again I7 n7
  | cont=>obtain ⟨wa,H7,I7,n7⟩:=q7;exact again I7 n7
  | brk=>obtain ⟨wa,H7,I7,q7⟩:=q7;exact ⟨wa,H7,I7.unpinned,q7⟩
  | ret v=>obtain ⟨x7,wa,H7,I7,r7,q7⟩:=q7;exact ⟨x7,wa,H7,I7.unpinned,r7,q7⟩
end
abbrev R2:=V->V->Hp->VK->Prop
noncomputable def OpR (X:Cx) (f:Value->Value->Sem Value) (r:R2):Prop:=
 ∀ (pins:List (Addr×Obj)) (s:Shared) (σ:St) (H:Hp) (x y:V) (v u:Value) (Q:VK),Inv X pins σ H s->RelV x v->RelV y u->r x y H Q->
  wpAny (model X.prog X.w) X.A (f v u) (EP X pins σ Q) X.xe s
noncomputable def UnR (X:Cx) (f:Value->Sem Value) (r:V->Hp->VK->Prop):Prop:=
 ∀ (pins:List (Addr×Obj)) (s:Shared) (σ:St) (H:Hp) (x:V) (v:Value) (Q:VK),Inv X pins σ H s->RelV x v->r x H Q->
  wpAny (model X.prog X.w) X.A (f v) (EP X pins σ Q) X.xe s
noncomputable def cJ (X:Cx) (f:Value) (r:List V->Hp->VK->Prop):Prop:=
 ∀ (pins:List (Addr×Obj)) (s:Shared) (σ:St) (H:Hp) (xs:List V) (us:List Value) (Q:VK),Inv X pins σ H s->aT xs us->r xs H Q->
  wpAny (model X.prog X.w) X.A (call f us) (EP X pins σ Q) X.xe s
def tOp (r:R2) (ta tb:TE):TE:=fun σ H Q=>ta σ H fun x H1=>tb σ H1 fun y H2=>r x y H2 Q
def tUn (r:V->Hp->VK->Prop) (ta:TE):TE:=fun σ H Q=>ta σ H fun x H1=>r x H1 Q
noncomputable def rI (C:Int->Int->Prop) (g:Int->Int->V):R2:=fun x y H Q=>∃ i j,x=.int i/\y=.int j/\C i j/\Q (g i j) H
def rI0 (g:Int->Int->V):R2:=fun x y H Q=>∃ i j,x=.int i/\y=.int j/\Q (g i j) H
def rU (g:Int->V):V->Hp->VK->Prop:=fun x H Q=>∃ i,x=.int i/\Q (g i) H
section
variable {X:Cx} {a b c:Expr} {ta tb tc:TE} {pos:Pos}
theorem binT (ha:PE X a ta) (hb:PE X b tb) {pins:List (Addr×Obj)} {s:Shared} {σ:St} {H:Hp} {R:V->V->Hp->Prop} (I:Inv X pins σ H s)
  (h:ta σ H fun x H1=>tb σ H1 fun y H2=>R x y H2) {Q:Value->Shared->Prop} {f:Value->Value->Sem Value}
  (hf:∀ v u s2 x y H2,Inv X pins σ H2 s2->RelV x v->RelV y u->R x y H2->wpAny (model X.prog X.w) X.A (f v u) Q X.xe s2) :
  wpAny (model X.prog X.w) X.A (eval a X.env) (fun v tM=>wpAny (model X.prog X.w) X.A (eval b X.env) (fun u uO=>wpAny (model X.prog X.w) X.A (f v u) Q X.xe uO) X.xe tM) X.xe s:=by
 refine thn (ha pins s σ H _ I h) fun v s1 ⟨x,H1,I1,r1,q1⟩=>?_;refine thn (hb pins s1 σ H1 _ I1 q1) fun u s2 ⟨y,H2,I2,r2,q2⟩=>?_;exact hf v u s2 x y H2 I2 r1 r2 q2
theorem pe_op {op:Operator} {r:R2} (ho:OpR X (binaryOp op) r) (ha:PE X a ta) (hb:PE X b tb):PE X (.BinOp a op b pos) (tOp r ta tb):=by
 intro pins s σ H Q I h;exact wpAny_BinOp (binT ha hb I h fun v u s2 x y H2 I2 rx ry q=>ho pins s2 σ H2 x y v u Q I2 rx ry q)
theorem pe_un {op:UnaryOp} {r:V->Hp->VK->Prop} (ho:UnR X (unaryOp op) r) (ha:PE X a ta):PE X (.UnaryOp op a pos) (tUn r ta):=by
 intro pins s σ H Q I h;exact UnaryOp_ (thn (ha pins s σ H _ I h) fun v s1 ⟨x,H1,I1,r1,q1⟩=>ho pins s1 σ H1 x v Q I1 r1 q1)
theorem opI {f:Value->Value->Sem Value} {C:Int->Int->Prop} {g:Int->Int->Int}
  (rule:∀ (i j:Int) (t u:Tok) (s:Shared) (Q:Value->Shared->Prop) (E:Value->Shared->Prop),C i j->Q (.int (g i j) s.toks) { s with toks:=s.toks+1 }->wpAny (model X.prog X.w) X.A (f (.int i t) (.int j u)) Q E s) :
  OpR X f (rI C fun i j=>.int (g i j)):=by
 intro pins s σ H x y v u Q I rx ry h;obtain ⟨i,j,rfl,rfl,hc,q⟩:=h;obtain ⟨t,rfl⟩:=rx;obtain ⟨t',rfl⟩:=ry;exact rule i j t t' s _ _ hc ⟨.int (g i j),H,I.tok _,⟨_,rfl⟩,q⟩
theorem opI0 {f:Value->Value->Sem Value} {g:Int->Int->Int}
  (rule:∀ (i j:Int) (t u:Tok) (s:Shared) (Q:Value->Shared->Prop) (E:Value->Shared->Prop),Q (.int (g i j) s.toks) { s with toks:=s.toks+1 }->wpAny (model X.prog X.w) X.A (f (.int i t) (.int j u)) Q E s) :
  OpR X f (rI0 fun i j=>.int (g i j)):=by
 intro pins s σ H x y v u Q I rx ry h;obtain ⟨i,j,rfl,rfl,q⟩:=h;obtain ⟨t,rfl⟩:=rx;obtain ⟨t',rfl⟩:=ry;exact rule i j t t' s _ _ ⟨.int (g i j),H,I.tok _,⟨_,rfl⟩,q⟩
theorem opB0 {f:Value->Value->Sem Value} {g:Int->Int->Bool}
  (rule:∀ (i j:Int) (t u:Tok) (s:Shared) (Q:Value->Shared->Prop) (E:Value->Shared->Prop),Q (.bool (g i j)) s->wpAny (model X.prog X.w) X.A (f (.int i t) (.int j u)) Q E s) :
  OpR X f (rI0 fun i j=>.bl (g i j)):=by
 intro pins s σ H x y v u Q I rx ry h;obtain ⟨i,j,rfl,rfl,q⟩:=h;obtain ⟨t,rfl⟩:=rx;obtain ⟨t',rfl⟩:=ry;exact rule i j t t' s _ _ ⟨.bl (g i j),H,I,rfl,q⟩
def CDiv (i j:Int):Prop:=0<j/\j<1073741824
def CMul (i j:Int):Prop:=(-(2 ^ 64)<i/\i<2 ^ 64)\/(-(2 ^ 64)<j/\j<2 ^ 64)
theorem CMul.ok {i j:Int} (h:CMul i j):IntMulOk i j:=by
 rcases h with ⟨h1,h2⟩ | ⟨h1,h2⟩
 ·exact .of_left (intBits_le_64 h1 h2)
 ·exact .of_right (intBits_le_64 h1 h2)
theorem op_add:OpR X (binaryOp .Add) (rI0 fun i j=>.int (i+j)):=opI0 fun _ _ _ _ _ _ _ q=>add_int q
theorem op_sub:OpR X (binaryOp .Sub) (rI0 fun i j=>.int (i-j)):=opI0 fun _ _ _ _ _ _ _ q=>sub_int q
theorem op_mul:OpR X (binaryOp .Mult) (rI CMul fun i j=>.int (i*j)):=opI fun _ _ _ _ _ _ _ hc q=>mul_int q hc.ok
theorem op_fdiv:OpR X (binaryOp .FloorDiv) (rI CDiv fun i j=>.int (i / j)):=opI fun i j _ _ _ _ _ hc q=>by
 have h1:(0:Int)<j:=hc.1;have h2:j<1073741824:=hc.2;exact floordiv_int (by omega) (by rw [Int.fdiv_eq_ediv_of_nonneg i (by omega)];exact q) (.inl (PyProof.noPylong_small (by omega)))
theorem op_mod:OpR X (binaryOp .Mod) (rI (fun _ j=>0<j) fun i j=>.int (i % j)):=opI fun i j _ _ _ _ _ hc q=>by
 have h1:(0:Int)<j:=hc;exact mod_int' (by omega) (by rw [Int.fmod_eq_emod_of_nonneg i (by omega)];exact q)
theorem unI {f:Value->Sem Value} {g:Int->Int}
  (rule:∀ (i:Int) (t:Tok) (s:Shared) (Q:Value->Shared->Prop) (E:Value->Shared->Prop),Q (.int (g i) s.toks) { s with toks:=s.toks+1 }->wpAny (model X.prog X.w) X.A (f (.int i t)) Q E s) :
  UnR X f (rU fun i=>.int (g i)):=by
 intro pins s σ H x v Q I rx h;obtain ⟨i,rfl,q⟩:=h;obtain ⟨t,rfl⟩:=rx;exact rule i t s _ _ ⟨.int (g i),H,I.tok _,⟨_,rfl⟩,q⟩
theorem un_neg:UnR X (unaryOp .USub) (rU fun i=>.int (-i)):=unI fun _ _ _ _ _ q=>neg_int q
end
section
variable {X:Cx} {a b c:Expr} {ta tb tc:TE} {pos:Pos}
theorem fin_bl {pins:List (Addr×Obj)} {σ:St} {H:Hp} {s:Shared} {Q:VK} {k k':Bool} (I:Inv X pins σ H s) (q:Q (.bl k) H) (e:k=k'):EP X pins σ Q (.bool k') s:=by
 subst e;exact ⟨.bl k,H,I,rfl,q⟩
theorem op_lt:OpR X (compareOp .Lt) (rI0 fun i j=>.bl (decide (i<j))):=opB0 fun _ _ _ _ _ _ _ q=>lt_int q
theorem op_le:OpR X (compareOp .LtE) (rI0 fun i j=>.bl (decide (i<=j))):=opB0 fun _ _ _ _ _ _ _ q=>le_int q
theorem op_gt:OpR X (compareOp .Gt) (rI0 fun i j=>.bl (decide (j<i))):=opB0 fun _ _ _ _ _ _ _ q=>gt_int q
theorem op_ge:OpR X (compareOp .GtE) (rI0 fun i j=>.bl (decide (j<=i))):=opB0 fun _ _ _ _ _ _ _ q=>ge_int q
theorem kY (b:Expr) {op:CmpOp} (h:op≠.In:=by decide) (h2:op≠.NotIn:=by decide):behindInMarks op b=false:=by
 have e1:(op==CmpOp.In)=false:=by cases op <;> first | rfl | exact absurd rfl h
 have e2:(op==CmpOp.NotIn)=false:=by cases op <;> first | rfl | exact absurd rfl h2
 cases b <;> simp [behindInMarks,e1,e2]
theorem pe_cmpR {op:CmpOp} {r:R2} (ho:OpR X (compareOp op) r) (ha:PE X a ta) (hb:PE X b tb) (hm:behindInMarks op b=false):PE X (.Compare a [op] [b] pos) (tOp r ta tb):=by
 intro pins s σ H Q I h;exact wpAny_Compare1 (binT ha hb I h fun v u s2 x y H2 I2 rx ry q=>ho pins s2 σ H2 x y v u Q I2 rx ry q) hm
def tTest (t:TE):TT:=fun σ H Q=>t σ H fun x H'=>∃ k,x=.bl k/\Q k H'
theorem pt_cmpR {op:CmpOp} {r:R2} (ho:OpR X (compareOp op) r) (ha:PE X a ta) (hb:PE X b tb) (hm:behindInMarks op b=false):PT X (.Compare a [op] [b] pos) (tTest (tOp r ta tb)):=by
 intro pins s σ H Q I h;refine wpAny_isTrue_Compare1 (thn (ha pins s σ H _ I h) fun v s1 ⟨x,H1,I1,r1,q1⟩=>thn (hb pins s1 σ H1 _ I1 q1) fun u s2 ⟨y,H2,I2,r2,q2⟩=>
  thn (ho pins s2 σ H2 x y v u _ I2 r1 r2 q2) fun c s3 ⟨z,H3,I3,r3,k,e,q3⟩=>?_) hm
 subst e;cases r3;exact wpAny_truthy_bool ⟨H3,I3,q3⟩
noncomputable def tChain (r r':R2) (ta tb tc:TE):TE:=fun σ H Q=>ta σ H fun x H1=>tb σ H1 fun y H2=>r x y H2 fun z H3=>∃ k,z=.bl k/\
 (if k=true then tc σ H3 fun w' H4=>r' y w' H4 Q else Q (.bl false) H3)
theorem pe_chain {op uI:CmpOp} {r r':R2} (ho:OpR X (compareOp op) r) (uC:OpR X (compareOp uI) r') (ha:PE X a ta) (hb:PE X b tb) (hc:PE X c tc)
  (hm:lastMarks [op,uI] [b,c]=false:=by with_unfolding_all rfl):PE X (.Compare a [op,uI] [b,c] pos) (tChain r r' ta tb tc):=by
 intro pins s σ H Q I h;refine Compare_chain (thn (ha pins s σ H _ I h) fun v s1 ⟨x,H1,I1,r1,q1⟩=>chain_link (thn (hb pins s1 σ H1 _ I1 q1) fun u s2 ⟨y,H2,I2,r2,q2⟩=>
  thn (ho pins s2 σ H2 x y v u _ I2 r1 r2 q2) fun d s3 ⟨z,H3,I3,r3,k,e,q3⟩=>?_)) hm
 subst e;cases r3;refine wpAny_truthy_bool ?_;cases k with
 | false=>exact ite_ff ⟨.bl false,H3,I3,rfl,q3⟩
 | true=>exact ite_tt (chain_last (thn (hc pins s3 σ H3 _ I3 q3) fun w' s4 ⟨z',H4,I4,r4,q4⟩=>uC pins s4 σ H4 y z' u w' Q I4 r2 r4 q4))
theorem pt_chain {op uI:CmpOp} {r r':R2} (ho:OpR X (compareOp op) r) (uC:OpR X (compareOp uI) r') (ha:PE X a ta) (hb:PE X b tb) (hc:PE X c tc)
  (hm:lastMarks [op,uI] [b,c]=false:=by with_unfolding_all rfl):PT X (.Compare a [op,uI] [b,c] pos) (tTest (tChain r r' ta tb tc)):=by
 intro pins s σ H Q I h;refine isTrue_chain (thn (ha pins s σ H _ I h) fun v s1 ⟨x,H1,I1,r1,q1⟩=>test_link (thn (hb pins s1 σ H1 _ I1 q1) fun u s2 ⟨y,H2,I2,r2,q2⟩=>
  thn (ho pins s2 σ H2 x y v u _ I2 r1 r2 q2) fun d s3 ⟨z,H3,I3,r3,k,e,q3⟩=>?_)) hm
 subst e;cases r3;refine wpAny_truthy_bool ?_;cases k with
 | false=>
  obtain ⟨k',e',q'⟩:=q3;cases e';exact ite_ff ⟨H3,I3,q'⟩
 | true=>
  refine ite_tt (test_last (thn (hc pins s3 σ H3 _ I3 q3) fun w' s4 ⟨z',H4,I4,r4,q4⟩=>thn (uC pins s4 σ H4 y z' u w' _ I4 r2 r4 q4) fun d' s5 ⟨z2,H5,I5,r5,k2,e2,q5⟩=>?_));subst e2;cases r5;exact wpAny_truthy_bool ⟨H5,I5,q5⟩
theorem pK:(sizeLine:Nat)<2 ^ 63:=by rw [sizeLine_eq];decide
theorem sD:OpR X (binaryOp .Add) (fun x y H Q=>∃ i j,x=.str i/\y=.str j/\i.length+j.length<=sizeLine/\Q (.str (i++j)) H):=by
 intro pins s σ H x y v u Q I rx ry h;obtain ⟨i,j,rfl,rfl,hz,q⟩:=h;obtain ⟨t,rfl⟩:=rx;obtain ⟨t',rfl⟩:=ry;exact add_str (fun t' tk=>⟨.str (i++j),H,I.tok _,⟨_,rfl⟩,q⟩) hz
theorem vals1 {x:V} {us:List Value} (r:aT [x] us):∃ u,us=[u]/\RelV x u:=by
 cases r with
 | cons r1 r2=>cases r2;exact ⟨_,rfl,r1⟩
theorem vals2 {x y:V} {us:List Value} (r:aT [x,y] us):∃ u w',us=[u,w']/\RelV x u/\RelV y w':=by
 cases r with
 | cons r1 r2=>
  cases r2 with
  | cons r3 r4=>cases r4;exact ⟨_,_,rfl,r1,r3⟩
theorem call_max2 (hc:X.calm=true):cJ X (.builtin "max") (fun xs H Q=>∃ i j,xs=[.int i,.int j]/\Q (.int (if j>i then j else i)) H):=by
 intro pins s σ H xs us Q I r h;obtain ⟨i,j,rfl,q⟩:=h;obtain ⟨u,w',rfl,⟨t,rfl⟩,⟨t',rfl⟩⟩:=vals2 r;refine max_two_ints (I.ok.hd hc) fun h' tk k=>⟨_,H,I.kept k,?_,q⟩;by_cases hj:j>i
 ·rw [if_pos hj,if_pos hj];exact ⟨_,rfl⟩
 ·rw [if_neg hj,if_neg hj];exact ⟨_,rfl⟩
theorem call_min2 (hc:X.calm=true):cJ X (.builtin "min") (fun xs H Q=>∃ i j,xs=[.int i,.int j]/\Q (.int (if j<i then j else i)) H):=by
 intro pins s σ H xs us Q I r h;obtain ⟨i,j,rfl,q⟩:=h;obtain ⟨u,w',rfl,⟨t,rfl⟩,⟨t',rfl⟩⟩:=vals2 r;refine min_two_ints (I.ok.hd hc) fun h' tk k=>⟨_,H,I.kept k,?_,q⟩;by_cases hj:j<i
 ·rw [if_pos hj,if_pos hj];exact ⟨_,rfl⟩
 ·rw [if_neg hj,if_neg hj];exact ⟨_,rfl⟩
end
structure ObjM (h:Heap) (x dx C:Addr) (mA:Str->Option Value):Prop where
 obj:h.get? x=some (instObj C dx)
 ns:h.Ns1 dx mA
 ne:dx≠x
theorem lookIn_ns {h:Heap} {dx:Addr} {mA:Str->Option Value} (n:h.Ns1 dx mA):∃ od,h.get? dx=some od/\∀ name,lookIn name od=some (mA name):=by
 obtain ⟨o,es,ep,ho,hd,hk,_,hm⟩:=n;refine ⟨o,ho,fun name=>?_⟩;have e:=hm name;unfold nsFind findBy at e;rw [<-Array.find?_toList] at e;unfold lookIn;rw [hd];dsimp only;split
 ·rename_i y q;rw [q] at e;exact congrArg some e
 ·rename_i q;rw [q] at e;have a:es.toList.any (·.refKey)=false:=by
   rw [List.any_eq_false];intro y hy;obtain ⟨z,t,hkey⟩:=hk y (Array.mem_toList_iff.mp hy);simp [DictEntry.refKey,hkey]
  have a':¬es.toList.any (·.refKey)=true:=by rw [a];exact zK
  rw [if_neg a'];exact congrArg some e
theorem ObjM.look {h:Heap} {x dx C:Addr} {mA:Str->Option Value} (I:ObjM h x dx C mA):∃ od,InstAt h x (instObj C dx) C (some od)/\∀ name,lookIn name od=some (mA name):=
 let ⟨od,ho,hl⟩:=lookIn_ns I.ns
 ⟨od,⟨I.obj,rfl,rfl,ho⟩,hl⟩
section
variable {prog:Program} {w:World} {A:Around} {E:Value->Shared->Prop} {s:Shared} {K:Frag} {x dx C f:Addr} {mA:Str->Option Value} {name:Str} {v:Value}
theorem get_map {expr:Bool} {Q:Value->Shared->Prop} (X:K.In s.heap) (I:ObjM s.heap x dx C mA) (hg:plainGet K C name=true) (hh:hasDictIn K C=true)
  (ha:findIn K (.ref C) name=some none) (hv:mA name=some v) (wK:handedIn v=true) (h:Q v { s with toks:=s.toks+1 }) :
  wpAny (model prog w) A (getAttr (.ref x) name expr) Q E s:=by
 obtain ⟨od,J,hl⟩:=I.look;exact PySem.W.get_value X J (plainGet_of hg).1 (PySem.W.findObj_own hh ha rfl (by rw [hl,hv])) wK h
theorem get_meth {pl:Sem Bool} {Q:Value×List Value->Shared->Prop} (X:K.In s.heap) (I:ObjM s.heap x dx C mA) (hg:plainGet K C name=true)
  (hf:findIn K (.ref C) name=some (some (.ref f))) (ht:isFn K (.ref f)=true) (hv:mA name=none) (h:Q (.ref f,[.ref x]) s) :
  wpAny (model prog w) A (getMethod (.ref x) name pl) Q E s:=by
 obtain ⟨od,J,hl⟩:=I.look;exact PySem.W.method_fn X J (plainGet_of hg).1 (plainGet_of hg).2 hf (beq_iff_eq.mp ht) (by show (lookIn name od).map (·.isSome)=some false;rw [hl,hv];rfl) h
theorem set_map {ns:List Str} {Q:Unit->Shared->Prop} (X:K.In s.heap) (I:ObjM s.heap x dx C mA)
  (hs:findIn K (.ref C) "__setattr__" = some (some (.builtin "object.__setattr__"))) (hp:plainOver K C=true) (ht:takerIn K C name=some none) (hh:hasDictIn K C=true)
  (hw:PySem.Within mA ns) (uQ:ns.length<=sizeLine)
  (h:∀ h',ObjM h' x dx C (fun y=>if y=name then some v else mA y)->Heap.SameBut dx s.heap h'->Q () { s with heap:=h',toks:=s.toks+2 }) :
  wpAny (model prog w) A (setAttr (.ref x) name v) Q E s:=by
 obtain ⟨od,J,hl⟩:=I.look;refine PySem.W.set_plain X J hs (PySem.W.osa_open (s:={ s with toks:=s.toks+1 }) (r:=none) X J hp ht fun b=>?_);obtain ⟨cd,hc,hd'⟩:=PySem.W.any_some hh;have hx:s.heap.get? x=some ⟨.ref C,some dx,.plain,#[]⟩:=I.obj;refine ub (uc (ub (ub (wpAny_loadPart hx (ub (PySem.W.Looks.here (s:={ s with toks:=s.toks+1 }) (PySem.W.looks_clsIn X hc) ?_))))));rw [hd'];refine uc (a:=some dx) (ub (uc (ub ?_)));refine wpAny_nsSet1 (s:={ s with toks:=s.toks+1 }) I.ns fun h' xc uF=>?_;obtain ⟨oD,esD,epD,hoD,hdD,hcD⟩:=xc.count (PySem.Within.cons name v hw);refine ub (wpAny_lookBehind hoD (by rw [hdD];exact pastItsLine_dict (zN hcD (by rw [zQ];omega))) ?_);exact uc (h _ ⟨(uF.2 _ (Ne.symm I.ne)).trans I.obj,xc,I.ne⟩ uF)
theorem make_map {R:Result->Shared->Prop} {vs:List Value} {kw:List (Str×Value)} (X:K.In s.heap) (hm:makesIn K C=true)
  (hi:findIn K (.ref C) "__init__" = some (some (.ref f))) (hf:typeIn K (.ref f)=some (.type "function"))
  (h:codeAny (model prog w) (A.under (.builtin "type.__call__" ⟨.ref C::vs,kw⟩)) (.call (.ref f) ⟨.ref (s.heap.objs.size+1)::vs,kw⟩) (PySem.W.InitBack (s.heap.objs.size+1) R)
   { s with heap:=(s.heap.push emptyDict).push (instObj C s.heap.objs.size) }) :
  codeAny (model prog w) A (.call (.ref C) ⟨vs,kw⟩) R s:=by
 obtain ⟨hh,g,d,t,os⟩:=s;exact PySem.W.make_core (PySem.W.makes_of X hm) (PySem.W.looks_findIn X hi) (fun self=>PySem.W.bind_fn X self hf) (.inl rfl) h
end
noncomputable def iC (f:Str) (v:V):List (Str×V)->List (Str×V)
  | []=>[(f,v)]
  | (g,x)::r=>if g=f then (g,v)::r else (g,x)::iC f v r
theorem lG (f g:Str) (v:V):∀ fs:List (Str×V),(iC f v fs).lookup g=if g=f then some v else fs.lookup g
  | []=>by
    show List.lookup g [(f,v)]=_;by_cases h:g=f
    . have hb:(g==f)=true:=beq_iff_eq.mpr h
      simp only [List.lookup,hb,if_pos h]
    . have hb:(g==f)=false:=beq_eq_false_iff_ne.mpr h
      simp only [List.lookup,hb,if_neg h]
  | (k,x)::r=>by
    have ih:=lG f g v r;rw [show iC f v ((k,x)::r)=(if k=f then (k,v)::r else (k,x)::iC f v r) from rfl];by_cases hk:k=f
    . rw [if_pos hk]
      by_cases h:g=k
      . have hb:(g==k)=true:=beq_iff_eq.mpr h
        simp only [List.lookup,hb,if_pos (h.trans hk)]
      . have hb:(g==k)=false:=beq_eq_false_iff_ne.mpr h
        simp only [List.lookup,hb,if_neg (fun e:g=f=>h (e.trans hk.symm))]
    . rw [if_neg hk]
      by_cases h:g=k
      . have hb:(g==k)=true:=beq_iff_eq.mpr h
        simp only [List.lookup,hb,if_neg (fun e:g=f=>hk (h.symm.trans e))]
      . have hb:(g==k)=false:=beq_eq_false_iff_ne.mpr h
        simp only [List.lookup,hb];exact ih
theorem kZ (f:Str) (v:V):∀ fs:List (Str×V),f∈(iC f v fs).map (·.1)/\∀ g,g∈fs.map (·.1)->g∈(iC f v fs).map (·.1)
  | []=>⟨by simp [iC],fun g h=>by simp at h⟩
  | (k,x)::r=>by
    obtain ⟨i1,i2⟩:=kZ f v r;rw [show iC f v ((k,x)::r)=(if k=f then (k,v)::r else (k,x)::iC f v r) from rfl];by_cases hk:k=f
    . rw [if_pos hk]
      subst hk;exact ⟨by simp,fun g h=>by simpa using h⟩
    . rw [if_neg hk]
      refine ⟨?_,fun g h=>?_⟩
      . rw [zb]
        exact uf _ i1
      . rw [zb] at h ⊢
        rcases zj.mp h with e | e
        . exact zj.mpr (.inl e)
        . exact uf _ (i2 g e)
theorem lH (f:Str) (v:V):∀ fs:List (Str×V),(iC f v fs).length<=fs.length+1
  | []=>by simp [iC]
  | (k,x)::r=>by
    have ih:=lH f v r;rw [show iC f v ((k,x)::r)=(if k=f then (k,v)::r else (k,x)::iC f v r) from rfl];by_cases hk:k=f
    . rw [if_pos hk,zQ,zQ];omega
    . rw [if_neg hk,zQ,zQ];omega
theorem RelO.some_of {v:V} {o:Option Value} (r:RelO (some v) o):∃ u,o=some u/\RelV v u:=by
 cases o with
 | none=>exact (show False from r).elim
 | some u=>exact ⟨u,rfl,r⟩
theorem RelO.none_of {o:Option Value} (r:RelO none o):o=none:=by
 cases o with
 | none=>rfl
 | some u=>exact (show False from r).elim
theorem handed_of {v:V} {u:Value} (r:RelV v u):handedIn u=true:=by
 cases v with
 | non=>cases (show u=Value.none from r);rfl
 | bl b=>cases (show u=Value.bool b from r);rfl
 | int i=>obtain ⟨t,e⟩:=(show ∃ t,u=Value.int i t from r);cases e;rfl
 | str x=>obtain ⟨t,e⟩:=(show ∃ t,u=Value.str x t from r);cases e;rfl
 | byt b=>obtain ⟨t,e⟩:=(show ∃ t,u=Value.bytes b t from r);cases e;rfl
 | flt b=>obtain ⟨t,e⟩:=(show ∃ t,u=Value.float b t from r);cases e;rfl
 | ref a=>cases (show u=Value.ref a from r);rfl
 | ty n=>cases (show u=Value.type n from r);rfl
section
variable {P:Program} {w:World} {H H':Hp} {h h':Heap} {a C dx:Addr} {fs fs':List (Str×V)}
theorem mv (hok:HOk P w H h) (e:H a=some (.ins C dx fs)):∃ mA,ObjM h a dx C mA/\(∀ f,RelO (fs.lookup f) (mA f))/\PySem.Within mA (fs.map (·.1))/\fs.length<=1000/\H dx=some (.own a):=by
 obtain ⟨d,z,ne,ob,mA,n,r,q⟩:=(show cI P w H h a (.ins C dx fs) from hok a _ e);exact ⟨mA,⟨ob,n,ne⟩,r,q,z,d⟩
end
structure Cls (K:Frag) (C:Addr):Prop where
 pg:plainGet K C Str.empty=true
 hd:hasDictIn K C=true
 po:plainOver K C=true
 sa:findIn K (.ref C) "__setattr__" = some (some (.builtin "object.__setattr__"))
theorem Cls.get {K:Frag} {C:Addr} (c:Cls K C) (f:Str):plainGet K C f=true:=c.pg
def NoAttr (K:Frag) (C:Addr) (f:Str):Prop:=findIn K (.ref C) f=some none
theorem NoAttr.taker {K:Frag} {C:Addr} {f:Str} (n:NoAttr K C f):takerIn K C f=some none:=by
 unfold takerIn;rw [show findIn K (.ref C) f=some none from n];rfl
structure Meth (K:Frag) (C:Addr) (m:Str) (f:Addr):Prop where
 at_:findIn K (.ref C) m=some (some (.ref f))
 fn:isFn K (.ref f)=true
 kp:keepIn K (.ref f)=true
section
variable {X:Cx} {pins:List (Addr×Obj)} {σ:St} {H:Hp} {s:Shared} {a C dx:Addr} {fs:List (Str×V)} {f:Str} {v:V} {A:Around} {E:Value->Shared->Prop}
theorem sE {b:Bool} {Q:Value->Shared->Prop} (I:Inv X pins σ H s) (e:H a=some (.ins C dx fs)) (c:Cls X.K C) (n:NoAttr X.K C f) (l:fs.lookup f=some v)
  (h:∀ u s',Inv X pins σ H s'->RelV v u->Q u s'):wpAny (model X.prog X.w) A (getAttr (.ref a) f b) Q E s:=by
 obtain ⟨mA,O,r,_,_,_⟩:=mv I.hok e;obtain ⟨u,hu,ru⟩:=RelO.some_of (v:=v) (o:=mA f) (by rw [<-l];exact r f);exact get_map I.kIn O (c.get f) c.hd n hu (handed_of ru) (h u _ (I.tok _) ru)
theorem jL {m:Str} {g:Addr} {pl:Sem Bool} {Q:Value×List Value->Shared->Prop} (I:Inv X pins σ H s) (e:H a=some (.ins C dx fs)) (c:Cls X.K C) (k:Meth X.K C m g) (l:fs.lookup m=none)
  (h:Q (.ref g,[.ref a]) s):wpAny (model X.prog X.w) A (getMethod (.ref a) m pl) Q E s:=by
 obtain ⟨mA,O,r,_,_,_⟩:=mv I.hok e;have hn:mA m=none:=RelO.none_of (by rw [<-l];exact r m);exact get_meth I.kIn O (c.get m) k.at_ k.fn hn h
theorem sF {y:V} {u:Value} {Q:Unit->Shared->Prop} (I:Inv X pins σ H s) (e:H a=some (.ins C dx fs)) (c:Cls X.K C) (n:NoAttr X.K C f) (hl:fs.length<1000) (ry:RelV y u)
  (h:∀ s',Inv X pins σ (upd H a (.ins C dx (iC f y fs))) s'->Q () s'):wpAny (model X.prog X.w) A (setAttr (.ref a) f u) Q E s:=by
 obtain ⟨mA,O,r,wi,_,ho⟩:=mv I.hok e;have hz:(fs.map (·.1)).length<=sizeLine:=by rw [uk,sizeLine_eq];omega
 refine set_map I.kIn O c.sa c.po n.taker c.hd wi hz fun h' O' sb=>h _ ?_;have hd:∃ o,h'.get? dx=some o:=let ⟨o,_,_,e',_⟩:=O'.ns;⟨o,e'⟩;refine I.write (x:=a) (e:=dx) (by rw [e];exact True.intro) (.inr ho) (fun b q hb z=>(sb.2 b hb).trans z) hd ?_;refine ⟨by rw [av O.ne];exact ho,?_,O.ne,O'.obj,_,O'.ns,fun g=>?_,fun g hg=>?_⟩
 ·have:=lH f y fs;omega
 ·show RelO ((iC f y fs).lookup g) (if g=f then some u else mA g);rw [lG];by_cases q:g=f
  ·rw [if_pos q,if_pos q];exact ry
  ·rw [if_neg q,if_neg q];exact r g
 ·by_cases q:g=f
  ·rw [q];exact (kZ f y fs).1
  ·refine (kZ f y fs).2 g (wi g fun z=>hg ?_);show (if g=f then some u else mA g)=none;rw [if_neg q];exact z
theorem Inv.made (I:Inv X pins σ H s):Inv X pins σ (upd (upd H s.heap.objs.size (.own (s.heap.objs.size+1))) (s.heap.objs.size+1) (.ins C s.heap.objs.size []))
  { s with heap:=(s.heap.push emptyDict).push (instObj C s.heap.objs.size) }:=by
 have e1:(s.heap.push emptyDict).get? s.heap.objs.size=some emptyDict:=zg s.heap rfl;have e2:((s.heap.push emptyDict).push (instObj C s.heap.objs.size)).get? (s.heap.objs.size+1)=some (instObj C s.heap.objs.size):=by
  have:=zg (s.heap.push emptyDict) (o:=instObj C s.heap.objs.size) rfl;rwa [Heap.size_push] at this
 have e3:(s.heap.push emptyDict).Ns s.heap.objs.size (fun _=>none):=⟨emptyDict,#[],_,e1,rfl,(fun e he=>absurd he (by simp)),fun _=>rfl⟩;have I1:=I.laid (a:=s.heap.objs.size) (o:=.own (s.heap.objs.size+1)) (h':=s.heap.push emptyDict) (t':=s.toks) (fun b u q=>yV _ q) (zp _) ⟨_,e1⟩;refine I1.laid (a:=s.heap.objs.size+1) (o:=.ins C s.heap.objs.size []) (t':=s.toks) (fun b u q=>yV _ q) (Nat.le_of_eq (Heap.size_push _ _)) ?_;have ne:s.heap.objs.size≠s.heap.objs.size+1:=zJ (Nat.lt_succ_self _);refine ⟨by rw [av ne,aw],Ad _,ne,e2,fun _=>none,(Heap.Ns1.of_empty e3).at fun o q=>yV _ q,fun _=>True.intro,fun y hy=>absurd rfl hy⟩
theorem attr_of {prog:Program} {w:World} {env:Env} {e:Expr} {f:Str} {pos:Pos} {s:Shared} {Q:Value->Shared->Prop} (hb:attributeBase e f env (eval e env)=eval e env)
  (h:wpAny (model prog w) A (eval e env) (fun o tM=>wpAny (model prog w) A (getAttr o f true) Q E tM) E s):wpAny (model prog w) A (eval (.Attribute e f pos) env) Q E s:=
 Attribute_any_ h (by rw [arm_eval_Attribute,hb])
end
noncomputable def tFld (K:Frag) (ta:TE) (f:Str):TE:=fun σ H Q=>ta σ H fun x H1=>∃ a C dx fs v,x=.ref a/\H1 a=some (.ins C dx fs)/\Cls K C/\NoAttr K C f/\fs.lookup f=some v/\Q v H1
noncomputable def sFld (K:Frag) (ta tv:TE) (f:Str):TS:=fun D σ H=>tv σ H fun y H1=>ta σ H1 fun x H2=>∃ a C dx fs,x=.ref a/\H2 a=some (.ins C dx fs)/\Cls K C/\NoAttr K C f/\fs.length<1000/\
 D.nx σ (upd H2 a (.ins C dx (iC f y fs)))
section
variable {X:Cx} {o e value:Expr} {f:Str} {pos pos' tpos:Pos} {ta tv:TE}
theorem pe_fld (he:PE X e ta) (hb:attributeBase e f X.env (eval e X.env)=eval e X.env):PE X (.Attribute e f pos) (tFld X.K ta f):=by
 intro pins s σ H Q I h;refine attr_of hb (thn (he pins s σ H _ I h) fun u s1 ⟨x,H1,I1,rx,a,C,dx,fs,v,ex,ea,c,n,l,q⟩=>?_);subst ex;obtain rfl:u=Value.ref a:=rx;exact sE I1 ea c n l fun u' s2 I2 ru=>⟨v,H1,I2,ru,q⟩
theorem ps_fld (ha:PE X o ta) (hv:PE X value tv) (hs:swapsWith value (some (.Attribute o f pos')) pos.line X.env=pure false):PS X (.Assign [.Attribute o f pos'] value pos) (sFld X.K ta tv f):=by
 intro pins s σ H D I h;refine plainObj_wpAny_Assign_Attribute (thn (hv pins s σ H _ I h) fun u s1 ⟨y,H1,I1,ry,q⟩=>thn (ha pins s1 σ H1 _ I1 q) fun ov s2 ⟨x,H2,I2,rx,a,C,dx,fs,ex,ea,c,n,l,q2⟩=>?_) hs;subst ex;obtain rfl:ov=Value.ref a:=rx;exact sF I2 ea c n l ry fun s3 I3=>⟨σ,_,I3,q2⟩
theorem methcall_of {pl:Sem Bool} {m:Str} {apos:Pos} {args:List Expr} {pins:List (Addr×Obj)} {s:Shared} {σ:St} {H:Hp} {Q:Value->Shared->Prop} {te:TE} (he:PE X e te) (I:Inv X pins σ H s)
  (h:te σ H fun x H1=>∃ a C dx fs g,x=.ref a/\H1 a=some (.ins C dx fs)/\Cls X.K C/\Meth X.K C m g/\fs.lookup m=none/\
   ∀ s1,Inv X pins σ H1 s1->wpAny (model X.prog X.w) X.A (callWith pos (.ref g) [.ref a] (backTo pos (starEach args X.env)) (backToKw pos (keywordEach [] X.env))) Q X.xe s1)
  (ht:eval (.Call (.Attribute e m apos) args [] pos) X.env=(do
   let ov <-eval e X.env
   standAt apos.atName
   let (f,first) <-holding [ov] (getMethod ov m pl)
   callWith pos f first (backTo pos (starEach args X.env)) (backToKw pos (keywordEach [] X.env)))) :
  wpAny (model X.prog X.w) X.A (eval (.Call (.Attribute e m apos) args [] pos) X.env) Q X.xe s:=by
 refine methodCall_KW (pl:=pl) (thn (he pins s σ H _ I h) fun u s1 ⟨x,H1,I1,rx,a,C,dx,fs,g,ex,ea,c,k,l,q⟩=>?_) ht;subst ex;obtain rfl:u=Value.ref a:=rx;exact jL I1 ea c k l (q s1 I1)
end
section
variable {X:Cx} {pins:List (Addr×Obj)} {σ:St} {H:Hp} {s:Shared} {A:Around} {E:Value->Shared->Prop} {Q:Value->Shared->Prop} {c:Value} {b:Bool}
inductive j9 (K:Frag) (H:Hp):V->Value->Prop where
 | non:j9 K H .non (.type "NoneType")
 | bl (x:Bool):j9 K H (.bl x) (.type "bool")
 | int (i:Int):j9 K H (.int i) (.type "int")
 | str (x:Str):j9 K H (.str x) (.type "str")
 | flt (x:UInt64):j9 K H (.flt x) (.type "float")
 | lst {a:Addr} {xs:List V} (e:H a=some (.lst xs)):j9 K H (.ref a) (.type "list")
 | frz {a:Addr} {o:Obj} {xs:List V} (e:H a=some (.frz o (.lst xs))):j9 K H (.ref a) (.type "list")
 | tup {a:Addr} {xs:List V} (e:H a=some (.tup xs)):j9 K H (.ref a) (.type "tuple")
 | dK {a:Addr} {uD:List (Key×V)} (e:H a=some (.dK uD)):j9 K H (.ref a) (.type "dict")
 | dT {a:Addr} {uD:List (List Key×V)} (e:H a=some (.dT uD)):j9 K H (.ref a) (.type "dict")
 | ins {a C dx:Addr} {fs:List (Str×V)} (e:H a=some (.ins C dx fs)) (cl:Cls K C) (ha:findIn K (.ref C) "__class__" = some (some (.builtin "object.__class__")))
  (hn:specialIn K (.builtin "object.__class__") "__get__" = some (some (.builtin "getset_descriptor.__get__"))) (yp:takesIn K (.builtin "object.__class__")=some true)
  (hm:mroIn K C (.type "object")=some true):j9 K H (.ref a) (.ref C)
theorem isinst_ok {x:V} {u t:Value} (I:Inv X pins σ H s) (rx:RelV x u) (ty:j9 X.K H x t) (e:kitOne X.K t c=some b) (h:∀ tk,Q (.bool b) { s with toks:=tk }) :
  wpAny (model X.prog X.w) A (call (.builtin "isinstance") [u,c]) Q E s:=by
 cases ty with
 | non=>cases (show u=Value.none from rx);exact kia_one PySem.W.kitx_none I.kIn True.intro e (fun z=>nomatch z) h
 | bl y=>cases (show u=Value.bool y from rx);exact kia_one PySem.W.kitx_bool I.kIn True.intro e (fun z=>nomatch z) h
 | int i=>obtain ⟨t,q⟩:=(show ∃ t,u=Value.int i t from rx);cases q;exact kia_one PySem.W.kitx_int I.kIn True.intro e (fun z=>nomatch z) h
 | str y=>obtain ⟨t,q⟩:=(show ∃ t,u=Value.str y t from rx);cases q;exact kia_one PySem.W.kitx_str I.kIn True.intro e (fun z=>nomatch z) h
 | flt y=>obtain ⟨t,q⟩:=(show ∃ t,u=Value.float y t from rx);cases q;exact kia_one PySem.W.kitx_float I.kIn True.intro e (fun z=>nomatch z) h
 | @lst a xs ea=>
  cases (show u=Value.ref a from rx);obtain ⟨_,_,n,_,h1⟩:=(show cI X.prog X.w H s.heap a (.lst xs) from I.hok a _ ea);exact kia_one kitx_list I.kIn ⟨_,h1,rfl⟩ e (fun z=>nomatch z) h
 | @frz a ob xs ea=>
  cases (show u=Value.ref a from rx);obtain ⟨_,_,_,n,_,h1⟩:=(show cI X.prog X.w H s.heap a (.frz ob (.lst xs)) from I.hok a _ ea);exact kia_one kitx_list I.kIn ⟨_,h1,rfl⟩ e (fun z=>nomatch z) h
 | @tup a xs ea=>
  cases (show u=Value.ref a from rx);obtain ⟨_,_,_,p⟩:=(show cI X.prog X.w H s.heap a (.tup xs) from I.hok a _ ea);obtain ⟨o,h1,h2,_⟩:=p;exact kia_one PySem.W.kitx_tuple I.kIn ⟨o,h1,h2⟩ e (fun z=>nomatch z) h
 | @dK a uD ea=>
  cases (show u=Value.ref a from rx);obtain ⟨_,_,vs,_,p⟩:=(show cI X.prog X.w H s.heap a (.dK uD) from I.hok a _ ea);obtain ⟨o,es,ep,h1,h2,_⟩:=p;exact kia_one kitx_dict I.kIn ⟨o,h1,h2.1⟩ e (fun z=>nomatch z) h
 | @dT a uD ea=>
  cases (show u=Value.ref a from rx);obtain ⟨_,_,xs,_,o,es,ep,h1,h2,_⟩:=(show cI X.prog X.w H s.heap a (.dT uD) from I.hok a _ ea);exact kia_one kitx_dict I.kIn ⟨o,h1,h2.1⟩ e (fun z=>nomatch z) h
 | @ins a C dx fs ea cl ha hn yp hm=>
  cases (show u=Value.ref a from rx);obtain ⟨mA,O,_⟩:=mv I.hok ea;obtain ⟨od,J,_⟩:=O.look;exact kia_one (PySem.W.kitx_own (cl.get _) cl.hd ha hn yp hm) I.kIn J e (fun z=>nomatch z) h
end
structure bx (k:Nat) (A:Around):Prop where
 hd:A.handled=none
 dp:A.depth+3*k+5<recursionLimit
 un:A.units+16*k+200<cLine
theorem bx.mono {j k:Nat} {A:Around} (r:bx k A) (h:j<=k):bx j A:=⟨r.hd,by have:=r.dp;omega,by have:=r.un;omega⟩
theorem bx.deeper {k:Nat} {A:Around} (r:bx (k+1) A) (env:Env):bx k (A.deeper env):=
 ⟨r.hd,by have:=r.dp;show A.depth+1+3*k+5<_;omega,by have:=r.un;show A.units+3+16*k+200<_;omega⟩
theorem sG {A:Around} {C:Addr} {us:List Value} {kw:List (Str×Value)}:(A.under (.builtin "type.__call__" ⟨.ref C::us,kw⟩)).depth=A.depth+1:=by
 first | rfl | simp [Around.under,Code.weight,Code.isCreation,Code.isGuard,Code.isCaller,Code.frames,Code.isFrame,guardIds]
theorem sH {A:Around} {C:Addr} {us:List Value} {kw:List (Str×Value)}:(A.under (.builtin "type.__call__" ⟨.ref C::us,kw⟩)).units=A.units+1:=by
 first | rfl | simp [Around.under,Code.cUnits,Code.frames,Code.isFrame]
theorem bx.make {k:Nat} {A:Around} (r:bx (k+1) A) (C:Addr) (us:List Value) (kw:List (Str×Value)):bx k (A.under (.builtin "type.__call__" ⟨.ref C::us,kw⟩)):=
 ⟨r.hd,by have:=r.dp;rw [sG];omega,by have:=r.un;rw [sH];omega⟩
theorem bx.depth {k:Nat} {A:Around} (r:bx k A):A.depth<recursionLimit:=by have:=r.dp;omega
def tNil:TA:=fun _ H Q=>Q [] H
def tCons (ta:TE) (tr:TA):TA:=fun σ H Q=>ta σ H fun x H1=>tr σ H1 fun xs H2=>Q (x::xs) H2
section
variable {X:Cx} {e:Expr} {es:List Expr} {te:TE} {t:TA} {pos:Pos}
theorem dl:PA X [] tNil:=fun _ _ _ _ H Q I h=>Calls.spliced_nil ⟨[],H,I,.nil,h⟩
theorem bO (ha:PE X e te) (hr:PA X es t) (hs:starEach (e::es) X.env=(false,eval e X.env)::starEach es X.env:=by rfl):PA X (e::es) (tCons te t):=by
 intro pos pins s σ H Q I h;rw [hs];show wpAny _ _ (spliced ((false,eval e X.env)::backTo pos (starEach es X.env))) _ _ s;refine Calls.spliced_cons (thn (ha pins s σ H _ I h) fun u s1 ⟨x,H1,I1,r1,q1⟩=>?_);exact thn (hr pos pins s1 σ H1 _ I1 q1) fun us s2 ⟨xs,H2,I2,r2,q2⟩=>⟨x::xs,H2,I2,.cons r1 r2,q2⟩
noncomputable def tTup (t:TA):TE:=fun σ H Q=>t σ H fun xs H1=>xs.length<=sizeLine/\∀ p,H1 p=none->Q (.ref p) (upd H1 p (.tup xs))
noncomputable def tLst (t:TA):TE:=fun σ H Q=>t σ H fun xs H1=>xs.length<=sizeLine/\∀ p,H1 p=none->Q (.ref p) (upd H1 p (.lst xs))
theorem pe_tup {x1} (h:PA X es t):PE X (.Tuple es x1 pos) (tTup t):=by
 intro pins s σ H Q I hq;refine wpAny_Tuple_spliced (thn (h pos pins s σ H _ I hq) fun us s1 ⟨xs,H1,I1,r,z,q⟩=>⟨by rw [<-r.length];exact z,?_⟩);have hf:H1 s1.heap.objs.size=none:=I1.hok.fresh (zp _);refine ⟨.ref s1.heap.objs.size,upd H1 s1.heap.objs.size (.tup xs),I1.laid (t':=s1.toks) (fun b u e=>yV _ e) (zp _) ?_,rfl,q _ hf⟩;exact ⟨z,us,r,⟨_,zg _ rfl,rfl,_,rfl⟩⟩
theorem pe_lst (h:PA X es t):PE X (.List es pos) (tLst t):=by
 intro pins s σ H Q I hq;refine wpAny_List_spliced (thn (h pos pins s σ H _ I hq) fun us s1 ⟨xs,H1,I1,r,z,q⟩=>⟨by rw [<-r.length];exact z,?_⟩);have hf:H1 s1.heap.objs.size=none:=I1.hok.fresh (zp _);refine ⟨.ref s1.heap.objs.size,upd H1 s1.heap.objs.size (.lst xs),I1.laid (t':=s1.toks) (fun b u e=>yV _ e) (zp _) ?_,rfl,q _ hf⟩;exact ⟨z,us,0,r,zg _ rfl⟩
end
abbrev Sp:=List V->Hp->VK->XK->Prop
abbrev CXT:=List Env->Hp->Shared->XK->Value->Shared->Prop
structure Env0 (P:Program) (w:World) (K:Frag) (mg:Str->Option Value) (base:Heap) (A:Around) (outer:List Env) (s:Shared) (H:Hp):Prop where
 frames:A.frames=some outer
 mod:Mod K mg base
 bs:∀ b o,base.get? b=some o->s.heap.get? b=some o/\H b=none
 bsz:base.objs.size<=s.heap.objs.size
 funs:s.heap.FunFrames base outer
 frf:∀ b∈frs outer,H b=none
 hok:HOk P w H s.heap
 bare:AllBare s.gens
noncomputable def CE (outer:List Env) (P:Program) (w:World) (H:Hp) (s:Shared) (Q:VK) (u:Value) (s':Shared):Prop:=
 ∃ v H',s'.os=s.os/\AllBare s'.gens/\Un (frs outer) [] H H' s.heap s'.heap/\HOk P w H' s'.heap/\RelV v u/\Q v H'
noncomputable def CR (CX:CXT) (outer:List Env) (P:Program) (w:World) (H:Hp) (s:Shared) (Q:VK) (E:XK) (r:Result) (s':Shared):Prop:=
 match r with
 | .ok (.ret u)=>CE outer P w H s Q u s'
 | .ok _=>False
 | .error e=>CX outer H s E e s'
structure dJ (P:Program) (w:World) (K:Frag) (mg:Str->Option Value) (base:Heap) (CX:CXT) (k:Nat) (f:Addr) (fd:FuncData) (ps:List Str) (sp:Sp):Prop where
 len:∀ vs H Q E,sp vs H Q E->vs.length=ps.length
 run:∀ (A:Around) (outer:List Env) (s:Shared) (H:Hp) (args:Args) (us:List Value) (vs:List V) (Q:VK) (E:XK),bx k A->Env0 P w K mg base A outer s H->BindsTo s fd args (ps.zip us)->aT vs us->sp vs H Q E->
  codeAny (model P w) A (.call (.ref f) args) (CR CX outer P w H s Q E) s
theorem dJ.imp {P:Program} {w:World} {K:Frag} {mg:Str->Option Value} {base:Heap} {CX:CXT} {k:Nat} {f:Addr} {fd:FuncData} {ps:List Str} {sp sp':Sp} (F:dJ P w K mg base CX k f fd ps sp)
  (h:∀ vs H Q E,sp' vs H Q E->sp vs H Q E):dJ P w K mg base CX k f fd ps sp':=
 ⟨fun vs H Q E q=>F.len vs H Q E (h _ _ _ _ q),fun A outer s H args us vs Q E hr he hb hv hs=>F.run A outer s H args us vs Q E hr he hb hv (h _ _ _ _ hs)⟩
theorem Env0.make {P:Program} {w:World} {K:Frag} {mg:Str->Option Value} {base:Heap} {A:Around} {outer:List Env} {s:Shared} {H:Hp} (e:Env0 P w K mg base A outer s H) (C:Addr) (us:List Value) (kw:List (Str×Value)) :
 Env0 P w K mg base (A.under (.builtin "type.__call__" ⟨.ref C::us,kw⟩)) outer s H:=⟨by first | exact e.frames | (simpa [Around.under,Code.envs,Code.isFrame,pushEnvs] using e.frames),e.mod,e.bs,e.bsz,e.funs,e.frf,e.hok,e.bare⟩
section
variable {X:Cx} {pins:List (Addr×Obj)} {σ:St} {H:Hp} {s s':Shared}
theorem Inv.env0 (I:Inv X pins σ H s):Env0 X.prog X.w X.K X.mg X.base X.A X.stack s H:=
 ⟨I.ok.frames,I.ok.mod,I.bs,zN I.ok.bsz I.sz,I.stack,I.stkFree,I.hok,I.bare⟩
theorem Inv.after {Q:VK} {u:Value} (I:Inv X pins σ H s) (h:CE X.stack X.prog X.w H s Q u s'):EP X pins σ Q u s':=by
 obtain ⟨v,H',os,bare,un,hok,r,q⟩:=h;obtain ⟨hh,g,d,t,os'⟩:=s';obtain rfl:os'=s.os:=os;exact ⟨v,H',I.call (h':=hh) (g':=g) (d':=d) (t':=t) (ch:=[]) un hok bare (fun b z=>absurd z (by simp)),r,q⟩
end
def tCall (sp:Sp) (uS:List V) (E:XK) (t:TA):TE:=fun σ H Q=>t σ H fun vs H1=>sp (vs++uS) H1 Q E
noncomputable def tMeth (C:Addr) (m:Str) (sp:Sp) (uS:List V) (E:XK) (ta:TE) (t:TA):TE:=fun σ H Q=>ta σ H fun x H1=>∃ a dx fs,x=.ref a/\H1 a=some (.ins C dx fs)/\fs.lookup m=none/\
 t σ H1 fun vs H2=>sp (x::(vs++uS)) H2 Q E
noncomputable def tMake (C:Addr) (sp:Sp) (uS:List V) (E:XK) (t:TA):TE:=fun σ H Q=>t σ H fun vs H1=>∀ x dx,H1 x=none->H1 dx=none->dx≠x->
 sp (.ref x::(vs++uS)) (upd (upd H1 dx (.own x)) x (.ins C dx [])) (fun v H2=>v=.non/\Q (.ref x) H2) E
noncomputable def Binds (K:Frag) (fd:FuncData) (ps:List Str) (ds:List Value):Prop:=
 ∀ (s:Shared) (us:List Value),K.In s.heap->(us++ds).length=ps.length->BindsTo s fd ⟨us,[]⟩ (ps.zip (us++ds))
theorem Binds.all {K:Frag} {fd:FuncData} {ps:List Str} (h:∀ us:List Value,us.length=ps.length->bindArgs fd ⟨us,[]⟩=pure (ps.zip us)):Binds K fd ps []:=fun s us _ hl=>by
 rw [List.append_nil] at hl ⊢;exact .of_eq (h us hl)
noncomputable def iE (CX:CXT) (X:Cx) (E:XK):Prop:=∀ (pins:List (Addr×Obj)) (σ:St) (H:Hp) (s:Shared) (e:Value) (s':Shared),Inv X pins σ H s->CX X.stack H s E e s'->X.xe e s'
section
variable {X:Cx} {CX:CXT} {k:Nat} {f C:Addr} {fd:FuncData} {ps:List Str} {sp:Sp} {uS:List V} {ds:List Value} {E:XK} {x m:Str} {p pos apos:Pos} {e o:Expr} {es:List Expr} {ta:TE} {t:TA}
theorem run_fn {pins:List (Addr×Obj)} {σ:St} {H:Hp} {s:Shared} {Q:VK} {us:List Value} {vs:List V} (F:dJ X.prog X.w X.K X.mg X.base CX k f fd ps sp) (hr:bx k X.A) (hb:Binds X.K fd ps ds) (hd:aT uS ds) (hx:iE CX X E)
  (I:Inv X pins σ H s) (r:aT vs us) (h:sp (vs++uS) H Q E):wpAny (model X.prog X.w) X.A (call (.ref f) us) (EP X pins σ Q) X.xe s:=by
 have r2:aT (vs++uS) (us++ds):=r.append hd;have hl:(us++ds).length=ps.length:=by rw [<-r2.length];exact F.len _ _ _ _ h
 refine wpAny_call (codeAny_mono (F.run X.A X.stack s H ⟨us,[]⟩ (us++ds) (vs++uS) Q E hr I.env0 (hb s us I.kIn hl) r2 h) fun r s' hq=>?_);cases r with
 | error e=>exact hx pins σ H s e s' I hq
 | ok fl=>
  cases fl with
  | ret u=>exact I.after hq
  | next=>exact False.elim hq
  | brk=>exact False.elim hq
  | cont=>exact False.elim hq
theorem mw (F:dJ X.prog X.w X.K X.mg X.base CX k f fd ps sp) (hr:bx k X.A) (hg:Gl X x) (hm:X.mg x=some (.ref f)) (hk:keepIn X.K (.ref f)=true) (hb:Binds X.K fd ps ds) (hd:aT uS ds) (hx:iE CX X E)
  (ha:PA X (e::es) t) (vm:(x==("__debug__" : Str))=false:=by decide) (he:starEach (e::es) X.env=(false,eval e X.env)::starEach es X.env:=by rfl) (hpl:(backTo pos (starEach es X.env)).any (·.1)=false:=by rfl) :
  PE X (.Call (.Name x p) (e::es) [] pos) (tCall sp uS E t):=by
 intro pins s σ H Q I h;refine wpAny_Call_Name_kw (i9 I hg hm ?_ vm);refine callWith_K (h₀:=X.base) I.ok.mod.kin hk (thn (ha pos pins s σ H _ I h) fun us s1 ⟨vs,H1,I1,r,q⟩=>⟨I1.kIn,?_⟩) he hpl;exact run_fn F hr hb hd hx I1 r q
theorem pe_meth {pl:Sem Bool} (he:PE X o ta) (c:Cls X.K C) (hm:Meth X.K C m f) (F:dJ X.prog X.w X.K X.mg X.base CX k f fd ps sp) (hr:bx k X.A) (hb:Binds X.K fd ps ds) (hd:aT uS ds) (hx:iE CX X E) (ha:PA X (e::es) t)
  (uh:starEach (e::es) X.env=(false,eval e X.env)::starEach es X.env:=by rfl) (hpl:(backTo pos (starEach es X.env)).any (·.1)=false:=by rfl)
  (ht:eval (.Call (.Attribute o m apos) (e::es) [] pos) X.env=(do
   let ov <-eval o X.env
   standAt apos.atName
   let (f,first) <-holding [ov] (getMethod ov m pl)
   callWith pos f first (backTo pos (starEach (e::es) X.env)) (backToKw pos (keywordEach [] X.env))):=by rfl) :
  PE X (.Call (.Attribute o m apos) (e::es) [] pos) (tMeth C m sp uS E ta t):=by
 intro pins s σ H Q I h;refine methodCall_KW (pl:=pl) (thn (he pins s σ H _ I h) fun u s1 ⟨x,H1,I1,rx,a,dx,fs,ex,ea,l,q⟩=>?_) ht;subst ex;obtain rfl:u=Value.ref a:=rx;refine jL I1 ea c hm l ?_;refine callWith_K (first:=[.ref a]) (h₀:=X.base) I.ok.mod.kin hm.kp (thn (ha pos pins s1 σ H1 _ I1 q) fun us s2 ⟨vs,H2,I2,r,q2⟩=>⟨I2.kIn,?_⟩) uh hpl;exact run_fn (us:=.ref a::us) (vs:=.ref a::vs) F hr hb hd hx I2 (.cons rfl r) q2
theorem pe_meth0 {pl:Sem Bool} (he:PE X o ta) (c:Cls X.K C) (hm:Meth X.K C m f) (F:dJ X.prog X.w X.K X.mg X.base CX k f fd ps sp) (hr:bx k X.A) (hb:Binds X.K fd ps ds) (hd:aT uS ds) (hx:iE CX X E)
  (ht:eval (.Call (.Attribute o m apos) [] [] pos) X.env=(do
   let ov <-eval o X.env
   standAt apos.atName
   let (f,first) <-holding [ov] (getMethod ov m pl)
   callWith pos f first (backTo pos (starEach [] X.env)) (backToKw pos (keywordEach [] X.env))):=by rfl) :
  PE X (.Call (.Attribute o m apos) [] [] pos) (tMeth C m sp uS E ta tNil):=by
 intro pins s σ H Q I h;refine methodCall_KW (pl:=pl) (thn (he pins s σ H _ I h) fun u s1 ⟨x,H1,I1,rx,a,dx,fs,ex,ea,l,q⟩=>?_) ht;subst ex;obtain rfl:u=Value.ref a:=rx;refine jL I1 ea c hm l ?_;exact PySem.W.callWith_K0 (first:=[.ref a]) I1.kIn hm.kp (run_fn (us:=[.ref a]) (vs:=[.ref a]) F hr hb hd hx I1 (.cons rfl .nil) q)
structure Mk (K:Frag) (C f:Addr):Prop where
 makes:makesIn K C=true
 init:findIn K (.ref C) "__init__" = some (some (.ref f))
 fn:isFn K (.ref f)=true
 kp:keepIn K (.ref C)=true
theorem run_make {pins:List (Addr×Obj)} {σ:St} {H:Hp} {s:Shared} {Q:VK} {us:List Value} {vs:List V} (M:Mk X.K C f) (F:dJ X.prog X.w X.K X.mg X.base CX k f fd ps sp) (hr:bx (k+1) X.A) (hb:Binds X.K fd ps ds) (hd:aT uS ds)
  (hx:iE CX X E) (I:Inv X pins σ H s) (r:aT vs us)
  (h:∀ x dx,H x=none->H dx=none->dx≠x->sp (.ref x::(vs++uS)) (upd (upd H dx (.own x)) x (.ins C dx [])) (fun v H2=>v=.non/\Q (.ref x) H2) E) :
  wpAny (model X.prog X.w) X.A (call (.ref C) us) (EP X pins σ Q) X.xe s:=by
 have hq:=h (s.heap.objs.size+1) s.heap.objs.size (I.hok.fresh (Nat.le_succ _)) (I.hok.fresh (zp _)) (zJ (Nat.lt_succ_self _));have I2:=Inv.made (C:=C) I;have r2:aT (V.ref (s.heap.objs.size+1)::(vs++uS)) (Value.ref (s.heap.objs.size+1)::(us++ds)):=.cons rfl (r.append hd);have hl:(Value.ref (s.heap.objs.size+1)::us++ds).length=ps.length:=by
  have e:=r2.length;rw [F.len _ _ _ _ hq] at e;exact e.symm
 refine wpAny_call (make_map (f:=f) I.kIn M.makes M.init (beq_iff_eq.mp M.fn) (codeAny_mono (F.run _ X.stack _ _ ⟨Value.ref (s.heap.objs.size+1)::us,[]⟩ (Value.ref (s.heap.objs.size+1)::(us++ds)) _ _ E (hr.make C us [])
  (I2.env0.make C us []) (hb _ (Value.ref (s.heap.objs.size+1)::us) I2.kIn hl) r2 hq) fun r s' xa=>?_))
 cases r with
 | error e=>exact hx pins σ _ _ e s' I2 xa
 | ok fl=>
  cases fl with
  | ret u=>
   obtain ⟨v,H',I3,rv,ev,q3⟩:=I2.after xa;subst ev;exact ⟨rv,⟨V.ref (s.heap.objs.size+1),H',I3,rfl,q3⟩⟩
  | next=>exact False.elim xa
  | brk=>exact False.elim xa
  | cont=>exact False.elim xa
theorem pe_make (M:Mk X.K C f) (F:dJ X.prog X.w X.K X.mg X.base CX k f fd ps sp) (hr:bx (k+1) X.A) (hg:Gl X x) (hm:X.mg x=some (.ref C)) (hb:Binds X.K fd ps ds) (hd:aT uS ds) (hx:iE CX X E)
  (ha:PA X (e::es) t) (vm:(x==("__debug__" : Str))=false:=by decide) (he:starEach (e::es) X.env=(false,eval e X.env)::starEach es X.env:=by rfl) (hpl:(backTo pos (starEach es X.env)).any (·.1)=false:=by rfl) :
  PE X (.Call (.Name x p) (e::es) [] pos) (tMake C sp uS E t):=by
 intro pins s σ H Q I h;refine wpAny_Call_Name_kw (i9 I hg hm ?_ vm);refine callWith_K (h₀:=X.base) I.ok.mod.kin M.kp (thn (ha pos pins s σ H _ I h) fun us s1 ⟨vs,H1,I1,r,q⟩=>⟨I1.kIn,?_⟩) he hpl;exact run_make M F hr hb hd hx I1 r q
end
structure eB (N P:List Str) (sc:Scope):Prop where
 kind:sc.kind=.function
 co:sc.isCoroutine=false
 gen:sc.isGenerator=false
 nd:N.Nodup
 pre:N.take P.length=P
 par:∀ x∈P,sc.names.lookup x=some .local\/sc.names.lookup x=some .cell
 nofree:∀ y∈sc.names,y.2≠.free
theorem oP {kindOf:Str->Option NameKind} {x:Str}:∀ {binds:List (Str×Value)} {m:Str->Option Value},(∀ v,(x,v)∉binds)->bindL kindOf binds m x=m x
  | [],_,_=>rfl
  | (n,v)::r,m,h=>by
    unfold bindL;rw [oP fun w hw=>h w (uf _ hw)];split
    . have:x≠n:=by rintro rfl;exact h v yY
      simp [this]
    . rfl
theorem oQ {kindOf:Str->Option NameKind} {x:Str}:∀ {binds:List (Str×Value)} {m:Str->Option Value},(∀ v,(x,v)∉binds)->bindC kindOf binds m x=m x
  | [],_,_=>rfl
  | (n,v)::r,m,h=>by
    unfold bindC;rw [oQ fun w hw=>h w (uf _ hw)];split
    . rfl
    . have:x≠n:=by rintro rfl;exact h v yY
      simp [this]
theorem oR {kindOf:Str->Option NameKind} {x:Str} {v:Value}:∀ {P:List Str} {vs:List Value} {i:Nat} {m:Str->Option Value},P.Nodup->P[i]?=some x->vs[i]?=some v->kindOf x=some .local->
  bindL kindOf (P.zip vs) m x=some v
 | [],_,_,_,_,h,_,_=>by simp at h
 | _::_,[],_,_,_,_,h,_=>by simp at h
 | p::P,w::vs,0,m,nd,h1,h2,hk=>by
  simp at h1 h2;subst h1;subst h2;show bindL kindOf ((p,w)::P.zip vs) m p=_;unfold bindL;rw [oP fun v hv=>(List.nodup_cons.mp nd).1 (List.of_mem_zip hv).1,if_pos hk];simp
 | p::P,w::vs,i+1,m,nd,h1,h2,hk=>by
  show bindL kindOf ((p,w)::P.zip vs) m x=_;unfold bindL;exact oR (i:=i) (List.nodup_cons.mp nd).2 (by simpa using h1) (by simpa using h2) hk
theorem oS {kindOf:Str->Option NameKind} {x:Str} {v:Value}:∀ {P:List Str} {vs:List Value} {i:Nat} {m:Str->Option Value},P.Nodup->P[i]?=some x->vs[i]?=some v->kindOf x≠some .local->
  bindC kindOf (P.zip vs) m x=some v
 | [],_,_,_,_,h,_,_=>by simp at h
 | _::_,[],_,_,_,_,h,_=>by simp at h
 | p::P,w::vs,0,m,nd,h1,h2,hk=>by
  simp at h1 h2;subst h1;subst h2;show bindC kindOf ((p,w)::P.zip vs) m p=_;unfold bindC;rw [oQ fun v hv=>(List.nodup_cons.mp nd).1 (List.of_mem_zip hv).1,if_neg hk];simp
 | p::P,w::vs,i+1,m,nd,h1,h2,hk=>by
  show bindC kindOf ((p,w)::P.zip vs) m x=_;unfold bindC;exact oS (i:=i) (List.nodup_cons.mp nd).2 (by simpa using h1) (by simpa using h2) hk
def start (N:List Str) (vs:List V):St:=vs.map some++List.replicate (N.length-vs.length) none
noncomputable def ju (CX:CXT) (P:Program) (w:World) (K:Frag) (mg:Str->Option Value) (base:Heap) (N:List Str) (qual:Str) (scope:Scope) (f:Addr) (cd:Value) (A:Around) (outer:List Env) (s:Shared) (H:Hp) (E:XK):Cx where
 prog:=P
 w:=w
 K:=K
 mg:=mg
 base:=base
 A:=A.deeper (envOfC qual scope s.heap.objs.size f cd)
 N:=N
 s₀:=s
 H₀:=H
 env:=envOfC qual scope s.heap.objs.size f cd
 outer:=outer
 stack:=envOfC qual scope s.heap.objs.size f cd::outer
 ex:=[]
 calm:=true
 fn:=fun _=>true
 pn:=[]
 xe:=fun e s'=>wpAny (model P w) (A.deeper (envOfC qual scope s.heap.objs.size f cd)) (leaving (envOfC qual scope s.heap.objs.size f cd) e) (fun _ yc=>CX outer H s E e yc) (fun e' yc=>CX outer H s E e' yc) s'
theorem qK {sc:Scope} {n:Nat} {x:Str} (h:sc.names.lookup x=some .cell):∃ c,(cellsFrom n sc.names []).lookup x=some c:=by
 have q:=cellsFrom_some sc.names n [] (.inl h);exact Option.isSome_iff_exists.mp q
theorem inv_start {CX:CXT} {P:Program} {w:World} {K:Frag} {mg:Str->Option Value} {base:Heap} {N ps:List Str} {qual:Str} {scope:Scope} {f:Addr} {cd:Value} {A:Around} {outer:List Env} {s s1:Shared} {H:Hp} {E:XK} {us:List Value} {vs:List V}
  (S:eB N ps scope) (hd:A.handled=none) (e0:Env0 P w K mg base A outer s H) (hl:vs.length=ps.length) (r:aT vs us)
  (x:InCallC s s.heap.objs.size (bindL (envOfC qual scope s.heap.objs.size f cd).kindOf (ps.zip us) fun _=>none) (cellsFrom (s.heap.objs.size+1) scope.names []) (bindC (envOfC qual scope s.heap.objs.size f cd).kindOf (ps.zip us) fun _=>none) s1) :
  Inv (ju CX P w K mg base N qual scope f cd A outer s H E) [] (start N vs) H s1:=by
 have hpl:ps.length<=N.length:=by have:=congrArg List.length S.pre;rw [List.length_take] at this;omega
 obtain ⟨h1,tk,rfl,hk⟩:=x.done;have yj:∀ b:Addr,b∉(ju CX P w K mg base N qual scope f cd A outer s H E).ex:=fun b z=>absurd (show b∈([]:List Addr) from z) (by simp);refine ⟨⟨e0.mod,S.kind,rfl,rfl,zp _,fun y z c h1 h2=>?_,fun y hy=>?_,fun y c _ h=>?_,fun _=>hd,Around.frames_deeper e0.frames,.inr ⟨rfl,rfl⟩,fun b z=>absurd z (yj b),e0.bs,e0.bsz,fun b _ _=>yj b,fun b z=>absurd z (yj b),e0.funs,e0.frf⟩,
  rfl,e0.bare,Un.kept hk,⟨_,x.toInCall.ns,fun i y v h1 h2 h3=>?_⟩,fun y c h=>⟨_,x.cell y c h⟩,e0.hok.fresh (zp _),fun y c h=>?_,fun p hp=>absurd (show p∈([]:List (Addr×Obj)) from hp) (by simp),e0.hok.kept hk,?_⟩
 ·exact name_of_addr x.apart (PySem.mem_of_lookup h1) (PySem.mem_of_lookup h2)
 ·have hy:scope.names.lookup y=some .cell\/scope.names.lookup y=some .free:=hy;rcases hy with hy | hy
  ·exact qK hy
  ·exact absurd rfl (S.nofree _ (PySem.mem_of_lookup hy))
 ·exact Ac (x.above y c (PySem.mem_of_lookup h))
 ·have hi:i<vs.length:=by
   unfold start at h2;by_cases hi:i<vs.length
   ·exact hi
   ·rw [zR (by simpa using hi)] at h2;rw [List.getElem?_replicate] at h2;split at h2 <;> cases h2
  have ha:vs[i]?=some v:=by
   unfold start at h2;rw [zw (by simpa using hi),zc] at h2;cases e:vs[i]? with
   | none=>rw [e] at h2;cases h2
   | some a=>rw [e] at h2;cases h2;rfl
  obtain ⟨u,hu,rv⟩:=r.get ha;have hp:ps[i]?=some y:=by
   rw [<-S.pre,List.getElem?_take_of_lt (by omega)];exact h1
  have ndP:ps.Nodup:=by rw [<-S.pre];exact S.nd.sublist (List.take_sublist _ _)
  refine ⟨u,rv,?_⟩;rcases S.par y (List.mem_of_getElem? hp) with k | k
  ·exact .inl ⟨k,oR ndP hp hu k⟩
  ·obtain ⟨c,e⟩:=qK (n:=s.heap.objs.size+1) k;refine .inr ⟨.inl k,c,e,?_⟩;have q:=x.cell y c e;rw [oS ndP hp hu (by show scope.names.lookup y≠_;rw [k];decide)] at q;exact q
 ·exact e0.hok.fresh (Ac (x.above y c (PySem.mem_of_lookup h)))
 ·unfold start;show _=N.length;rw [zy,uk,Aj];omega
theorem fn_of {CX:CXT} {P:Program} {w:World} {K:Frag} {mg:Str->Option Value} {base:Heap} {k:Nat} {f:Addr} {name qual:Str} {params:Arguments} {body:List Stmt} {scope:Scope} {dV kV doc pm ux ct oc:Value} {an od:Option Addr}
  {uP:Array (Option Value)} {N ps:List Str} {sp:Sp} (lk:K.lookup f=some ⟨oc,od,.func (fnOf name qual params body scope dV kV doc pm an ux ct),uP⟩) (uX:codeIn K ux qual=true) (S:eB N ps scope)
  (len:∀ vs H Q E,sp vs H Q E->vs.length=ps.length)
  (vf:∀ (A:Around) (outer:List Env) (s:Shared) (H:Hp) (vs:List V) (Q:VK) (E:XK),bx k (A.deeper (envOfC qual scope s.heap.objs.size f ux))->sp vs H Q E->
   ∃ t,PSs (ju CX P w K mg base N qual scope f ux A outer s H E) body t/\t { nx:=fun _ H'=>Q .non H',rt:=Q } (start N vs) H) :
  dJ P w K mg base CX (k+1) f (fnOf name qual params body scope dV kV doc pm an ux ct) ps sp:=by
 refine ⟨len,fun A outer s H args us vs Q E hr e0 hb r vp=>?_⟩;have hl:=len _ _ _ _ vp;have KX:K.In s.heap:=e0.mod.kin.keeps fun b o e=>(e0.bs b o e).1;have lim:s.heap.NoLimit:=e0.mod.nolimit.keeps fun b o e=>(e0.bs b o e).1;have yw:∀ y∈ps.zip us,scope.names.lookup y.1=some .local\/(scope.names.lookup y.1=some .cell/\((cellsFrom (s.heap.objs.size+1) scope.names []).lookup y.1).isSome=true):=fun ⟨n,v⟩ hy=>by
  rcases S.par n (List.of_mem_zip hy).1 with q | q
  ·exact .inl q
  ·exact .inr ⟨q,cellsFrom_some _ _ _ (.inl q)⟩
 refine codeAny_call_function hr.depth (KX _ _ lk) rfl S.co S.gen rfl (PySem.W.codeRec_of KX uX) (hb _ _ _ _ ?_);refine wpAny_newFunctionEnv_cells S.kind yw fun env he s1 x=>?_;subst he;refine ⟨lim.keeps x.toInCall.keep,codeAny_func ?_⟩;obtain ⟨t,ht,hq⟩:=vf A outer s H vs Q E (hr.deeper _) vp;have I:Inv (ju CX P w K mg base N qual scope f ux A outer s H E) [] (start N vs) H s1:=inv_start S hr.hd e0 hl r x;refine Ap (ht [] s1 (start N vs) H _ I hq) (fun fl s' hs=>?_) fun e s' hs=>hs;have fin:∀ {tO:St} {H':Hp} {v:V} {u:Value},Inv (ju CX P w K mg base N qual scope f ux A outer s H E) [] tO H' s'->RelV v u->Q v H'->CE outer P w H s Q u s':=
  fun {tO H' v u} J rv q=>⟨v,H',J.os,J.bare,J.base,J.hok,rv,q⟩
 cases fl with
 | ret u=>
  obtain ⟨v,tO,H',J,rv,q⟩:=hs;exact fin J rv q
 | next=>
  obtain ⟨tO,H',J,q⟩:=hs;exact fin (v:=V.non) (u:=Value.none) J rfl q
 | brk=>
  obtain ⟨_,_,_,q⟩:=hs;exact False.elim q
 | cont=>
  obtain ⟨_,_,_,q⟩:=hs;exact False.elim q
section
variable {X:Cx} {x:Str} {p pos:Pos} {e:Expr} {es:List Expr} {t:TA} {id T:String} {r:List V->Hp->VK->Prop}
def tCB (r:List V->Hp->VK->Prop) (t:TA):TE:=fun σ H Q=>t σ H fun vs H1=>r vs H1 Q
theorem gk (hc:cJ X (.builtin id) r) (hg:Gl X x) (hm:X.mg x=none) (hv:bootBuiltins x=some (.builtin id)) (ha:PA X (e::es) t) (hn:x≠"__name__":=by decide) (vm:(x==("__debug__" : Str))=false:=by decide)
  (he:starEach (e::es) X.env=(false,eval e X.env)::starEach es X.env:=by rfl) (hpl:(backTo pos (starEach es X.env)).any (·.1)=false:=by rfl):PE X (.Call (.Name x p) (e::es) [] pos) (tCB r t):=by
 intro pins s σ H Q I h;refine wpAny_Call_Name_kw (jK I hg hm hv ?_ hn vm);exact PyProof.Rows.callWith_builtin1 (thn (ha pos pins s σ H _ I h) fun us s1 ⟨vs,H1,I1,r1,q1⟩=>hc pins s1 σ H1 vs us Q I1 r1 q1) he hpl
theorem jb (hc:cJ X (.type T) r) (hg:Gl X x) (hm:X.mg x=none) (hv:bootBuiltins x=some (.type T)) (ha:PA X (e::es) t) (hn:x≠"__name__":=by decide) (vm:(x==("__debug__" : Str))=false:=by decide)
  (he:starEach (e::es) X.env=(false,eval e X.env)::starEach es X.env:=by rfl) (hpl:(backTo pos (starEach es X.env)).any (·.1)=false:=by rfl):PE X (.Call (.Name x p) (e::es) [] pos) (tCB r t):=by
 intro pins s σ H Q I h;refine wpAny_Call_Name_kw (jK I hg hm hv ?_ hn vm);exact callWith_type1 (thn (ha pos pins s σ H _ I h) fun us s1 ⟨vs,H1,I1,r1,q1⟩=>hc pins s1 σ H1 vs us Q I1 r1 q1) he hpl
end
end L2
namespace HT
open PySem PyProof.Rows
section
open PySem.SeqAt
open PySem.AutoSeq1 (wpAny_loadPart')
open PySem.MeetsSeq PySem.MeetsSeq2 PySem.MeetsSeq3
end
section
variable {prog:Program} {w:World} {A:Around} {E:Value->Shared->Prop} {s:Shared}
noncomputable def sIx (n d:Nat):Option Int->Nat
 | none=>d
 | some v=>if v<0 then (v+(n:Int)).toNat else min v.toNat n
theorem slicePart_ {v:Value} {o:Option Int} {Q:Option Int->Shared->Prop} (p:IsPart v o) (h:Q o s):wpAny (model prog w) A (Builtin.Slice.slicePartIndex v) Q E s:=by
 cases p with
 | none=>exact slicePart_none h
 | int i t=>exact slicePart_int h
end
end HT
namespace L2
open PySem PySem.Spec PyProof.Rows
abbrev TO:=St->Hp->(Option Int->Hp->Prop)->Prop
noncomputable def PO (X:Cx) (e:Option Expr) (t:TO):Prop:=
 ∀ (pins:List (Addr×Obj)) (s:Shared) (σ:St) (H:Hp) (Q:Option Int->Hp->Prop),Inv X pins σ H s->t σ H Q->
  wpAny (model X.prog X.w) X.A (evalPart e X.env) (fun u s'=>∃ o H',Inv X pins σ H' s'/\IsPart u o/\Q o H') X.xe s
def tNoPart:TO:=fun _ H Q=>Q none H
def tPart (t:TE):TO:=fun σ H Q=>t σ H fun x H1=>∃ i,x=.int i/\Q (some i) H1
section
variable {X:Cx} {e:Expr} {te:TE} {lo hi:Option Expr} {tl th:TO} {pos p2:Pos}
theorem po_none:PO X none tNoPart:=by
 intro pins s σ H Q I h;rw [evalPart_none];exact uc ⟨none,H,I,.none,h⟩
theorem po_some (h:PE X e te):PO X (some e) (tPart te):=by
 intro pins s σ H Q I hw;rw [evalPart_some];refine thn (h pins s σ H _ I hw) fun u s1 ⟨x,H1,I1,r1,q1⟩=>?_;obtain ⟨i,rfl,q⟩:=q1;obtain ⟨t,rfl⟩:=r1;exact ⟨some i,H1,I1,.int i t,q⟩
noncomputable def SlR (X:Cx) (r:V->Option Int->Option Int->Hp->VK->Prop):Prop:=
 ∀ (pins:List (Addr×Obj)) (s:Shared) (σ:St) (H:Hp) (x:V) (v vl vu:Value) (lo hi:Option Int) (sl:Addr) (Q:VK),Inv X pins σ H s->RelV x v->s.heap.IsSliceOf sl vl vu .none->IsPart vl lo->IsPart vu hi->r x lo hi H Q->
  ∃ T id,typeLookup (.type T) "__getitem__" = pure (some (.builtin id))/\s.TypeIs v T/\wpAny (model X.prog X.w) X.A (getItem v (.ref sl)) (EP X pins σ Q) X.xe s
noncomputable def tSl (r:V->Option Int->Option Int->Hp->VK->Prop) (te:TE) (tl th:TO):TE:=fun σ H Q=>te σ H fun x H1=>tl σ H1 fun l H2=>th σ H2 fun u H3=>r x l u H3 Q
theorem pe_slice {r:V->Option Int->Option Int->Hp->VK->Prop} (hr:SlR X r) (he:PE X e te) (hl:PO X lo tl) (hu:PO X hi th):PE X (.Subscript e (.Slice lo hi none p2) pos) (tSl r te tl th):=by
 intro pins s σ H Q I h;refine Subscript_ (thn (he pins s σ H _ I h) fun v s1 ⟨x,H1,I1,r1,q1⟩=>?_);refine wpAny_Slice (thn (hl pins s1 σ H1 _ I1 q1) fun vl s2 ⟨l,H2,I2,pl,q2⟩=>thn (hu pins s2 σ H2 _ I2 q2) fun vu s3 ⟨u,H3,I3,pu,q3⟩=>?_);rw [evalPart_none];refine uc ?_;have I4:Inv X pins σ H3 { s3 with heap:=s3.heap.push { cls:=.type "slice",data:=.fields #[vl,vu,.none] } }:=I3.kept (t':=s3.toks) fun b ob q=>yV _ q;obtain ⟨T,id,hT,ht,hg⟩:=hr pins { s3 with heap:=s3.heap.push { cls:=.type "slice",data:=.fields #[vl,vu,.none] } } σ H3 x v vl vu l u s3.heap.objs.size Q I4 r1 (Heap.IsSliceOf.new ..) pl pu q3;show wpAny (model X.prog X.w) X.A (subscriptTail e (.Slice lo hi none p2) v (.ref s3.heap.objs.size)) (EP X pins σ Q) X.xe { s3 with heap:=s3.heap.push { cls:=.type "slice",data:=.fields #[vl,vu,.none] } };exact tail_any (ops:=[.ref s3.heap.objs.size,v]) ht hT hg (by with_unfolding_all rfl)
noncomputable def cutV (xs:List V) (lo hi:Option Int):List V:=(xs.drop (HT.sIx xs.length 0 lo)).take (HT.sIx xs.length xs.length hi-HT.sIx xs.length 0 lo)
theorem qL (xs:List V) (lo hi:Option Int):(cutV xs lo hi).length<=xs.length:=by
 unfold cutV;rw [List.length_take,List.length_drop];omega
end
noncomputable def ixN (n:Nat) (i:Int):Option Nat:=if 0<=i then (if i<n then some i.toNat else none) else if -(n:Int)<=i then some (i+n).toNat else none
def atI {α:Type} (xs:List α) (i:Int):Option α:=(ixN xs.length i).bind fun j=>xs[j]?
theorem ixN_seq {n:Nat} {i:Int} {j:Nat} (h:ixN n i=some j):seqIndex? i n=some j/\j<n/\-(n:Int)<=i/\i<n:=by
 unfold ixN at h;by_cases h0:0<=i
 ·rw [if_pos h0] at h;by_cases h1:i<n
  ·rw [if_pos h1] at h;have e:i.toNat=j:=Ab h;exact ⟨by rw [seqIndex_of h0 h1,e],by omega,by omega,h1⟩
  ·rw [if_neg h1] at h;cases h
 ·rw [if_neg h0] at h;by_cases h1:-(n:Int)<=i
  ·rw [if_pos h1] at h;have e:(i+n).toNat=j:=Ab h;exact ⟨by rw [seqIndex_neg (by omega) h1,e],by omega,h1,by omega⟩
  ·rw [if_neg h1] at h;cases h
theorem atI_get {α:Type} {xs:List α} {i:Int} {v:α} (h:atI xs i=some v):∃ j,seqIndex? i xs.length=some j/\xs[j]?=some v/\j<xs.length/\-(xs.length:Int)<=i/\i<xs.length:=by
 unfold atI at h;cases e:ixN xs.length i with
 | none=>rw [e] at h;cases h
 | some j=>
  rw [e] at h;obtain ⟨h1,h2,h3,h4⟩:=ixN_seq e;exact ⟨j,h1,h,h2,h3,h4⟩
theorem atI_nat {α:Type} {xs:List α} {j:Nat} {v:α} (h:xs[j]?=some v):atI xs (j:Int)=some v:=by
 have hj:j<xs.length:=(yX.mp h).1;have e:ixN xs.length (j:Int)=some j:=by
  unfold ixN;rw [if_pos (by omega),if_pos (by omega)];simp
 unfold atI;rw [e];exact h
def kc (b:Expr):Prop:=∀ o i,subscripted b false o i=operate [o,i] (getItem o i)
noncomputable def IxR (X:Cx) (r:R2):Prop:=
 ∀ (value slice:Expr) (pins:List (Addr×Obj)) (s:Shared) (σ:St) (H:Hp) (x y:V) (v u:Value) (Q:VK),Inv X pins σ H s->RelV x v->RelV y u->r x y H Q->
  subscripted slice false v u=operate [v,u] (getItem v u)->wpAny (model X.prog X.w) X.A (subscriptTail value slice v u) (EP X pins σ Q) X.xe s
noncomputable def MtR (X:Cx) (id:String) (r:V->List V->Hp->VK->Prop):Prop:=
 ∀ (pins:List (Addr×Obj)) (s:Shared) (σ:St) (H:Hp) (x:V) (xs:List V) (v:Value) (us:List Value) (Q:VK),Inv X pins σ H s->RelV x v->aT xs us->r x xs H Q->
  wpAny (model X.prog X.w) X.A (call (.builtin id) (v::us)) (EP X pins σ Q) X.xe s
section
variable {X:Cx} {a b:Expr} {ta tb:TE} {pos:Pos}
theorem IxR.or {r r':R2} (h:IxR X r) (h':IxR X r'):IxR X (fun x y H Q=>r x y H Q\/r' x y H Q):=by
 intro value slice pins s σ H x y v u Q I rx ry q hs;rcases q with q | q
 ·exact h value slice pins s σ H x y v u Q I rx ry q hs
 ·exact h' value slice pins s σ H x y v u Q I rx ry q hs
theorem pe_ix {r:R2} (hr:IxR X r) (ha:PE X a ta) (hb:PE X b tb) (hs:kc b):PE X (.Subscript a b pos) (tOp r ta tb):=by
 intro pins s σ H Q I h;exact Subscript_ (binT ha hb I h fun v u s2 x y H2 I2 rx ry q=>hr a b pins s2 σ H2 x y v u Q I2 rx ry q (hs _ _))
noncomputable def rIxL (K:Frag):R2:=fun x y H Q=>∃ p xs i v,x=.ref p/\y=.int i/\SqL K H p xs/\atI xs i=some v/\Q v H
noncomputable def rIxT (K:Frag):R2:=fun x y H Q=>∃ p xs i v,x=.ref p/\y=.int i/\SqT K H p xs/\atI xs i=some v/\Q v H
theorem pM:IxR X (rIxL X.K):=by
 intro value slice pins s σ H x y v u Q I rx ry h hs;obtain ⟨p,xs,i,z,rfl,rfl,hq,he,q⟩:=h;cases rx;obtain ⟨t,rfl⟩:=ry;obtain ⟨its,r,pl,hz⟩:=I.list hq;obtain ⟨j,h1,h2,h3,h4,h5⟩:=atI_get he;obtain ⟨w,ew,u5⟩:=r.get h2;have hl:=r.length;have hn:=pK;have fin:EP X pins σ Q w s:=⟨z,H,I,u5,q⟩;by_cases h0:0<=i
 ·have hj:i.toNat=j:=by
   rw [seqIndex_of h0 h5] at h1;exact Ab h1
  exact item_listR pl.isList h0 (by omega) (by rw [hj];simpa using ew) fin hs
 ·have hj:(i+(its.toArray.size:Int)).toNat=j:=by
   rw [seqIndex_neg (by omega) h4] at h1;rw [zf,<-hl];exact Ab h1
  exact subscriptTail_builtinR (x:=w) pl.isList.typeIs slot_list_getitem.lookup
   (wpAny_getItem_list_neg (Q:=fun r s'=>r=w/\EP X pins σ Q r s') pl.isList (by omega) (by rw [zf] <;> omega) (by omega) (by rw [hj];simpa using ew) ⟨rfl,fin⟩) hs
theorem ix_tup:IxR X (rIxT X.K):=by
 intro value slice pins s σ H x y v u Q I rx ry h hs;obtain ⟨p,xs,i,z,rfl,rfl,hq,he,q⟩:=h;cases rx;obtain ⟨t,rfl⟩:=ry;obtain ⟨its,r,pl,hz⟩:=I.tuple hq;obtain ⟨j,h1,h2,h3,h4,h5⟩:=atI_get he;obtain ⟨w,ew,u5⟩:=r.get h2;have hl:=r.length;have hn:=pK;have fin:EP X pins σ Q w s:=⟨z,H,I,u5,q⟩;exact subscriptTail_builtinR (x:=w) pl.typeIs slot_tuple_getitem.lookup
  (getItem_tuple (j:=j) (Q:=fun r s'=>r=w/\EP X pins σ Q r s') pl (by omega) (by omega) (by rw [zf,<-hl];exact h1) (by simpa using ew) ⟨rfl,fin⟩) hs
theorem pN (lo hi:Option Int) (n:Nat):(sliceBounds lo hi none n).1=((HT.sIx n 0 lo:Nat):Int)/\(sliceBounds lo hi none n).2.1=((HT.sIx n n hi:Nat):Int)/\(sliceBounds lo hi none n).2.2=1:=by
 refine ⟨?_,?_,rfl⟩
 ·cases lo with
  | none=>simp [sliceBounds,HT.sIx]
  | some i=>
   simp only [sliceBounds,HT.sIx,Option.getD_none,show (1:Int)>0 by decide,if_true];by_cases h:i<0
   ·simp only [h,if_true] <;> omega
   ·simp only [h,if_false] <;> omega
 ·cases hi with
  | none=>simp [sliceBounds,HT.sIx]
  | some i=>
   simp only [sliceBounds,HT.sIx,Option.getD_none,show (1:Int)>0 by decide,if_true];by_cases h:i<0
   ·simp only [h,if_true] <;> omega
   ·simp only [h,if_false] <;> omega
theorem og (its:List Value) (lo hi:Option Int):slicePick its.toArray lo hi none=((its.drop (HT.sIx its.length 0 lo)).take (HT.sIx its.length its.length hi-HT.sIx its.length 0 lo)).toArray:=by
 obtain ⟨h1,h2,h3⟩:=pN lo hi its.toArray.size;unfold slicePick;rw [h1,h2,h3];simp only [sliceRange_one,pick_run,zf] <;> rfl
noncomputable def rSlL (K:Frag):V->Option Int->Option Int->Hp->VK->Prop:=fun x lo hi H Q=>∃ a xs,x=.ref a/\SqL K H a xs/\∀ p,H p=none->Q (.ref p) (upd H p (.lst (cutV xs lo hi)))
theorem sl_list:SlR X (rSlL X.K):=by
 intro pins s σ H x v vl vu lo hi sl Q I rx hs pl pu h;obtain ⟨a,xs,rfl,hx,q⟩:=h;cases rx;obtain ⟨its,r,ht,hz⟩:=I.list hx;have hlen:=r.length;refine ⟨"list",_,slot_list_getitem.lookup,ht.isList.typeIs,?_⟩;refine wpAny_getItem_list_slice ht.isList hs pl pu .none (by simp) ?_ (by rw [zf] <;> omega);rw [og,<-hlen];refine ⟨.ref s.heap.objs.size,_,I.laid (t':=s.toks) (o:=.lst (cutV xs lo hi)) (fun b ob q=>yV _ q) (zp _) ?_,rfl,q _ (I.hok.fresh (zp _))⟩;exact ⟨zN (qL xs lo hi) hz,_,0,(r.drop (HT.sIx xs.length 0 lo)).take (HT.sIx xs.length xs.length hi-HT.sIx xs.length 0 lo),zg _ rfl⟩
theorem gL:cJ X (.builtin "len") (fun xs H Q=>∃ p ys,xs=[.ref p]/\(SqL X.K H p ys\/SqT X.K H p ys)/\Q (.int ys.length) H):=by
 intro pins s σ H xs us Q I r h;obtain ⟨p,ys,rfl,hq,q⟩:=h;obtain ⟨u,rfl,rx⟩:=vals1 r;cases rx;have hn:=pK;rcases hq with hq | hq
 ·obtain ⟨its,r',pl,hz⟩:=I.list hq;have hlen:=r'.length;exact Calls.call_len_list pl.isList (by simp only [zf] <;> omega) ⟨.int ys.length,H,I.tok _,⟨s.toks+1,by rw [zf,hlen]⟩,q⟩
 ·obtain ⟨its,r',pl,hz⟩:=I.tuple hq;have hlen:=r'.length;exact len_tuple pl (by simp only [zf] <;> omega) ⟨.int ys.length,H,I.tok _,⟨s.toks+1,by rw [zf,hlen]⟩,q⟩
theorem pO:cJ X (.builtin "len") (fun xs H Q=>∃ z,xs=[.str z]/\z.length<=sizeLine/\Q (.int z.length) H):=by
 intro pins s σ H xs us Q I r h;obtain ⟨z,rfl,hz,q⟩:=h;obtain ⟨u,rfl,t,rfl⟩:=vals1 r;have hn:=pK;exact len_str (by omega) ⟨.int z.length,H,I.tok _,⟨_,rfl⟩,q⟩
theorem kd:cJ X (.type "list") (fun xs H Q=>∃ p ys,xs=[.ref p]/\(SqL X.K H p ys\/SqT X.K H p ys)/\∀ l,H l=none->Q (.ref l) (upd H l (.lst ys))):=by
 intro pins s σ H xs us Q I r h;obtain ⟨p,ys,rfl,hq,q⟩:=h;obtain ⟨u,rfl,rx⟩:=vals1 r;cases rx;have fin:∀ (its:List Value),aT ys its->ys.length<=sizeLine->∀ (h':Heap) (c':Nat),(∀ b o',s.heap.get? b=some o'->h'.get? b=some o')->
   h'.get? s.heap.objs.size=some { cls:=.type "list",dict:=none,data:=.seq its.toArray c',slots:=#[] }->EP X pins σ Q (.ref s.heap.objs.size) { s with heap:=h' }:=fun its r' hz h' c' kp e=>
  ⟨.ref s.heap.objs.size,_,I.laid (t':=s.toks) kp (zp _) (show cI X.prog X.w _ h' _ (.lst ys) from ⟨hz,its,c',r',e⟩),rfl,q _ (I.hok.fresh (zp _))⟩
 rcases hq with hq | hq
 ·obtain ⟨its,r',pl,hz⟩:=I.list hq;have hlen:=r'.length;obtain ⟨o,ho,hc,n,hd⟩:=pl.isList;exact call_list_seq p (.inl rfl) ho hc hd (fun h' c' kp e=>fin its r' hz h' c' kp e) (by simp only [zf] <;> omega)
 ·obtain ⟨its,r',pl,hz⟩:=I.tuple hq;have hlen:=r'.length;obtain ⟨o,ho,hc,n,hd⟩:=pl;exact call_list_seq p (.inr rfl) ho hc hd (fun h' c' kp e=>fin its r' hz h' c' kp e) (by simp only [zf] <;> omega)
noncomputable def tyV (K:Frag) (T:String) (x:V) (H:Hp):Prop:=match x with
 | .str _=>T = "str"
 | .int _=>T = "int"
 | .ref p=>(T = "list"/\∃ xs,SqL K H p xs)\/(T = "tuple"/\∃ o,K.lookup p=some o/\o.cls=.type "tuple"/\o.dict=none)\/
  (T = "dict"/\((∃ uD,H p=some (.dK uD))\/∃ uD,H p=some (.dT uD)))\/(T = "set"/\∃ S n,H p=some (.set S n))
 | _=>False
theorem tyV_is {pins:List (Addr×Obj)} {σ:St} {H:Hp} {s:Shared} {T:String} {x:V} {v:Value} (I:Inv X pins σ H s) (r:RelV x v) (ty:tyV X.K T x H) :
  s.TypeIs v T/\∀ a,v=.ref a->∃ ob,s.heap.get? a=some ob/\ob.dict=none:=by
 cases x with
 | str z=>
  obtain ⟨t,rfl⟩:=r;cases (show T = "str" from ty);exact ⟨typeIs_str s z t,fun _ e=>nomatch e⟩
 | int i=>
  obtain ⟨t,rfl⟩:=r;cases (show T = "int" from ty);exact ⟨typeIs_int s i t,fun _ e=>nomatch e⟩
 | ref p=>
  cases r;rcases ty with ⟨rfl,xs,hq⟩ | ⟨rfl,o,hk,hc,hd⟩ | ⟨rfl,hk⟩ | ⟨rfl,S,n,hk⟩
  ·obtain ⟨its,_,pl,_⟩:=I.list hq;refine ⟨pl.isList.typeIs,fun a e=>?_⟩;cases e;obtain ⟨o,n,e,c,hd,_⟩:=pl;exact ⟨o,e,hd⟩
  ·refine ⟨⟨o,I.kIn p o hk,hc⟩,fun a e=>?_⟩;cases e;exact ⟨o,I.kIn _ o hk,hd⟩
  ·have z:∃ o,s.heap.get? p=some o/\o.ExactDict:=by
    rcases hk with ⟨uD,hk⟩ | ⟨uD,hk⟩
    ·obtain ⟨_,_,_,_,o,_,_,e,ex,_⟩:=I.hok p _ hk;exact ⟨o,e,ex⟩
    ·obtain ⟨_,_,_,_,o,_,_,e,ex,_⟩:=I.hok p _ hk;exact ⟨o,e,ex⟩
   obtain ⟨o,e,ex⟩:=z;refine ⟨⟨o,e,ex.1⟩,fun a e2=>?_⟩;cases e2;exact ⟨o,e,ex.2.1⟩
  ·obtain ⟨o,_,_,_,e,ex,_⟩:=I.hok p _ hk;refine ⟨⟨o,e,ex.1⟩,fun a e2=>?_⟩;cases e2;exact ⟨o,e,ex.2.1⟩
 | _=>exact False.elim ty
noncomputable def tBM0 (K:Frag) (T:String) (r:V->List V->Hp->VK->Prop) (to:TE):TE:=fun σ H Q=>to σ H fun x H1=>tyV K T x H1/\r x [] H1 Q
noncomputable def tBM (K:Frag) (T:String) (r:V->List V->Hp->VK->Prop) (to:TE) (t:TA):TE:=fun σ H Q=>to σ H fun x H1=>tyV K T x H1/\t σ H1 fun xs H2=>r x xs H2 Q
variable {o e:Expr} {es:List Expr} {to:TE} {t:TA} {name:Str} {apos tQ:Pos} {T id:String} {r:V->List V->Hp->VK->Prop}
theorem pe_bm0 (pa:PlainAttrs T) (slot:Slot T name id) (vL:typeOf (.builtin id)=pure (.type "method_descriptor")) (hm:MtR X id r) (ho:PE X o to)
  (uy:attributeBase o name X.env (eval o X.env)=eval o X.env:=by rfl) (uz:(apos.endLine==tQ.line)=true:=by rfl):PE X (.Call (.Attribute o name apos) [] [] tQ) (tBM0 X.K T r to):=by
 intro pins s σ H Q I h;refine wpAny_Call_method0_late uy uz (thn (ho pins s σ H _ I h) fun v s1 ⟨x,H1,I1,r1,ty,q1⟩=>?_);obtain ⟨h1,h2⟩:=tyV_is I1 r1 ty;exact ⟨T,id,pa,slot,vL,h1,h2,Calls.callWith_builtin rfl (PySem.evalArgs_none (hm pins s1 σ H1 x [] v [] Q I1 r1 .nil q1))⟩
theorem pe_bm (pa:PlainAttrs T) (slot:Slot T name id) (vL:typeOf (.builtin id)=pure (.type "method_descriptor")) (hm:MtR X id r) (ho:PE X o to) (ha:PA X (e::es) t)
  (uy:attributeBase o name X.env (eval o X.env)=eval o X.env:=by rfl)
  (vc:((backTo tQ (starEach (e::es) X.env)).all (fun x=>!x.1)&&(backToKw tQ (keywordEach [] X.env)).all (fun x=>x.1.isSome)
   &&decide ((e::es).length+([]:List Keyword).length+(if ([]:List Keyword).isEmpty then 0 else 1)<30))=true:=by rfl)
  (uz:(apos.endLine==tQ.line)=true:=by rfl) (hs:starEach (e::es) X.env=(false,eval e X.env)::starEach es X.env:=by rfl) (vg:(backTo tQ (starEach es X.env)).any (·.1)=false:=by rfl) :
  PE X (.Call (.Attribute o name apos) (e::es) [] tQ) (tBM X.K T r to t):=by
 intro pins s σ H Q I h;refine wpAny_Call_method_late uy vc uz rfl (thn (ho pins s σ H _ I h) fun v s1 ⟨x,H1,I1,r1,ty,q1⟩=>?_);obtain ⟨h1,h2⟩:=tyV_is I1 r1 ty;refine ⟨T,id,pa,slot,vL,h1,h2,?_⟩;have hA:=ha tQ pins s1 σ H1 _ I1 q1;rw [hs] at hA ⊢;refine Calls.callWith_builtin (by show (false||(backTo tQ (starEach es X.env)).any (·.1))=false;rw [vg] <;> rfl) (Calls.evalArgs_plain ?_);exact thn hA fun us s2 ⟨vs,H2,I2,r2,q2⟩=>hm pins s2 σ H2 x vs v us Q I2 r1 r2 q2
end
noncomputable def MtM (X:Cx) (id:String) (r:V->List V->Hp->VK->Prop):Prop:=
 ∀ (pins:List (Addr×Obj)) (s:Shared) (σ:St) (H:Hp) (x:V) (xs:List V) (v:Value) (us:List Value) (Q:VK),Inv X pins σ H s->RelV x v->aT xs us->r x xs H Q->
  wpAny (model X.prog X.w) X.A (call (.builtin id) (v::us)) (EP X pins σ Q) X.xe s
theorem aT.one:∀ {x:V} {us:List Value},aT [x] us->∃ u,us=[u]/\RelV x u
 | _,_,.cons r .nil=>⟨_,rfl,r⟩
theorem aT.two:∀ {x y:V} {us:List Value},aT [x,y] us->∃ u v,us=[u,v]/\RelV x u/\RelV y v
 | _,_,_,.cons r (.cons q .nil)=>⟨_,_,rfl,r,q⟩
theorem aT.zero:∀ {us:List Value},aT [] us->us=[]
 | _,.nil=>rfl
theorem aT.dropLast {xs:List V} {us:List Value} (h:aT xs us):aT xs.dropLast us.dropLast:=by
 induction h with
 | nil=>exact .nil
 | cons r t ih=>
  cases t with
  | nil=>exact .nil
  | cons q t'=>exact .cons r ih
theorem aT.reverse {xs:List V} {us:List Value} (h:aT xs us):aT xs.reverse us.reverse:=by
 induction h with
 | nil=>exact .nil
 | cons r t ih=>rw [List.reverse_cons,List.reverse_cons];exact aT.append ih (.cons r .nil)
theorem aT.rep {xs:List V} {us:List Value} (h:aT xs us):∀ k:Nat,aT (List.replicate k xs).flatten (List.replicate k us).flatten
 | 0=>.nil
 | k+1=>by
  rw [List.replicate_succ,List.replicate_succ,List.flatten_cons,List.flatten_cons];exact aT.append h (aT.rep h k)
theorem sJ {α:Type} (l:List α):l.eraseIdx (l.length-1)=l.dropLast:=by
 induction l with
 | nil=>rfl
 | cons a r ih=>
  cases r with
  | nil=>rfl
  | cons b r=>
   have e:(a::b::r).length-1=((b::r).length-1)+1:=by
    have h1:(a::b::r).length=r.length+2:=rfl;have h2:(b::r).length=r.length+1:=rfl;omega
   rw [e,List.eraseIdx_cons_succ,ih]
   all_goals rfl
theorem foldl_rep (its:List Value):∀ (k:Nat) (acc:List Value),
  List.foldl (fun x1 x2=>x1++x2) acc.toArray (List.replicate k its.toArray)=(acc++(List.replicate k its).flatten).toArray
 | 0,acc=>by simp
 | k+1,acc=>by
  have e:acc.toArray++its.toArray=(acc++its).toArray:=by simp
  have e2:(acc++its)++(List.replicate k its).flatten=acc++(List.replicate (k+1) its).flatten:=by
   rw [List.replicate_succ,List.flatten_cons,List.append_assoc]
  rw [<-e2,<-foldl_rep its k (acc++its),<-e,List.replicate_succ,List.foldl_cons]
section
variable {X:Cx} {pins:List (Addr×Obj)} {σ:St} {H:Hp} {s:Shared} {l b:Addr} {xs ys zs:List V}
theorem Inv.lset {its its':List Value} {n:Nat} {f:Array Value->Array Value} {t':Nat} (I:Inv X pins σ H s) (hH:H l=some (.lst xs))
  (e:s.heap.get? l=some { cls:=.type "list",data:=.seq its.toArray n }) (hf:f its.toArray=its'.toArray) (hv:aT ys its') (hz:ys.length<=sizeLine) :
  Inv X pins σ (upd H l (.lst ys)) { s with heap:=s.heap.update l (Obj.mapSeq f),toks:=t' }:=by
 have q:=PySem.IsL.update e f;rw [hf] at q;refine I.write (x:=l) (e:=l) (by rw [hH];exact trivial) (.inl rfl) (fun b' u hb hu=>(zW s.heap (Obj.mapSeq f) (Ne.symm hb)).trans hu) ⟨_,q⟩ ?_;exact ⟨hz,its',_,hv,q⟩
theorem Inv.lnew {its:List Value} {t':Nat} (I:Inv X pins σ H s) (hv:aT ys its) (hz:ys.length<=sizeLine) :
  Inv X pins σ (upd H s.heap.objs.size (.lst ys)) { s with heap:=s.heap.push { cls:=.type "list",data:=.seq its.toArray },toks:=t' }:=
 I.laid (fun _ _ q=>yV _ q) (zp _) ⟨hz,its,0,hv,zg _ rfl⟩
theorem Inv.fresh (I:Inv X pins σ H s):H s.heap.objs.size=none:=I.hok.fresh (zp _)
theorem Inv.lstM (I:Inv X pins σ H s) (hH:H l=some (.lst xs)):xs.length<=sizeLine/\∃ (its:List Value) (n:Nat),aT xs its/\xs.length=its.length/\s.heap.get? l=some { cls:=.type "list",data:=.seq its.toArray n }:=by
 obtain ⟨z,its,n,r,e⟩:=I.hok l _ hH;exact ⟨z,its,n,r,r.length,e⟩
theorem qM {n:Nat} (h:n<=sizeLine):Builtin.List.listTooLong n=false:=by
 unfold Builtin.List.listTooLong;exact Aw (by omega)
end
section
variable {X:Cx}
noncomputable def rAppend:V->List V->Hp->VK->Prop:=fun x vs H Q=>∃ l xs y,x=.ref l/\vs=[y]/\H l=some (.lst xs)/\xs.length<sizeLine/\Q .non (upd H l (.lst (xs++[y])))
theorem k7:MtM X "list.append" rAppend:=by
 intro pins s σ H x vs v us Q I rx rv h;obtain ⟨l,xs,y,rfl,rfl,hH,hz,q⟩:=h;cases rx;obtain ⟨u,rfl,ru⟩:=rv.one;obtain ⟨z,its,n,r,hl,e⟩:=I.lstM hH;refine call_meets F.slot_list_append ⟨_,e,rfl⟩ F.entry_list_append (F.args_list_append_2 _ _) (PySem.list_append l its.toArray n u (by rw [zf];omega)) ⟨e,?_⟩;refine ⟨.non,_,I.lset (its':=its++[u]) hH e (by simp) (r.append (.cons ru .nil)) ?_,rfl,q⟩;rw [zy,List.length_singleton];omega
noncomputable def rExtend:V->List V->Hp->VK->Prop:=fun x vs H Q=>∃ l b xs zs,x=.ref l/\vs=[.ref b]/\H l=some (.lst xs)/\H b=some (.lst zs)/\xs.length+zs.length<=sizeLine/\Q .non (upd H l (.lst (xs++zs)))
theorem mt_extend:MtM X "list.extend" rExtend:=by
 intro pins s σ H x vs v us Q I rx rv h;obtain ⟨l,b,xs,zs,rfl,rfl,hH,hB,hz,q⟩:=h;cases rx;obtain ⟨u,rfl,ru⟩:=rv.one;cases ru;obtain ⟨z,its,n,r,hl,e⟩:=I.lstM hH;obtain ⟨z2,vo,n2,r2,hl2,e2⟩:=I.lstM hB;have uQ:its.toArray.size+vo.toArray.size<=sizeLine:=by rw [zf,zf];omega
 have wt:¬(!its.toArray.isEmpty&&Builtin.List.listTooLong (its.toArray.size+vo.toArray.size))=true:=by
  rw [qM uQ,Bool.and_false];exact zK
 refine call_meets F.slot_list_extend ⟨_,e,rfl⟩ F.entry_list_extend (F.args_list_extend_2 _ _)
  (AutoSeq1.list_extend_list_list_0 l its.toArray n b vo.toArray n2 wt (by rw [zf];omega) (by omega)) ⟨e,e2,?_⟩
 refine ⟨.non,_,I.lset (its':=its++vo) hH e (by simp) (r.append r2) ?_,rfl,q⟩;rw [zy];omega
noncomputable def rPop:V->List V->Hp->VK->Prop:=fun x vs H Q=>∃ l xs y,x=.ref l/\vs=[]/\H l=some (.lst xs)/\xs[xs.length-1]?=some y/\Q y (upd H l (.lst xs.dropLast))
theorem mt_pop:MtM X "list.pop" rPop:=by
 intro pins s σ H x vs v us Q I rx rv h;obtain ⟨l,xs,y,rfl,rfl,hH,hy,q⟩:=h;cases rx;have hus:=rv.zero;subst hus;obtain ⟨z,its,n,r,hl,e⟩:=I.lstM hH;obtain ⟨u,hu,ru⟩:=r.get hy;have hy':its.toArray[its.toArray.size-1]?=some u:=by
  show its.toArray[its.length-1]?=some u;rw [<-Array.getElem?_toList,<-hl];exact hu
 refine call_meets F.slot_list_pop ⟨_,e,rfl⟩ F.entry_list_pop (F.args_list_pop_1 _) (MeetsSeq.list_pop_last l its.toArray n u hy' (by rw [zf];omega)) ⟨e,?_⟩;refine ⟨y,_,I.lset (its':=its.dropLast) hH e ?_ r.dropLast ?_,ru,q⟩
 ·show its.toArray.eraseIdxIfInBounds (its.toArray.size-1)=its.dropLast.toArray;rw [zf,List.eraseIdxIfInBounds_toArray,sJ]
 ·rw [List.length_dropLast];omega
noncomputable def rReverse:V->List V->Hp->VK->Prop:=fun x vs H Q=>∃ l xs,x=.ref l/\vs=[]/\H l=some (.lst xs)/\Q .non (upd H l (.lst xs.reverse))
theorem sL:MtM X "list.reverse" rReverse:=by
 intro pins s σ H x vs v us Q I rx rv h;obtain ⟨l,xs,rfl,rfl,hH,q⟩:=h;cases rx;have hus:=rv.zero;subst hus;obtain ⟨z,its,n,r,hl,e⟩:=I.lstM hH;refine call_meets F.slot_list_reverse ⟨_,e,rfl⟩ F.entry_list_reverse (F.args_list_reverse_1 _) (AutoSeq1.list_reverse_list_0 l its.toArray n (by rw [zf];omega)) ⟨e,?_⟩;refine ⟨.non,_,I.lset (its':=its.reverse) hH e (by simp) r.reverse ?_,rfl,q⟩;rw [List.length_reverse];omega
noncomputable def rCat:R2:=fun x y H Q=>∃ l b xs zs,x=.ref l/\y=.ref b/\H l=some (.lst xs)/\H b=some (.lst zs)/\xs.length+zs.length<=sizeLine/\∀ p,H p=none->Q (.ref p) (upd H p (.lst (xs++zs)))
theorem op_cat:OpR X (binaryOp .Add) rCat:=by
 intro pins s σ H x y v u Q I rx ry h;obtain ⟨l,b,xs,zs,rfl,rfl,hH,hB,hz,q⟩:=h;cases rx;cases ry;obtain ⟨z,its,n,r,hl,e⟩:=I.lstM hH;obtain ⟨z2,vo,n2,r2,hl2,e2⟩:=I.lstM hB;refine PySem.P.add_list e e2 ?_ (by rw [zf,zf];omega);have ea:its.toArray++vo.toArray=(its++vo).toArray:=by simp
 rw [ea];exact ⟨.ref _,_,I.lnew (t':=s.toks) (r.append r2) (by rw [zy];omega),rfl,q _ I.fresh⟩
noncomputable def rRep:R2:=fun x y H Q=>∃ l k xs,x=.ref l/\y=.int k/\H l=some (.lst xs)/\-(2 ^ 63)<=k/\k<2 ^ 63/\xs.length*k.toNat<=sizeLine/\
 ∀ p,H p=none->Q (.ref p) (upd H p (.lst (List.replicate k.toNat xs).flatten))
theorem len_rep {α:Type} (xs:List α) (k:Nat):(List.replicate k xs).flatten.length=k*xs.length:=by
 induction k with
 | zero=>simp
 | succ k ih=>rw [List.replicate_succ,List.flatten_cons,zy,ih,Nat.succ_mul,Nat.add_comm]
theorem op_rep:OpR X (binaryOp .Mult) rRep:=by
 intro pins s σ H x y v u Q I rx ry h;obtain ⟨l,k,xs,rfl,rfl,hH,h1,h2,hz,q⟩:=h;cases rx;obtain ⟨t,rfl⟩:=ry;obtain ⟨z,its,n,r,hl,e⟩:=I.lstM hH;have hlen:its.toArray.size*k.toNat<=sizeLine:=by rw [zf,<-hl];exact hz
 have hcap:¬its.toArray.size*k.toNat>(2 ^ 63-1) / 8:=by
  have:(sizeLine:Nat)<=(2 ^ 63-1) / 8:=by decide
  omega
 have hfit:¬(!Builtin.List.listFitsIndex k)=true:=by
  rw [fitsIndex_both h1 h2];exact zK
 have wt:¬Builtin.List.listTooLong (its.toArray.size*k.toNat)=true:=by
  rw [qM hlen];exact zK
 have uK:List.foldl (fun x1 x2=>x1++x2) #[] (List.replicate (if its.toArray.isEmpty=true then 0 else k.toNat) its.toArray)=(List.replicate k.toNat its).flatten.toArray:=by
  have f0:∀ m:Nat,List.foldl (fun x1 x2=>x1++x2) #[] (List.replicate m its.toArray)=(List.replicate m its).flatten.toArray:=fun m=>by
   have:=foldl_rep its m [];rw [List.nil_append] at this;exact this
  rw [f0];cases its with
  | nil=>simp
  | cons a r'=>rw [if_neg (by simp)]
 refine wpAny_binaryOp_repeat_ref (T:="list") (U:="int") (by decide) ⟨_,e,rfl⟩ (fun s'=>typeIs_int s' k t) noFill_list_mul F.fills_int_mul F.slot_int_rmul repeat_list F.slot_int_index.lookup
  (call_meets F.slot_int_rmul (typeIs_int s k t) F.entry_int_rmul (F.args_int_rmul_2 _ _) (int___rmul___int_list k t l its.toArray n)
   ⟨e,rfl,⟨_,e,rfl⟩,call_meets F.slot_list_mul ⟨_,e,rfl⟩ F.entry_list_mul (F.args_list_mul_2 _ _) (AutoListH.list___mul___list_int_3 l its.toArray n k t hfit hcap wt) ⟨e,?_⟩⟩)
 rw [uK];exact ⟨.ref _,_,I.lnew (t':=s.toks) (r.rep k.toNat) (by rw [len_rep,Nat.mul_comm];exact hz),rfl,q _ I.fresh⟩
end
end L2
namespace Att
open PySem PySem.W PySem.Calls PyProof.Rows
theorem lZ {P:Params} {h:Heap}:∀ (ns:List Int) (vs:List Value),WellAll P h vs (ns.map WData.int)->IntsAre vs ns:=by
 intro ns
 induction ns with
 | nil=>
  intro vs w;rw [List.map_nil] at w;cases w;exact .nil
 | cons n ns ih=>
  intro vs w;rw [zb] at w;cases w with
  | cons a b=>
   cases a;exact .cons _ _ (ih _ b)
theorem script_of {l:OpenLaw} {n:Nat} (hn:l.most=some n) {P:Params} {h:Heap} {args:List WData} {vals:List Value}
    (wL:l.row.toRowW.claim.pre args=true) (wB:WellAll P h vals args) :
    ∃ a vs ns,vals=[Value.ref a]/\args=[WData.list (ns.map WData.int)]/\h.get? a=some { cls:=.type "list",data:=.seq vs.toArray }/\IntsAre vs ns/\ns.length<=n:=by
  have hsh:WShape.hasAll [] args [.list .int]=true:=(pre_splitW wL).1;have hc:l.pre.holds [] { args:=args }=true:=(pre_splitW wL).2;obtain ⟨d,r,rfl,h1,h2⟩:=hasAllW_cons hsh;obtain rfl:=hasAllW_nil h2;obtain ⟨xs,rfl,h3⟩:=hasW_list h1;obtain ⟨ns,rfl⟩:=items_int h3;have hlen:ns.length<=n:=by
    unfold OpenLaw.pre at hc;have h4:(WTm.not (.lt (.lit (.int (n:Int))) (.len (.arg 0)))).holds [] { args:=[.list (ns.map .int)] }=true:=by
      have h4:=(holds_andW hc).1;rw [hn] at h4;exact h4
    have h5:=condW_of h4 (w_not (w_lt w_lit (w_len_list (w_arg rfl))));rw [uk] at h5;refine Nat.le_of_not_lt fun q=>?_;have q':(n:Int)<((ns.length:Nat):Int):=by omega
    first
      | (rw [Av q'] at h5;exact absurd h5 (by decide))
      | (simp at h5;omega)
  cases wB with
  | cons w1 w2=>
    cases w2;cases w1 with
    | list ho vP=>exact ⟨_,_,ns,rfl,rfl,ho,lZ ns _ vP,hlen⟩
theorem post_true (l:OpenLaw) (args:List WData):l.row.toRowW.claim.post args (.bool true) args=true:=
 postW_of (r:=l.row.toRowW) (X:=(true==true))
  (show WShape.has [] (.bool true) .bool=true by first | rfl | decide | simp [WShape.has,WShape.arms,WShape.armsAll])
  (show (WTm.eq .res (.lit (.bool true))).value [] { args:=args,res:=some (.bool true),after:=args }=some (.bool (true==true)) from w_eq_bool (w_res rfl) w_lit) rfl
theorem attach_call {l:OpenLaw} {n:Nat} {q:Program} {loose:List Str} {XP:(Str->Option Value)->Heap->Prop} {YP:World->Heap->Prop} {d:DefRec}
  (hn:l.most=some n) (yB:d.params.defaults=[])
  (call:∀ (w:World) (s₀ tM:Shared) (mg mb:Str->Option Value) (fa:Addr) (o:Obj) (pm cd doc:Value) (a:Addr) (vs:List Value) (ns:List Int),
   Ground q loose [] XP w s₀ mg mb tM.heap->YP w tM.heap->
   tM.heap.get? fa=some o->o.data=.func (docDef d.name d.params d.body d.scope pm cd doc)->tM.heap.CodeRec cd d.name->mg d.name=some (.ref fa)->
   tM.heap.get? a=some { cls:=.type "list",data:=.seq vs.toArray }->IntsAre vs ns->ns.length<=n->tM.gens=#[]->
   codeAny (model l.prog w) callerA (.call (.ref fa) ⟨[.ref a],[]⟩) (fun r s'=>r=.ok (.ret (.bool true))/\OldK tM.heap s'.heap/\s'.os=tM.os/\AllBare s'.gens) tM) :
  WalkO q loose XP YP l.row.toRowW d [] (fun f vs=>PySem.call f vs):=by
 intro w s₀ tM mg mb G Y fa o pm cd doc dV kV ho hd uX hD xE hg args vals as wL hlay hrd wB hlo;obtain rfl:dV=.none:=Dflts.none hD yB;obtain rfl:kV=.none:=Dflts.noKw hD;obtain ⟨a,vs,ns,rfl,rfl,xB,hints,hlen⟩:=script_of hn wL wB;refine enter_call (codeAny_mono (call w s₀ tM mg mb fa o pm cd doc a vs ns G Y ho (fd_plain hd) uX xE xB hints hlen hg) fun r s' hq=>?_);obtain ⟨rfl,h2,h3,h4⟩:=hq;exact ⟨.inl ⟨.bool true,.bool true,[],rfl,fun _=>rfl,.bool true,post_true l _,fun _=>⟨List.Pairwise.nil,fun _ hm=>(nomatch hm)⟩⟩,h2,h3,h4⟩
end Att
namespace L2
open PySem PySem.Spec PyProof.Rows
theorem oU:∀ {vs:List Value} {ns:List Int},IntsAre vs ns->aT (ns.map V.int) vs
 | _,_,.nil=>.nil
 | _,_,.cons n t h=>.cons ⟨t,rfl⟩ (oU h)
def Only (H:Hp):Prop:=∀ b,H b=none\/∃ o xs,H b=some (.frz o (.lst xs))
theorem law_call {P:Program} {w:World} {K:Frag} {mg mb:Str->Option Value} {CX:CXT} {k:Nat} {fa a:Addr} {fd:FuncData} {x:Str} {sp:Sp} {tM:Shared} {vs:List Value} {ns:List Int}
  (KX:K.In tM.heap) (xD:tM.heap.Ns mainGlobals mg) (hb:tM.heap.Ns builtinsNs mb) (hbb:∀ x:Str,x≠"__name__"->mb x=bootBuiltins x) (hlim:tM.heap.NoLimit) (hg:tM.gens=#[])
  (ha:tM.heap.get? a=some { cls:=.type "list",data:=.seq vs.toArray }) (hi:IntsAre vs ns) (hl:ns.length<=sizeLine) (hr:bx k callerA)
  (F:∀ base:Heap,K.In base->base.Ns mainGlobals mg->dJ P w K mg base CX k fa fd [x] sp) (yG:∀ (s:Shared) (u:Value),BindsTo s fd ⟨[u],[]⟩ [(x,u)])
  (vp:∀ H:Hp,Only H->SqL K H a (ns.map V.int)->sp [.ref a] H (fun v _=>v=.bl true) fun _ _ _=>False)
  (yI:∀ H e s',CX [] H tM (fun _ _ _=>False) e s'->False) :
  codeAny (model P w) callerA (.call (.ref fa) ⟨[.ref a],[]⟩) (fun r s'=>r=.ok (.ret (.bool true))/\OldK tM.heap s'.heap/\s'.os=tM.os/\AllBare s'.gens) tM:=by
 have rv:=oU hi;have lenV:=hi.length;have core:∀ H:Hp,Only H->SqL K H a (ns.map V.int)->HOk P w H tM.heap->(∀ b,H b≠none->b=a)->(H a≠none->K.lookup a=none)->
   codeAny (model P w) callerA (.call (.ref fa) ⟨[.ref a],[]⟩) (fun r s'=>r=.ok (.ret (.bool true))/\OldK tM.heap s'.heap/\s'.os=tM.os/\AllBare s'.gens) tM:=by
  intro H hO hS hok hA hK;have base_of:∀ {b:Addr} {o:Obj},tM.heap.get? b=some o->H b=none->(hidT tM.heap H).get? b=some o:=fun e n=>hidT_get e n;have yj:∀ {b:Addr} {o:Obj} {es:Array DictEntry} {ep:Nat},tM.heap.get? b=some o->o.data=.dict es ep->H b=none:=fun {b o es ep} e d=>by
   cases q:H b with
   | none=>rfl
   | some u=>
    have e':b=a:=hA b (by rw [q];simp);subst e';rw [ha] at e;cases e;have d':Data.seq vs.toArray _=Data.dict es ep:=d;cases d'
  have nsK:∀ {b:Addr} {m:Str->Option Value},tM.heap.Ns b m->(hidT tM.heap H).Ns b m:=fun {b m} ⟨o,es,ep,e,d,r⟩=>⟨o,es,ep,base_of e (yj e d),d,r⟩;have hKb:K.In (hidT tM.heap H):=fun b o e=>base_of (KX b o e) (by
   cases q:H b with
   | none=>rfl
   | some u=>
    have e':b=a:=hA b (by rw [q];simp);subst e';rw [hK (by rw [q];simp)] at e;cases e)
  have hM:Mod K mg (hidT tM.heap H):=⟨hKb,nsK xD,⟨mb,nsK hb,hbb⟩,let ⟨mc,h1,h2⟩:=hlim;⟨mc,nsK h1,h2⟩⟩;have e0:Env0 P w K mg (hidT tM.heap H) callerA [] tM H:=⟨rfl,hM,fun b o e=>of_hidT e,Nat.le_of_eq (hidT_size _ _),trivial,fun b hb=>absurd (show b∈([]:List Addr) from hb) (by simp),hok,.of_eq hg⟩;refine codeAny_mono ((F _ hKb (nsK xD)).run callerA [] tM H ⟨[.ref a],[]⟩ [.ref a] [.ref a] _ _ hr e0 (yG tM (.ref a)) (.cons rfl .nil) (vp H hO hS)) fun r s' h=>?_;cases r with
  | error e=>exact (yI H e s' h).elim
  | ok fl=>
   cases fl with
   | next=>exact False.elim h
   | brk=>exact False.elim h
   | cont=>exact False.elim h
   | ret u=>
    obtain ⟨v,H',os,bare,un,hok',r',q⟩:=h;have q':v=.bl true:=q;subst q';obtain rfl:u=Value.bool true:=r';refine ⟨rfl,OldK.of_keep fun b o e=>?_,os,bare⟩;cases q:H b with
    | none=>exact un.keep b o e q (by intro z;exact absurd (show b∈([]:List Addr) from z) (by simp)) (by simp)
    | some u=>
     rcases hO b with z | ⟨ob,xs,z⟩
     ·rw [q] at z;cases z
     ·have z2:=un.frzs b ob _ z;obtain ⟨e1,_⟩:=hok b _ z;obtain ⟨e2,_⟩:=hok' b _ z2;rw [e] at e1;cases e1;exact e2
 cases hk:K.lookup a with
 | some o=>
  have e:=KX a o hk;rw [ha] at e;cases e;refine core (fun _=>none) (fun _=>.inl rfl) (.inr ⟨_,vs.toArray,_,hk,rfl,rfl,rfl,by rw [zf,lenV];exact hl,by simpa using rv⟩) (fun b u z=>by have z':(none:Option HO)=some u:=z;cases z') (fun b z=>absurd rfl z) fun z=>absurd rfl z
 | none=>
  refine core (fun b=>if b=a then some (.frz { cls:=.type "list",data:=.seq vs.toArray } (.lst (ns.map V.int))) else none) (fun b=>?_) (.inl (.inr ⟨{ cls:=.type "list",data:=.seq vs.toArray },if_pos rfl⟩)) (fun b u z=>?_) (fun b z=>?_) fun _=>hk
  ·by_cases hb:b=a
   ·exact .inr ⟨_,_,if_pos hb⟩
   ·exact .inl (if_neg hb)
  ·by_cases hb:b=a
   ·have z':=(if_pos hb).symm.trans z;cases z';subst hb;exact ⟨ha,by rw [uk];exact hl,vs,_,rv,ha⟩
   ·have z':=(if_neg hb).symm.trans z;cases z'
  ·by_cases hb:b=a
   ·exact hb
   ·exact absurd (if_neg hb) z
abbrev KOf {K:Frag} {h:Heap} (_:K.In h):Frag:=K
theorem walk_of {l:OpenLaw} {n k:Nat} {q:Program} {loose:List Str} {XP:(Str->Option Value)->Heap->Prop} {YP:World->Heap->Prop} {d:DefRec} {K:Params->Frag} {CX:World->CXT} {sp:World->Sp} {x:Str}
  (hn:l.most=some n) (xc:n<=sizeLine) (yB:d.params.defaults=[]) (hr:bx k callerA)
  (hY:∀ (w:World) (h:Heap),YP w h->(K w.params).In h)
  (F:∀ (w:World) (mg:Str->Option Value) (fa:Addr) (h:Heap),(K w.params).In h->h.Ns mainGlobals mg->mg d.name=some (.ref fa)->
   ∃ fd:FuncData,(∀ (s:Shared) (u:Value),BindsTo s fd ⟨[u],[]⟩ [(x,u)])/\
    ∀ base:Heap,(K w.params).In base->base.Ns mainGlobals mg->dJ l.prog w (K w.params) mg base (CX w) k fa fd [x] (sp w))
  (vp:∀ (w:World) (H:Hp) (a:Addr) (ns:List Int),ns.length<=n->Only H->SqL (K w.params) H a (ns.map V.int)->sp w [.ref a] H (fun v _=>v=.bl true) fun _ _ _=>False)
  (yI:∀ (w:World) (H:Hp) (s:Shared) (e:Value) (s':Shared),CX w [] H s (fun _ _ _=>False) e s'->False) :
  WalkO q loose XP YP l.row.toRowW d [] (fun f vs=>PySem.call f vs):=by
 refine Att.attach_call hn yB fun w s₀ tM mg mb fa o pm cd doc a vs ns G Y ho hd uX xE xB hints hlen hg=>?_;have KX:=hY w _ Y;obtain ⟨fd,hb,hF⟩:=F w mg fa _ KX G.T.g xE;exact law_call KX G.T.g G.T.b G.T.builtins G.T.nolimit hg xB hints (zN hlen xc) hr hF hb (fun H hO hS=>vp w H a ns hlen hO hS) fun H e s'=>yI w H tM e s'
theorem walk_ofK {l:OpenLaw} {n k:Nat} {q:Program} {loose:List Str} {XP:(Str->Option Value)->Heap->Prop} {YP:World->Heap->Prop} {d:DefRec} {K:Params->Frag} {CX:CXT} {sp:Frag->Sp} {x:Str}
  (hn:l.most=some n) (xc:n<=sizeLine) (yB:d.params.defaults=[]) (hr:bx k callerA)
  (hY:∀ (w:World) (h:Heap),YP w h->(K w.params).In h)
  (F:∀ (w:World) (mg:Str->Option Value) (fa:Addr) (h:Heap),(K w.params).In h->h.Ns mainGlobals mg->mg d.name=some (.ref fa)->
   ∃ fd:FuncData,(∀ (s:Shared) (u:Value),BindsTo s fd ⟨[u],[]⟩ [(x,u)])/\
    ∀ base:Heap,(K w.params).In base->base.Ns mainGlobals mg->dJ l.prog w (K w.params) mg base CX k fa fd [x] (sp (K w.params)))
  (vp:∀ (K:Frag) (H:Hp) (a:Addr) (ns:List Int),ns.length<=n->Only H->SqL K H a (ns.map V.int)->sp K [.ref a] H (fun v _=>v=.bl true) fun _ _ _=>False)
  (yI:∀ (H:Hp) (s:Shared) (e:Value) (s':Shared),CX [] H s (fun _ _ _=>False) e s'->False) :
  WalkO q loose XP YP l.row.toRowW d [] (fun f vs=>PySem.call f vs):=
 walk_of (K:=K) (CX:=fun _=>CX) (sp:=fun w=>sp (K w.params)) hn xc yB hr hY F (fun w H a ns h1 h2 h3=>vp (K w.params) H a ns h1 h2 h3) fun _ H s e s'=>yI H s e s'
noncomputable def inClass (s:Stmt) (j:Nat):Stmt:=match s with
 | .ClassDef _ _ _ body _ _ _ _ _ _ _=>body.getD j (.Pass ⟨0,0,0,0⟩)
 | _=>.Pass ⟨0,0,0,0⟩
noncomputable def bz (s:Stmt):Arguments:=match s with
 | .FunctionDef _ a _ _ _ _ _ _ _ _=>a
 | _=>{ posonlyargs:=[],args:=[],vararg:=none,kwonlyargs:=[],kw_defaults:=[],kwarg:=none,defaults:=[] }
def aY (s:Stmt):List Stmt:=match s with
 | .FunctionDef _ _ b _ _ _ _ _ _ _=>b
 | _=>[]
noncomputable def au (s:Stmt):Scope:=match s with
 | .FunctionDef _ _ _ _ _ _ sc _ _ _=>sc
 | _=>{ kind:=.function,names:=[],isGenerator:=false,isCoroutine:=false }
abbrev CX0:CXT:=fun _ _ _ _ _ _=>False
abbrev E0:XK:=fun _ _ _=>False
theorem oV {X:Cx}:iE CX0 X E0:=fun _ _ _ _ _ _ _ h=>h.elim
structure Fun (K:Frag) (x qual:Str) (st:Stmt) (f:Addr) (fd:FuncData):Prop where
 ex:∃ (oc:Value) (od:Option Addr) (kV doc pm:Value) (an:Option Addr) (ux ct:Value) (uP:Array (Option Value)),
  fd=fnOf x qual (bz st) (aY st) (au st) .none kV doc pm an ux ct/\K.lookup f=some ⟨oc,od,.func fd,uP⟩/\codeIn K ux qual=true
 kp:keepIn K (.ref f)=true
section
variable {P:Program} {w:World} {K:Frag} {mg:Str->Option Value} {base:Heap}
theorem Fun.ok {x qual:Str} {st:Stmt} {f:Addr} {fd:FuncData} {N ps:List Str} {k:Nat} {sp:Sp} (F:Fun K x qual st f fd) (S:eB N ps (au st)) (len:∀ vs H Q E,sp vs H Q E->vs.length=ps.length)
  (vf:∀ (ux:Value) (A:Around) (outer:List Env) (s:Shared) (H:Hp) (vs:List V) (Q:VK) (E:XK),bx k (A.deeper (envOfC qual (au st) s.heap.objs.size f ux))->sp vs H Q E->
   ∃ t,PSs (ju CX0 P w K mg base N qual (au st) f ux A outer s H E).nox (aY st) t/\t { nx:=fun _ H'=>Q .non H',rt:=Q } (start N vs) H):dJ P w K mg base CX0 (k+1) f fd ps sp:=by
 obtain ⟨oc,od,kV,doc,pm,an,ux,ct,uP,rfl,lk,uX⟩:=F.ex;refine fn_of lk uX S len fun A outer s H vs Q E hr vp=>?_;obtain ⟨t,h,q⟩:=vf ux A outer s H vs Q E hr vp;exact ⟨t,h.nox,q⟩
theorem Fun.binds {x qual:Str} {st:Stmt} {f:Addr} {fd:FuncData} {ps:List Str} (F:Fun K x qual st f fd)
  (h:∀ (kV doc pm:Value) (an:Option Addr) (ux ct:Value) (us:List Value),us.length=ps.length->bindArgs (fnOf x qual (bz st) (aY st) (au st) .none kV doc pm an ux ct) ⟨us,[]⟩=pure (ps.zip us)):Binds K fd ps []:=by
 obtain ⟨oc,od,kV,doc,pm,an,ux,ct,uP,rfl,lk,uX⟩:=F.ex;exact .all (h kV doc pm an ux ct)
theorem k9 {x qual:Str} {st:Stmt} {f:Addr} {oc:Value} {od an:Option Addr} {uP:Array (Option Value)} {kV doc pm ux ct:Value} (l:K.lookup f=some ⟨oc,od,.func (fnOf x qual (bz st) (aY st) (au st) .none kV doc pm an ux ct),uP⟩)
 (c:codeIn K ux qual=true) (k:keepIn K (.ref f)=true):Fun K x qual st f (fnOf x qual (bz st) (aY st) (au st) .none kV doc pm an ux ct):=⟨⟨oc,od,kV,doc,pm,an,ux,ct,uP,rfl,l,c⟩,k⟩
end
section
variable {X:Cx}
theorem pv (i:Nat) {x:Str} {pos:Pos} (hN:X.N[i]?=some x:=by rfl) (hv:Vis X.env.scope x:=by first | exact Or.inl rfl | exact Or.inr (Or.inl rfl) | exact Or.inr (Or.inr rfl)) (hd:(x==("__debug__" : Str))=false:=by decide)
 (uX:(x==("__classdict__" : Str))=false:=by decide):PE X (.Name x pos) (kX i):=pe_var hN hv hd uX
end
def aQ (H H':Hp):Prop:=∀ b o,H b=some o->H' b=some o
theorem aQ.refl (H:Hp):aQ H H:=fun _ _ h=>h
theorem aQ.trans {H H1 H2:Hp} (a:aQ H H1) (b:aQ H1 H2):aQ H H2:=fun c o h=>b c o (a c o h)
theorem aQ.free {H H':Hp} (e:aQ H H') {l:Addr} (h:H' l=Option.none):H l=Option.none:=by
 cases q:H l with
 | none=>rfl
 | some o=>
  rw [e l o q] at h;cases h
theorem pP {prog:Program} {w:World} {A:Around} {R:Result->Shared->Prop} {s:Shared} {elt target iter:Expr} {ifs:List Expr} {scope:Scope} {pos:Pos} {it acc:Value} {env:Env} (J:Nat->Shared->Prop)
  (turn:∀ n s,J n s->wpAny (model prog w) A (pyNext it) (fun r tM=>match r with
   | none=>R (.ok .next) tM
   | some v=>wpAny (model prog w) A (letOwnedTupleGo target it v) (fun _ uO=>wpAny (model prog w) A (assign target env v) (fun _ vJ=>
    wpAny (model prog w) A (forIn ifs true fun c r=>if r=true then do let ok <-isTrue c env (eval c env);pure (ForInStep.yield ok) else pure (ForInStep.yield r)) (fun ok wd=>
     if ok=true then wpAny (model prog w) A (eval elt env) (fun x yb=>
      wpAny (model prog w) A (call (.builtin "list.append") [acc,x]) (fun _ ya=>∃ m,m<n/\J m ya) (fun _ _=>False) yb) (fun _ _=>False) wd
     else ∃ m,m<n/\J m wd) (fun _ _=>False) vJ) (fun _ _=>False) uO) (fun _ _=>False) tM) (fun _ _=>False) s)
  (n:Nat) (h:J n s) :
  codeAny (model prog w) A (.compLoop (.ListComp elt [⟨target,iter,ifs,0⟩] scope pos) 0 it acc env) R s:=by
 refine codeAny_loop rfl J (fun n s hI=>?_) n h;show wpAny _ A ((compTurn (.ListComp elt [⟨target,iter,ifs,0⟩] scope pos) 0 it acc env).onRaise (fun x=>do noteFrame x env;theTreesLotGoes x)) _ _ s;refine wpAny_noted ?_;rw [compTurn_list];refine ub (wpAny_standAt (ub (Ap (turn n s hI) (fun r tM ua=>?_) fun _ _ z=>z.elim)));cases r with
 | none=>exact uc ua
 | some v=>
  refine ub (Ap ua (fun _ uO h₂=>?_) fun _ _ z=>z.elim);refine ub (Ap h₂ (fun _ vJ h₃=>ub (Ap h₃ (fun ok wd yn=>?_) fun _ _ z=>z.elim)) fun _ _ z=>z.elim);cases ok with
  | false=>exact uc ⟨rfl,yn⟩
  | true=>
   exact ub (ub (Ap yn (fun x yb h₅=>ub (Ap h₅ (fun _ ya h₆=>uc (uc ⟨rfl,h₆⟩)) fun _ _ z=>z.elim)) fun _ _ z=>z.elim))
noncomputable def iF (cs:List (Str×Addr)):List (Str×NameKind)->List (Str×Addr)->List (Str×Addr)
  | [],acc=>acc
  | (n,k)::r,acc=>if k==.free then iF cs r ((n,(cs.lookup n).getD 0)::acc) else iF cs r acc
theorem jw {scope:Scope} {env:Env} (h:∀ p∈scope.names,p.2=.free->∃ c,env.cells.lookup p.1=some c):closureFor scope env=pure (iF env.cells scope.names []):=by
  simp only [closureFor];have go:∀ (ns:List (Str×NameKind)) (acc:List (Str×Addr)),(∀ p∈ns,p.2=.free->∃ c,env.cells.lookup p.1=some c)->
      (forIn ns acc fun (x:Str×NameKind) (r:List (Str×Addr))=>(match x with | (name,kind)=>if (kind==NameKind.free)=true then do let y <-cellOf env name;pure (ForInStep.yield ((name,y)::r)) else pure (ForInStep.yield r):Sem _))=(pure (iF env.cells ns acc):Sem _):=by
    intro ns
    induction ns with
    | nil=>intro acc _;rfl
    | cons p r ih=>
      intro acc hp;obtain ⟨n,k⟩:=p;rw [List.forIn_cons];by_cases hk:k=.free
      . subst hk
        obtain ⟨c,hc⟩:=hp (n,.free) yY rfl;have hc:env.cells.lookup n=some c:=hc;have e1:cellOf env n=pure c:=by unfold cellOf;rw [hc]
        simp only [e1,beq_self_eq_true,if_true,pure_bind,iF,hc,Option.getD_some];exact ih _ fun p vq=>hp p (uf _ vq)
      . have hb:(k==NameKind.free)=false:=by simpa using hk
        simp only [hb,Bool.false_eq_true,if_false,pure_bind,iF];exact ih _ fun p vq=>hp p (uf _ vq)
  have:=go scope.names [] h
  first
    | (rw [this];rfl)
    | (simp only [this];rfl)
    | simpa using this
theorem pQ {cs:List (Str×Addr)} {x:Str} {c:Addr}:∀ (ns:List (Str×NameKind)) (acc:List (Str×Addr)),(∀ p∈ns,p.2=.free->∃ c,cs.lookup p.1=some c)->(iF cs ns acc).lookup x=some c->acc.lookup x=some c\/cs.lookup x=some c
  | [],acc,_,h=>.inl h
  | (n,k)::r,acc,hp,h=>by
    unfold iF at h;by_cases hk:k=.free
    . subst hk
      simp only [beq_self_eq_true,if_true] at h;obtain ⟨d,hd⟩:=hp (n,.free) yY rfl;have hd:cs.lookup n=some d:=hd;rcases pQ r _ (fun p vq=>hp p (uf _ vq)) h with q | q
      . rw [List.lookup_cons] at q
        cases hx:x==n with
        | true=>
          rw [hx] at q;have e:x=n:=by simpa using hx
          subst e;rw [hd] at q;simp at q;exact .inr (by rw [hd,q])
        | false=>rw [hx] at q;exact .inl q
      . exact .inr q
    . have hb:(k==NameKind.free)=false:=by simpa using hk
      simp only [hb,Bool.false_eq_true,if_false] at h;exact pQ r _ (fun p vq=>hp p (uf _ vq)) h
theorem mK {cs:List (Str×Addr)} {x:Str}:∀ (ns:List (Str×NameKind)) (acc:List (Str×Addr)),(∃ c,acc.lookup x=some c)->∃ c,(iF cs ns acc).lookup x=some c
  | [],acc,h=>h
  | (n,k)::r,acc,h=>by
    unfold iF;split
    . refine mK r _ ?_
      rw [List.lookup_cons];cases hx:x==n with
      | true=>exact ⟨_,rfl⟩
      | false=>exact h
    . exact mK r _ h
theorem ke {cs:List (Str×Addr)} {x:Str}:∀ (ns:List (Str×NameKind)) (acc:List (Str×Addr)),(x,NameKind.free)∈ns->∃ c,(iF cs ns acc).lookup x=some c
  | [],_,h=>by simp at h
  | (n,k)::r,acc,h=>by
    unfold iF;rcases zj.mp h with e | h
    . cases e
      simp only [beq_self_eq_true,if_true];exact mK r _ ⟨_,by rw [List.lookup_cons,beq_self_eq_true]⟩
    . split
      . exact ke r _ h
      . exact ke r _ h
theorem ft {env:Env}:∀ {names:List (Str×NameKind)} {x:Str} {k:NameKind},
    (names.map fun (n,k)=>if (k==NameKind.free&&env.scope.kind==.function&&env.kindOf n==some .cell) then (n,NameKind.cell) else (n,k)).lookup x=some k->
    names.lookup x=some k\/names.lookup x=some .free
  | [],_,_,h=>by simp at h
  | (n,k')::r,x,k,h=>by
    have ih:=@ft env r x k;have h:List.lookup x ((if (k'==NameKind.free&&env.scope.kind==.function&&env.kindOf n==some .cell)=true then (n,NameKind.cell) else (n,k'))::(r.map fun (n,k)=>if (k==NameKind.free&&env.scope.kind==.function&&env.kindOf n==some .cell) then (n,NameKind.cell) else (n,k)))=some k:=h;by_cases hc:(k'==NameKind.free&&env.scope.kind==.function&&env.kindOf n==some .cell)=true
    . rw [if_pos hc,List.lookup_cons] at h
      rw [List.lookup_cons];cases hx:x==n with
      | true=>
        have:k'=.free:=by simp at hc;exact hc.1.1
        rw [this];exact .inr rfl
      | false=>rw [hx] at h;exact ih h
    . rw [if_neg hc,List.lookup_cons] at h
      rw [List.lookup_cons];cases hx:x==n with
      | true=>rw [hx] at h;exact .inl h
      | false=>rw [hx] at h;exact ih h
theorem iG {env:Env} {x:Str}:∀ (ns:List (Str×NameKind)),ns.lookup x=some .free->
    (ns.map fun (n,k)=>if (k==NameKind.free&&env.scope.kind==.function&&env.kindOf n==some .cell) then (n,NameKind.cell) else (n,k)).lookup x≠some .local
  | [],h=>by simp at h
  | (n,k')::r,h=>by
    have ih:=@iG env x r;show List.lookup x ((if (k'==NameKind.free&&env.scope.kind==.function&&env.kindOf n==some .cell)=true then (n,NameKind.cell) else (n,k'))::(r.map fun (n,k)=>if (k==NameKind.free&&env.scope.kind==.function&&env.kindOf n==some .cell) then (n,NameKind.cell) else (n,k)))≠some .local;rw [List.lookup_cons] at h;by_cases hc:(k'==NameKind.free&&env.scope.kind==.function&&env.kindOf n==some .cell)=true
    . rw [if_pos hc,List.lookup_cons]
      cases hx:x==n with
      | true=>intro z;cases z
      | false=>rw [hx] at h;exact ih h
    . rw [if_neg hc,List.lookup_cons]
      cases hx:x==n with
      | true=>rw [hx] at h;intro z;rw [show some k'=some NameKind.free from h] at z;cases z
      | false=>rw [hx] at h;exact ih h
noncomputable def bD (X:Cx) (N:List Str) (scope:Scope) (cl:List (Str×Addr)) (C:Addr) (s:Shared) (H:Hp) (fp:List Addr):Cx:=
 { X with N:=N,s₀:=s,H₀:=H,env:=compEnvC scope cl C X.env,outer:=X.stack,stack:=X.stack,ex:=fp,fn:=fun _=>false,pn:=[],xe:=fun _ _=>False }
noncomputable def PIfs (X:Cx) (ifs:List Expr) (t:TT):Prop:=
 ∀ (pins:List (Addr×Obj)) (s:Shared) (σ:St) (H:Hp) (Q:Bool->Hp->Prop),Inv X pins σ H s->t σ H Q->
  wpAny (model X.prog X.w) X.A (forIn ifs true fun c r=>if r=true then do let ok <-isTrue c X.env (eval c X.env);pure (ForInStep.yield ok) else pure (ForInStep.yield r)) (TP X pins σ Q) X.xe s
def tYes:TT:=fun _ H Q=>Q true H
theorem pifs_nil {X:Cx}:PIfs X [] tYes:=fun _ _ _ H _ I h=>wpAny_tests_nil ⟨H,I,h⟩
theorem pifs_one {X:Cx} {c:Expr} {t:TT} (hc:PT X c t):PIfs X [c] t:=fun pins s σ H Q I h=>wpAny_tests_one (hc pins s σ H Q I h)
structure dO (X:Cx) (N:List Str) (m:Nat) (ix:List Nat) (scope:Scope):Prop where
 kind:scope.kind=.function
 nocell:∀ y∈scope.names,y.2≠.cell
 names:∀ y∈scope.names,y.2=.local->scope.names.lookup y.1=some .local
 len:N.length=m+ix.length
 frees:∀ y∈scope.names,y.2=.free->X.env.kindOf y.1=some .cell\/X.env.kindOf y.1=some .free
 share:∀ (j:Nat) (i:Nat) (x:Str),ix[j]?=some i->N[m+j]?=some x->X.N[i]?=some x/\scope.names.lookup x=some .free
def gM (m:Nat) (ix:List Nat) (σ:St):St:=List.replicate m none++ix.map fun i=>(σ[i]?).join
noncomputable def cLoop (J:It) (g:TG) (tt:TT) (te:TE) (D:Addr) (W:Nat->Nat->St->Hp->Prop) (Q:VK):Prop:=
 ∀ i n σ H,W i n σ H->(J.stop i H/\Q (.ref D) H)\/(J.go i H/\∃ N:St->Hp->Prop,(∀ tO H',N tO H'->∃ n',n'<n/\W (i+1) n' tO H')/\
  ∀ x H',J.yld i H x H'->g x σ H' fun wc H2=>tt wc H2 fun b H3=>if b=true then te wc H3 fun v H4=>∃ ys,H4 D=some (.lst ys)/\ys.length<sizeLine/\N wc (upd H4 D (.lst (ys++[v]))) else N wc H3)
noncomputable def tComp (wi:TI) (g:TG) (tt:TT) (te:TE) (m:Nat) (ix:List Nat):TE:=fun σ H Q=>wi σ H fun J H1=>∀ D,H1 D=none->
 ∃ W:Nat->Nat->St->Hp->Prop,(∃ n,W 0 n (gM m ix σ) (upd H1 D (.lst [])))/\cLoop J g tt te D W Q
section
variable {X:Cx} {tg elt iter:Expr} {ifs:List Expr} {scope:Scope} {pos:Pos} {N:List Str} {m:Nat} {ix:List Nat} {g:TG} {tt:TT} {te:TE}
theorem oX {pins:List (Addr×Obj)} {s2:Shared} {σ:St} {H2:Hp} {it:Addr} {fp:List Addr} {tn:Nat->Heap->Prop} {J:It} {Q:VK} {E:Value->Shared->Prop} {RR:Value->Addr->Result->Shared->Prop}
  (I2:Inv X pins σ H2 s2) (T:Turn X.prog X.w X.K tg J fp it tn) (wH:tn 0 s2.heap) (f2:∀ b∈fp,FpOk X pins H2 b) (hc:X.calm=true) (S:dO X N m ix scope)
  (tU:∀ cl C s H fp,PG (bD X N scope cl C s H fp) tg g/\PIfs (bD X N scope cl C s H fp) ifs tt/\PE (bD X N scope cl C s H fp) elt te)
  (hW:∀ D,H2 D=none->∃ W:Nat->Nat->St->Hp->Prop,(∃ n,W 0 n (gM m ix σ) (upd H2 D (.lst [])))/\cLoop J g tt te D W Q)
  (fin:∀ D C Hf s',Inv X pins σ Hf s'->Q (.ref D) Hf->(∃ mm,s'.heap.Ns C mm)->Hf C=none->C≠X.env.locals->X.s₀.heap.objs.size<=C->(∀ x c,X.env.cells.lookup x=some c->c≠C)->(∀ p∈X.pn++pins,p.1≠C)->RR (.ref D) C (.ok .next) s') :
  wpAny (model X.prog X.w) X.A (newList []) (fun acc vJ=>wpAny (model X.prog X.w) X.A (newFunctionEnv scope X.env.globals (iF X.env.cells scope.names []) [] X.env.qual none .none (some X.env)) (fun yN wd=>
   codeAny (model X.prog X.w) X.A (.compStart (.ListComp elt [⟨tg,iter,ifs,0⟩] scope pos) 0 (.ref it) acc { yN with scope:=relabel scope X.env }) (RR acc yN.locals) wd) E vJ) E s2:=by
 have yC:∀ p∈scope.names,p.2=.free->∃ c,X.env.cells.lookup p.1=some c:=fun p hp hk=>I2.ok.has _ (S.frees p hp hk);refine wpAny_newObj_type (wpAny_newFunctionEnv S.nocell (by intro y hy;simp at hy) (fun ua uV uU=>?_) S.kind);dsimp only at uV uU ⊢;obtain ⟨W,⟨n0,w0⟩,loop⟩:=hW s2.heap.objs.size I2.fresh;have I3:Inv X pins σ (upd H2 s2.heap.objs.size (.lst [])) { s2 with heap:=s2.heap.push { cls:=.type "list",dict:=none,data:=.seq ([]:List Value).toArray } }:=I2.lnew (t':=s2.toks) (ys:=[]) (its:=[]) .nil (Ad _);generalize hs3:({ s2 with heap:=s2.heap.push { cls:=.type "list",dict:=none,data:=.seq ([]:List Value).toArray } }:Shared)=s3 at I3;generalize hH3:upd H2 s2.heap.objs.size (.lst [])=H3 at I3 w0;have e3:s3.heap=s2.heap.push { cls:=.type "list",dict:=none,data:=.seq ([]:List Value).toArray }:=by rw [<-hs3]
 rw [<-e3] at uV uU ⊢;generalize hC:s3.heap.objs.size=C at uV uU ⊢;have yd:∀ b o,s2.heap.get? b=some o->s3.heap.get? b=some o:=fun b o e=>by rw [e3];exact yV _ e
 have vK:∀ b o,s3.heap.get? b=some o->ua.get? b=some o:=fun b o e=>uU.extBut b o (by rw [<-hC];exact zJ (yZ e)) (yV _ e);have xX:∀ b∈fp,FpOk X pins H3 b:=fun b hb=>by
  obtain ⟨f0,f1,yM,f3,f4,f5⟩:=f2 b hb;refine ⟨?_,f1,yM,f3,f4,f5⟩;obtain ⟨o,ho,_⟩:=T.obj _ _ wH b hb;rw [<-hH3,av (zJ (yZ ho))];exact f0
 have xW:X.env.locals<C:=by rw [<-hC];exact I3.lt
 have yH:X.s₀.heap.objs.size<=C:=by rw [<-hC];exact I3.sz
 have xV:∀ x c,X.env.cells.lookup x=some c->c<C:=fun x c e=>by
  obtain ⟨v,q⟩:=I3.cell x c e;rw [<-hC];exact q.lt
 have xT:∀ p∈X.pn++pins,p.1<C:=fun p hp=>by rw [<-hC];exact yZ (I3.pin p hp).1
 have xU:∀ b∈fp,b<C:=fun b hb=>by
  obtain ⟨o,ho,_⟩:=T.obj _ _ wH b hb;rw [<-hC];exact yZ (yd _ _ ho)
 let Y:Cx:=bD X N scope (iF X.env.cells scope.names []) C s3 H3 fp
 have cells_of:∀ x c,(iF X.env.cells scope.names []).lookup x=some c->X.env.cells.lookup x=some c:=fun x c e=>by
  rcases pQ _ _ yC e with q | q
  ·simp at q
  ·exact q
 have w6:∀ b∈fp,b∉frs X.stack:=fun b hb hs=>by
  obtain ⟨_,f1,yM,_⟩:=xX b hb;rcases zj.mp (I3.stkSub b hs) with e | e
  ·exact f1 e
  ·exact yM e
 have okY:Y.Ok:=by
  refine ⟨I3.ok.mod,S.kind,I3.ok.glob,I3.ok.blt,by show s3.heap.objs.size<=C;rw [hC];exact zp _,fun x y c h1 h2=>I3.ok.inj x y c (cells_of x c h1) (cells_of y c h2),fun x hx=>?_,fun x c h _=>absurd (show false=true from h) (by simp),I3.ok.hd,I3.ok.frames,.inl rfl,fun b hb=>⟨?_,fun x c e=>?_⟩,fun b o e=>I3.bs b o e,zN I3.ok.bsz I3.sz,fun b o e hb=>?_,w6,I3.stack,I3.stkFree⟩
  ·have xr:(relabel scope X.env).names.lookup x=some .cell\/(relabel scope X.env).names.lookup x=some .free:=hx;have hf:scope.names.lookup x=some .free:=by
    rcases xr with q | q
    ·rcases ft q with z | z
     ·exact absurd rfl (S.nocell _ (PySem.mem_of_lookup z))
     ·exact z
    ·rcases ft q with z | z
     ·exact z
     ·exact z
   exact ke _ _ (PySem.mem_of_lookup hf)
  ·exact zJ (xU b hb)
  ·exact (xX b hb).2.2.2.2.1 x c (cells_of x c e)
  ·rcases (xX b hb).2.2.2.1 with z | z
   ·exact I3.ok.noex b o e z
   ·exact absurd (zz (yZ (I3.ok.bs b o e).1) z) (zP _)
 have IY:Inv Y (X.pn++pins) (gM m ix σ) H3 { s3 with heap:=ua,toks:=s3.toks+([]:List (Str×Value)).length }:=by
  refine ⟨okY,rfl,I3.bare,Un.kept vK,⟨_,uV,fun j x v hx hv xt=>?_⟩,fun x c e=>?_,I3.hok.fresh (by rw [hC];exact zp _),fun x c e=>I3.freeC x c (cells_of x c e),fun p hp=>?_,I3.hok.kept vK,?_⟩
  ·have hx:N[j]?=some x:=hx;unfold gM at hv;by_cases hj:j<m
   ·rw [zw (by simpa using hj),List.getElem?_replicate] at hv;split at hv <;> cases hv
   ·obtain ⟨k,rfl⟩ : ∃ k,j=m+k:=⟨j-m,by omega⟩;rw [zR (by simp),Aj,Nat.add_sub_cancel_left,zc] at hv;cases hi:ix[k]? with
    | none=>rw [hi] at hv;cases hv
    | some i=>
     rw [hi] at hv;have wK:(σ[i]?).join=some v:=by simpa using hv
     have hv'':σ[i]?=some (some v):=by
      cases q:σ[i]? with
      | none=>rw [q] at wK;cases wK
      | some z=>rw [q] at wK;simp at wK;rw [wK]
     obtain ⟨hXN,uL⟩:=S.share k i x hi hx;obtain ⟨mm,hn,hl⟩:=I3.loc;have hkx:X.env.kindOf x=some .cell\/X.env.kindOf x=some .free:=S.frees (x,.free) (PySem.mem_of_lookup uL) rfl;have yo:Vis X.env.scope x:=by
      rcases hkx with q | q
      ·exact .inr (.inl q)
      ·exact .inr (.inr q)
     obtain ⟨u,r,l⟩:=hl i x v hXN hv'' yo;refine ⟨u,r,.inr ⟨?_,?_⟩⟩
     ·have xt:Vis (relabel scope X.env) x:=xt;rcases xt with q | q | q
      ·rcases ft q with z | z
       ·rw [uL] at z;cases z
       ·exact absurd q (iG scope.names uL)
      ·exact .inl q
      ·exact .inr q
     ·obtain ⟨c,yE⟩:=ke (cs:=X.env.cells) scope.names [] (PySem.mem_of_lookup uL);refine ⟨c,yE,?_⟩;have hXc:=cells_of x c yE;rcases l with ⟨k1,_⟩ | ⟨_,c',e',z⟩
      ·exfalso;have k1:X.env.kindOf x=some .local:=k1;rcases hkx with q | q <;> rw [k1] at q <;> cases q
      ·rw [hXc] at e';cases e';obtain ⟨o,ho,hd⟩:=z;exact ⟨o,vK _ _ ho,hd⟩
  ·obtain ⟨v,o,ho,hd⟩:=I3.cell x c (cells_of x c e);exact ⟨v,o,vK _ _ ho,hd⟩
  ·have vq:p∈X.pn++pins:=by
    have:p∈([]:List (Addr×Obj))++(X.pn++pins):=hp;simpa using this
   obtain ⟨e,nn,ne,nf,d⟩:=I3.pin p vq;refine ⟨vK _ _ e,nn,zJ (xT p vq),fun hs=>?_,d⟩;rcases zj.mp (I3.stkSub p.1 hs) with z | z
   ·exact ne z
   ·exact nf z
  ·unfold gM;show _=N.length;rw [S.len,zy,Aj,uk]
 have u9:∀ {H':Hp},(∀ b∈fp,H' b=none)->∀ b∈fp,FpOk Y (X.pn++pins) H' b:=fun hn b hb=>by
  obtain ⟨f0,f1,yM,f3,f4,f5⟩:=xX b hb;refine ⟨hn b hb,zJ (xU b hb),w6 b hb,.inl hb,fun x c e=>f4 x c (cells_of x c e),fun p hp=>?_⟩;have vq:p∈X.pn++pins:=by
   have:p∈([]:List (Addr×Obj))++(X.pn++pins):=hp;simpa using this
  exact f5 p vq
 obtain ⟨hg,ht,he⟩:=tU (iF X.env.cells scope.names []) C s3 H3 fp;have st4:tn 0 ua:=T.keep _ _ _ wH fun b _ o e=>vK _ _ (yd _ _ e);have run:∀ s4:Shared,s4={ s3 with heap:=ua,toks:=s3.toks+([]:List (Str×Value)).length }->
   codeAny (model X.prog X.w) X.A (.compLoop (.ListComp elt [⟨tg,iter,ifs,0⟩] scope pos) 0 (.ref it) (.ref s2.heap.objs.size) (compEnvC scope (iF X.env.cells scope.names []) C X.env)) (RR (.ref s2.heap.objs.size) C) s4:=by
  rintro s4 rfl;refine pP (fun n s'=>∃ i tO H',Inv Y (X.pn++pins) tO H' s'/\tn i s'.heap/\(∀ b∈fp,H' b=none)/\W i n tO H') ?_ n0 ⟨0,_,_,IY,st4,fun b hb=>(xX b hb).1,w0⟩;rintro n s5 ⟨i,vY,H5,I5,st5,fr5,w5⟩;rcases loop i n vY H5 w5 with ⟨stop,qn⟩ | ⟨go,NN,hN,step⟩
  ·refine thn (T.done Y rfl rfl rfl hc i (X.pn++pins) s5 vY H5 (fun _ _=>False) I5 (u9 fr5) st5 stop) fun r s6 ⟨hr,I6⟩=>?_;subst hr;have J6:Inv X pins σ H5 s6:=by
    refine I3.call' (ch:=fp) ?_ I6.base I6.hok I6.bare fun b hb=>?_
    ·exact I6.os
    ·obtain ⟨f0,f1,yM,f3,f4,f5⟩:=xX b hb;exact ⟨f3,f1,f4,f5⟩
   obtain ⟨mm,hn6,_⟩:=I6.loc;exact fin _ C H5 s6 J6 qn ⟨mm,hn6⟩ I6.free (Nat.ne_of_gt xW) yH (fun x c e=>zJ (xV x c e)) fun p hp=>zJ (xT p hp)
  ·refine thn (T.item Y rfl rfl rfl hc i (X.pn++pins) s5 vY H5 (fun _ _=>False) I5 (u9 fr5) st5 go) fun r s6 ⟨u,hr,h6⟩=>?_;subst hr;refine thn h6 fun _ s7 ⟨x,H7,I7,r7,y7,st7,fr7⟩=>?_;have I7':=I7.pinned (u9 fr7) (T.obj _ _ st7);refine thn (hg _ s7 vY H7 x u _ I7' r7 (step x H7 y7)) fun _ s8 ⟨xZ,H8,I8,q8⟩=>?_;refine thn (ht _ s8 xZ H8 _ I8 q8) fun ok s9 ⟨H9,I9,q9⟩=>?_;have again:∀ {s':Shared} {tO:St} {H':Hp},Inv Y ((X.pn++pins)++mJ fp s7.heap) tO H' s'->NN tO H'->∃ m',m'<n/\∃ i tO H',Inv Y (X.pn++pins) tO H' s'/\tn i s'.heap/\(∀ b∈fp,H' b=none)/\W i m' tO H':=fun {s' tO H'} I' n'=>by
    obtain ⟨m',hm,w'⟩:=hN tO H' n';refine ⟨m',hm,i+1,tO,H',I'.unpinned,T.keep _ _ _ st7 fun b hb o e=>(I'.pin (b,o) (zd _ (zd _ (gK hb e)))).1,fun b hb=>?_,w'⟩;obtain ⟨o,e,d⟩:=T.obj _ _ st7 b hb;exact (I'.pin (b,o) (zd _ (zd _ (gK hb e)))).2.1
   cases ok with
   | false=>exact again I9 q9
   | true=>
    refine thn (he _ s9 xZ H9 _ I9 q9) fun y s10 ⟨vy,H10,I10,r10,ys,hD,hz,q10⟩=>?_;exact thn (k7 (X:=Y) _ s10 xZ H10 (.ref s2.heap.objs.size) [vy] _ [y] (fun _ H'=>NN xZ H') I10 rfl (.cons r10 .nil) ⟨_,ys,vy,rfl,rfl,hD,hz,q10⟩) fun _ s11 ⟨_,H11,I11,_,q11⟩=>again I11 q11
 exact codeAny_compStart_list (run _ (by rw [<-hs3])) (T.self _ 0 _ _ _ st4 (run _ (by rw [<-hs3])))
theorem pe_comp {wi:TI} (hc:X.calm=true) (S:dO X N m ix scope) (hi:PI X tg iter wi)
  (tU:∀ cl C s H fp,PG (bD X N scope cl C s H fp) tg g/\PIfs (bD X N scope cl C s H fp) ifs tt/\PE (bD X N scope cl C s H fp) elt te)
  (hs:∀ x,foldedSetIterable iter X.env x=pure x:=by intro _;rfl):PE X (.ListComp elt [⟨tg,iter,ifs,0⟩] scope pos) (tComp wi g tt te m ix):=by
 intro pins s σ H Q I h;rw [eval_ListComp];refine wpAny_comprehension_free (use:=none) rfl hs (jw fun p hp hk=>I.ok.has _ (S.frees p hp hk)) S.kind S.names ?_;show wpAny _ _ (eval iter X.env) _ _ _;refine thn (hi pins s σ H _ I h) fun v s1 h1=>thn h1 fun itv s2 h2=>?_;obtain ⟨it,fp,tn,J,H2,rfl,I2,T,wH,f2,hW⟩:=h2;refine oX (RR:=fun acc C=>compPost (model X.prog X.w) X.A X.xe none (EP X pins σ Q) acc C) I2 T wH f2 hc S tU hW ?_;intro D C Hf s' J' q hn xU xW yH xV xT;obtain ⟨mm,hn⟩:=hn;refine ⟨mm,hn,fun h' xy=>⟨.ref D,Hf,?_,rfl,q⟩⟩;exact J'.turned (t':=s'.toks) (fun b o hb e=>xy.extBut b o hb e) xU xW (.inr yH) xV xT
theorem ps_comp {wi:TI} {y:Str} {py u4:Pos} {iy:Nat} (hc:X.calm=true) (S:dO X N m ix scope) (hi:PI X tg iter wi)
  (tU:∀ cl C s H fp,PG (bD X N scope cl C s H fp) tg g/\PIfs (bD X N scope cl C s H fp) ifs tt/\PE (bD X N scope cl C s H fp) elt te)
  (hN:X.N.Nodup) (yz:X.N[iy]?=some y) (hy:Loc X.env.scope y)
  (uE:swapsWith (.ListComp elt [⟨tg,iter,ifs,0⟩] scope pos) (some (.Name y py)) u4.line X.env=pure true:=by rfl)
  (hf:X.fn y=true\/X.env.scope.names.lookup y=some .local:=by first | exact .inl rfl | exact .inr rfl | assumption)
  (hs:∀ x,foldedSetIterable iter X.env x=pure x:=by intro _;rfl):PS X (.Assign [.Name y py] (.ListComp elt [⟨tg,iter,ifs,0⟩] scope pos) u4) (tAsg (tComp wi g tt te m ix) (oO iy)):=by
 intro pins s σ H D0 I h;rw [exec_Assign_Name_used _ _ _ _ uE];refine ub (wpAny_standAt (ub ?_));show wpAny _ X.A (do let _ <-comprehension (.ListComp elt [⟨tg,iter,ifs,0⟩] scope pos) scope X.env _ (newList []) false (eval iter X.env) (some (assign (.Name y py) X.env))) _ _ s;refine ub (Ap (wpAny_comprehension_free (use:=some (assign (.Name y py) X.env)) (Q:=fun _ s'=>SP X pins D0 .next s') rfl hs (jw fun p hp hk=>I.ok.has _ (S.frees p hp hk)) S.kind S.names ?_) (fun _ s' hq=>uc (uc hq)) fun _ _ e=>e);refine thn (hi pins s σ H _ I h) fun v s1 h1=>thn h1 fun itv s2 h2=>?_;obtain ⟨it,fp,tn,J,H2,rfl,I2,T,wH,f2,hW⟩:=h2;refine oX (RR:=fun acc C=>compPost (model X.prog X.w) X.A X.xe (some (assign (.Name y py) X.env)) (fun _ s'=>SP X pins D0 .next s') acc C) I2 T wH f2 hc S tU hW ?_;intro D C Hf s' J' q hn xU xW yH xV xT;obtain ⟨mm,hn⟩:=hn;show wpAny _ X.A (assign (.Name y py) X.env (.ref D)) _ _ _;refine wpAny_assign_Name (oN (v:=.ref D) J' hN yz hy rfl (fun yc I'' xw=>?_) hf);obtain ⟨a,xw,ha⟩:=xw;have hCa:C≠a:=by
  rcases ha with e | e
  ·rw [e];exact xW
  ·exact fun z=>xV y a e z.symm
 refine ⟨mm,hn.sameBut xw hCa,fun h' xy=>⟨_,Hf,?_,q⟩⟩;exact I''.turned (t':=yc.toks) (fun b o hb e=>xy.extBut b o hb e) xU xW (.inr yH) xV xT
end
end L2
end
section
namespace L2
open PySem PySem.Spec
theorem aQ.updS {H H':Hp} (s:aQ H H') {p:Addr} {o:HO}:aQ (upd H p o) (upd H' p o):=fun b u e=>by
 by_cases hb:b=p
 ·subst hb;rw [aw] at e ⊢;exact e
 ·rw [av hb] at e ⊢;exact s _ _ e
theorem aQ.new {H:Hp} {p:Addr} {o:HO} (n:H p=none):aQ H (upd H p o):=fun b u e=>by rw [av (aK e n)];exact e
theorem PE.weak {X:Cx} {e:Expr} {t t':TE} (h:PE X e t) (w:∀ σ H Q,t' σ H Q->t σ H Q):PE X e t':=fun pins s σ H Q I q=>h pins s σ H Q I (w σ H Q q)
theorem PT.weak {X:Cx} {e:Expr} {t t':TT} (h:PT X e t) (w:∀ σ H Q,t' σ H Q->t σ H Q):PT X e t':=fun pins s σ H Q I q=>h pins s σ H Q I (w σ H Q q)
theorem PW.weak {X:Cx} {e:Expr} {t t':TT} (h:PW X e t) (w:∀ σ H Q,t' σ H Q->t σ H Q):PW X e t':=fun wh pins s σ H Q I q=>h wh pins s σ H Q I (w σ H Q q)
theorem PA.weak {X:Cx} {es:List Expr} {t t':TA} (h:PA X es t) (w:∀ σ H Q,t' σ H Q->t σ H Q):PA X es t':=fun pos pins s σ H Q I q=>h pos pins s σ H Q I (w σ H Q q)
theorem PS.weak {X:Cx} {e:Stmt} {t t':TS} (h:PS X e t) (w:∀ D σ H,t' D σ H->t D σ H):PS X e t':=fun pins s σ H D I q=>h pins s σ H D I (w D σ H q)
theorem PSs.weak {X:Cx} {e:List Stmt} {t t':TS} (h:PSs X e t) (w:∀ D σ H,t' D σ H->t D σ H):PSs X e t':=fun pins s σ H D I q=>h pins s σ H D I (w D σ H q)
end L2
namespace Ew
open PySem PySem.Spec L2
inductive D where
 | non
 | bl (b:Bool)
 | int (i:Int)
 | str (x:Str)
 | lst (xs:List D)
 | tup (xs:List D)
 | obj (C:Addr) (fs:List (Str×D))
mutual
def Rep (H:Hp):D->V->Prop
 | .non,v=>v=.non
 | .bl b,v=>v=.bl b
 | .int i,v=>v=.int i
 | .str x,v=>v=.str x
 | .lst ds,v=>∃ a vs,v=.ref a/\H a=some (.lst vs)/\aB H ds vs
 | .tup ds,v=>∃ a vs,v=.ref a/\H a=some (.tup vs)/\aB H ds vs
 | .obj C fs,v=>∃ a dx tR,v=.ref a/\H a=some (.ins C dx tR)/\eT H fs tR
def aB (H:Hp):List D->List V->Prop
 | [],vs=>vs=[]
 | d::ds,vs=>∃ v r,vs=v::r/\Rep H d v/\aB H ds r
def eT (H:Hp):List (Str×D)->List (Str×V)->Prop
 | [],vs=>vs=[]
 | fd::fs,vs=>∃ v r,vs=(fd.1,v)::r/\Rep H fd.2 v/\eT H fs r
end
section
variable {H H':Hp}
mutual
theorem Rep.mono (k:aQ H H'):∀ (d:D) {v:V},Rep H d v->Rep H' d v
 | .non,_,h=>by unfold Rep at h ⊢;exact h
 | .bl b,_,h=>by unfold Rep at h ⊢;exact h
 | .int i,_,h=>by unfold Rep at h ⊢;exact h
 | .str x,_,h=>by unfold Rep at h ⊢;exact h
 | .lst ds,_,h=>by
  unfold Rep at h ⊢;obtain ⟨a,vs,e,h1,h2⟩:=h;exact ⟨a,vs,e,k _ _ h1,aB.mono k ds h2⟩
 | .tup ds,_,h=>by
  unfold Rep at h ⊢;obtain ⟨a,vs,e,h1,h2⟩:=h;exact ⟨a,vs,e,k _ _ h1,aB.mono k ds h2⟩
 | .obj C fs,_,h=>by
  unfold Rep at h ⊢;obtain ⟨a,dx,vs,e,h1,h2⟩:=h;exact ⟨a,dx,vs,e,k _ _ h1,eT.mono k fs h2⟩
theorem aB.mono (k:aQ H H'):∀ (ds:List D) {vs:List V},aB H ds vs->aB H' ds vs
 | [],_,h=>by unfold aB at h ⊢;exact h
 | d::ds,_,h=>by
  unfold aB at h ⊢;obtain ⟨v,r,e,h1,h2⟩:=h;exact ⟨v,r,e,Rep.mono k d h1,aB.mono k ds h2⟩
theorem eT.mono (k:aQ H H'):∀ (fs:List (Str×D)) {vs:List (Str×V)},eT H fs vs->eT H' fs vs
  | [],_,h=>by unfold eT at h ⊢;exact h
  | (f,d)::fs,_,h=>by
    unfold eT at h ⊢;obtain ⟨v,r,e,h1,h2⟩:=h;exact ⟨v,r,e,Rep.mono k d h1,eT.mono k fs h2⟩
end
end
theorem aB.nil {H:Hp}:aB H [] []:=by unfold aB;rfl
theorem aB.cons {H:Hp} {d:D} {ds:List D} {v:V} {vs:List V} (h:Rep H d v) (t:aB H ds vs):aB H (d::ds) (v::vs):=by unfold aB;exact ⟨v,vs,rfl,h,t⟩
theorem aB.length {H:Hp}:∀ {ds:List D} {vs:List V},aB H ds vs->vs.length=ds.length
 | [],_,h=>by unfold aB at h;rw [h];rfl
 | d::ds,_,h=>by
  unfold aB at h;obtain ⟨v,r,rfl,_,h2⟩:=h;simp [aB.length h2]
theorem aB.get {H:Hp}:∀ {ds:List D} {vs:List V} {i:Nat} {d:D},aB H ds vs->ds[i]?=some d->∃ v,vs[i]?=some v/\Rep H d v
 | [],_,i,_,_,e=>by simp at e
 | d::ds,_,0,d',h,e=>by
  unfold aB at h;obtain ⟨v,r,rfl,h1,h2⟩:=h;simp at e;subst e;exact ⟨v,rfl,h1⟩
 | d::ds,_,i+1,d',h,e=>by
  unfold aB at h;obtain ⟨v,r,rfl,h1,h2⟩:=h;obtain ⟨u,e1,e2⟩:=aB.get (i:=i) h2 (by simpa using e);exact ⟨u,by simpa using e1,e2⟩
theorem aB.append {H:Hp}:∀ {ds es:List D} {vs us:List V},aB H ds vs->aB H es us->aB H (ds++es) (vs++us)
 | [],_,_,_,h,t=>by unfold aB at h;rw [h];exact t
 | d::ds,_,_,_,h,t=>by
  unfold aB at h;obtain ⟨v,r,rfl,h1,h2⟩:=h;exact .cons h1 (aB.append h2 t)
theorem aB.take {H:Hp}:∀ {ds:List D} {vs:List V} (n:Nat),aB H ds vs->aB H (ds.take n) (vs.take n)
 | [],_,n,h=>by unfold aB at h;rw [h];simp;exact .nil
 | d::ds,_,0,h=>by simp;exact .nil
 | d::ds,_,n+1,h=>by
  unfold aB at h;obtain ⟨v,r,rfl,h1,h2⟩:=h;exact .cons h1 (aB.take n h2)
theorem aB.drop {H:Hp}:∀ {ds:List D} {vs:List V} (n:Nat),aB H ds vs->aB H (ds.drop n) (vs.drop n)
 | [],_,n,h=>by unfold aB at h;rw [h];simp;exact .nil
 | d::ds,_,0,h=>by simpa using h
 | d::ds,_,n+1,h=>by
  unfold aB at h;obtain ⟨v,r,rfl,h1,h2⟩:=h;exact aB.drop n h2
theorem aB.reverse {H:Hp}:∀ {ds:List D} {vs:List V},aB H ds vs->aB H ds.reverse vs.reverse
 | [],_,h=>by unfold aB at h;rw [h];simp;exact .nil
 | d::ds,_,h=>by
  unfold aB at h;obtain ⟨v,r,rfl,h1,h2⟩:=h;rw [List.reverse_cons,List.reverse_cons];exact aB.append (aB.reverse h2) (.cons h1 .nil)
theorem eT.lookup {H:Hp} {f:Str}:∀ {fs:List (Str×D)} {vs:List (Str×V)} {d:D},eT H fs vs->fs.lookup f=some d->∃ v,vs.lookup f=some v/\Rep H d v
  | [],_,_,_,e=>by simp at e
  | (g,d')::fs,_,d,h,e=>by
    unfold eT at h;obtain ⟨v,r,rfl,h1,h2⟩:=h;rw [List.lookup_cons] at e ⊢;cases hx:f==g with
    | true=>rw [hx] at e;simp at e;subst e;exact ⟨v,by simp,h1⟩
    | false=>rw [hx] at e;exact eT.lookup h2 e
theorem eT.none {H:Hp} {f:Str}:∀ {fs:List (Str×D)} {vs:List (Str×V)},eT H fs vs->fs.lookup f=none->vs.lookup f=none
  | [],_,h,e=>by unfold eT at h;rw [h];rfl
  | (g,d')::fs,_,h,e=>by
    unfold eT at h;obtain ⟨v,r,rfl,h1,h2⟩:=h;rw [List.lookup_cons] at e ⊢;cases hx:f==g with
    | true=>rw [hx] at e;simp at e
    | false=>rw [hx] at e;exact eT.none h2 e
mutual
def Own (H:Hp):D->V->List Addr->Prop
 | .non,v,L=>v=.non/\L=[]
 | .bl b,v,L=>v=.bl b/\L=[]
 | .int i,v,L=>v=.int i/\L=[]
 | .str x,v,L=>v=.str x/\L=[]
 | .lst ds,v,L=>∃ a vs M,v=.ref a/\H a=some (.lst vs)/\aJ H ds vs M/\a∉M/\L=a::M
 | .tup ds,v,L=>∃ a vs M,v=.ref a/\H a=some (.tup vs)/\aJ H ds vs M/\a∉M/\L=a::M
 | .obj C fs,v,L=>∃ a dx tR M,v=.ref a/\H a=some (.ins C dx tR)/\H dx=some (.own a)/\bc H fs tR M/\a∉M/\dx∉M/\L=a::dx::M
def aJ (H:Hp):List D->List V->List Addr->Prop
 | [],vs,L=>vs=[]/\L=[]
 | d::ds,vs,L=>∃ v r M N,vs=v::r/\Own H d v M/\aJ H ds r N/\(∀ a∈M,a∉N)/\L=M++N
def bc (H:Hp):List (Str×D)->List (Str×V)->List Addr->Prop
 | [],vs,L=>vs=[]/\L=[]
 | fd::fs,vs,L=>∃ v r M N,vs=(fd.1,v)::r/\Own H fd.2 v M/\bc H fs r N/\(∀ a∈M,a∉N)/\L=M++N
end
section
variable {H H':Hp}
mutual
theorem Own.agree:∀ (d:D) {v:V} {L:List Addr},Own H d v L->(∀ a∈L,H' a=H a)->Own H' d v L
 | .non,_,_,h,_=>by unfold Own at h ⊢;exact h
 | .bl b,_,_,h,_=>by unfold Own at h ⊢;exact h
 | .int i,_,_,h,_=>by unfold Own at h ⊢;exact h
 | .str x,_,_,h,_=>by unfold Own at h ⊢;exact h
 | .lst ds,_,_,h,k=>by
  unfold Own at h ⊢;obtain ⟨a,vs,M,e,h1,h2,n,rfl⟩:=h;exact ⟨a,vs,M,e,by rw [k a yY];exact h1,aJ.agree ds h2 fun b hb=>k b (uf _ hb),n,rfl⟩
 | .tup ds,_,_,h,k=>by
  unfold Own at h ⊢;obtain ⟨a,vs,M,e,h1,h2,n,rfl⟩:=h;exact ⟨a,vs,M,e,by rw [k a yY];exact h1,aJ.agree ds h2 fun b hb=>k b (uf _ hb),n,rfl⟩
 | .obj C fs,_,_,h,k=>by
  unfold Own at h ⊢;obtain ⟨a,dx,vs,M,e,h1,h3,h2,n,n2,rfl⟩:=h;exact ⟨a,dx,vs,M,e,by rw [k a yY];exact h1,by rw [k dx (uf _ yY)];exact h3,bc.agree fs h2 fun b hb=>k b (uf _ (uf _ hb)),n,n2,rfl⟩
theorem aJ.agree:∀ (ds:List D) {vs:List V} {L:List Addr},aJ H ds vs L->(∀ a∈L,H' a=H a)->aJ H' ds vs L
 | [],_,_,h,_=>by unfold aJ at h ⊢;exact h
 | d::ds,_,_,h,k=>by
  unfold aJ at h ⊢;obtain ⟨v,r,M,N,e,h1,h2,n,rfl⟩:=h;exact ⟨v,r,M,N,e,Own.agree d h1 fun b hb=>k b (zC _ hb),aJ.agree ds h2 fun b hb=>k b (zd _ hb),n,rfl⟩
theorem bc.agree:∀ (fs:List (Str×D)) {vs:List (Str×V)} {L:List Addr},bc H fs vs L->(∀ a∈L,H' a=H a)->bc H' fs vs L
  | [],_,_,h,_=>by unfold bc at h ⊢;exact h
  | (f,d)::fs,_,_,h,k=>by
    unfold bc at h ⊢;obtain ⟨v,r,M,N,e,h1,h2,n,rfl⟩:=h;exact ⟨v,r,M,N,e,Own.agree d h1 fun b hb=>k b (zC _ hb),bc.agree fs h2 fun b hb=>k b (zd _ hb),n,rfl⟩
end
mutual
theorem Own.rep:∀ (d:D) {v:V} {L:List Addr},Own H d v L->(∀ a∈L,H' a=H a)->Rep H' d v
 | .non,_,_,h,_=>by unfold Own at h;unfold Rep;exact h.1
 | .bl b,_,_,h,_=>by unfold Own at h;unfold Rep;exact h.1
 | .int i,_,_,h,_=>by unfold Own at h;unfold Rep;exact h.1
 | .str x,_,_,h,_=>by unfold Own at h;unfold Rep;exact h.1
 | .lst ds,_,_,h,k=>by
  unfold Own at h;unfold Rep;obtain ⟨a,vs,M,e,h1,h2,n,rfl⟩:=h;exact ⟨a,vs,e,by rw [k a yY];exact h1,aJ.rep ds h2 fun b hb=>k b (uf _ hb)⟩
 | .tup ds,_,_,h,k=>by
  unfold Own at h;unfold Rep;obtain ⟨a,vs,M,e,h1,h2,n,rfl⟩:=h;exact ⟨a,vs,e,by rw [k a yY];exact h1,aJ.rep ds h2 fun b hb=>k b (uf _ hb)⟩
 | .obj C fs,_,_,h,k=>by
  unfold Own at h;unfold Rep;obtain ⟨a,dx,vs,M,e,h1,h3,h2,n,n2,rfl⟩:=h;exact ⟨a,dx,vs,e,by rw [k a yY];exact h1,bc.rep fs h2 fun b hb=>k b (uf _ (uf _ hb))⟩
theorem aJ.rep:∀ (ds:List D) {vs:List V} {L:List Addr},aJ H ds vs L->(∀ a∈L,H' a=H a)->aB H' ds vs
 | [],_,_,h,_=>by unfold aJ at h;unfold aB;exact h.1
 | d::ds,_,_,h,k=>by
  unfold aJ at h;unfold aB;obtain ⟨v,r,M,N,e,h1,h2,n,rfl⟩:=h;exact ⟨v,r,e,Own.rep d h1 fun b hb=>k b (zC _ hb),aJ.rep ds h2 fun b hb=>k b (zd _ hb)⟩
theorem bc.rep:∀ (fs:List (Str×D)) {vs:List (Str×V)} {L:List Addr},bc H fs vs L->(∀ a∈L,H' a=H a)->eT H' fs vs
  | [],_,_,h,_=>by unfold bc at h;unfold eT;exact h.1
  | (f,d)::fs,_,_,h,k=>by
    unfold bc at h;unfold eT;obtain ⟨v,r,M,N,e,h1,h2,n,rfl⟩:=h;exact ⟨v,r,e,Own.rep d h1 fun b hb=>k b (zC _ hb),bc.rep fs h2 fun b hb=>k b (zd _ hb)⟩
end
mutual
theorem Own.cell:∀ (d:D) {v:V} {L:List Addr},Own H d v L->∀ a∈L,∃ o,H a=some o
 | .non,_,_,h=>by unfold Own at h;rw [h.2];intro a ha;cases ha
 | .bl b,_,_,h=>by unfold Own at h;rw [h.2];intro a ha;cases ha
 | .int i,_,_,h=>by unfold Own at h;rw [h.2];intro a ha;cases ha
 | .str x,_,_,h=>by unfold Own at h;rw [h.2];intro a ha;cases ha
 | .lst ds,_,_,h=>by
  unfold Own at h;obtain ⟨a,vs,M,e,h1,h2,n,rfl⟩:=h;intro b hb;rcases zj.mp hb with rfl | hb
  ·exact ⟨_,h1⟩
  ·exact aJ.cell ds h2 b hb
 | .tup ds,_,_,h=>by
  unfold Own at h;obtain ⟨a,vs,M,e,h1,h2,n,rfl⟩:=h;intro b hb;rcases zj.mp hb with rfl | hb
  ·exact ⟨_,h1⟩
  ·exact aJ.cell ds h2 b hb
 | .obj C fs,_,_,h=>by
  unfold Own at h;obtain ⟨a,dx,vs,M,e,h1,h3,h2,n,n2,rfl⟩:=h;intro b hb;rcases zj.mp hb with rfl | hb
  ·exact ⟨_,h1⟩
  ·rcases zj.mp hb with rfl | hb
   ·exact ⟨_,h3⟩
   ·exact bc.cell fs h2 b hb
theorem aJ.cell:∀ (ds:List D) {vs:List V} {L:List Addr},aJ H ds vs L->∀ a∈L,∃ o,H a=some o
 | [],_,_,h=>by unfold aJ at h;rw [h.2];intro a ha;cases ha
 | d::ds,_,_,h=>by
  unfold aJ at h;obtain ⟨v,r,M,N,e,h1,h2,n,rfl⟩:=h;intro b hb;rcases zB.mp hb with hb | hb
  ·exact Own.cell d h1 b hb
  ·exact aJ.cell ds h2 b hb
theorem bc.cell:∀ (fs:List (Str×D)) {vs:List (Str×V)} {L:List Addr},bc H fs vs L->∀ a∈L,∃ o,H a=some o
  | [],_,_,h=>by unfold bc at h;rw [h.2];intro a ha;cases ha
  | (f,d)::fs,_,_,h=>by
    unfold bc at h;obtain ⟨v,r,M,N,e,h1,h2,n,rfl⟩:=h;intro b hb;rcases zB.mp hb with hb | hb
    . exact Own.cell d h1 b hb
    . exact bc.cell fs h2 b hb
end
mutual
theorem Own.uniq:∀ (d:D) {v:V} {L L':List Addr},Own H d v L->Own H d v L'->L=L'
 | .non,_,_,_,h,h'=>by unfold Own at h h';rw [h.2,h'.2]
 | .bl b,_,_,_,h,h'=>by unfold Own at h h';rw [h.2,h'.2]
 | .int i,_,_,_,h,h'=>by unfold Own at h h';rw [h.2,h'.2]
 | .str x,_,_,_,h,h'=>by unfold Own at h h';rw [h.2,h'.2]
 | .lst ds,_,_,_,h,h'=>by
  unfold Own at h h';obtain ⟨a,vs,M,e,h1,h2,n,rfl⟩:=h;obtain ⟨a',uH,M',e',tZ,wQ,n',rfl⟩:=h';rw [e] at e';cases e';rw [h1] at tZ;cases tZ;rw [aJ.uniq ds h2 wQ]
 | .tup ds,_,_,_,h,h'=>by
  unfold Own at h h';obtain ⟨a,vs,M,e,h1,h2,n,rfl⟩:=h;obtain ⟨a',uH,M',e',tZ,wQ,n',rfl⟩:=h';rw [e] at e';cases e';rw [h1] at tZ;cases tZ;rw [aJ.uniq ds h2 wQ]
 | .obj C fs,_,_,_,h,h'=>by
  unfold Own at h h';obtain ⟨a,dx,vs,M,e,h1,h3,h2,n,n2,rfl⟩:=h;obtain ⟨a',dx',uH,M',e',tZ,h3',wQ,n',n2',rfl⟩:=h';rw [e] at e';cases e';rw [h1] at tZ;cases tZ;rw [bc.uniq fs h2 wQ]
theorem aJ.uniq:∀ (ds:List D) {vs:List V} {L L':List Addr},aJ H ds vs L->aJ H ds vs L'->L=L'
 | [],_,_,_,h,h'=>by unfold aJ at h h';rw [h.2,h'.2]
 | d::ds,_,_,_,h,h'=>by
  unfold aJ at h h';obtain ⟨v,r,M,N,e,h1,h2,n,rfl⟩:=h;obtain ⟨v',r',M',N',e',tZ,wQ,n',rfl⟩:=h';rw [e] at e';cases e';rw [Own.uniq d h1 tZ,aJ.uniq ds h2 wQ]
theorem bc.uniq:∀ (fs:List (Str×D)) {vs:List (Str×V)} {L L':List Addr},bc H fs vs L->bc H fs vs L'->L=L'
  | [],_,_,_,h,h'=>by unfold bc at h h';rw [h.2,h'.2]
  | (f,d)::fs,_,_,_,h,h'=>by
    unfold bc at h h';obtain ⟨v,r,M,N,e,h1,h2,n,rfl⟩:=h;obtain ⟨v',r',M',N',e',tZ,wQ,n',rfl⟩:=h';rw [e] at e';cases e';rw [Own.uniq d h1 tZ,bc.uniq fs h2 wQ]
end
theorem Own.mono (k:aQ H H') {d:D} {v:V} {L:List Addr} (h:Own H d v L):Own H' d v L:=h.agree d fun a ha=>by
 obtain ⟨o,ho⟩:=Own.cell d h a ha;rw [ho,k _ _ ho]
theorem aJ.mono (k:aQ H H') {d:List D} {v:List V} {L:List Addr} (h:aJ H d v L):aJ H' d v L:=h.agree d fun a ha=>by
 obtain ⟨o,ho⟩:=aJ.cell d h a ha;rw [ho,k _ _ ho]
theorem bc.mono (k:aQ H H') {d:List (Str×D)} {v:List (Str×V)} {L:List Addr} (h:bc H d v L):bc H' d v L:=h.agree d fun a ha=>by
 obtain ⟨o,ho⟩:=bc.cell d h a ha;rw [ho,k _ _ ho]
end
inductive R where
 | sh (d:D)
 | fr (ds:List D)
 | bw (ds:List D)
def R.view:R->D
 | .sh d=>d
 | .fr ds=>.lst ds
 | .bw ds=>.lst ds
inductive E where
 | sh (d:D)
 | ow (ds:List D)
 | ob (a C:Addr) (fs:List (Str×D))
 | nw (d:D)
 | on (a:Addr) (d:D)
 | scr (K:Frag) (ns:List Int)
 | exc (C:Addr)
abbrev DSt:=List (Option E)
structure Wd (H Hs Hs' H':Hp):Prop where
 keep:aQ H H'
 sub:aQ Hs' H'
 base:aQ Hs Hs'
 new:∀ a o,Hs' a=some o->Hs a=some o\/H a=none
theorem Wd.refl {H Hs:Hp} (s:aQ Hs H):Wd H Hs Hs H:=⟨.refl _,s,.refl _,fun _ _ e=>.inl e⟩
theorem Wd.trans {H Hs H1s H1 H2s H2:Hp} (a:Wd H Hs H1s H1) (b:Wd H1 H1s H2s H2):Wd H Hs H2s H2:=
 ⟨a.keep.trans b.keep,b.sub,a.base.trans b.base,fun c o e=>by
  rcases b.new c o e with q | q
  ·exact a.new c o q
  ·exact .inr (a.keep.free q)⟩
theorem Wd.stay {H Hs Hs' H':Hp} (w:Wd H Hs Hs' H') {a:Addr} {o:HO} (h:H a=some o) (n:Hs a=none):Hs' a=none:=by
 cases e:Hs' a with
 | none=>rfl
 | some u=>
  rcases w.new a u e with q | q
  ·rw [n] at q;cases q
  ·rw [h] at q;cases q
theorem Wd.lay {H Hs:Hp} (s:aQ Hs H) {p:Addr} {o:HO} (n:H p=none):Wd H Hs (upd Hs p o) (upd H p o):=
 ⟨.new n,s.updS,.new (s.free n),fun a u e=>by
  by_cases ha:a=p
  ·subst ha;exact .inr n
  ·rw [av ha] at e;exact .inl e⟩
theorem Wd.fresh {H Hs:Hp} (s:aQ Hs H) {p:Addr} {o:HO} (n:H p=none):Wd H Hs Hs (upd H p o):=
 ⟨.new n,s.trans (.new n),.refl _,fun _ _ e=>.inl e⟩
noncomputable def dP (H0 Hs H:Hp):R->V->Prop
 | .sh d,v=>Rep Hs d v
 | .fr ds,v=>∃ a vs,v=.ref a/\H0 a=none/\Hs a=none/\H a=some (.lst vs)/\aB Hs ds vs
 | .bw ds,v=>∃ a vs,v=.ref a/\H a=some (.lst vs)/\aB Hs ds vs
noncomputable def View (Hs H:Hp) (d:D) (v:V):Prop:=Rep Hs d v\/∃ ds a vs,d=.lst ds/\v=.ref a/\H a=some (.lst vs)/\aB Hs ds vs
theorem iH {K:Frag} {H H':Hp} {a:Addr} {xs:List V} (s:aQ H H') (h:SqL K H a xs):SqL K H' a xs:=by
 rcases h with (h | ⟨o,h⟩) | h
 ·exact .inl (.inl (s _ _ h))
 ·exact .inl (.inr ⟨o,s _ _ h⟩)
 ·exact .inr h
noncomputable def gl (Hs H:Hp):E->V->Prop
 | .sh d,v=>Rep Hs d v
 | .ow ds,v=>∃ a vs,v=.ref a/\Hs a=none/\H a=some (.lst vs)/\aB Hs ds vs
 | .ob a C fs,v=>v=.ref a/\∃ dx tR,Hs a=none/\Hs dx=none/\H a=some (.ins C dx tR)/\H dx=some (.own a)/\eT Hs fs tR
 | .nw d,v=>∃ L,Own H d v L/\∀ a∈L,Hs a=none
 | .on b d,v=>v=.ref b/\∃ L,Own H d v L/\∀ a∈L,Hs a=none
 | .scr K ns,v=>∃ a,v=.ref a/\SqL K Hs a (ns.map V.int)
 | .exc C,v=>∃ a,v=.ref a/\∃ o,Hs a=some (.frz o (.own 0))/\o.cls=.ref C
noncomputable def gc (Hs H:Hp) (δ:DSt) (σ:St):Prop:=∀ (i:Nat) (e:E),δ[i]?=some (some e)->∃ v,σ[i]?=some (some v)/\gl Hs H e v
section
variable {H0 H Hs Hs' H':Hp}
theorem dP.mono (w:Wd H Hs Hs' H') {r:R} {v:V} (h:dP H0 Hs H r v):dP H0 Hs' H' r v:=by
 cases r with
 | sh d=>exact Rep.mono w.base d h
 | fr ds=>
  obtain ⟨a,vs,e,n,m,h1,h2⟩:=h;exact ⟨a,vs,e,n,w.stay h1 m,w.keep _ _ h1,aB.mono w.base ds h2⟩
 | bw ds=>
  obtain ⟨a,vs,e,h1,h2⟩:=h;exact ⟨a,vs,e,w.keep _ _ h1,aB.mono w.base ds h2⟩
theorem dP.older {H1:Hp} (k:aQ H0 H1) {r:R} {v:V} (h:dP H1 Hs H r v):dP H0 Hs H r v:=by
 cases r with
 | sh d=>exact h
 | fr ds=>
  obtain ⟨a,vs,e,n,m,h1,h2⟩:=h;exact ⟨a,vs,e,k.free n,m,h1,h2⟩
 | bw ds=>exact h
theorem dP.view {r:R} {v:V} (h:dP H0 Hs H r v):View Hs H r.view v:=by
 cases r with
 | sh d=>exact .inl h
 | fr ds=>
  obtain ⟨a,vs,e,n,m,h1,h2⟩:=h;exact .inr ⟨ds,a,vs,rfl,e,h1,h2⟩
 | bw ds=>
  obtain ⟨a,vs,e,h1,h2⟩:=h;exact .inr ⟨ds,a,vs,rfl,e,h1,h2⟩
theorem View.lst (s:aQ Hs H) {ds:List D} {v:V} (h:View Hs H (.lst ds) v):∃ a vs,v=.ref a/\H a=some (.lst vs)/\aB Hs ds vs:=by
 rcases h with h | ⟨vD,a,vs,e,e2,h1,h2⟩
 ·unfold Rep at h;obtain ⟨a,vs,e,h1,h2⟩:=h;exact ⟨a,vs,e,s _ _ h1,h2⟩
 ·cases e;exact ⟨a,vs,e2,h1,h2⟩
theorem View.tup (s:aQ Hs H) {ds:List D} {v:V} (h:View Hs H (.tup ds) v):∃ a vs,v=.ref a/\H a=some (.tup vs)/\aB Hs ds vs:=by
 rcases h with h | ⟨vD,a,vs,e,e2,h1,h2⟩
 ·unfold Rep at h;obtain ⟨a,vs,e,h1,h2⟩:=h;exact ⟨a,vs,e,s _ _ h1,h2⟩
 ·cases e
theorem View.obj (s:aQ Hs H) {C:Addr} {fs:List (Str×D)} {v:V} (h:View Hs H (.obj C fs) v):∃ a dx tR,v=.ref a/\H a=some (.ins C dx tR)/\eT Hs fs tR:=by
 rcases h with h | ⟨vD,a,vs,e,e2,h1,h2⟩
 ·unfold Rep at h;obtain ⟨a,dx,vs,e,h1,h2⟩:=h;exact ⟨a,dx,vs,e,s _ _ h1,h2⟩
 ·cases e
theorem View.int {i:Int} {v:V} (h:View Hs H (.int i) v):v=.int i:=by
 rcases h with h | ⟨_,_,_,e,_⟩
 ·unfold Rep at h;exact h
 ·cases e
theorem View.bl {b:Bool} {v:V} (h:View Hs H (.bl b) v):v=.bl b:=by
 rcases h with h | ⟨_,_,_,e,_⟩
 ·unfold Rep at h;exact h
 ·cases e
theorem View.str {x:Str} {v:V} (h:View Hs H (.str x) v):v=.str x:=by
 rcases h with h | ⟨_,_,_,e,_⟩
 ·unfold Rep at h;exact h
 ·cases e
theorem View.non {v:V} (h:View Hs H .non v):v=.non:=by
 rcases h with h | ⟨_,_,_,e,_⟩
 ·unfold Rep at h;exact h
 ·cases e
theorem gl.mono (w:Wd H Hs Hs' H') {e:E} {v:V} (h:gl Hs H e v):gl Hs' H' e v:=by
 cases e with
 | sh d=>exact Rep.mono w.base d h
 | ow ds=>
  obtain ⟨a,vs,e,m,h1,h2⟩:=h;exact ⟨a,vs,e,w.stay h1 m,w.keep _ _ h1,aB.mono w.base ds h2⟩
 | ob a C fs=>
  obtain ⟨e,dx,tR,m,m2,h1,h3,h2⟩:=h;exact ⟨e,dx,tR,w.stay h1 m,w.stay h3 m2,w.keep _ _ h1,w.keep _ _ h3,eT.mono w.base fs h2⟩
 | nw d=>
  obtain ⟨L,h1,h2⟩:=h;exact ⟨L,h1.mono w.keep,fun a ha=>by
   obtain ⟨o,ho⟩:=Own.cell d h1 a ha;exact w.stay ho (h2 a ha)⟩
 | on b d=>
  obtain ⟨e,L,h1,h2⟩:=h;exact ⟨e,L,h1.mono w.keep,fun a ha=>by
   obtain ⟨o,ho⟩:=Own.cell d h1 a ha;exact w.stay ho (h2 a ha)⟩
 | scr K ns=>
  obtain ⟨a,e,h1⟩:=h;exact ⟨a,e,iH w.base h1⟩
 | exc C=>
  obtain ⟨a,e,o,h1,h2⟩:=h;exact ⟨a,e,o,w.base _ _ h1,h2⟩
theorem gc.mono (w:Wd H Hs Hs' H') {δ:DSt} {σ:St} (h:gc Hs H δ σ):gc Hs' H' δ σ:=fun i e q=>by
 obtain ⟨v,h1,h2⟩:=h i e q;exact ⟨v,h1,h2.mono w⟩
theorem dP.freeze (s:aQ Hs H) {r:R} {v:V} (hb:∀ ds,r≠.bw ds) (h:dP H0 Hs H r v):∃ uq,Rep uq r.view v/\aQ uq H/\aQ Hs uq/\∀ a o,uq a=some o->Hs a=some o\/H0 a=none:=by
 cases r with
 | sh d=>exact ⟨Hs,h,s,.refl _,fun _ _ e=>.inl e⟩
 | fr ds=>
  obtain ⟨a,vs,e,n,m,h1,h2⟩:=h;refine ⟨L2.upd Hs a (.lst vs),?_,fun b o q=>?_,.new m,fun b o q=>?_⟩
  ·show Rep _ (.lst ds) v;unfold Rep;exact ⟨a,vs,e,aw,aB.mono (.new m) ds h2⟩
  ·by_cases hb:b=a
   ·subst hb;rw [aw] at q;cases q;exact h1
   ·rw [av hb] at q;exact s _ _ q
  ·by_cases hb:b=a
   ·subst hb;exact .inr n
   ·rw [av hb] at q;exact .inl q
 | bw ds=>exact absurd rfl (hb ds)
theorem dP.share {H0:Hp} (w:Wd H0 Hs Hs' H') {r:R} {v:V} (hb:∀ ds,r≠.bw ds) (h:dP H0 Hs' H' r v):∃ uq,Rep uq r.view v/\Wd H0 Hs uq H':=by
 obtain ⟨uq,h1,h2,h3,h4⟩:=h.freeze w.sub hb;exact ⟨uq,h1,w.keep,h2,w.base.trans h3,fun a o e=>by
  rcases h4 a o e with q | q
  ·exact w.new a o q
  ·exact .inr q⟩
end
abbrev FE:=DSt->Option R
noncomputable def tD (f:FE):TE:=fun σ H Q=>∃ Hs δ r,aQ Hs H/\gc Hs H δ σ/\f δ=some r/\∀ v Hs' H',Wd H Hs Hs' H'->dP H Hs' H' r v->Q v H'
structure DE (X:Cx) (e:Expr) (f:FE):Prop where
 go:PE X e (tD f)
noncomputable def tDT (f:DSt->Option Bool):TT:=fun σ H Q=>∃ Hs δ b,aQ Hs H/\gc Hs H δ σ/\f δ=some b/\∀ Hs' H',Wd H Hs Hs' H'->Q b H'
structure DT (X:Cx) (e:Expr) (f:DSt->Option Bool):Prop where
 go:PT X e (tDT f)
structure DW (X:Cx) (e:Expr) (f:DSt->Option Bool):Prop where
 go:PW X e (tDT f)
noncomputable def dL (H0 Hs H:Hp):List R->List V->Prop
 | [],vs=>vs=[]
 | r::rs,vs=>∃ v t,vs=v::t/\dP H0 Hs H r v/\dL H0 Hs H rs t
noncomputable def tDA (f:DSt->Option (List R)):TA:=fun σ H Q=>∃ Hs δ rs,aQ Hs H/\gc Hs H δ σ/\f δ=some rs/\∀ vs Hs' H',Wd H Hs Hs' H'->dL H Hs' H' rs vs->Q vs H'
structure DA (X:Cx) (es:List Expr) (f:DSt->Option (List R)):Prop where
 go:PA X es (tDA f)
noncomputable def ac (i:Nat):FE:=fun δ=>match δ[i]? with
 | some (some (.sh d))=>some (.sh d)
 | some (some (.ow ds))=>some (.bw ds)
 | _=>none
def ae (d:D):FE:=fun _=>some (.sh d)
noncomputable def af (o:D->D->Option R) (fa fb:FE):FE:=fun δ=>(fa δ).bind fun a=>(fb δ).bind fun b=>o a.view b.view
def dun (o:D->Option R) (fa:FE):FE:=fun δ=>(fa δ).bind fun a=>o a.view
section
variable {X:Cx} {a b c e:Expr} {fa fb fc f:FE} {pos:Pos}
theorem de_var {i:Nat} {x:Str} (h:PE X (.Name x pos) (kX i)):DE X (.Name x pos) (ac i):=.mk <| h.weak fun σ H Q ⟨Hs,δ,r,S,En,e,K⟩=>by
 unfold ac at e;cases q:δ[i]? with
 | none=>rw [q] at e;cases e
 | some o=>
  cases o with
  | none=>rw [q] at e;cases e
  | some en=>
   rw [q] at e;obtain ⟨v,hv,hr⟩:=En i en q;refine ⟨v,hv,K v Hs H (.refl S) ?_⟩;cases en with
   | sh d=>cases e;exact hr
   | ow ds=>
    cases e;obtain ⟨a,vs,e1,_,h1,h2⟩:=hr;exact ⟨a,vs,e1,h1,h2⟩
   | ob a C fs=>cases e
   | nw d=>cases e
   | on b d=>cases e
   | scr K ns=>cases e
   | exc C=>cases e
theorem mL {d:D} {v:V} (h:PE X e (tC v)) (r:∀ H,Rep H d v):DE X e (ae d):=.mk <| h.weak fun σ H Q ⟨Hs,δ,r',S,En,e,K⟩=>by
 cases e;exact K v Hs H (.refl S) (r Hs)
noncomputable def rD (o:D->D->Option R):R2:=fun x y H Q=>∃ Hs d1 d2 r,aQ Hs H/\View Hs H d1 x/\View Hs H d2 y/\o d1 d2=some r/\∀ v Hs' H',Wd H Hs Hs' H'->dP H Hs' H' r v->Q v H'
noncomputable def rD1 (o:D->Option R):V->Hp->VK->Prop:=fun x H Q=>∃ Hs d r,aQ Hs H/\View Hs H d x/\o d=some r/\∀ v Hs' H',Wd H Hs Hs' H'->dP H Hs' H' r v->Q v H'
theorem pR {o:D->D->Option R} {σ:St} {H:Hp} {Q:VK} (h:tD (af o fa fb) σ H Q):tOp (rD o) (tD fa) (tD fb) σ H Q:=by
 obtain ⟨Hs,δ,r,S,En,e,K⟩:=h;unfold af at e;cases ea:fa δ with
 | none=>rw [ea] at e;cases e
 | some ra=>
  cases eb:fb δ with
  | none=>rw [ea,eb] at e;cases e
  | some rb=>
   rw [ea,eb] at e;refine ⟨Hs,δ,ra,S,En,ea,fun x uq H1 W1 R1=>⟨uq,δ,rb,W1.sub,En.mono W1,eb,fun y uv H2 W2 R2=>?_⟩⟩;refine ⟨uv,ra.view,rb.view,r,W2.sub,(R1.mono W2).view,R2.view,e,fun v tW H3 W3 R3=>?_⟩;exact K v tW H3 (W1.trans (W2.trans W3)) (R3.older (W1.keep.trans W2.keep))
theorem aR {op:Operator} {o:D->D->Option R} (ho:OpR X (binaryOp op) (rD o)) (ha:DE X a fa) (hb:DE X b fb):DE X (.BinOp a op b pos) (af o fa fb):=.mk <| (pe_op ho ha.go hb.go).weak fun _ _ _=>pR
theorem mM {op:CmpOp} {o:D->D->Option R} (ho:OpR X (compareOp op) (rD o)) (ha:DE X a fa) (hb:DE X b fb) (hm:behindInMarks op b=false):DE X (.Compare a [op] [b] pos) (af o fa fb):=.mk <| (pe_cmpR ho ha.go hb.go hm).weak fun _ _ _=>pR
theorem de_ix {o:D->D->Option R} (ho:IxR X (rD o)) (ha:DE X a fa) (hb:DE X b fb) (hs:kc b):DE X (.Subscript a b pos) (af o fa fb):=.mk <| (pe_ix ho ha.go hb.go hs).weak fun _ _ _=>pR
def R.bool:R->Option Bool
 | .sh (.bl b)=>some b
 | _=>none
def al (f:FE):DSt->Option Bool:=fun δ=>(f δ).bind R.bool
theorem pS {σ:St} {H:Hp} {Q:Bool->Hp->Prop} (h:tDT (al f) σ H Q):tTest (tD f) σ H Q:=by
 obtain ⟨Hs,δ,b,S,En,e,K⟩:=h;unfold al at e;cases ea:f δ with
 | none=>rw [ea] at e;cases e
 | some ra=>
  rw [ea] at e;refine ⟨Hs,δ,ra,S,En,ea,fun x uq H1 W1 R1=>?_⟩;cases ra with
  | sh d=>
   cases d with
   | bl c=>
    cases e;have R1:Rep uq (.bl b) x:=R1;unfold Rep at R1;exact ⟨b,R1,K uq H1 W1⟩
   | _=>cases e
  | _=>cases e
theorem mO {op:CmpOp} {o:D->D->Option R} (ho:OpR X (compareOp op) (rD o)) (ha:DE X a fa) (hb:DE X b fb) (hm:behindInMarks op b=false):DT X (.Compare a [op] [b] pos) (al (af o fa fb)):=.mk <|
 (pt_cmpR ho ha.go hb.go hm).weak fun σ H Q h=>by
  obtain ⟨Hs,δ,r,S,En,e,K⟩:=pS h;exact pR ⟨Hs,δ,r,S,En,e,K⟩
theorem ba (h:DE X e f) (he:∀ whole,isTrue e X.env whole=(do let v <-whole;standAt e.pos;holding [v] (truthy v)):=by intro _;rfl):DT X e (al f):=.mk <| (pt_val h.go he).weak fun _ _ _=>pS
noncomputable def dQ (o o':D->D->Option R) (fa fb fc:FE):FE:=fun δ=>(fa δ).bind fun a=>(fb δ).bind fun b=>(o a.view b.view).bind fun r=>match r with
 | .sh (.bl true)=>(fc δ).bind fun c=>o' b.view c.view
 | .sh (.bl false)=>some (.sh (.bl false))
 | _=>none
theorem qN {o o':D->D->Option R} {σ:St} {H:Hp} {Q:VK} (h:tD (dQ o o' fa fb fc) σ H Q):tChain (rD o) (rD o') (tD fa) (tD fb) (tD fc) σ H Q:=by
 obtain ⟨Hs,δ,r,S,En,e,K⟩:=h;unfold dQ at e;cases ea:fa δ with
 | none=>rw [ea] at e;cases e
 | some ra=>
  cases eb:fb δ with
  | none=>rw [ea,eb] at e;cases e
  | some rb=>
   rw [ea,eb] at e;replace e:((o ra.view rb.view).bind fun r=>match r with
    | .sh (.bl true)=>(fc δ).bind fun c=>o' rb.view c.view
    | .sh (.bl false)=>some (R.sh (.bl false))
    | _=>none)=some r:=e
   cases eo:o ra.view rb.view with
   | none=>rw [eo] at e;cases e
   | some ro=>
    rw [eo] at e;refine ⟨Hs,δ,ra,S,En,ea,fun x uq H1 W1 R1=>⟨uq,δ,rb,W1.sub,En.mono W1,eb,fun y uv H2 W2 R2=>?_⟩⟩;refine ⟨uv,ra.view,rb.view,ro,W2.sub,(R1.mono W2).view,R2.view,eo,fun v tW H3 W3 R3=>?_⟩;cases ro with
    | sh d=>
     cases d with
     | bl k=>
      have R3:Rep tW (.bl k) v:=R3;unfold Rep at R3;refine ⟨k,R3,?_⟩;cases k with
      | true=>
       replace e:((fc δ).bind fun c=>o' rb.view c.view)=some r:=e;cases ec:fc δ with
       | none=>rw [ec] at e;cases e
       | some rc=>
        rw [ec] at e;rw [if_pos rfl];have wF:=W1.trans (W2.trans W3);refine ⟨tW,δ,rc,W3.sub,En.mono wF,ec,fun z Hs4 H4 W4 R4=>?_⟩;refine ⟨Hs4,rb.view,rc.view,r,W4.sub,((R2.mono W3).mono W4).view,R4.view,e,fun v ue H5 W5 R5=>?_⟩;exact K v ue H5 (wF.trans (W4.trans W5)) (R5.older (wF.keep.trans W4.keep))
      | false=>
       cases e;rw [if_neg zK];exact K _ tW H3 (W1.trans (W2.trans W3)) (by show Rep tW (.bl false) _;unfold Rep;rfl)
     | _=>cases e
    | _=>cases e
theorem qO {op uI:CmpOp} {o o':D->D->Option R} (ho:OpR X (compareOp op) (rD o)) (uC:OpR X (compareOp uI) (rD o')) (ha:DE X a fa) (hb:DE X b fb) (hc:DE X c fc)
 (hm:lastMarks [op,uI] [b,c]=false:=by with_unfolding_all rfl):DE X (.Compare a [op,uI] [b,c] pos) (dQ o o' fa fb fc):=.mk <| (pe_chain ho uC ha.go hb.go hc.go hm).weak fun _ _ _=>qN
theorem mP {op uI:CmpOp} {o o':D->D->Option R} (ho:OpR X (compareOp op) (rD o)) (uC:OpR X (compareOp uI) (rD o')) (ha:DE X a fa) (hb:DE X b fb) (hc:DE X c fc)
  (hm:lastMarks [op,uI] [b,c]=false:=by with_unfolding_all rfl):DT X (.Compare a [op,uI] [b,c] pos) (al (dQ o o' fa fb fc)):=.mk <|
 (pt_chain ho uC ha.go hb.go hc.go hm).weak fun σ H Q h=>by
  obtain ⟨Hs,δ,r,S,En,e,K⟩:=pS h;exact qN ⟨Hs,δ,r,S,En,e,K⟩
noncomputable def bQ (f g:DSt->Option Bool):DSt->Option Bool:=fun δ=>(f δ).bind fun c=>if c=true then g δ else some false
noncomputable def bP (f g:DSt->Option Bool):DSt->Option Bool:=fun δ=>(f δ).bind fun c=>if c=true then some true else g δ
def bb (f:DSt->Option Bool):DSt->Option Bool:=fun δ=>(f δ).map (!·)
variable {tf tg:DSt->Option Bool} {rest:List Expr}
theorem pT (ha:DT X a tf):DW X (.BoolOp .And [a] pos) tf:=.mk <| pw_and1 ha.go
theorem pU (ha:DT X a tf):DW X (.BoolOp .Or [a] pos) tf:=.mk <| pw_or1 ha.go
theorem mQ (ha:DT X a tf) (hb:DW X (.BoolOp .And (b::rest) pos) tg):DW X (.BoolOp .And (a::b::rest) pos) (bQ tf tg):=.mk <| (pw_and ha.go hb.go).weak fun σ H Q h=>by
 obtain ⟨Hs,δ,r,S,En,e,K⟩:=h;unfold bQ at e;cases ea:tf δ with
 | none=>rw [ea] at e;cases e
 | some k=>
  rw [ea] at e;refine ⟨Hs,δ,k,S,En,ea,fun uq H1 W1=>?_⟩;cases k with
  | true=>
   rw [if_pos rfl];exact ⟨uq,δ,r,W1.sub,En.mono W1,e,fun uv H2 W2=>K uv H2 (W1.trans W2)⟩
  | false=>cases e;rw [if_neg zK];exact K uq H1 W1
theorem kf (ha:DT X a tf) (hb:DW X (.BoolOp .Or (b::rest) pos) tg):DW X (.BoolOp .Or (a::b::rest) pos) (bP tf tg):=.mk <| (pw_or ha.go hb.go).weak fun σ H Q h=>by
 obtain ⟨Hs,δ,r,S,En,e,K⟩:=h;unfold bP at e;cases ea:tf δ with
 | none=>rw [ea] at e;cases e
 | some k=>
  rw [ea] at e;refine ⟨Hs,δ,k,S,En,ea,fun uq H1 W1=>?_⟩;cases k with
  | true=>cases e;rw [if_pos rfl];exact K uq H1 W1
  | false=>
   rw [if_neg zK];exact ⟨uq,δ,r,W1.sub,En.mono W1,e,fun uv H2 W2=>K uv H2 (W1.trans W2)⟩
theorem DW.dt (h:DW X e tf):DT X e tf:=.mk <| PW.pt h.go
theorem bi (ha:DT X a tf):DT X (.UnaryOp .Not a pos) (bb tf):=.mk <| (pt_not ha.go).weak fun σ H Q h=>by
 obtain ⟨Hs,δ,r,S,En,e,K⟩:=h;unfold bb at e;cases ea:tf δ with
 | none=>rw [ea] at e;cases e
 | some k=>
  rw [ea] at e;cases e;exact ⟨Hs,δ,k,S,En,ea,fun uq H1 W1=>K uq H1 W1⟩
noncomputable def gN (fa fb:FE):FE:=fun δ=>(fa δ).bind fun r=>match r with
 | .sh (.bl true)=>fb δ
 | .sh (.bl false)=>some (.sh (.bl false))
 | _=>none
noncomputable def dor (fa fb:FE):FE:=fun δ=>(fa δ).bind fun r=>match r with
 | .sh (.bl true)=>some (.sh (.bl true))
 | .sh (.bl false)=>fb δ
 | _=>none
noncomputable def dnot (fa:FE):FE:=fun δ=>(fa δ).bind fun r=>match r with
 | .sh (.bl b)=>some (.sh (.bl (!b)))
 | _=>none
theorem shB (H0 Hs H:Hp) (b:Bool):dP H0 Hs H (.sh (.bl b)) (.bl b):=by show Rep Hs (.bl b) (.bl b);unfold Rep;rfl
theorem shI (H0 Hs H:Hp) (i:Int):dP H0 Hs H (.sh (.int i)) (.int i):=by show Rep Hs (.int i) (.int i);unfold Rep;rfl
theorem shS (H0 Hs H:Hp) (x:Str):dP H0 Hs H (.sh (.str x)) (.str x):=by show Rep Hs (.str x) (.str x);unfold Rep;rfl
theorem unB {H0 Hs H:Hp} {b:Bool} {v:V} (h:dP H0 Hs H (.sh (.bl b)) v):v=.bl b:=by have h:Rep Hs (.bl b) v:=h;unfold Rep at h;exact h
theorem iI {op} (h:DE X a fa):DE X (.BoolOp op [a] pos) fa:=.mk <| pe_one h.go
theorem dR (ha:DE X a fa) (hb:DE X (.BoolOp .And (b::rest) pos) fb):DE X (.BoolOp .And (a::b::rest) pos) (gN fa fb):=.mk <| (pe_and ha.go hb.go).weak fun σ H Q h=>by
 obtain ⟨Hs,δ,r,S,En,e,K⟩:=h;unfold gN at e;cases ea:fa δ with
 | none=>rw [ea] at e;cases e
 | some k=>
  rw [ea] at e;refine ⟨Hs,δ,k,S,En,ea,fun x uq H1 W1 R1=>?_⟩
  match k,e,R1 with
  | .sh (.bl true),e,R1=>
   refine ⟨true,unB R1,?_⟩;rw [if_pos rfl];exact ⟨uq,δ,r,W1.sub,En.mono W1,e,fun v uv H2 W2 R2=>K v uv H2 (W1.trans W2) (R2.older W1.keep)⟩
  | .sh (.bl false),e,R1=>
   cases e;refine ⟨false,unB R1,?_⟩;rw [if_neg zK];exact K _ uq H1 W1 (shB _ _ _ _)
theorem de_not (ha:DE X a fa):DE X (.UnaryOp .Not a pos) (dnot fa):=.mk <| (pe_not ha.go).weak fun σ H Q h=>by
 obtain ⟨Hs,δ,r,S,En,e,K⟩:=h;unfold dnot at e;cases ea:fa δ with
 | none=>rw [ea] at e;cases e
 | some k=>
  rw [ea] at e;refine ⟨Hs,δ,k,S,En,ea,fun x uq H1 W1 R1=>?_⟩
  match k,e,R1 with
  | .sh (.bl k),e,R1=>
   cases e;exact ⟨k,unB R1,K _ uq H1 W1 (shB _ _ _ _)⟩
noncomputable def dif (t:DSt->Option Bool) (fa fb:FE):FE:=fun δ=>(t δ).bind fun k=>if k=true then fa δ else fb δ
end
def big:Nat:=100000
theorem ck {n:Nat} (h:n<=big):n<sizeLine:=Nat.lt_of_le_of_lt h (by rw [PySem.sizeLine_eq];decide)
def noStar:Expr->Bool
 | .Starred _ _=>false
 | _=>true
theorem bu {e:Expr} (h:noStar e=true) {es:List Expr} {env:Env}:starEach (e::es) env=(false,eval e env)::starEach es env:=by
 cases e <;> first | rfl | cases h
def ai:DSt->Option (List R):=fun _=>some []
noncomputable def aa (fa:FE) (fr:DSt->Option (List R)):DSt->Option (List R):=fun δ=>(fa δ).bind fun r=>(fr δ).bind fun rs=>some (r::rs)
theorem dL.mono {H0 H Hs Hs' H':Hp} (w:Wd H Hs Hs' H'):∀ {rs:List R} {vs:List V},dL H0 Hs H rs vs->dL H0 Hs' H' rs vs
 | [],_,h=>h
 | r::rs,_,⟨v,t,e,h1,h2⟩=>⟨v,t,e,h1.mono w,dL.mono w h2⟩
theorem dL.older {H0 H1 H Hs:Hp} (k:aQ H0 H1):∀ {rs:List R} {vs:List V},dL H1 Hs H rs vs->dL H0 Hs H rs vs
 | [],_,h=>h
 | r::rs,_,⟨v,t,e,h1,h2⟩=>⟨v,t,e,h1.older k,dL.older k h2⟩
section
variable {X:Cx} {e:Expr} {es:List Expr} {fa:FE} {fr:DSt->Option (List R)} {pos:Pos}
theorem gO:DA X [] ai:=.mk <| dl.weak fun σ H Q ⟨Hs,δ,r,S,En,e,K⟩=>by
 cases e;exact K [] Hs H (.refl S) rfl
theorem ad (ha:DE X e fa) (hr:DA X es fr) (hs:starEach (e::es) X.env=(false,eval e X.env)::starEach es X.env:=by exact bu rfl):DA X (e::es) (aa fa fr):=
 .mk <| (bO ha.go hr.go hs).weak fun σ H Q ⟨Hs,δ,r,S,En,e,K⟩=>by
  unfold aa at e;cases ea:fa δ with
  | none=>rw [ea] at e;cases e
  | some ra=>
   cases eb:fr δ with
   | none=>rw [ea,eb] at e;cases e
   | some rb=>
    rw [ea,eb] at e;cases e;refine ⟨Hs,δ,ra,S,En,ea,fun x uq H1 W1 R1=>⟨uq,δ,rb,W1.sub,En.mono W1,eb,fun vs uv H2 W2 R2=>?_⟩⟩;exact K (x::vs) uv H2 (W1.trans W2) ⟨x,vs,rfl,R1.mono W2,R2.older W1.keep⟩
end
def R.isBw:R->Bool
 | .bw _=>true
 | _=>false
theorem dL.freeze {H0 H:Hp}:∀ {rs:List R} {vs:List V} {Hs:Hp},aQ Hs H->dL H0 Hs H rs vs->∃ uq,aB uq (rs.map R.view) vs/\aQ uq H/\aQ Hs uq/\
  ((∀ r∈rs,r.isBw=false)->∀ a o,uq a=some o->Hs a=some o\/H0 a=none):=by
 have one:∀ {r:R} {v:V} {Hs:Hp},aQ Hs H->View Hs H r.view v->(r.isBw=false->(∃ d,r=.sh d/\Rep Hs d v)\/∃ a,v=.ref a/\H0 a=none)->
   ∃ uq,Rep uq r.view v/\aQ uq H/\aQ Hs uq/\(r.isBw=false->∀ a o,uq a=some o->Hs a=some o\/H0 a=none):=by
  intro r v Hs S vw new;rcases vw with h | ⟨ds,a,vs,e1,e2,h1,h2⟩
  ·exact ⟨Hs,h,S,.refl _,fun _ _ _ e=>.inl e⟩
  ·have sub:aQ Hs (L2.upd Hs a (.lst vs)):=fun b o q=>by
    by_cases hb:b=a
    ·subst hb;rw [S _ _ q] at h1;cases h1;exact aw
    ·rw [av hb];exact q
   refine ⟨L2.upd Hs a (.lst vs),?_,fun b o q=>?_,sub,fun hb b o q=>?_⟩
   ·rw [e1];unfold Rep;exact ⟨a,vs,e2,aw,aB.mono sub ds h2⟩
   ·by_cases hb:b=a
    ·subst hb;rw [aw] at q;cases q;exact h1
    ·rw [av hb] at q;exact S _ _ q
   ·by_cases hba:b=a
    ·subst hba;rcases new hb with ⟨d,ed,hd⟩ | ⟨a',ea,na⟩
     ·subst ed;have e1:d=.lst ds:=e1;subst e1;unfold Rep at hd;obtain ⟨a',uH,e3,h3,_⟩:=hd;rw [e2] at e3;cases e3;rw [S _ _ h3] at h1;cases h1;rw [aw] at q;cases q;exact .inl h3
     ·rw [e2] at ea;cases ea;exact .inr na
    ·rw [av hba] at q;exact .inl q
 intro rs
 induction rs with
 | nil=>intro vs Hs S h;exact ⟨Hs,by rw [show vs=[] from h];exact .nil,S,.refl _,fun _ _ _ e=>.inl e⟩
 | cons r rs ih=>
  intro vs Hs S h;obtain ⟨v,t,rfl,h1,h2⟩:=h;obtain ⟨uq,q1,q2,q3,q4⟩:=ih S h2;have vw:View uq H r.view v:=by
   rcases h1.view with z | ⟨ds,a,vs,e1,e2,z1,z2⟩
   ·exact .inl (Rep.mono q3 _ z)
   ·exact .inr ⟨ds,a,vs,e1,e2,z1,aB.mono q3 _ z2⟩
  obtain ⟨uv,p1,p2,p3,p4⟩:=one (r:=r) q2 vw fun hb=>by
   cases r with
   | sh d=>exact .inl ⟨d,rfl,Rep.mono q3 _ h1⟩
   | fr ds=>obtain ⟨a,vs,e,n,_⟩:=h1;exact .inr ⟨a,e,n⟩
   | bw ds=>cases hb
  refine ⟨uv,.cons p1 (aB.mono p3 _ q1),p2,q3.trans p3,fun hb a o e=>?_⟩;rcases p4 (hb r yY) a o e with z | z
  ·exact q4 (fun r' hr'=>hb r' (uf _ hr')) a o z
  ·exact .inr z
def cX (rs:List R):Bool:=rs.all fun r=>!r.isBw
theorem gP {rs:List R} (h:cX rs=true):∀ r∈rs,r.isBw=false:=fun r hr=>by
 have:=Ag.mp h r hr;simpa using this
noncomputable def bV (fa:DSt->Option (List R)):FE:=fun δ=>(fa δ).bind fun rs=>if cX rs=true/\rs.length<=big then some (.fr (rs.map R.view)) else none
noncomputable def bf (fa:DSt->Option (List R)):FE:=fun δ=>(fa δ).bind fun rs=>if cX rs=true/\rs.length<=big then some (.sh (.tup (rs.map R.view))) else none
theorem dL.length {H0 Hs H:Hp}:∀ {rs:List R} {vs:List V},dL H0 Hs H rs vs->vs.length=rs.length
 | [],_,h=>by rw [show _=_ from h];rfl
 | r::rs,_,⟨v,t,e,h1,h2⟩=>by rw [e];simp [dL.length h2]
section
variable {X:Cx} {e:Expr} {es:List Expr} {fa:FE} {fr:DSt->Option (List R)} {pos:Pos}
theorem bN (h:DA X es fr):DE X (.List es pos) (bV fr):=.mk <| (pe_lst h.go).weak fun σ H Q ⟨Hs,δ,r,S,En,e,K⟩=>by
 unfold bV at e;cases ea:fr δ with
 | none=>rw [ea] at e;cases e
 | some rs=>
  rw [ea] at e;by_cases hc:cX rs=true/\rs.length<=big
  ·replace e:(if cX rs=true/\rs.length<=big then some (R.fr (rs.map R.view)) else none)=some r:=e;rw [if_pos hc] at e;cases e;refine ⟨Hs,δ,rs,S,En,ea,fun vs uq H1 W1 R1=>⟨?_,fun p hp=>?_⟩⟩
   ·rw [R1.length];exact Ac (ck hc.2)
   ·obtain ⟨uv,q1,q2,q3,q4⟩:=R1.freeze W1.sub;have W2:Wd H Hs uv H1:=⟨W1.keep,q2,W1.base.trans q3,fun a o e=>by
     rcases q4 (gP hc.1) a o e with z | z
     ·exact W1.new a o z
     ·exact .inr z⟩
    exact K _ uv _ (W2.trans (.fresh q2 hp)) ⟨p,vs,rfl,W1.keep.free hp,q2.free hp,aw,q1⟩
  ·replace e:(if cX rs=true/\rs.length<=big then some (R.fr (rs.map R.view)) else none)=some r:=e;rw [if_neg hc] at e;cases e
theorem bo {x1} (h:DA X es fr):DE X (.Tuple es x1 pos) (bf fr):=.mk <| (pe_tup h.go).weak fun σ H Q ⟨Hs,δ,r,S,En,e,K⟩=>by
 unfold bf at e;cases ea:fr δ with
 | none=>rw [ea] at e;cases e
 | some rs=>
  rw [ea] at e;by_cases hc:cX rs=true/\rs.length<=big
  ·replace e:(if cX rs=true/\rs.length<=big then some (R.sh (.tup (rs.map R.view))) else none)=some r:=e;rw [if_pos hc] at e;cases e;refine ⟨Hs,δ,rs,S,En,ea,fun vs uq H1 W1 R1=>⟨?_,fun p hp=>?_⟩⟩
   ·rw [R1.length];exact Ac (ck hc.2)
   ·obtain ⟨uv,q1,q2,q3,q4⟩:=R1.freeze W1.sub;have W2:Wd H Hs uv H1:=⟨W1.keep,q2,W1.base.trans q3,fun a o e=>by
     rcases q4 (gP hc.1) a o e with z | z
     ·exact W1.new a o z
     ·exact .inr z⟩
    refine K _ (L2.upd uv p (.tup vs)) _ (W2.trans (.lay q2 hp)) ?_;show Rep _ (.tup _) _;unfold Rep;exact ⟨p,vs,rfl,aw,aB.mono (.new (q2.free hp)) _ q1⟩
  ·replace e:(if cX rs=true/\rs.length<=big then some (R.sh (.tup (rs.map R.view))) else none)=some r:=e;rw [if_neg hc] at e;cases e
end
noncomputable def spD (n:Nat) (m:List D->Option D):Sp:=fun vs H Q _=>∃ Hs ds d,ds.length=n/\aQ Hs H/\aB Hs ds vs/\m ds=some d/\∀ v Hs' H',Wd H Hs Hs' H'->Rep Hs' d v->Q v H'
theorem spD_len {n:Nat} {m:List D->Option D} {vs:List V} {H:Hp} {Q:VK} {E:XK} (h:spD n m vs H Q E):vs.length=n:=by
 obtain ⟨Hs,ds,d,e,_,r,_⟩:=h;rw [r.length,e]
def D.flat:D->Bool
 | .non=>true
 | .bl _=>true
 | .int _=>true
 | .str _=>true
 | _=>false
theorem Rep.flat {H H':Hp} {d:D} {v:V} (f:d.flat=true) (h:Rep H d v):Rep H' d v:=by
 cases d with
 | lst _=>cases f
 | tup _=>cases f
 | obj _ _=>cases f
 | _=>unfold Rep at h ⊢;exact h
noncomputable def kg (n:Nat) (m:List D->Option D) (rs:List R):Option R:=(m (rs.map R.view)).bind fun d=>if rs.length=n/\(cX rs=true\/d.flat=true) then some (.sh d) else none
noncomputable def mcallF (n:Nat) (m:List D->Option (List D)) (rs:List R):Option R:=(m (rs.map R.view)).bind fun d=>if rs.length=n/\cX rs=true then some (.fr d) else none
theorem qP {n:Nat} {m:List D->Option D} {rs:List R} {r:R} {vs:List V} {H Hs uq H1:Hp} {Q:VK} {E:XK} (W1:Wd H Hs uq H1) (R1:dL H uq H1 rs vs) (e:kg n m rs=some r)
  (K:∀ v Hs' H',Wd H Hs Hs' H'->dP H Hs' H' r v->Q v H'):spD n m vs H1 Q E:=by
 unfold kg at e;cases em:m (rs.map R.view) with
 | none=>rw [em] at e;cases e
 | some d=>
  rw [em] at e;replace e:(if rs.length=n/\(cX rs=true\/d.flat=true) then some (R.sh d) else none)=some r:=e;by_cases hc:rs.length=n/\(cX rs=true\/d.flat=true)
  ·rw [if_pos hc] at e;cases e;obtain ⟨uv,q1,q2,q3,q4⟩:=R1.freeze W1.sub;refine ⟨uv,_,d,by rw [uk];exact hc.1,q2,q1,em,fun v tW H3 W3 R3=>?_⟩;rcases hc.2 with hb | hf
   ·have W2:Wd H Hs uv H1:=⟨W1.keep,q2,W1.base.trans q3,fun a o e=>by
     rcases q4 (gP hb) a o e with z | z
     ·exact W1.new a o z
     ·exact .inr z⟩
    exact K v tW H3 (W2.trans W3) R3
   ·exact K v uq H3 ⟨W1.keep.trans W3.keep,W1.sub.trans W3.keep,W1.base,W1.new⟩ (Rep.flat hf R3)
  ·rw [if_neg hc] at e;cases e
def ao (n:Nat) (m:List D->Option D) (fa:DSt->Option (List R)):FE:=fun δ=>(fa δ).bind (kg n m)
noncomputable def dcallF (n:Nat) (m:List D->Option (List D)) (fa:DSt->Option (List R)):FE:=fun δ=>(fa δ).bind (mcallF n m)
section
variable {X:Cx} {e o:Expr} {es:List Expr} {fa fo:FE} {fr:DSt->Option (List R)} {n:Nat} {m:List D->Option D} {mF:List D->Option (List D)} {E:XK}
theorem tD_call {σ:St} {H:Hp} {Q:VK} (h:tD (ao n m fr) σ H Q):tCall (spD n m) [] E (tDA fr) σ H Q:=by
 obtain ⟨Hs,δ,r,S,En,e,K⟩:=h;unfold ao at e;cases ea:fr δ with
 | none=>rw [ea] at e;cases e
 | some rs=>
  rw [ea] at e;refine ⟨Hs,δ,rs,S,En,ea,fun vs uq H1 W1 R1=>?_⟩;show spD n m (vs++[]) H1 Q E;rw [List.append_nil];exact qP W1 R1 e K
noncomputable def eU (ok:Addr->Bool) (f:Str) (fo:FE):FE:=fun δ=>(fo δ).bind fun r=>match r.view with
 | .obj C fs=>if ok C=true then (fs.lookup f).map .sh else none
 | _=>none
theorem de_fld {ok:Addr->Bool} {f:Str} {pos:Pos} (ho:DE X o fo) (hk:∀ C,ok C=true->Cls X.K C/\NoAttr X.K C f) (hb:attributeBase o f X.env (eval o X.env)=eval o X.env:=by rfl):DE X (.Attribute o f pos) (eU ok f fo):=.mk <|
 (pe_fld ho.go hb).weak fun σ H Q ⟨Hs,δ,r,S,En,e,K⟩=>by
  unfold eU at e;cases ea:fo δ with
  | none=>rw [ea] at e;cases e
  | some ra=>
   rw [ea] at e;refine ⟨Hs,δ,ra,S,En,ea,fun x uq H1 W1 R1=>?_⟩;have vw:=R1.view;replace e:(match ra.view with
    | .obj C fs=>if ok C=true then (fs.lookup f).map R.sh else none
    | _=>none)=some r:=e
   cases hv:ra.view with
   | obj C fs=>
    rw [hv] at e vw;replace e:(if ok C=true then (fs.lookup f).map R.sh else none)=some r:=e;by_cases hc:ok C=true
    ·rw [if_pos hc] at e;cases el:fs.lookup f with
     | none=>rw [el] at e;cases e
     | some d=>
      rw [el] at e;cases e;obtain ⟨a,dx,tR,e1,h1,h2⟩:=vw.obj W1.sub;obtain ⟨v,l1,l2⟩:=h2.lookup el;exact ⟨a,C,dx,tR,v,e1,h1,(hk C hc).1,(hk C hc).2,l1,K v uq H1 W1 l2⟩
    ·rw [if_neg hc] at e;cases e
   | _=>rw [hv] at e;cases e
noncomputable def bW (C:Addr) (name:Str) (n:Nat) (m:List D->Option D) (fo:FE) (fa:DSt->Option (List R)):FE:=fun δ=>(fo δ).bind fun r=>match r.view with
 | .obj C' fs=>if C'=C/\fs.lookup name=none then (fa δ).bind fun rs=>kg n m (r::rs) else none
 | _=>none
theorem tD_meth {C:Addr} {name:Str} {σ:St} {H:Hp} {Q:VK} (h:tD (bW C name n m fo fr) σ H Q):tMeth C name (spD n m) [] E (tD fo) (tDA fr) σ H Q:=by
 obtain ⟨Hs,δ,r,S,En,e,K⟩:=h;unfold bW at e;cases ea:fo δ with
 | none=>rw [ea] at e;cases e
 | some ra=>
  rw [ea] at e;refine ⟨Hs,δ,ra,S,En,ea,fun x uq H1 W1 R1=>?_⟩;have vw:=R1.view;replace e:(match ra.view with
   | .obj C' fs=>if C'=C/\fs.lookup name=none then (fr δ).bind fun rs=>kg n m (ra::rs) else none
   | _=>none)=some r:=e
  cases hv:ra.view with
  | obj C' fs=>
   rw [hv] at e vw;replace e:(if C'=C/\fs.lookup name=none then (fr δ).bind fun rs=>kg n m (ra::rs) else none)=some r:=e;by_cases hc:C'=C/\fs.lookup name=none
   ·rw [if_pos hc] at e;obtain ⟨hC,hn⟩:=hc;subst hC;obtain ⟨a,dx,tR,e1,h1,h2⟩:=vw.obj W1.sub;refine ⟨a,dx,tR,e1,h1,h2.none hn,?_⟩;cases eb:fr δ with
    | none=>rw [eb] at e;cases e
    | some rs=>
     rw [eb] at e;refine ⟨uq,δ,rs,W1.sub,En.mono W1,eb,fun vs uv H2 W2 R2=>?_⟩;show spD n m (x::(vs++[])) H2 Q E;rw [List.append_nil];exact qP (rs:=ra::rs) (W1.trans W2) (show dL H uv H2 (ra::rs) (x::vs) from ⟨x,vs,rfl,R1.mono W2,R2.older W1.keep⟩) e K
   ·rw [if_neg hc] at e;cases e
  | _=>rw [hv] at e;cases e
def dalt (f g:FE):FE:=fun δ=>match f δ with
 | some r=>some r
 | none=>g δ
theorem pV {f g:FE} (hf:DE X e f) (hg:DE X e g):DE X e (dalt f g):=.mk <| fun pins s σ H Q I ⟨Hs,δ,r,S,En,e,K⟩=>by
 unfold dalt at e;cases ef:f δ with
 | none=>rw [ef] at e;exact hg.go pins s σ H Q I ⟨Hs,δ,r,S,En,e,K⟩
 | some r'=>rw [ef] at e;cases e;exact hf.go pins s σ H Q I ⟨Hs,δ,r,S,En,ef,K⟩
noncomputable def aD (o:D->Option R) (fa:DSt->Option (List R)):FE:=fun δ=>(fa δ).bind fun rs=>match rs with
 | [r]=>o r.view
 | _=>none
def rC1 (o:D->Option R):List V->Hp->VK->Prop:=fun xs H Q=>∃ x,xs=[x]/\rD1 o x H Q
theorem qQ {o:D->Option R} {σ:St} {H:Hp} {Q:VK} (h:tD (aD o fr) σ H Q):tCB (rC1 o) (tDA fr) σ H Q:=by
 obtain ⟨Hs,δ,r,S,En,e,K⟩:=h;unfold aD at e;cases ea:fr δ with
 | none=>rw [ea] at e;cases e
 | some rs=>
  rw [ea] at e;refine ⟨Hs,δ,rs,S,En,ea,fun vs uq H1 W1 R1=>?_⟩
  match rs,e,R1 with
  | [r1],e,⟨v,t,ev,q1,q2⟩=>
   have q2:t=[]:=q2;subst q2;exact ⟨v,ev,uq,r1.view,r,W1.sub,q1.view,e,fun u uv H2 W2 R2=>K u uv H2 (W1.trans W2) (R2.older W1.keep)⟩
noncomputable def a0 (o:D->D->Option R) (fa:DSt->Option (List R)):FE:=fun δ=>(fa δ).bind fun rs=>match rs with
 | [r,s]=>o r.view s.view
 | _=>none
def rC2 (o:D->D->Option R):List V->Hp->VK->Prop:=fun xs H Q=>∃ x y,xs=[x,y]/\rD o x y H Q
theorem tD_call2 {o:D->D->Option R} {σ:St} {H:Hp} {Q:VK} (h:tD (a0 o fr) σ H Q):tCB (rC2 o) (tDA fr) σ H Q:=by
 obtain ⟨Hs,δ,r,S,En,e,K⟩:=h;unfold a0 at e;cases ea:fr δ with
 | none=>rw [ea] at e;cases e
 | some rs=>
  rw [ea] at e;refine ⟨Hs,δ,rs,S,En,ea,fun vs uq H1 W1 R1=>?_⟩
  match rs,e,R1 with
  | [r1,r2],e,⟨v,t,ev,q1,⟨v2,t2,ev2,p1,p2⟩⟩=>
   have p2:t2=[]:=p2;subst p2;exact ⟨v,v2,by rw [ev,ev2],uq,r1.view,r2.view,r,W1.sub,q1.view,p1.view,e,fun u uv H2 W2 R2=>K u uv H2 (W1.trans W2) (R2.older W1.keep)⟩
end
noncomputable def Fp (H:Hp):E->V->Addr->Prop
 | .sh _,_,_=>False
 | .ow _,v,b=>v=.ref b
 | .ob a C _,_,b=>b=a\/∃ tR,H a=some (.ins C b tR)
 | .nw d,v,b=>∃ L,Own H d v L/\b∈L
 | .on _ d,v,b=>∃ L,Own H d v L/\b∈L
 | .scr _ _,_,_=>False
 | .exc _,_,_=>False
theorem gl.fp {Hs H:Hp} {e:E} {v:V} {b:Addr} (h:gl Hs H e v) (f:Fp H e v b):Hs b=none/\∃ o,H b=some o:=by
 cases e with
 | sh d=>cases f
 | ow ds=>
  obtain ⟨a,vs,e1,m,h1,h2⟩:=h;rw [e1] at f;cases f;exact ⟨m,_,h1⟩
 | ob a C fs=>
  obtain ⟨e1,dx,tR,m,m2,h1,h3,h2⟩:=h;rcases f with rfl | ⟨wR,f⟩
  ·exact ⟨m,_,h1⟩
  ·rw [h1] at f;cases f;exact ⟨m2,_,h3⟩
 | nw d=>
  obtain ⟨L,h1,h2⟩:=h;obtain ⟨L',h3,hb⟩:=f;rw [Own.uniq d h3 h1] at hb;exact ⟨h2 b hb,Own.cell d h1 b hb⟩
 | on a d=>
  obtain ⟨_,L,h1,h2⟩:=h;obtain ⟨L',h3,hb⟩:=f;rw [Own.uniq d h3 h1] at hb;exact ⟨h2 b hb,Own.cell d h1 b hb⟩
 | scr K ns=>cases f
 | exc C=>cases f
theorem gl.agree {Hs H H':Hp} {e:E} {v:V} (h:gl Hs H e v) (k:∀ b,Fp H e v b->H' b=H b):gl Hs H' e v/\∀ b,Fp H' e v b->Fp H e v b:=by
 cases e with
 | sh d=>exact ⟨h,fun b f=>f⟩
 | ow ds=>
  obtain ⟨a,vs,e1,m,h1,h2⟩:=h;exact ⟨⟨a,vs,e1,m,by rw [k a e1];exact h1,h2⟩,fun b f=>f⟩
 | ob a C fs=>
  obtain ⟨e1,dx,tR,m,m2,h1,h3,h2⟩:=h;have ka:=k a (.inl rfl);exact ⟨⟨e1,dx,tR,m,m2,by rw [ka];exact h1,by rw [k dx (.inr ⟨tR,h1⟩)];exact h3,h2⟩,fun b f=>by
   rcases f with f | ⟨wR,f⟩
   ·exact .inl f
   ·rw [ka] at f;exact .inr ⟨wR,f⟩⟩
 | nw d=>
  obtain ⟨L,h1,h2⟩:=h;have tZ:Own H' d v L:=h1.agree d fun b hb=>k b ⟨L,h1,hb⟩;exact ⟨⟨L,tZ,h2⟩,fun b ⟨L',f,hb⟩=>⟨L,h1,by rw [Own.uniq d f tZ] at hb;exact hb⟩⟩
 | on a d=>
  obtain ⟨e1,L,h1,h2⟩:=h;have tZ:Own H' d v L:=h1.agree d fun b hb=>k b ⟨L,h1,hb⟩;exact ⟨⟨e1,L,tZ,h2⟩,fun b ⟨L',f,hb⟩=>⟨L,h1,by rw [Own.uniq d f tZ] at hb;exact hb⟩⟩
 | scr K ns=>exact ⟨h,fun b f=>f⟩
 | exc C=>exact ⟨h,fun b f=>f⟩
theorem gl.grow {Hs H H':Hp} {e:E} {v:V} (s:aQ H H') (h:gl Hs H e v):gl Hs H' e v/\∀ b,Fp H' e v b->Fp H e v b:=h.agree fun b f=>by
 obtain ⟨_,o,ho⟩:=h.fp f;rw [ho,s _ _ ho]
theorem gl.frame {Hs uq H:Hp} {e:E} {v:V} (s:aQ Hs uq) (h:gl Hs H e v) (k:∀ b,Fp H e v b->uq b=none):gl uq H e v:=by
 cases e with
 | sh d=>exact Rep.mono s d h
 | ow ds=>
  obtain ⟨a,vs,e1,m,h1,h2⟩:=h;exact ⟨a,vs,e1,k a e1,h1,aB.mono s _ h2⟩
 | ob a C fs=>
  obtain ⟨e1,dx,tR,m,m2,h1,h3,h2⟩:=h;exact ⟨e1,dx,tR,k a (.inl rfl),k dx (.inr ⟨tR,h1⟩),h1,h3,eT.mono s _ h2⟩
 | nw d=>
  obtain ⟨L,h1,h2⟩:=h;exact ⟨L,h1,fun b hb=>k b ⟨L,h1,hb⟩⟩
 | on a d=>
  obtain ⟨e1,L,h1,h2⟩:=h;exact ⟨e1,L,h1,fun b hb=>k b ⟨L,h1,hb⟩⟩
 | scr K ns=>
  obtain ⟨a,e,h1⟩:=h;exact ⟨a,e,iH s h1⟩
 | exc C=>
  obtain ⟨a,e,o,h1,h2⟩:=h;exact ⟨a,e,o,s _ _ h1,h2⟩
structure StR (H0 Hs H:Hp) (δ:DSt) (σ:St):Prop where
 ent:gc Hs H δ σ
 len:σ.length=δ.length
 new:∀ (i:Nat) (e:E) (v:V) (b:Addr),δ[i]?=some (some e)->σ[i]?=some (some v)->Fp H e v b->H0 b=none
 dis:∀ (i j:Nat) (e e':E) (v v':V) (b:Addr),i≠j->δ[i]?=some (some e)->δ[j]?=some (some e')->σ[i]?=some (some v)->σ[j]?=some (some v')->Fp H e v b->Fp H e' v' b->False
theorem StR.rep {H0 Hs H:Hp} {δ:DSt} {σ:St} (h:StR H0 Hs H δ σ) {i:Nat} {e:E} {v:V} (q:δ[i]?=some (some e)) (hv:σ[i]?=some (some v)):gl Hs H e v:=by
 obtain ⟨v',h1,h2⟩:=h.ent i e q;rw [hv] at h1;cases h1;exact h2
theorem StR.mono {H0 H Hs Hs' H':Hp} {δ:DSt} {σ:St} (w:Wd H Hs Hs' H') (h:StR H0 Hs H δ σ):StR H0 Hs' H' δ σ:=by
 have g:∀ (i:Nat) (e:E) (v:V) (b:Addr),δ[i]?=some (some e)->σ[i]?=some (some v)->Fp H' e v b->Fp H e v b:=fun i e v b q1 q2 f=>((h.rep q1 q2).grow w.keep).2 b f;exact ⟨h.ent.mono w,h.len,fun i e v b q1 q2 f=>h.new i e v b q1 q2 (g i e v b q1 q2 f),fun i j e e' v v' b n q1 q2 q3 q4 f f'=>h.dis i j e e' v v' b n q1 q2 q3 q4 (g i e v b q1 q3 f) (g j e' v' b q2 q4 f')⟩
theorem get_set {α:Type} {l:List α} {i j:Nat} {x y:α} (h:(l.set i x)[j]?=some y):(j=i/\y=x/\i<l.length)\/(j≠i/\l[j]?=some y):=by
 by_cases hj:j=i
 ·subst hj;have hl:j<l.length:=by
   have:=(yX.mp h).1;simpa using this
  rw [zG hl] at h;exact .inl ⟨rfl,(Ab h).symm,hl⟩
 ·rw [zD (Ne.symm hj)] at h;exact .inr ⟨hj,h⟩
theorem StR.upG {H0 uw Hs H Hs' H':Hp} {δ:DSt} {σ:St} {i:Nat} {e e':E} {v v':V} (W:Wd H0 uw Hs H) (S:StR H0 Hs H δ σ) (q:δ[i]?=some (some e)) (hv:σ[i]?=some (some v))
  (keep:∀ b o,¬Fp H e v b->H b=some o->H' b=some o) (sub:aQ Hs' H') (base:aQ Hs Hs') (new:∀ a o,Hs' a=some o->Hs a=some o\/H a=none)
  (r:gl Hs' H' e' v') (own:∀ b,Fp H' e' v' b->Fp H e v b\/H b=none) :
  Wd H0 uw Hs' H'/\StR H0 Hs' H' (δ.set i (some e')) (σ.set i (some v')):=by
 have hi:i<δ.length:=(yX.mp q).1;have ag:∀ (j:Nat) (en:E) (u:V),j≠i->δ[j]?=some (some en)->σ[j]?=some (some u)->gl Hs' H' en u/\∀ b,Fp H' en u b->Fp H en u b:=fun j en u hj q1 q2=>by
  have r0:=S.rep q1 q2;obtain ⟨r1,f1⟩:=r0.agree (H':=H') fun b f=>by
   obtain ⟨_,o,ho⟩:=r0.fp f;rw [ho];exact keep b o (fun z=>S.dis j i en e u v b hj q1 q q2 hv f z) ho
  refine ⟨r1.frame base fun b f=>?_,f1⟩;obtain ⟨m,o,ho⟩:=r0.fp (f1 b f);cases z:Hs' b with
  | none=>rfl
  | some o'=>
   rcases new b o' z with z' | z'
   ·rw [m] at z';cases z'
   ·rw [ho] at z';cases z'
 refine ⟨⟨fun b o hb=>?_,sub,W.base.trans base,fun a o ha=>?_⟩,⟨fun j en hj=>?_,by simpa using S.len,fun j en u b hj hu f=>?_,fun j k e1 e2 u1 u2 b wN h1 h2 g1 g2 f1 f2=>?_⟩⟩
 ·refine keep b o (fun z=>?_) (W.keep _ _ hb);rw [S.new i e v b q hv z] at hb;cases hb
 ·rcases new a o ha with z | z
  ·exact W.new a o z
  ·exact .inr (W.keep.free z)
 ·rcases get_set hj with ⟨rfl,e1,_⟩ | ⟨vj,q1⟩
  ·cases e1;exact ⟨v',zG (by rw [S.len];exact hi),r⟩
  ·obtain ⟨u,hu,_⟩:=S.ent j en q1;exact ⟨u,by rw [zD (Ne.symm vj)];exact hu,(ag j en u vj q1 hu).1⟩
 ·rcases get_set hj with ⟨rfl,e1,_⟩ | ⟨vj,q1⟩
  ·cases e1;rw [zG (by rw [S.len];exact hi)] at hu;cases hu;rcases own b f with z | z
   ·exact S.new _ e v b q hv z
   ·exact W.keep.free z
  ·rw [zD (Ne.symm vj)] at hu;exact S.new j en u b q1 hu ((ag j en u vj q1 hu).2 b f)
 ·have other:∀ (j:Nat) (en:E) (u:V),j≠i->δ[j]?=some (some en)->σ[j]?=some (some u)->Fp H' en u b->Fp H' e' v' b->False:=fun j en u vj q1 q2 f f'=>by
   have f0:=(ag j en u vj q1 q2).2 b f;rcases own b f' with z | z
   ·exact S.dis j i en e u v b vj q1 q q2 hv f0 z
   ·obtain ⟨_,o,ho⟩:=(S.rep q1 q2).fp f0;rw [ho] at z;cases z
  rcases get_set h1 with ⟨rfl,z1,_⟩ | ⟨vj,q1⟩
  ·rcases get_set h2 with ⟨rfl,z2,_⟩ | ⟨uR,q2⟩
   ·exact wN rfl
   ·cases z1;rw [zG (by rw [S.len];exact hi)] at g1;rw [zD (Ne.symm uR)] at g2;cases g1;exact other k e2 u2 uR q2 g2 f2 f1
  ·rw [zD (Ne.symm vj)] at g1;rcases get_set h2 with ⟨rfl,z2,_⟩ | ⟨uR,q2⟩
   ·cases z2;rw [zG (by rw [S.len];exact hi)] at g2;cases g2;exact other j e1 u1 vj q1 g1 f1 f2
   ·rw [zD (Ne.symm uR)] at g2;exact S.dis j k e1 e2 u1 u2 b wN q1 q2 g1 g2 ((ag j e1 u1 vj q1 g1).2 b f1) ((ag k e2 u2 uR q2 g2).2 b f2)
theorem StR.put {H0 Hs H Hs' H':Hp} {δ:DSt} {σ:St} {i:Nat} {e':E} {v':V} (k:aQ H0 H) (S:StR H0 Hs H δ σ) (w:Wd H Hs Hs' H') (r:gl Hs' H' e' v') (own:∀ b,Fp H' e' v' b->H b=none) :
  StR H0 Hs' H' (δ.set i (some e')) (σ.set i (some v')):=by
 have S':=S.mono w;have back:∀ (j:Nat) (en:E) (u:V) (b:Addr),δ[j]?=some (some en)->σ[j]?=some (some u)->Fp H' en u b->∃ o,H b=some o:=fun j en u b q1 q2 f=>((S.rep q1 q2).fp (((S.rep q1 q2).grow w.keep).2 b f)).2;refine ⟨fun j en hj=>?_,by simpa using S.len,fun j en u b hj hu f=>?_,fun j k e1 e2 u1 u2 b wN h1 h2 g1 g2 f1 f2=>?_⟩
 ·rcases get_set hj with ⟨rfl,e1,hl⟩ | ⟨vj,q1⟩
  ·cases e1;exact ⟨v',zG (by rw [S.len];exact hl),r⟩
  ·obtain ⟨u,hu,hr⟩:=S'.ent j en q1;exact ⟨u,by rw [zD (Ne.symm vj)];exact hu,hr⟩
 ·rcases get_set hj with ⟨rfl,e1,hl⟩ | ⟨vj,q1⟩
  ·cases e1;rw [zG (by rw [S.len];exact hl)] at hu;cases hu;exact k.free (own b f)
  ·rw [zD (Ne.symm vj)] at hu;exact S'.new j en u b q1 hu f
 ·have other:∀ (j:Nat) (en:E) (u:V),δ[j]?=some (some en)->σ[j]?=some (some u)->Fp H' en u b->Fp H' e' v' b->False:=fun j en u q1 q2 f f'=>by
   obtain ⟨o,ho⟩:=back j en u b q1 q2 f;rw [own b f'] at ho;cases ho
  rcases get_set h1 with ⟨rfl,z1,hl⟩ | ⟨vj,q1⟩
  ·rcases get_set h2 with ⟨rfl,z2,_⟩ | ⟨uR,q2⟩
   ·exact wN rfl
   ·cases z1;rw [zG (by rw [S.len];exact hl)] at g1;rw [zD (Ne.symm uR)] at g2;cases g1;exact other k e2 u2 q2 g2 f2 f1
  ·rw [zD (Ne.symm vj)] at g1;rcases get_set h2 with ⟨rfl,z2,hl⟩ | ⟨uR,q2⟩
   ·cases z2;rw [zG (by rw [S.len];exact hl)] at g2;cases g2;exact other j e1 u1 q1 g1 f1 f2
   ·rw [zD (Ne.symm uR)] at g2;exact S'.dis j k e1 e2 u1 u2 b wN q1 q2 g1 g2 f1 f2
theorem set_same {α:Type} {l:List α} {i:Nat} {x:α} (h:l[i]?=some x):l.set i x=l:=by
 apply List.ext_getElem?;intro j;by_cases hj:i=j
 ·subst hj;rw [zG (yX.mp h).1,h]
 ·rw [zD hj]
inductive Res where
 | nx (δ:DSt)
 | rt (r:R)
 | bk (δ:DSt)
 | ct (δ:DSt)
 | rn (d:D)
noncomputable def Post (H0 uw:Hp) (D:Ends):Res->Prop
 | .nx δ=>∀ σ Hs H,Wd H0 uw Hs H->StR H0 Hs H δ σ->D.nx σ H
 | .rt r=>∀ v Hs H,Wd H0 uw Hs H->dP H0 Hs H r v->D.rt v H
 | .bk δ=>∀ σ Hs H,Wd H0 uw Hs H->StR H0 Hs H δ σ->D.bk σ H
 | .ct δ=>∀ σ Hs H,Wd H0 uw Hs H->StR H0 Hs H δ σ->D.ct σ H
 | .rn d=>∀ v Hs H L,Wd H0 uw Hs H->Own H d v L->(∀ a∈L,H0 a=none/\Hs a=none)->D.rt v H
abbrev FS:=DSt->Option Res
noncomputable def tS (H0 uw:Hp) (F:FS):TS:=fun D σ H=>∃ Hs δ res,Wd H0 uw Hs H/\StR H0 Hs H δ σ/\F δ=some res/\Post H0 uw D res
structure DS (X:Cx) (st:Stmt) (F:FS):Prop where
 go:∀ H0 uw,PS X st (tS H0 uw F)
structure DSs (X:Cx) (st:List Stmt) (F:FS):Prop where
 go:∀ H0 uw,PSs X st (tS H0 uw F)
noncomputable def Res.thn (G:FS):Res->Option Res
 | .nx δ=>G δ
 | .rt r=>some (.rt r)
 | .bk δ=>some (.bk δ)
 | .ct δ=>some (.ct δ)
 | .rn d=>some (.rn d)
def aE:FS:=fun δ=>some (.nx δ)
def aq (F G:FS):FS:=fun δ=>(F δ).bind (Res.thn G)
section
variable {X:Cx} {st:Stmt} {rest:List Stmt} {F G:FS} {e:Expr} {f:FE} {pos:Pos}
theorem dss_nil:DSs X [] aE:=.mk fun H0 uw=>pss_nil.weak fun D σ H ⟨Hs,δ,res,W,S,e,P⟩=>by
 cases e;exact P σ Hs H W S
theorem aj (h1:DS X st F) (h2:DSs X rest G):DSs X (st::rest) (aq F G):=.mk fun H0 uw=>(qJ (h1.go H0 uw) (h2.go H0 uw)).weak fun D σ H ⟨Hs,δ,res,W,S,e,P⟩=>by
 unfold aq at e;cases ef:F δ with
 | none=>rw [ef] at e;cases e
 | some r1=>
  rw [ef] at e;refine ⟨Hs,δ,r1,W,S,ef,?_⟩;cases r1 with
  | nx δ1=>exact fun uN uq H1 W1 S1=>⟨uq,δ1,res,W1,S1,e,P⟩
  | rt r=>cases e;exact P
  | bk δ1=>cases e;exact P
  | ct δ1=>cases e;exact P
  | rn d=>cases e;exact P
theorem ak (h1:DS X st F):DSs X [st] F:=.mk fun H0 uw=>pss_one (h1.go H0 uw)
theorem gm:DS X st (fun _=>none):=.mk fun H0 uw pins s σ H D I ⟨Hs,δ,res,W,S,e,P⟩=>by cases e
def sif (t:DSt->Option Bool) (F G:FS):FS:=fun δ=>(t δ).bind fun b=>if b=true then F δ else G δ
theorem ds_if {c:Expr} {a b:List Stmt} {t:DSt->Option Bool} (hc:DT X c t) (ha:DSs X a F) (hb:DSs X b G):DS X (.If c a b pos) (sif t F G):=.mk fun H0 uw=>(ps_if hc.go (ha.go H0 uw) (hb.go H0 uw)).weak fun D σ H ⟨Hs,δ,res,W,S,e,P⟩=>by
 unfold sif at e;cases et:t δ with
 | none=>rw [et] at e;cases e
 | some k=>
  rw [et] at e;refine ⟨Hs,δ,k,W.sub,S.ent,et,fun uq H1 W1=>?_⟩;cases k with
  | true=>rw [if_pos rfl];exact ⟨uq,δ,res,W.trans W1,S.mono W1,e,P⟩
  | false=>rw [if_neg zK];exact ⟨uq,δ,res,W.trans W1,S.mono W1,e,P⟩
def aL (f:FE):FS:=fun δ=>(f δ).bind fun r=>if r.isBw=true then none else some (.rt r)
theorem az (h:DE X e f):DS X (.Return (some e) pos) (aL f):=.mk fun H0 uw=>(pJ h.go).weak fun D σ H ⟨Hs,δ,res,W,S,e,P⟩=>by
 unfold aL at e;cases et:f δ with
 | none=>rw [et] at e;cases e
 | some r=>
  rw [et] at e;by_cases hb:r.isBw=true
  ·rw [show (some r).bind _=(if r.isBw=true then none else some (Res.rt r)) from rfl,if_pos hb] at e;cases e
  ·rw [show (some r).bind _=(if r.isBw=true then none else some (Res.rt r)) from rfl,if_neg hb] at e;cases e;exact ⟨Hs,δ,r,W.sub,S.ent,et,fun v uq H1 W1 R1=>P v uq H1 (W.trans W1) (R1.older W.keep)⟩
noncomputable def gp (i:Nat):FS:=fun δ=>match δ[i]? with
 | some (some (.ow ds))=>some (.rt (.fr ds))
 | some (some (.sh d))=>some (.rt (.sh d))
 | some (some (.nw d))=>some (.rn d)
 | _=>none
theorem jc {i:Nat} {x:Str} {p:Pos} (h:PE X (.Name x p) (kX i)):DS X (.Return (some (.Name x p)) pos) (gp i):=.mk fun H0 uw=>(pJ h).weak fun D σ H ⟨Hs,δ,res,W,S,e,P⟩=>by
 unfold gp at e;cases q:δ[i]? with
 | none=>rw [q] at e;cases e
 | some o=>
  cases o with
  | none=>rw [q] at e;cases e
  | some en=>
   rw [q] at e;obtain ⟨v,hv,hr⟩:=S.ent i en q;refine ⟨v,hv,?_⟩;cases en with
   | sh d=>cases e;exact P v Hs H W hr
   | ow ds=>
    cases e;obtain ⟨a,vs,e1,m,h1,h2⟩:=hr;subst e1;exact P _ Hs H W ⟨a,vs,rfl,S.new i _ _ a q hv rfl,m,h1,h2⟩
   | ob a C fs=>cases e
   | nw d=>
    cases e;obtain ⟨L,h1,h2⟩:=hr;exact P _ Hs H L W h1 fun b hb=>⟨S.new i _ _ b q hv ⟨L,h1,hb⟩,h2 b hb⟩
   | on b d=>cases e
   | scr K ns=>cases e
   | exc C=>cases e
noncomputable def frz (i:Nat) (δ:DSt):DSt:=match δ[i]? with
 | some (some (.ow ds))=>δ.set i (some (.sh (.lst ds)))
 | some (some (.nw d))=>δ.set i (some (.sh d))
 | _=>δ
theorem Own.share {Hs H:Hp} {d:D} {v:V} {L:List Addr} (s:aQ Hs H) (h:Own H d v L) (n:∀ a∈L,Hs a=none) :
  ∃ uq,Rep uq d v/\aQ uq H/\aQ Hs uq/\∀ a o,uq a=some o->Hs a=some o\/a∈L:=by
 classical
 refine ⟨fun a=>if a∈L then H a else Hs a,h.rep d fun a ha=>by simp [ha],fun a o e=>?_,fun a o e=>?_,fun a o e=>?_⟩
 ·by_cases ha:a∈L
  ·simpa [ha] using e
  ·simp [ha] at e;exact s _ _ e
 ·by_cases ha:a∈L
  ·rw [n a ha] at e;cases e
  ·simp [ha];exact e
 ·by_cases ha:a∈L
  ·exact .inr ha
  ·simp [ha] at e;exact .inl e
theorem StR.frz1 {H0 uw Hs uq H:Hp} {δ:DSt} {σ:St} {i:Nat} {e:E} {v:V} {d:D} (W:Wd H0 uw Hs H) (S:StR H0 Hs H δ σ) (q:δ[i]?=some (some e)) (hv:σ[i]?=some (some v))
  (r:Rep uq d v) (sub:aQ uq H) (base:aQ Hs uq) (new:∀ a o,uq a=some o->Hs a=some o\/Fp H e v a):Wd H0 uw uq H/\StR H0 uq H (δ.set i (some (.sh d))) σ:=by
 have hi:i<δ.length:=(yX.mp q).1;have fr:∀ (j:Nat) (en:E) (u:V),j≠i->δ[j]?=some (some en)->σ[j]?=some (some u)->gl uq H en u:=fun j en u hj q1 q2=>by
  have r0:=S.rep q1 q2;refine r0.frame base fun b f=>?_;obtain ⟨m,_⟩:=r0.fp f;cases z:uq b with
  | none=>rfl
  | some o=>
   rcases new b o z with z' | z'
   ·rw [m] at z';cases z'
   ·exact (S.dis j i en e u v b hj q1 q q2 hv f z').elim
 refine ⟨⟨W.keep,sub,W.base.trans base,fun a o ha=>?_⟩,⟨fun j en hj=>?_,by simpa using S.len,fun j en u b hj hu f=>?_,fun j k e1 e2 u1 u2 b wN h1 h2 g1 g2 f1 f2=>?_⟩⟩
 ·rcases new a o ha with z | z
  ·exact W.new a o z
  ·exact .inr (S.new i e v a q hv z)
 ·rcases get_set hj with ⟨rfl,e1,_⟩ | ⟨vj,q1⟩
  ·cases e1;exact ⟨v,hv,r⟩
  ·obtain ⟨u,hu,_⟩:=S.ent j en q1;exact ⟨u,hu,fr j en u vj q1 hu⟩
 ·rcases get_set hj with ⟨rfl,e1,_⟩ | ⟨vj,q1⟩
  ·cases e1;cases f
  ·exact S.new j en u b q1 hu f
 ·rcases get_set h1 with ⟨rfl,z1,_⟩ | ⟨vj,q1⟩
  ·cases z1;cases f1
  ·rcases get_set h2 with ⟨rfl,z2,_⟩ | ⟨uR,q2⟩
   ·cases z2;cases f2
   ·exact S.dis j k e1 e2 u1 u2 b wN q1 q2 g1 g2 f1 f2
theorem StR.frz {H0 uw Hs H:Hp} {δ:DSt} {σ:St} {i:Nat} (W:Wd H0 uw Hs H) (S:StR H0 Hs H δ σ):∃ uq,Wd H0 uw uq H/\StR H0 uq H (frz i δ) σ:=by
 unfold Ew.frz;cases q:δ[i]? with
 | none=>exact ⟨Hs,W,S⟩
 | some o=>
  cases o with
  | none=>exact ⟨Hs,W,S⟩
  | some en=>
   cases en with
   | sh d=>exact ⟨Hs,W,S⟩
   | ob a C fs=>exact ⟨Hs,W,S⟩
   | on b d=>exact ⟨Hs,W,S⟩
   | scr K ns=>exact ⟨Hs,W,S⟩
   | exc C=>exact ⟨Hs,W,S⟩
   | nw d=>
    obtain ⟨v,hv,L,h1,h2⟩:=S.ent i _ q;obtain ⟨uq,r,s1,s2,s3⟩:=h1.share W.sub h2;exact ⟨uq,S.frz1 W q hv r s1 s2 fun a o e=>(s3 a o e).imp id fun z=>⟨L,h1,z⟩⟩
   | ow ds=>
    obtain ⟨v,hv,a,vs,e1,m,h1,h2⟩:=S.ent i _ q;subst e1;refine ⟨L2.upd Hs a (.lst vs),S.frz1 W q hv ?_ (fun b o e=>?_) (.new m) fun b o e=>?_⟩
    ·unfold Rep;exact ⟨a,vs,rfl,aw,aB.mono (.new m) ds h2⟩
    ·by_cases hb:b=a
     ·subst hb;rw [aw] at e;cases e;exact h1
     ·rw [av hb] at e;exact W.sub _ _ e
    ·by_cases hb:b=a
     ·subst hb;exact .inr rfl
     ·rw [av hb] at e;exact .inl e
def gQ (i:Nat) (F:FS):FS:=fun δ=>F (frz i δ)
theorem fB {i:Nat} (h:DS X st F):DS X st (gQ i F):=.mk fun H0 uw=>(h.go H0 uw).weak fun D σ H ⟨Hs,δ,res,W,S,e,P⟩=>by
 obtain ⟨uq,W1,S1⟩:=S.frz (i:=i) W;exact ⟨uq,_,res,W1,S1,e,P⟩
def R.ent:R->Option E
 | .sh d=>some (.sh d)
 | .fr ds=>some (.ow ds)
 | .bw _=>none
theorem StR.set {H0 uw H Hs Hs' H':Hp} {δ:DSt} {σ:St} {i:Nat} {r:R} {v:V} {en:E} (W:Wd H0 uw Hs H) (S:StR H0 Hs H δ σ) (w:Wd H Hs Hs' H') (h:dP H Hs' H' r v) (e:r.ent=some en):StR H0 Hs' H' (δ.set i (some en)) (σ.set i (some v)):=by
 refine S.put W.keep w ?_ fun b f=>?_
 ·cases r with
  | sh d=>cases e;exact h
  | fr ds=>cases e;obtain ⟨a,vs,e1,_,m,h1,h2⟩:=h;exact ⟨a,vs,e1,m,h1,h2⟩
  | bw ds=>cases e
 ·cases r with
  | sh d=>cases e;cases f
  | fr ds=>cases e;obtain ⟨a,vs,e1,n,_⟩:=h;rw [e1] at f;cases f;exact n
  | bw ds=>cases e
noncomputable def sset (i:Nat) (f:FE):FS:=fun δ=>(f δ).bind fun r=>r.ent.bind fun en=>some (.nx (δ.set i (some en)))
theorem ts_set {H0 uw:Hp} {i:Nat} {D:Ends} {σ:St} {H:Hp} (h:tS H0 uw (sset i f) D σ H):tAsg (tD f) (oO i) D σ H:=by
 obtain ⟨Hs,δ,res,W,S,e,P⟩:=h;unfold sset at e;cases et:f δ with
 | none=>rw [et] at e;cases e
 | some r=>
  rw [et] at e;replace e:(r.ent.bind fun en=>some (Res.nx (δ.set i (some en))))=some res:=e;cases ee:r.ent with
  | none=>rw [ee] at e;cases e
  | some en=>
   rw [ee] at e;cases e;exact ⟨Hs,δ,r,W.sub,S.ent,et,fun v uq H1 W1 R1=>P _ uq H1 (W.trans W1) (S.set W W1 R1 ee)⟩
theorem ds_set {i:Nat} {x:Str} {pos':Pos} (hN:X.N.Nodup) (hi:X.N[i]?=some x) (hx:Loc X.env.scope x) (he:DE X e f) (hs:swapsWith e (some (.Name x pos')) pos.line X.env=pure false:=by rfl)
 (hf:X.fn x=true\/X.env.scope.names.lookup x=some .local:=by first | exact .inl rfl | exact .inr rfl | assumption):DS X (.Assign [.Name x pos'] e pos) (sset i f):=.mk fun H0 uw=>(ps_set hN hi hx he.go hs hf).weak fun _ _ _=>ts_set
end
end Ew
end
section
namespace L2
open PySem PySem.Spec
theorem PI.weak {X:Cx} {tg iter:Expr} {t t':TI} (h:PI X tg iter t) (w:∀ σ H R,t' σ H R->t σ H R):PI X tg iter t':=fun pins s σ H R I q=>h pins s σ H R I (w σ H R q)
theorem PG.weak {X:Cx} {tg:Expr} {t t':TG} (h:PG X tg t) (w:∀ v σ H Q,t' v σ H Q->t v σ H Q):PG X tg t':=fun pins s σ H v u Q I r q=>h pins s σ H v u Q I r (w v σ H Q q)
theorem PGs.weak {X:Cx} {ts:List Expr} {t t':TGs} (h:PGs X ts t) (w:∀ v σ H Q,t' v σ H Q->t v σ H Q):PGs X ts t':=fun pins s σ H v u Q I r q=>h pins s σ H v u Q I r (w v σ H Q q)
end L2
namespace Ew
open PySem PySem.Spec L2
structure kh (Hs:Hp) (ks:List Nat) (δ:DSt) (σ:St) (δ':DSt) (tO:St):Prop where
 lenS:tO.length=σ.length
 lenD:δ'.length=δ.length
 out:∀ j,j∉ks->δ'[j]?=δ[j]?/\tO[j]?=σ[j]?
 ins:∀ j,j∈ks->∃ d v,δ'[j]?=some (some (.sh d))/\tO[j]?=some (some v)/\Rep Hs d v
theorem kh.refl {Hs:Hp} {δ:DSt} {σ:St}:kh Hs [] δ σ δ σ:=⟨rfl,rfl,fun _ _=>⟨rfl,rfl⟩,fun _ h=>by cases h⟩
theorem kh.trans {Hs:Hp} {ks js:List Nat} {δ δ1 uB:DSt} {σ uN wc:St} (a:kh Hs ks δ σ δ1 uN) (b:kh Hs js δ1 uN uB wc):kh Hs (ks++js) δ σ uB wc:=
 ⟨b.lenS.trans a.lenS,b.lenD.trans a.lenD,fun j hj=>by
  have h1:j∉ks:=fun z=>hj (zC _ z);have h2:j∉js:=fun z=>hj (zd _ z);exact ⟨(b.out j h2).1.trans (a.out j h1).1,(b.out j h2).2.trans (a.out j h1).2⟩,fun j hj=>by
  by_cases h2:j∈js
  ·exact b.ins j h2
  ·have h1:j∈ks:=(zB.mp hj).elim id fun z=>absurd z h2;obtain ⟨d,v,e1,e2,r⟩:=a.ins j h1;exact ⟨d,v,(b.out j h2).1.trans e1,(b.out j h2).2.trans e2,r⟩⟩
theorem kh.ent {Hs H:Hp} {ks:List Nat} {δ δ':DSt} {σ tO:St} (r:kh Hs ks δ σ δ' tO) (h:gc Hs H δ σ):gc Hs H δ' tO:=fun i e q=>by
 by_cases hi:i∈ks
 ·obtain ⟨d,v,e1,e2,rr⟩:=r.ins i hi;rw [q] at e1;cases e1;exact ⟨v,e2,rr⟩
 ·rw [(r.out i hi).1] at q;rw [(r.out i hi).2];exact h i e q
theorem kh.st {H0 Hs H:Hp} {ks:List Nat} {δ δ':DSt} {σ tO:St} (r:kh Hs ks δ σ δ' tO) (h:StR H0 Hs H δ σ):StR H0 Hs H δ' tO:=by
 have no:∀ i en,δ'[i]?=some (some en)->(∀ d,en≠.sh d)->i∉ks:=fun i en q n hi=>by
  obtain ⟨d,v,e1,_⟩:=r.ins i hi;rw [q] at e1;cases e1;exact n d rfl
 have fp:∀ i en v b,δ'[i]?=some (some en)->Fp H en v b->i∉ks:=fun i en v b q f=>no i en q fun d z=>by rw [z] at f;cases f
 refine ⟨r.ent h.ent,by rw [r.lenS,r.lenD];exact h.len,fun i e v b q1 q2 f=>?_,fun i j e e' v v' b xG q1 q2 q3 q4 f f'=>?_⟩
 ·have hi:=fp i e v b q1 f;rw [(r.out i hi).1] at q1;rw [(r.out i hi).2] at q2;exact h.new i e v b q1 q2 f
 ·have hi:=fp i e v b q1 f;have hj:=fp j e' v' b q2 f';rw [(r.out i hi).1] at q1;rw [(r.out i hi).2] at q3;rw [(r.out j hj).1] at q2;rw [(r.out j hj).2] at q4;exact h.dis i j e e' v v' b xG q1 q2 q3 q4 f f'
abbrev GD:=D->DSt->Option DSt
abbrev GDs:=List D->DSt->Option DSt
noncomputable def tG (ks:List Nat) (g:GD):TG:=fun v σ H Q=>∃ Hs δ d δ',aQ Hs H/\σ.length=δ.length/\Rep Hs d v/\g d δ=some δ'/\∀ tO,kh Hs ks δ σ δ' tO->Q tO H
noncomputable def tGs (ks:List Nat) (g:GDs):TGs:=fun vs σ H Q=>∃ Hs δ ds δ',aQ Hs H/\σ.length=δ.length/\aB Hs ds vs/\g ds δ=some δ'/\∀ tO,kh Hs ks δ σ δ' tO->Q tO H
structure DG (X:Cx) (tg:Expr) (ks:List Nat) (g:GD):Prop where
 go:PG X tg (tG ks g)
structure DGs (X:Cx) (ts:List Expr) (ks:List Nat) (g:GDs):Prop where
 go:PGs X ts (tGs ks g)
def ap (i:Nat):GD:=fun d δ=>if i<δ.length then some (δ.set i (some (.sh d))) else none
theorem kh.name {Hs:Hp} {i:Nat} {δ:DSt} {σ:St} {d:D} {v:V} (hl:σ.length=δ.length) (hi:i<δ.length) (r:Rep Hs d v):kh Hs [i] δ σ (δ.set i (some (.sh d))) (σ.set i (some v)):=
 ⟨by simp,by simp,fun j hj=>by
  have:i≠j:=fun z=>hj (by simp [z]);exact ⟨zD this,zD this⟩,fun j hj=>by
  have e:j=i:=by simpa using hj
  subst e;exact ⟨d,v,zG hi,zG (by rw [hl];exact hi),r⟩⟩
section
variable {X:Cx} {pos:Pos}
theorem dg_name {i:Nat} {x:Str} (h:PG X (.Name x pos) (oO i)):DG X (.Name x pos) [i] (ap i):=.mk <| h.weak fun v σ H Q ⟨Hs,δ,d,δ',S,hl,r,e,K⟩=>by
 unfold ap at e;by_cases hi:i<δ.length
 ·rw [if_pos hi] at e;cases e;exact K _ (.name hl hi r)
 ·rw [if_neg hi] at e;cases e
def gnil:GDs:=fun ds δ=>match ds with
 | []=>some δ
 | _=>none
noncomputable def dM (g:GD) (gs:GDs):GDs:=fun ds δ=>match ds with
 | d::r=>(g d δ).bind fun δ1=>gs r δ1
 | []=>none
theorem dgs_nil:DGs X [] [] gnil:=.mk <| pgs_nil.weak fun vs σ H Q ⟨Hs,δ,ds,δ',S,hl,r,e,K⟩=>by
 cases ds with
 | nil=>cases e;unfold aB at r;exact ⟨r,K σ .refl⟩
 | cons d ds=>cases e
theorem qR {e:Expr} {es:List Expr} {ks js:List Nat} {g:GD} {gs:GDs} (h1:DG X e ks g) (h2:DGs X es js gs)
  (hs:(assignEach (e::es) X.env).map (·.2)=assign e X.env::(assignEach es X.env).map (·.2):=by rfl):DGs X (e::es) (ks++js) (dM g gs):=.mk <|
 (pgs_cons h1.go h2.go hs).weak fun vs σ H Q ⟨Hs,δ,ds,δ',S,hl,r,e,K⟩=>by
  cases ds with
  | nil=>cases e
  | cons d ds=>
   unfold aB at r;obtain ⟨v,t,rfl,r1,r2⟩:=r;unfold dM at e;cases eg:g d δ with
   | none=>simp only [eg] at e;cases e
   | some δ1=>
    simp only [eg] at e;exact ⟨v,t,rfl,Hs,δ,d,δ1,S,hl,r1,eg,fun uN q1=>⟨Hs,δ1,ds,δ',S,by rw [q1.lenS,q1.lenD];exact hl,r2,e,fun wc q2=>K wc (q1.trans q2)⟩⟩
noncomputable def gtup (n:Nat) (gs:GDs):GD:=fun d δ=>match d with
 | .tup ds=>if ds.length=n then gs ds δ else none
 | _=>none
theorem dg_tup {es:List Expr} {k:Nat} {ks:List Nat} {gs:GDs} {n:Nat} (hc:X.calm=true) (h:DGs X es ks gs)
  (hn:(assignEach es X.env).length=n:=by rfl) (uh:(assignEach es X.env).findIdx? (·.1)=none:=by rfl):DG X (.Tuple es k pos) ks (gtup n gs):=.mk <|
 (pg_tup hc h.go hn uh).weak fun v σ H Q ⟨Hs,δ,d,δ',S,hl,r,e,K⟩=>by
  cases d with
  | tup ds=>
   unfold Rep at r;obtain ⟨a,vs,rfl,h1,h2⟩:=r;unfold gtup at e;by_cases hd:ds.length=n
   ·simp only [if_pos hd] at e;exact ⟨a,vs,rfl,.of (S _ _ h1),h2.length.trans hd,Hs,δ,ds,δ',S,hl,h2,e,K⟩
   ·simp only [if_neg hd] at e;cases e
  | _=>cases e
end
noncomputable def Yields (J:It) (uq:Hp) (items:List D):Prop:=∀ i Hs H,aQ uq Hs->aQ Hs H->
 (∀ d,items[i]?=some d->J.go i H/\∀ x H',J.yld i H x H'->∃ Hs',Wd H Hs Hs' H'/\Rep Hs' d x)/\(items.length<=i->J.stop i H)
noncomputable def tI (fi:DSt->Option (List D)):TI:=fun σ H R=>∃ Hs δ items,aQ Hs H/\gc Hs H δ σ/\fi δ=some items/\∀ J Hs' H',Wd H Hs Hs' H'->Yields J Hs' items->R J H'
structure DI (X:Cx) (tg iter:Expr) (fi:DSt->Option (List D)):Prop where
 go:PI X tg iter (tI fi)
noncomputable def aH (f:FE):DSt->Option (List D):=fun δ=>(f δ).bind fun r=>if r.isBw=true then none else match r.view with
 | .lst ds=>some ds
 | _=>none
noncomputable def itup (f:FE):DSt->Option (List D):=fun δ=>(f δ).bind fun r=>match r with
 | .sh (.tup ds)=>some ds
 | _=>none
theorem qS {K:Frag} {uq:Hp} {a:Addr} {vs:List V} {ds:List D} (h:uq a=some (.lst vs)) (r:aB uq ds vs):Yields (Itl K a) uq ds:=by
 intro i Hs H S1 S2;have hH:=S2 _ _ (S1 _ _ h);refine ⟨fun d hd=>?_,fun hl=>⟨vs,.of hH,by rw [r.length];exact hl⟩⟩;obtain ⟨v,hv,rv⟩:=r.get hd;refine ⟨⟨vs,v,.of hH,hv⟩,fun x H' y=>?_⟩;obtain ⟨rfl,y⟩:=y;have:=y vs (.of hH);rw [hv] at this;cases this;exact ⟨Hs,.refl S2,Rep.mono S1 _ rv⟩
theorem pW {uq:Hp} {lo:Int} {n:Nat}:Yields (Itr lo n) uq ((List.range n).map fun k=>.int (lo+(k:Nat))):=by
 intro i Hs H S1 S2;refine ⟨fun d hd=>?_,fun hl=>(show n<=i by simpa using hl)⟩;have hi:i<n:=by
  have:=(yX.mp hd).1;simpa using this
 rw [zc,List.getElem?_range hi] at hd;cases hd;refine ⟨hi,fun x H' y=>?_⟩;obtain ⟨rfl,rfl⟩:=y;exact ⟨Hs,.refl S2,by unfold Rep;rfl⟩
section
variable {X:Cx} {tg l:Expr} {f:FE}
theorem aS (hl:DE X l f):DI X tg l (aH f):=.mk <| (pi_list hl.go).weak fun σ H R ⟨Hs,δ,items,S,En,e,K⟩=>by
 unfold aH at e;cases ef:f δ with
 | none=>rw [ef] at e;cases e
 | some r=>
  rw [ef] at e;by_cases hb:r.isBw=true
  ·simp only [Option.bind,if_pos hb] at e;cases e
  ·simp only [Option.bind,if_neg hb] at e;refine ⟨Hs,δ,r,S,En,ef,fun x uq H1 W1 R1=>?_⟩;obtain ⟨uv,q,W2⟩:=R1.share W1 (fun ds z=>hb (by rw [z];rfl));cases hv:r.view with
   | lst ds=>
    rw [hv] at e q;cases e;unfold Rep at q;obtain ⟨a,vs,rfl,h1,h2⟩:=q;exact ⟨a,rfl,⟨vs,.of (W2.sub _ _ h1)⟩,K _ uv H1 W2 (qS h1 h2)⟩
   | _=>rw [hv] at e;cases e
noncomputable def cY (fa:DSt->Option (List R)):DSt->Option (List D):=fun δ=>(fa δ).bind fun rs=>match rs with
 | [.sh (.int j)]=>if -(2 ^ 62)<=j/\j<2 ^ 62 then some ((List.range j.toNat).map fun k=>.int (0+(k:Nat))) else none
 | _=>none
theorem di_range1 {a:Expr} {fa:DSt->Option (List R)} {p pos:Pos} (hg:Gl X "range") (hm:X.mg "range" = none) (ha:DA X [a] fa) (hs:starEach [a] X.env=[(false,eval a X.env)]:=by rfl):DI X tg (.Call (.Name "range" p) [a] [] pos) (cY fa):=.mk <|
 (pi_range1 hg hm ha.go hs).weak fun σ H R ⟨Hs,δ,items,S,En,e,K⟩=>by
  unfold cY at e;cases ef:fa δ with
  | none=>rw [ef] at e;cases e
  | some rs=>
   rw [ef] at e;refine ⟨Hs,δ,rs,S,En,ef,fun vs uq H1 W1 R1=>?_⟩
   match rs,e,R1 with
   | [.sh (.int j)],e,⟨v,t,ev,q1,q2⟩=>
    have q2:t=[]:=q2;have q1:Rep uq (.int j) v:=q1;unfold Rep at q1;by_cases hj:-(2 ^ 62)<=j/\j<2 ^ 62
    ·simp only [Option.bind,if_pos hj] at e;cases e;exact ⟨j,by rw [ev,q1,q2],hj.1,hj.2,K _ uq H1 W1 pW⟩
    ·simp only [Option.bind,if_neg hj] at e;cases e
end
noncomputable def Res.loop (k:DSt->Option Res):Res->Option Res
 | .nx δ=>k δ
 | .ct δ=>k δ
 | .bk δ=>some (.nx δ)
 | .rt r=>some (.rt r)
 | .rn d=>some (.rn d)
noncomputable def aW (g:GD) (body:FS):List D->DSt->Option Res
 | [],δ=>some (.nx δ)
 | d::r,δ=>(g d δ).bind fun δ1=>(body δ1).bind (Res.loop (aW g body r))
noncomputable def bg (fi:DSt->Option (List D)) (g:GD) (body:FS):FS:=fun δ=>(fi δ).bind fun items=>aW g body items δ
theorem Wd.via {H0 uw uq H1 Hs H:Hp} (a:Wd H0 uw uq H1) (b:Wd H0 uq Hs H):Wd H0 uw Hs H:=
 ⟨b.keep,b.sub,a.base.trans b.base,fun c o e=>by
  rcases b.new c o e with q | q
  ·exact a.new c o q
  ·exact .inr q⟩
noncomputable def dn (c:DSt->Option Bool) (body:FS):Nat->DSt->Option Res
 | 0,_=>none
 | n+1,δ=>(c δ).bind fun b=>if b=true then (body δ).bind (Res.loop (dn c body n)) else some (.nx δ)
section
variable {X:Cx} {tg iter:Expr} {body:List Stmt} {fi:DSt->Option (List D)} {ks:List Nat} {g:GD} {F:FS} {pos:Pos}
theorem ds_for (hp:PassesOwn (model X.prog X.w) X.A X.env X.xe) (hc:X.calm=true) (hi:DI X tg iter fi) (hg:DG X tg ks g) (hb:DSs X body F)
  (hs:∀ x,foldedSetIterable iter X.env x=pure x:=by intro _;rfl):DS X (.For tg iter body [] pos) (bg fi g F):=.mk fun H0 uw=>by
 have wx:PSs X body (fun D σ H=>∃ uq,tS H0 uq F D σ H):=fun pins s σ H D I ⟨uq,h⟩=>hb.go H0 uq pins s σ H D I h;refine (ps_for hp hc hi.go hg.go wx hs).weak fun D σ H ⟨Hs,δ,res,W,S,e,P⟩=>?_;unfold bg at e;cases ei:fi δ with
 | none=>rw [ei] at e;cases e
 | some items=>
  rw [ei] at e;refine ⟨Hs,δ,items,W.sub,S.ent,ei,fun J uq H1 W1 Y=>?_⟩;have yS:=W.trans W1;refine ⟨fun i m σ H=>m=items.length-i/\i<=items.length/\∃ Hs δ,Wd H0 uq Hs H/\StR H0 Hs H δ σ/\aW g F (items.drop i) δ=some res,
   ⟨items.length,by simp,Ad _,uq,δ,⟨yS.keep,W1.sub,.refl _,fun _ _ e=>.inl e⟩,S.mono W1,by simpa using e⟩,?_⟩
  rintro i m uN H2 ⟨rfl,hi.go,uv,δ1,W2,S2,e2⟩;by_cases vk:i<items.length
  ·have hd:items[i]?=some items[i]:=by simp [vk]
   obtain ⟨go,yl⟩:=(Y i uv H2 W2.base W2.sub).1 _ hd;refine .inr ⟨go,fun tO H'=>i+1<=items.length/\∃ Hs δ,Wd H0 uq Hs H'/\StR H0 Hs H' δ tO/\aW g F (items.drop (i+1)) δ=some res,fun tO H' ⟨a,b⟩=>⟨_,by omega,rfl,a,b⟩,fun x H3 y=>?_⟩;obtain ⟨tW,W3,rx⟩:=yl x H3 y;have S3:=S2.mono W3;rw [List.drop_eq_getElem_cons vk] at e2;unfold aW at e2;cases eg:g items[i] δ1 with
   | none=>rw [eg] at e2;cases e2
   | some uB=>
    rw [eg] at e2;refine ⟨tW,δ1,items[i],uB,W3.sub,S3.len,rx,eg,fun wY sr=>?_⟩;replace e2:((F uB).bind (Res.loop (aW g F (items.drop (i+1)))))=some res:=e2;cases eF:F uB with
    | none=>rw [eF] at e2;cases e2
    | some r2=>
     rw [eF] at e2;refine ⟨uq,tW,uB,r2,W2.trans W3,sr.st S3,eF,?_⟩;cases r2 with
     | nx wG=>exact fun vY ue H5 W5 S5=>⟨vk,ue,wG,W5,S5,e2⟩
     | ct wG=>exact fun vY ue H5 W5 S5=>⟨vk,ue,wG,W5,S5,e2⟩
     | bk wG=>cases e2;exact fun vY ue H5 W5 S5=>P vY ue H5 (yS.via W5) S5
     | rt r=>cases e2;exact fun v ue H5 W5 R5=>P v ue H5 (yS.via W5) R5
     | rn d=>cases e2;exact fun v ue H5 L W5 R5=>P v ue H5 L (yS.via W5) R5
  ·have wC:i=items.length:=by omega
   subst wC;rw [List.drop_length] at e2;cases e2;exact .inl ⟨(Y _ uv H2 W2.base W2.sub).2 (zp _),P uN uv H2 (yS.via W2) S2⟩
theorem ds_while {c:Expr} {t:DSt->Option Bool} (n:Nat) (hp:PassesOwn (model X.prog X.w) X.A X.env X.xe) (hc:DT X c t) (hb:DSs X body F):DS X (.While c body [] pos) (dn t F n):=.mk fun H0 uw=>
 (ps_while hp hc.go (hb.go H0 uw)).weak fun D σ H ⟨Hs,δ,res,W,S,e,P⟩=>by
  refine ⟨fun m σ H=>∃ Hs δ,Wd H0 uw Hs H/\StR H0 Hs H δ σ/\dn t F m δ=some res,⟨n,Hs,δ,W,S,e⟩,?_⟩;rintro m uN H1 ⟨uq,δ1,W1,S1,e1⟩;cases m with
  | zero=>cases e1
  | succ m=>
   unfold dn at e1;cases et:t δ1 with
   | none=>rw [et] at e1;cases e1
   | some k=>
    rw [et] at e1;refine ⟨uq,δ1,k,W1.sub,S1.ent,et,fun uv H2 W2=>?_⟩;cases k with
    | false=>cases e1;rw [if_neg zK];exact P uN uv H2 (W1.trans W2) (S1.mono W2)
    | true=>
     rw [if_pos rfl];replace e1:((F δ1).bind (Res.loop (dn t F m)))=some res:=e1;cases eF:F δ1 with
     | none=>rw [eF] at e1;cases e1
     | some r2=>
      rw [eF] at e1;refine ⟨fun tO H'=>∃ Hs δ,Wd H0 uw Hs H'/\StR H0 Hs H' δ tO/\dn t F m δ=some res,fun tO H' h=>⟨m,Nat.lt_succ_self m,h⟩,uv,δ1,r2,W1.trans W2,S1.mono W2,eF,?_⟩;cases r2 with
      | nx wG=>exact fun vY ue H5 W5 S5=>⟨ue,wG,W5,S5,e1⟩
      | ct wG=>exact fun vY ue H5 W5 S5=>⟨ue,wG,W5,S5,e1⟩
      | bk wG=>cases e1;exact fun vY ue H5 W5 S5=>P vY ue H5 W5 S5
      | rt r=>cases e1;exact fun v ue H5 W5 R5=>P v ue H5 W5 R5
      | rn d=>cases e1;exact fun v ue H5 L W5 R5=>P v ue H5 L W5 R5
end
def dIn (m:Nat) (ix:List Nat) (δ:DSt):DSt:=List.replicate m none++ix.map fun i=>(δ[i]?).join
noncomputable def cZ (g:GD) (c:DSt->Option Bool) (fe:FE) (δ:DSt):List D->Option (List D)
 | []=>some []
 | d::r=>(g d δ).bind fun δ1=>(c δ1).bind fun b=>if b=true then (fe δ1).bind fun r1=>if r1.isBw=true then none else (cZ g c fe δ r).bind fun t=>some (r1.view::t) else cZ g c fe δ r
noncomputable def bC (fi:DSt->Option (List D)) (g:GD) (c:DSt->Option Bool) (fe:FE) (m:Nat) (ix:List Nat):FE:=fun δ=>(fi δ).bind fun items=>if items.length<=big then (cZ g c fe (dIn m ix δ) items).map .fr else none
theorem entIn {Hs H:Hp} {δ:DSt} {σ:St} (m:Nat) (ix:List Nat) (h:gc Hs H δ σ):gc Hs H (dIn m ix δ) (gM m ix σ):=fun j e q=>by
 unfold dIn at q;unfold gM;by_cases hj:j<m
 ·rw [zw (by simpa using hj),List.getElem?_replicate] at q;split at q <;> cases q
 ·obtain ⟨k,rfl⟩ : ∃ k,j=m+k:=⟨j-m,by omega⟩;rw [zR (by simp),Aj,Nat.add_sub_cancel_left,zc] at q ⊢;cases hi:ix[k]? with
  | none=>rw [hi] at q;cases q
  | some i=>
   rw [hi] at q;have q':(δ[i]?).join=some e:=by simpa using q
   have q'':δ[i]?=some (some e):=by
    cases z:δ[i]? with
    | none=>rw [z] at q';cases q'
    | some y=>rw [z] at q';simp at q';rw [q']
   obtain ⟨v,hv,hr⟩:=h i e q'';exact ⟨v,by simp [hv],hr⟩
theorem dIn_own {m:Nat} {ix:List Nat} {δ:DSt} {j:Nat} {e:E} (h:(dIn m ix δ)[j]?=some (some e)):m<=j:=by
 rcases Nat.lt_or_ge j m with hj | hj
 ·unfold dIn at h;rw [zw (by simpa using hj),List.getElem?_replicate] at h;split at h <;> cases h
 ·exact hj
theorem tD_comp {fi:DSt->Option (List D)} {ks:List Nat} {g:GD} {c:DSt->Option Bool} {fe:FE} {m:Nat} {ix:List Nat} (hk:∀ j∈ks,j<m) {σ:St} {H:Hp} {Q:VK} (h:tD (bC fi g c fe m ix) σ H Q) :
  tComp (tI fi) (tG ks g) (tDT c) (tD fe) m ix σ H Q:=by
 obtain ⟨Hs,δ,r,S,En,e,K⟩:=h;unfold bC at e;cases ei:fi δ with
 | none=>rw [ei] at e;cases e
 | some items=>
  rw [ei] at e;replace e:(if items.length<=big then (cZ g c fe (dIn m ix δ) items).map R.fr else none)=some r:=e;by_cases uY:items.length<=big
  ·rw [if_pos uY] at e;cases em:cZ g c fe (dIn m ix δ) items with
   | none=>rw [em] at e;cases e
   | some out=>
    rw [em] at e;cases e;refine ⟨Hs,δ,items,S,En,ei,fun J uq H1 W1 Y A hA=>?_⟩;have En1:gc uq H1 (dIn m ix δ) (gM m ix σ):=entIn m ix (En.mono W1);have xn:(gM m ix σ).length=(dIn m ix δ).length:=by unfold gM dIn;simp
    have hA1:uq A=none:=W1.sub.free hA;refine ⟨fun i n tO H'=>n=items.length-i/\i<=items.length/\tO.length=(dIn m ix δ).length/\(∀ j,m<=j->tO[j]?=(gM m ix σ)[j]?)/\
     ∃ Hs' ds vs rest,Wd H1 uq Hs' H'/\Hs' A=none/\H' A=some (.lst vs)/\aB Hs' ds vs/\ds.length<=i/\cZ g c fe (dIn m ix δ) (items.drop i)=some rest/\out=ds++rest,?_,?_⟩
    ·refine ⟨items.length,by simp,Ad _,xn,fun _ _=>rfl,uq,[],[],out,⟨.new hA,W1.sub.trans (.new hA),.refl _,fun _ _ e=>.inl e⟩,hA1,aw,.nil,Ad _,by simpa using em,by simp⟩
    ·rintro i n uN H2 ⟨rfl,hi,yv,wk,uv,ds,vs,rest,W2,yJ,wJ,r2,hd2,e2,eo⟩;by_cases vk:i<items.length
     ·have hd:items[i]?=some items[i]:=by simp [vk]
      obtain ⟨go,yl⟩:=(Y i uv H2 W2.base W2.sub).1 _ hd;refine .inr ⟨go,fun tO H'=>i+1<=items.length/\tO.length=(dIn m ix δ).length/\(∀ j,m<=j->tO[j]?=(gM m ix σ)[j]?)/\
       ∃ Hs' ds vs rest,Wd H1 uq Hs' H'/\Hs' A=none/\H' A=some (.lst vs)/\aB Hs' ds vs/\ds.length<=i+1/\cZ g c fe (dIn m ix δ) (items.drop (i+1))=some rest/\out=ds++rest,
       fun tO H' ⟨a,b,c',d'⟩=>⟨_,by omega,rfl,a,b,c',d'⟩,fun x H3 y=>?_⟩
      obtain ⟨tW,W3,rx⟩:=yl x H3 y;have v8:=W2.trans W3;have A3:=W3.stay wJ yJ;have v3:=W3.keep _ _ wJ;have En3:gc tW H3 (dIn m ix δ) uN:=fun j en q=>by
       obtain ⟨v,hv,hr⟩:=(En1.mono v8) j en q;exact ⟨v,by rw [wk j (dIn_own q)];exact hv,hr⟩
      rw [List.drop_eq_getElem_cons vk] at e2;unfold cZ at e2;cases eg:g items[i] (dIn m ix δ) with
      | none=>rw [eg] at e2;cases e2
      | some uB=>
       rw [eg] at e2;refine ⟨tW,_,items[i],uB,W3.sub,yv,rx,eg,fun wY sr=>?_⟩;have yu:wY.length=(dIn m ix δ).length:=by rw [sr.lenS];exact yv
       have wj:∀ j,m<=j->wY[j]?=(gM m ix σ)[j]?:=fun j hj=>by
        rw [(sr.out j fun z=>Nat.not_lt.mpr hj (hk j z)).2];exact wk j hj
       have yT:gc tW H3 uB wY:=sr.ent En3;replace e2:((c uB).bind fun b=>if b=true then (fe uB).bind fun r1=>if r1.isBw=true then none else (cZ g c fe (dIn m ix δ) (items.drop (i+1))).bind fun t=>some (r1.view::t) else cZ g c fe (dIn m ix δ) (items.drop (i+1)))=some rest:=e2;cases ec:c uB with
       | none=>rw [ec] at e2;cases e2
       | some b=>
        rw [ec] at e2;refine ⟨tW,uB,b,W3.sub,yT,ec,fun ue H5 W5=>?_⟩;have wz:=v8.trans W5;have A5:=W5.stay v3 A3;have v5:=W5.keep _ _ v3;cases b with
        | false=>
         simp only [Bool.false_eq_true,if_false];exact ⟨vk,yu,wj,ue,ds,vs,rest,wz,A5,v5,aB.mono (W3.base.trans W5.base) _ r2,by omega,e2,eo⟩
        | true=>
         simp only [if_true];replace e2:((fe uB).bind fun r1=>if r1.isBw=true then none else (cZ g c fe (dIn m ix δ) (items.drop (i+1))).bind fun t=>some (r1.view::t))=some rest:=e2;cases ef:fe uB with
         | none=>rw [ef] at e2;cases e2
         | some r1=>
          rw [ef] at e2;replace e2:(if r1.isBw=true then none else (cZ g c fe (dIn m ix δ) (items.drop (i+1))).bind fun t=>some (r1.view::t))=some rest:=e2;by_cases hb:r1.isBw=true
          ·rw [if_pos hb] at e2;cases e2
          ·rw [if_neg hb] at e2;cases er:cZ g c fe (dIn m ix δ) (items.drop (i+1)) with
           | none=>rw [er] at e2;cases e2
           | some t=>
            rw [er] at e2;cases e2;refine ⟨ue,uB,r1,W5.sub,yT.mono W5,ef,fun v Hs6 H6 W6 R6=>?_⟩;obtain ⟨xY,q7,W7⟩:=R6.share W6 (fun ds z=>hb (by rw [z];rfl));have A7:=W7.stay v5 A5;have v7:=W7.keep _ _ v5;have wX:=wz.trans W7;have nA:H1 A=none:=hA;refine ⟨vs,v7,?_,vk,yu,wj,xY,ds++[r1.view],vs++[v],t,⟨fun b o q=>?_,fun b o q=>?_,wX.base,wX.new⟩,A7,aw,?_,by simp;omega,rfl,by rw [eo];simp⟩
            ·rw [r2.length];exact Nat.lt_of_le_of_lt hd2 (Nat.lt_trans vk (ck uY))
            ·rw [av (aK q nA)];exact wX.keep _ _ q
            ·rw [av (aK q A7)];exact wX.sub _ _ q
            ·exact aB.append (aB.mono (W3.base.trans (W5.base.trans W7.base)) _ r2) (.cons q7 .nil)
     ·have wC:i=items.length:=by omega
      subst wC;rw [List.drop_length] at e2;cases e2;refine .inl ⟨(Y _ uv H2 W2.base W2.sub).2 (zp _),K _ uv H2 (W1.trans W2) ⟨A,vs,rfl,W1.keep.free hA,yJ,wJ,?_⟩⟩;rw [eo,List.append_nil];exact r2
  ·rw [if_neg uY] at e;cases e
section
variable {X:Cx} {tg elt iter:Expr} {ifs:List Expr} {scope:Scope} {pos:Pos} {N:List Str} {m:Nat} {ix:List Nat} {ks:List Nat} {g:GD} {c:DSt->Option Bool} {fe:FE} {fi:DSt->Option (List D)}
structure DIfs (X:Cx) (ifs:List Expr) (c:DSt->Option Bool):Prop where
 go:PIfs X ifs (tDT c)
def cN:DSt->Option Bool:=fun _=>some true
theorem bB:DIfs X [] cN:=.mk <| fun pins s σ H Q I ⟨Hs,δ,b,S,En,e,K⟩=>by
 cases e;exact pifs_nil pins s σ H Q I (K Hs H (.refl S))
theorem gq {e:Expr} (h:DT X e c):DIfs X [e] c:=.mk <| pifs_one h.go
theorem de_comp (hc:X.calm=true) (S:dO X N m ix scope) (hk:∀ j∈ks,j<m) (hi:DI X tg iter fi)
  (tU:∀ cl C s H fp,DG (bD X N scope cl C s H fp) tg ks g/\DIfs (bD X N scope cl C s H fp) ifs c/\DE (bD X N scope cl C s H fp) elt fe)
  (hs:∀ x,foldedSetIterable iter X.env x=pure x:=by intro _;rfl):DE X (.ListComp elt [⟨tg,iter,ifs,0⟩] scope pos) (bC fi g c fe m ix):=.mk <|
 (pe_comp hc S hi.go (fun cl C s H fp=>⟨(tU cl C s H fp).1.go,(tU cl C s H fp).2.1.go,(tU cl C s H fp).2.2.go⟩) hs).weak fun _ _ _=>tD_comp hk
theorem ds_comp {y:Str} {py u4:Pos} {iy:Nat} (hc:X.calm=true) (S:dO X N m ix scope) (hk:∀ j∈ks,j<m) (hi:DI X tg iter fi)
  (tU:∀ cl C s H fp,DG (bD X N scope cl C s H fp) tg ks g/\DIfs (bD X N scope cl C s H fp) ifs c/\DE (bD X N scope cl C s H fp) elt fe)
  (hN:X.N.Nodup) (yz:X.N[iy]?=some y) (hy:Loc X.env.scope y)
  (uE:swapsWith (.ListComp elt [⟨tg,iter,ifs,0⟩] scope pos) (some (.Name y py)) u4.line X.env=pure true:=by rfl)
  (hf:X.fn y=true\/X.env.scope.names.lookup y=some .local:=by first | exact .inl rfl | exact .inr rfl | assumption)
  (hs:∀ x,foldedSetIterable iter X.env x=pure x:=by intro _;rfl):DS X (.Assign [.Name y py] (.ListComp elt [⟨tg,iter,ifs,0⟩] scope pos) u4) (sset iy (bC fi g c fe m ix)):=.mk fun H0 uw=>
 (ps_comp hc S hi.go (fun cl C s H fp=>⟨(tU cl C s H fp).1.go,(tU cl C s H fp).2.1.go,(tU cl C s H fp).2.2.go⟩) hN yz hy uE hf hs).weak fun D σ H h=>tD_comp hk (ts_set h)
end
noncomputable def run (k:Nat) (F:FS) (ds:List D):Option D:=match F (ds.map (fun d=>some (.sh d))++List.replicate (k-ds.length) none) with
 | some (.rt r)=>if r.isBw=true then none else some r.view
 | some (.nx _)=>some .non
 | some (.rn d)=>some d
 | _=>none
theorem mR {Hs H:Hp} {N:List Str} {ds:List D} {vs:List V} (r:aB Hs ds vs):StR H Hs H (ds.map (fun d=>some (E.sh d))++List.replicate (N.length-ds.length) none) (L2.start N vs):=by
 have get:∀ (i:Nat) (e:E),(ds.map (fun d=>some (E.sh d))++List.replicate (N.length-ds.length) none)[i]?=some (some e)->∃ d,ds[i]?=some d/\e=E.sh d:=fun i e h=>by
  by_cases hi:i<ds.length
  ·rw [zw (by simpa using hi),zc] at h;cases q:ds[i]? with
   | none=>rw [q] at h;cases h
   | some d=>rw [q] at h;cases h;exact ⟨d,rfl,rfl⟩
  ·rw [zR (by simpa using hi),List.getElem?_replicate] at h;split at h <;> cases h
 refine ⟨fun i e h=>?_,?_,fun i e v b h _ f=>?_,fun i j e e' v v' b _ h _ _ _ f=>?_⟩
 ·obtain ⟨d,hd,rfl⟩:=get i e h;obtain ⟨v,hv,rv⟩:=r.get hd;refine ⟨v,?_,rv⟩;unfold L2.start;have hi:i<vs.length:=(yX.mp hv).1;rw [zw (by simpa using hi),zc,hv];rfl
 ·unfold L2.start;simp [r.length]
 ·obtain ⟨d,_,z⟩:=get i _ h;rw [z] at f;cases f
 ·obtain ⟨d,_,z⟩:=get i _ h;rw [z] at f;cases f
section
variable {P:Program} {w:World} {K:Frag} {mg:Str->Option Value} {base:Heap}
theorem fn_D {x qual:Str} {st:Stmt} {f:Addr} {fd:FuncData} {N ps:List Str} {k:Nat} {F:FS} (F0:Fun K x qual st f fd) (S:eB N ps (au st))
  (h:∀ (ux:Value) (A:Around) (outer:List Env) (s:Shared) (H:Hp) (E:XK),bx k (A.deeper (envOfC qual (au st) s.heap.objs.size f ux))->DSs (ju CX0 P w K mg base N qual (au st) f ux A outer s H E).nox (aY st) F) :
  dJ P w K mg base CX0 (k+1) f fd ps (spD ps.length (run N.length F)):=by
 refine F0.ok S (fun vs H Q E hs=>spD_len hs) (fun ux A outer s H vs Q E hr hs=>?_);obtain ⟨Hs,ds,d,hl,sub,r,em,post⟩:=hs;refine ⟨_,(h ux A outer s H E hr).go H Hs,?_⟩;unfold run at em;cases eF:F (ds.map (fun d=>some (.sh d))++List.replicate (N.length-ds.length) none) with
 | none=>rw [eF] at em;cases em
 | some res=>
  rw [eF] at em;refine ⟨Hs,_,res,.refl sub,mR r,eF,?_⟩;cases res with
  | nx δ=>
   cases em;exact fun σ uq H1 W1 _=>post .non uq H1 W1 (by unfold Rep;rfl)
  | rt r1=>
   replace em:(if r1.isBw=true then none else some r1.view)=some d:=em;by_cases hb:r1.isBw=true
   ·rw [if_pos hb] at em;cases em
   ·rw [if_neg hb] at em;cases em;intro v uq H1 W1 R1;obtain ⟨uv,q,W2⟩:=R1.share W1 (fun ds z=>hb (by rw [z];rfl));exact post v uv H1 W2 q
  | bk δ=>cases em
  | ct δ=>cases em
  | rn d'=>
   cases em;intro v uq H1 L W1 O n;obtain ⟨uv,q,s1,s2,s3⟩:=O.share W1.sub fun a ha=>(n a ha).2;exact post v uv H1 ⟨W1.keep,s1,W1.base.trans s2,fun a o e=>(s3 a o e).elim (W1.new a o) fun z=>.inr (n a z).1⟩ q
end
mutual
def D.py:D->PyData
 | .non=>.none
 | .bl b=>.bool b
 | .int i=>.int i
 | .str x=>.str x
 | .lst xs=>.list (pys xs)
 | .tup xs=>.tuple (pys xs)
 | .obj _ _=>.none
def pys:List D->List PyData
 | []=>[]
 | x::xs=>D.py x::pys xs
end
mutual
def D.plain:D->Bool
 | .non=>true
 | .bl _=>true
 | .int _=>true
 | .str _=>true
 | .lst xs=>iJ xs
 | .tup xs=>iJ xs
 | .obj _ _=>false
def iJ:List D->Bool
 | []=>true
 | x::xs=>D.plain x&&iJ xs
end
section
variable {X:Cx} {pins:List (Addr×Obj)} {σ:St} {H Hs:Hp} {s:Shared}
mutual
theorem qT (I:L2.Inv X pins σ H s) (S:aQ Hs H):∀ (d:D) {v:V} {u:Value},d.plain=true->Rep Hs d v->RelV v u->∃ as,Reads s.heap u d.py as
 | .non,v,u,_,h,r=>by unfold Rep at h;subst h;cases (show u=Value.none from r);unfold D.py;exact ⟨_,.none⟩
 | .bl b,v,u,_,h,r=>by unfold Rep at h;subst h;cases (show u=Value.bool b from r);unfold D.py;exact ⟨_,.bool b⟩
 | .int i,v,u,_,h,r=>by unfold Rep at h;subst h;obtain ⟨t,rfl⟩:=r;unfold D.py;exact ⟨_,.int i t⟩
 | .str x,v,u,_,h,r=>by unfold Rep at h;subst h;obtain ⟨t,rfl⟩:=r;unfold D.py;exact ⟨_,.str x t⟩
 | .lst ds,v,u,p,h,r=>by
  unfold Rep at h;obtain ⟨a,vs,rfl,h1,h2⟩:=h;cases (show u=Value.ref a from r);obtain ⟨z,its,n,rv,e⟩:=I.hok a _ (S _ _ h1);unfold D.plain at p;obtain ⟨as,q⟩:=fT I S ds p h2 rv;unfold D.py;exact ⟨_,.list e rfl rfl (by simpa using q)⟩
 | .tup ds,v,u,p,h,r=>by
  unfold Rep at h;obtain ⟨a,vs,rfl,h1,h2⟩:=h;cases (show u=Value.ref a from r);obtain ⟨z,its,rv,o,e,c,n,hd⟩:=I.hok a _ (S _ _ h1);unfold D.plain at p;obtain ⟨as,q⟩:=fT I S ds p h2 rv;unfold D.py;exact ⟨_,.tuple e c hd (by simpa using q)⟩
 | .obj _ _,v,u,p,h,r=>by unfold D.plain at p;cases p
theorem fT (I:L2.Inv X pins σ H s) (S:aQ Hs H):∀ (ds:List D) {vs:List V} {us:List Value},iJ ds=true->aB Hs ds vs->aT vs us->∃ as,ReadsAll s.heap us (pys ds) as
 | [],vs,us,_,h,r=>by unfold aB at h;subst h;cases r;unfold pys;exact ⟨_,.nil⟩
 | d::ds,vs,us,p,h,r=>by
  unfold aB at h;obtain ⟨v,t,rfl,h1,h2⟩:=h;unfold iJ at p;rw [um] at p;cases r with
  | cons r1 r2=>
   obtain ⟨as,q1⟩:=qT I S d p.1 h1 r1;obtain ⟨bs,q2⟩:=fT I S ds p.2 h2 r2;unfold pys;exact ⟨_,.cons q1 q2⟩
end
theorem bE (I:L2.Inv X pins σ H s) (S:aQ Hs H) (d:D) {v:V} {u:Value} (p:d.plain=true) (h:View Hs H d v) (r:RelV v u):∃ as,Reads s.heap u d.py as:=by
 rcases h with h | ⟨ds,a,vs,rfl,rfl,h1,h2⟩
 ·exact qT I S d p h r
 ·cases (show u=Value.ref a from r);obtain ⟨z,its,n,rv,e⟩:=I.hok a _ h1;unfold D.plain at p;obtain ⟨as,q⟩:=fT I S ds p h2 rv;unfold D.py;exact ⟨_,.list e rfl rfl (by simpa using q)⟩
end
def okD (d:D):Bool:=d.plain&&(d.py.canLay0&&decide (d.py.depth<=16))
theorem b6 {d:D} (h:okD d=true):d.plain=true/\d.py.canLay0=true/\d.py.depth<=16:=by
 unfold okD at h;rw [um,um] at h;exact ⟨h.1,h.2.1,of_decide_eq_true h.2.2⟩
theorem jd {d:D} (h:okD d=true):SeqAt.shaped d.py=true:=by
 obtain ⟨_,h1,h2⟩:=b6 h;unfold SeqAt.shaped;rw [um];exact ⟨h1,Av (by omega)⟩
def eqP (a b:D):Bool:=PyData.eqv a.py b.py
def oEq (a b:D):Option R:=if okD a=true/\okD b=true then some (.sh (.bl (eqP a b))) else none
def oNe (a b:D):Option R:=if okD a=true/\okD b=true then some (.sh (.bl (!eqP a b))) else none
noncomputable def oIn (x c:D):Option R:=match c with
 | .lst ys=>if okD x=true/\okD c=true then some (.sh (.bl (ys.any fun y=>eqP y x))) else none
 | .tup ys=>if okD x=true/\okD c=true then some (.sh (.bl (ys.any fun y=>eqP y x))) else none
 | _=>none
noncomputable def oNotIn (x c:D):Option R:=match c with
 | .lst ys=>if okD x=true/\okD c=true then some (.sh (.bl (!ys.any fun y=>eqP y x))) else none
 | .tup ys=>if okD x=true/\okD c=true then some (.sh (.bl (!ys.any fun y=>eqP y x))) else none
 | _=>none
noncomputable def aV:D->D->Option R
 | .int i,.int j=>some (.sh (.int (i+j)))
 | .lst xs,.lst ys=>if xs.length+ys.length<=big then some (.fr (xs++ys)) else none
 | .str x,.str y=>if x.length+y.length<=big then some (.sh (.str (x++y))) else none
 | _,_=>none
def oSub:D->D->Option R
 | .int i,.int j=>some (.sh (.int (i-j)))
 | _,_=>none
noncomputable def cb:D->D->Option R
 | .int i,.int j=>if (-(2 ^ 64)<i/\i<2 ^ 64)\/(-(2 ^ 64)<j/\j<2 ^ 64) then some (.sh (.int (i*j))) else none
 | .lst xs,.int k=>if k<=1000/\-1000<=k/\xs.length*k.toNat<=big then some (.fr (List.replicate k.toNat xs).flatten) else none
 | _,_=>none
noncomputable def oMod:D->D->Option R
 | .int i,.int j=>if 0<j then some (.sh (.int (i % j))) else none
 | _,_=>none
noncomputable def oDiv:D->D->Option R
 | .int i,.int j=>if 0<j/\j<1073741824 then some (.sh (.int (i / j))) else none
 | _,_=>none
def oLt:D->D->Option R
 | .int i,.int j=>some (.sh (.bl (decide (i<j))))
 | _,_=>none
def oLe:D->D->Option R
 | .int i,.int j=>some (.sh (.bl (decide (i<=j))))
 | _,_=>none
def oGt:D->D->Option R
 | .int i,.int j=>some (.sh (.bl (decide (j<i))))
 | _,_=>none
def oGe:D->D->Option R
 | .int i,.int j=>some (.sh (.bl (decide (j<=i))))
 | _,_=>none
noncomputable def oIx:D->D->Option R
 | .lst xs,.int i=>(atI xs i).map .sh
 | .tup xs,.int i=>(atI xs i).map .sh
 | _,_=>none
noncomputable def cc:D->Option R
 | .lst xs=>some (.sh (.int xs.length))
 | .tup xs=>some (.sh (.int xs.length))
 | .str x=>if x.length<=big then some (.sh (.int x.length)) else none
 | _=>none
def ki:D->Option R
 | .lst xs=>some (.fr xs)
 | .tup xs=>some (.fr xs)
 | _=>none
def dg:D->D->Option R
 | .int i,.int j=>some (.sh (.int (if j<i then j else i)))
 | _,_=>none
def eN:D->D->Option R
 | .int i,.int j=>some (.sh (.int (if j>i then j else i)))
 | _,_=>none
theorem gR:∀ ds:List D,pys ds=ds.map D.py
 | []=>by unfold pys;rfl
 | d::ds=>by unfold pys;rw [gR ds];rfl
section
variable {X:Cx}
theorem op_oEq (hu:X.A.units+64<cLine):OpR X (compareOp .Eq) (rD oEq):=by
 intro pins s σ H x y v u Q I rx ry h;obtain ⟨Hs,a,b,r,S,va,vb,e,K⟩:=h;unfold oEq at e;by_cases hc:okD a=true/\okD b=true
 ·rw [if_pos hc] at e;cases e;obtain ⟨as,ra⟩:=bE I S a (b6 hc.1).1 va rx;obtain ⟨bs,rb⟩:=bE I S b (b6 hc.2).1 vb ry;exact SeqAt.compareEq_shaped ra rb (jd hc.1) (jd hc.2) hu ⟨.bl _,H,I,rfl,K _ Hs H (.refl S) (shB _ _ _ _)⟩
 ·rw [if_neg hc] at e;cases e
theorem op_oNe (hu:X.A.units+64<cLine):OpR X (compareOp .NotEq) (rD oNe):=by
 intro pins s σ H x y v u Q I rx ry h;obtain ⟨Hs,a,b,r,S,va,vb,e,K⟩:=h;unfold oNe at e;by_cases hc:okD a=true/\okD b=true
 ·rw [if_pos hc] at e;cases e;obtain ⟨as,ra⟩:=bE I S a (b6 hc.1).1 va rx;obtain ⟨bs,rb⟩:=bE I S b (b6 hc.2).1 vb ry;exact SeqAt.compareNe_shaped ra rb (jd hc.1) (jd hc.2) hu ⟨.bl _,H,I,rfl,K _ Hs H (.refl S) (shB _ _ _ _)⟩
 ·rw [if_neg hc] at e;cases e
theorem kj {ys:List D} (h:okD (.lst ys)=true):PyData.canLayAll0 (pys ys)=true/\PyData.depthAll (pys ys)<=16:=by
 obtain ⟨_,h1,h2⟩:=b6 h;unfold D.py at h1 h2;unfold PyData.canLay0 at h1;unfold PyData.depth at h2;exact ⟨h1,by omega⟩
theorem my {ys:List D} (h:okD (.tup ys)=true):PyData.canLayAll0 (pys ys)=true/\PyData.depthAll (pys ys)<=16:=by
 obtain ⟨_,h1,h2⟩:=b6 h;unfold D.py at h1 h2;unfold PyData.canLay0 at h1;unfold PyData.depth at h2;exact ⟨h1,by omega⟩
theorem mz (x:D) (ys:List D):((pys ys).any fun y=>PyData.eqv y x.py)=ys.any fun y=>eqP y x:=by
 rw [gR,List.any_map];rfl
theorem op_oIn (hu:X.A.units+64<cLine):OpR X (compareOp .In) (rD oIn):=by
 intro pins s σ H x y v u Q I rx ry h;obtain ⟨Hs,a,b,r,S,va,vb,e,K⟩:=h;have room:∀ ys:List PyData,PyData.depthAll ys<=16->X.A.units+1+min (PyData.depthAll ys) a.py.depth<cLine:=fun ys hy=>by
  have:min (PyData.depthAll ys) a.py.depth<=PyData.depthAll ys:=Nat.min_le_left _ _;omega
 cases b with
 | lst ys=>
  unfold oIn at e;by_cases hc:okD a=true/\okD (.lst ys)=true
  ·simp only [if_pos hc] at e;cases e;obtain ⟨as,ra⟩:=bE I S a (b6 hc.1).1 va rx;obtain ⟨bs,rb⟩:=bE I S _ (b6 hc.2).1 vb ry;unfold D.py at rb;refine SeqAt.in_list_reads rb ra (kj hc.2).1 (b6 hc.1).2.1 (room _ (kj hc.2).2) ⟨.bl _,H,I,rfl,?_⟩;rw [mz];exact K _ Hs H (.refl S) (shB _ _ _ _)
  ·simp only [if_neg hc] at e;cases e
 | tup ys=>
  unfold oIn at e;by_cases hc:okD a=true/\okD (.tup ys)=true
  ·simp only [if_pos hc] at e;cases e;obtain ⟨as,ra⟩:=bE I S a (b6 hc.1).1 va rx;obtain ⟨bs,rb⟩:=bE I S _ (b6 hc.2).1 vb ry;unfold D.py at rb;refine SeqAt.in_tuple_reads rb ra (my hc.2).1 (b6 hc.1).2.1 (room _ (my hc.2).2) ⟨.bl _,H,I,rfl,?_⟩;rw [mz];exact K _ Hs H (.refl S) (shB _ _ _ _)
  ·simp only [if_neg hc] at e;cases e
 | _=>cases e
theorem oY (hu:X.A.units+64<cLine):OpR X (compareOp .NotIn) (rD oNotIn):=by
 intro pins s σ H x y v u Q I rx ry h;obtain ⟨Hs,a,b,r,S,va,vb,e,K⟩:=h;have room:∀ ys:List PyData,PyData.depthAll ys<=16->X.A.units+1+min (PyData.depthAll ys) a.py.depth<cLine:=fun ys hy=>by
  have:min (PyData.depthAll ys) a.py.depth<=PyData.depthAll ys:=Nat.min_le_left _ _;omega
 cases b with
 | lst ys=>
  unfold oNotIn at e;by_cases hc:okD a=true/\okD (.lst ys)=true
  ·simp only [if_pos hc] at e;cases e;obtain ⟨as,ra⟩:=bE I S a (b6 hc.1).1 va rx;obtain ⟨bs,rb⟩:=bE I S _ (b6 hc.2).1 vb ry;unfold D.py at rb;refine SeqAt.notIn_list_reads rb ra (kj hc.2).1 (b6 hc.1).2.1 (room _ (kj hc.2).2) ⟨.bl _,H,I,rfl,?_⟩;rw [mz];exact K _ Hs H (.refl S) (shB _ _ _ _)
  ·simp only [if_neg hc] at e;cases e
 | tup ys=>
  unfold oNotIn at e;by_cases hc:okD a=true/\okD (.tup ys)=true
  ·simp only [if_pos hc] at e;cases e;obtain ⟨as,ra⟩:=bE I S a (b6 hc.1).1 va rx;obtain ⟨bs,rb⟩:=bE I S _ (b6 hc.2).1 vb ry;unfold D.py at rb;refine SeqAt.notIn_tuple_reads rb ra (my hc.2).1 (b6 hc.1).2.1 (room _ (my hc.2).2) ⟨.bl _,H,I,rfl,?_⟩;rw [mz];exact K _ Hs H (.refl S) (shB _ _ _ _)
  ·simp only [if_neg hc] at e;cases e
 | _=>cases e
theorem aO:OpR X (binaryOp .Add) (rD aV):=by
 intro pins s σ H x y v u Q I rx ry h;obtain ⟨Hs,a,b,r,S,va,vb,e,K⟩:=h
 match a,b,e,va,vb with
 | .int i,.int j,e,va,vb=>
  cases e;exact op_add pins s σ H x y v u Q I rx ry ⟨i,j,va.int,vb.int,K _ Hs H (.refl S) (shI _ _ _ _)⟩
 | .lst xs,.lst ys,e,va,vb=>
  by_cases hc:xs.length+ys.length<=big
  ·simp only [aV,if_pos hc] at e;cases e;obtain ⟨a,vs,ea,h1,h2⟩:=va.lst S;obtain ⟨b,us,eb,h3,h4⟩:=vb.lst S;refine op_cat pins s σ H x y v u Q I rx ry ⟨a,b,vs,us,ea,eb,h1,h3,?_,fun p hp=>?_⟩
   ·rw [h2.length,h4.length];exact Ac (ck hc)
   ·exact K (.ref p) Hs _ (.fresh S hp) ⟨p,_,rfl,hp,S.free hp,aw,h2.append h4⟩
  ·simp only [aV,if_neg hc] at e;cases e
 | .str i,.str j,e,va,vb=>
  by_cases hc:i.length+j.length<=big
  ·simp only [aV,if_pos hc] at e;cases e;exact sD pins s σ H x y v u Q I rx ry ⟨i,j,va.str,vb.str,Ac (ck hc),K _ Hs H (.refl S) (shS _ _ _ _)⟩
  ·simp only [aV,if_neg hc] at e;cases e
theorem op_oSub:OpR X (binaryOp .Sub) (rD oSub):=by
 intro pins s σ H x y v u Q I rx ry h;obtain ⟨Hs,a,b,r,S,va,vb,e,K⟩:=h
 match a,b,e,va,vb with
 | .int i,.int j,e,va,vb=>
  cases e;exact op_sub pins s σ H x y v u Q I rx ry ⟨i,j,va.int,vb.int,K _ Hs H (.refl S) (shI _ _ _ _)⟩
theorem gS:OpR X (binaryOp .Mod) (rD oMod):=by
 intro pins s σ H x y v u Q I rx ry h;obtain ⟨Hs,a,b,r,S,va,vb,e,K⟩:=h
 match a,b,e,va,vb with
 | .int i,.int j,e,va,vb=>
  by_cases hc:0<j
  ·simp only [oMod,if_pos hc] at e;cases e;exact op_mod pins s σ H x y v u Q I rx ry ⟨i,j,va.int,vb.int,hc,K _ Hs H (.refl S) (shI _ _ _ _)⟩
  ·simp only [oMod,if_neg hc] at e;cases e
theorem op_oDiv:OpR X (binaryOp .FloorDiv) (rD oDiv):=by
 intro pins s σ H x y v u Q I rx ry h;obtain ⟨Hs,a,b,r,S,va,vb,e,K⟩:=h
 match a,b,e,va,vb with
 | .int i,.int j,e,va,vb=>
  by_cases hc:0<j/\j<1073741824
  ·simp only [oDiv,if_pos hc] at e;cases e;exact op_fdiv pins s σ H x y v u Q I rx ry ⟨i,j,va.int,vb.int,hc,K _ Hs H (.refl S) (shI _ _ _ _)⟩
  ·simp only [oDiv,if_neg hc] at e;cases e
theorem dq:OpR X (binaryOp .Mult) (rD cb):=by
 intro pins s σ H x y v u Q I rx ry h;obtain ⟨Hs,a,b,r,S,va,vb,e,K⟩:=h
 match a,b,e,va,vb with
 | .int i,.int j,e,va,vb=>
  by_cases hc:(-(2 ^ 64)<i/\i<2 ^ 64)\/(-(2 ^ 64)<j/\j<2 ^ 64)
  ·simp only [cb,if_pos hc] at e;cases e;exact op_mul pins s σ H x y v u Q I rx ry ⟨i,j,va.int,vb.int,hc,K _ Hs H (.refl S) (shI _ _ _ _)⟩
  ·simp only [cb,if_neg hc] at e;cases e
 | .lst xs,.int k,e,va,vb=>
  by_cases hc:k<=1000/\-1000<=k/\xs.length*k.toNat<=big
  ·simp only [cb,if_pos hc] at e;cases e;obtain ⟨a,vs,ea,h1,h2⟩:=va.lst S;have rr:∀ n:Nat,aB Hs (List.replicate n xs).flatten (List.replicate n vs).flatten:=fun n=>by
    induction n with
    | zero=>exact .nil
    | succ n ih=>rw [List.replicate_succ,List.replicate_succ,List.flatten_cons,List.flatten_cons];exact h2.append ih
   refine op_rep pins s σ H x y v u Q I rx ry ⟨a,k,vs,ea,vb.int,h1,by omega,by omega,?_,fun p hp=>?_⟩
   ·rw [h2.length];exact Ac (ck hc.2.2)
   ·exact K (.ref p) Hs _ (.fresh S hp) ⟨p,_,rfl,hp,S.free hp,aw,rr _⟩
  ·simp only [cb,if_neg hc] at e;cases e
theorem eV:OpR X (compareOp .Lt) (rD oLt):=by
 intro pins s σ H x y v u Q I rx ry h;obtain ⟨Hs,a,b,r,S,va,vb,e,K⟩:=h
 match a,b,e,va,vb with
 | .int i,.int j,e,va,vb=>cases e;exact op_lt pins s σ H x y v u Q I rx ry ⟨i,j,va.int,vb.int,K _ Hs H (.refl S) (shB _ _ _ _)⟩
theorem jM:OpR X (compareOp .LtE) (rD oLe):=by
 intro pins s σ H x y v u Q I rx ry h;obtain ⟨Hs,a,b,r,S,va,vb,e,K⟩:=h
 match a,b,e,va,vb with
 | .int i,.int j,e,va,vb=>cases e;exact op_le pins s σ H x y v u Q I rx ry ⟨i,j,va.int,vb.int,K _ Hs H (.refl S) (shB _ _ _ _)⟩
theorem pX:OpR X (compareOp .Gt) (rD oGt):=by
 intro pins s σ H x y v u Q I rx ry h;obtain ⟨Hs,a,b,r,S,va,vb,e,K⟩:=h
 match a,b,e,va,vb with
 | .int i,.int j,e,va,vb=>cases e;exact op_gt pins s σ H x y v u Q I rx ry ⟨i,j,va.int,vb.int,K _ Hs H (.refl S) (shB _ _ _ _)⟩
theorem op_oGe:OpR X (compareOp .GtE) (rD oGe):=by
 intro pins s σ H x y v u Q I rx ry h;obtain ⟨Hs,a,b,r,S,va,vb,e,K⟩:=h
 match a,b,e,va,vb with
 | .int i,.int j,e,va,vb=>cases e;exact op_ge pins s σ H x y v u Q I rx ry ⟨i,j,va.int,vb.int,K _ Hs H (.refl S) (shB _ _ _ _)⟩
theorem qU {H:Hp} {ds:List D} {vs:List V} {i:Int} {d:D} (r:aB H ds vs) (h:atI ds i=some d):∃ v,atI vs i=some v/\Rep H d v:=by
 unfold atI at h ⊢;rw [r.length];cases e:ixN ds.length i with
 | none=>rw [e] at h;cases h
 | some j=>
  rw [e] at h;exact r.get h
theorem ix_oIx:IxR X (rD oIx):=by
 intro value slice pins s σ H x y v u Q I rx ry h hs;obtain ⟨Hs,a,b,r,S,va,vb,e,K⟩:=h
 match a,b,e,va,vb with
 | .lst xs,.int i,e,va,vb=>
  cases ea:atI xs i with
  | none=>simp only [oIx,ea] at e;cases e
  | some d=>
   simp only [oIx,ea] at e;cases e;obtain ⟨a,vs,eq,h1,h2⟩:=va.lst S;obtain ⟨w,q1,q2⟩:=qU h2 ea;exact pM value slice pins s σ H x y v u Q I rx ry ⟨a,vs,i,w,eq,vb.int,.of h1,q1,K w Hs H (.refl S) q2⟩ hs
 | .tup xs,.int i,e,va,vb=>
  cases ea:atI xs i with
  | none=>simp only [oIx,ea] at e;cases e
  | some d=>
   simp only [oIx,ea] at e;cases e;obtain ⟨a,vs,eq,h1,h2⟩:=va.tup S;obtain ⟨w,q1,q2⟩:=qU h2 ea;exact ix_tup value slice pins s σ H x y v u Q I rx ry ⟨a,vs,i,w,eq,vb.int,.of h1,q1,K w Hs H (.refl S) q2⟩ hs
theorem c_len:cJ X (.builtin "len") (rC1 cc):=by
 intro pins s σ H xs us Q I rv h;obtain ⟨x,rfl,Hs,d,r,S,vd,e,K⟩:=h
 match d,e,vd with
 | .lst ds,e,vd=>
  cases e;obtain ⟨a,vs,eq,h1,h2⟩:=vd.lst S;exact gL pins s σ H _ us Q I rv ⟨a,vs,by rw [eq],.inl (.of h1),by rw [h2.length];exact K _ Hs H (.refl S) (shI _ _ _ _)⟩
 | .tup ds,e,vd=>
  cases e;obtain ⟨a,vs,eq,h1,h2⟩:=vd.tup S;exact gL pins s σ H _ us Q I rv ⟨a,vs,by rw [eq],.inr (.of h1),by rw [h2.length];exact K _ Hs H (.refl S) (shI _ _ _ _)⟩
 | .str z,e,vd=>
  by_cases hc:z.length<=big
  ·simp only [cc,if_pos hc] at e;cases e;exact pO pins s σ H _ us Q I rv ⟨z,by rw [vd.str],Ac (ck hc),K _ Hs H (.refl S) (shI _ _ _ _)⟩
  ·simp only [cc,if_neg hc] at e;cases e
theorem pY:cJ X (.type "list") (rC1 ki):=by
 intro pins s σ H xs us Q I rv h;obtain ⟨x,rfl,Hs,d,r,S,vd,e,K⟩:=h
 match d,e,vd with
 | .lst ds,e,vd=>
  cases e;obtain ⟨a,vs,eq,h1,h2⟩:=vd.lst S;exact kd pins s σ H _ us Q I rv ⟨a,vs,by rw [eq],.inl (.of h1),fun p hp=>K _ Hs _ (.fresh S hp) ⟨p,vs,rfl,hp,S.free hp,aw,h2⟩⟩
 | .tup ds,e,vd=>
  cases e;obtain ⟨a,vs,eq,h1,h2⟩:=vd.tup S;exact kd pins s σ H _ us Q I rv ⟨a,vs,by rw [eq],.inr (.of h1),fun p hp=>K _ Hs _ (.fresh S hp) ⟨p,vs,rfl,hp,S.free hp,aw,h2⟩⟩
theorem jN (hc:X.calm=true):cJ X (.builtin "min") (rC2 dg):=by
 intro pins s σ H xs us Q I rv h;obtain ⟨x,y,rfl,Hs,a,b,r,S,va,vb,e,K⟩:=h
 match a,b,e,va,vb with
 | .int i,.int j,e,va,vb=>
  cases e;exact call_min2 hc pins s σ H _ us Q I rv ⟨i,j,by rw [va.int,vb.int],K _ Hs H (.refl S) (shI _ _ _ _)⟩
theorem la (hc:X.calm=true):cJ X (.builtin "max") (rC2 eN):=by
 intro pins s σ H xs us Q I rv h;obtain ⟨x,y,rfl,Hs,a,b,r,S,va,vb,e,K⟩:=h
 match a,b,e,va,vb with
 | .int i,.int j,e,va,vb=>
  cases e;exact call_max2 hc pins s σ H _ us Q I rv ⟨i,j,by rw [va.int,vb.int],K _ Hs H (.refl S) (shI _ _ _ _)⟩
end
noncomputable def mS (sc:Scope) (No N:List Str) (m:Nat) (ix:List Nat) (scope:Scope):Bool:=
 scope.kind==.function&&scope.names.all (fun y=>!(y.2==.cell))&&scope.names.all (fun y=>!(y.2==.local)||scope.names.lookup y.1==some .local)&&N.length==m+ix.length&&
 scope.names.all (fun y=>!(y.2==.free)||(sc.names.lookup y.1==some .cell||sc.names.lookup y.1==some .free))&&
 (List.range ix.length).all fun j=>match ix[j]?,N[m+j]? with
  | some i,some x=>No[i]?==some x&&scope.names.lookup x==some .free
  | _,_=>false
theorem lb {X:Cx} {sc:Scope} {No N:List Str} {m:Nat} {ix:List Nat} {scope:Scope} (h1:X.env.scope=sc) (h2:X.N=No) (h:mS sc No N m ix scope=true):dO X N m ix scope:=by
 unfold mS at h;simp only [um] at h;obtain ⟨⟨⟨⟨⟨a,b⟩,c⟩,d⟩,e⟩,f⟩:=h;refine ⟨by simpa using a,fun y hy z=>?_,fun y hy z=>?_,by simpa using d,fun y hy z=>?_,fun j i x hi hx=>?_⟩
 ·have:=Ag.mp b y hy;simp [z] at this
 ·have:=Ag.mp c y hy;simpa [z] using this
 ·have:=Ag.mp e y hy;show X.env.scope.names.lookup y.1=_\/X.env.scope.names.lookup y.1=_;rw [h1];simpa [z] using this
 ·have hj:j<ix.length:=(yX.mp hi).1;have:=Ag.mp f j (List.mem_range.mpr hj);rw [hi,hx] at this;simp only [um] at this;rw [h2];exact ⟨by simpa using this.1,by simpa using this.2⟩
theorem hu64 {A:Around} {k:Nat} (hr:bx k A):A.units+64<cLine:=by have:=hr.un;omega
section
variable {X:Cx}
theorem ah {i:Int} {j:Nat} {pos:Pos}:DE X (.Constant (.int i) j pos) (ae (.int i)):=mL pe_int fun H=>by unfold Rep;rfl
theorem bF {b:Bool} {j:Nat} {pos:Pos}:DE X (.Constant (.bool b) j pos) (ae (.bl b)):=mL pe_bl fun H=>by unfold Rep;rfl
theorem de_non {j:Nat} {pos:Pos}:DE X (.Constant .none j pos) (ae .non):=mL pe_non fun H=>by unfold Rep;rfl
theorem lc {x:Str} {j:Nat} {pos:Pos}:DE X (.Constant (.str x) j pos) (ae (.str x)):=mL pe_str fun H=>by unfold Rep;rfl
def bls:List D->Option (List Bool)
 | []=>some []
 | .bl b::r=>(bls r).map (b::·)
 | _=>none
theorem pZ {H:Hp}:∀ {ds:List D} {bs:List Bool} {vs:List V} {us:List Value},bls ds=some bs->aB H ds vs->aT vs us->PyProof.Rows.LSm.BoolsAre us bs
 | [],bs,vs,us,e,r,q=>by
  unfold bls at e;cases e;unfold aB at r;subst r;cases q;exact .nil
 | d::ds,bs,vs,us,e,r,q=>by
  match d,e with
  | .bl b,e=>
   unfold bls at e;cases eb:bls ds with
   | none=>rw [eb] at e;cases e
   | some t=>
    rw [eb] at e;cases e;unfold aB at r;obtain ⟨v,vr,rfl,r1,r2⟩:=r;unfold Rep at r1;subst r1;cases q with
    | cons q1 q2=>
     cases q1;exact .cons b (pZ eb r2 q2)
def iK:D->Option R
 | .lst ds=>(bls ds).map fun bs=>.sh (.bl (bs.all id))
 | _=>none
def oAny:D->Option R
 | .lst ds=>(bls ds).map fun bs=>.sh (.bl (bs.any id))
 | _=>none
theorem kept_it {s:Shared} {h':Heap} {o:Obj} (hk:∀ b x,b∉[s.heap.objs.size]->(s.heap.push o).get? b=some x->h'.get? b=some x):∀ b x,s.heap.get? b=some x->h'.get? b=some x:=
 fun b x e=>hk b x (fun hm=>by rw [List.mem_singleton.mp hm] at e;exact zP _ (yZ e)) (yV _ e)
theorem c_all (hc:X.calm=true):cJ X (.builtin "all") (rC1 iK):=by
 intro pins s σ H xs us Q I rv h;obtain ⟨x,rfl,Hs,d,r,S,vd,e,K⟩:=h
 match d,e,vd with
 | .lst ds,e,vd=>
  cases eb:bls ds with
  | none=>simp only [iK,eb] at e;cases e
  | some bs=>
   simp only [iK,eb] at e;cases e;obtain ⟨a,vs,eq,h1,h2⟩:=vd.lst S;subst eq;obtain ⟨u,rfl,ru⟩:=rv.one;cases (show u=Value.ref a from ru);obtain ⟨its,u5,pl,hz⟩:=I.list (SqL.of (K:=X.K) h1);have hb:=pZ eb h2 u5;have hl:=pl.isList;have hh:X.A.handled=none:=I.ok.hd hc;have vk:a<s.heap.objs.size:=by obtain ⟨_,e,_⟩:=hl;exact yZ e
   refine call_all_walk (wpAny_pyIter_list hl ?_);refine ⟨s.heap.objs.size,[s.heap.objs.size,a],[s.heap.objs.size],its.toArray.size,_,_,fun i=>(bs[i]?).getD true,rfl,Walks.list (A:=X.A.in1) hh _ a (zJ vk) its.toArray,
    ⟨⟨_,zg _ rfl,rfl,rfl⟩,hl.push _⟩,fun i v s' Q' E' hP hQ=>?_,fun h' tk hk=>?_⟩
   ·obtain ⟨b,e,rfl⟩:=hb.get i v (by simpa using hP);simp only [e,Option.getD_some] at hQ;exact wpAny_truthy_bool hQ
   ·have e:((List.range its.toArray.size).all fun i=>(bs[i]?).getD true)=bs.all id:=by
     rw [zf,hb.length];exact PyProof.Rows.LSm.range_all bs
    rw [e];exact ⟨.bl _,H,I.kept (kept_it hk),rfl,K _ Hs H (.refl S) (shB _ _ _ _)⟩
def nums:List D->Option (List Int)
 | []=>some []
 | .int i::r=>(nums r).map (i::·)
 | _=>none
theorem kl {H:Hp}:∀ {ds:List D} {ns:List Int} {vs:List V} {us:List Value},nums ds=some ns->aB H ds vs->aT vs us->IntsAre us ns
 | [],bs,vs,us,e,r,q=>by
  unfold nums at e;cases e;unfold aB at r;subst r;cases q;exact .nil
 | d::ds,bs,vs,us,e,r,q=>by
  match d,e with
  | .int b,e=>
   unfold nums at e;cases eb:nums ds with
   | none=>rw [eb] at e;cases e
   | some t=>
    rw [eb] at e;cases e;unfold aB at r;obtain ⟨v,vr,rfl,r1,r2⟩:=r;unfold Rep at r1;subst r1;cases q with
    | cons q1 q2=>
     obtain ⟨t,rfl⟩:=q1;exact .cons b t (kl eb r2 q2)
theorem oZ {H:Hp}:∀ {ns:List Int} {us:List Value},IntsAre us ns->aT (ns.map V.int) us/\aB H (ns.map D.int) (ns.map V.int)
 | _,_,.nil=>⟨.nil,.nil⟩
 | _,_,.cons n t h=>by
  obtain ⟨a,b⟩:=oZ (H:=H) h;exact ⟨.cons ⟨t,rfl⟩ a,.cons (by unfold Rep;rfl) b⟩
noncomputable def best (p:Int->Int->Bool):List Int->Option Int
 | []=>none
 | a::r=>some (r.foldl (fun m x=>if p x m then x else m) a)
theorem best_max:∀ {ns:List Int} {m:Int},m∈ns->(∀ a,a∈ns->a<=m)->best (fun x m=>decide (m<x)) ns=some m:=by
 have go:∀ (r:List Int) (a m:Int),(m=a\/m∈r)->a<=m->(∀ x∈r,x<=m)->r.foldl (fun m x=>if decide (m<x) then x else m) a=m:=by
  intro r
  induction r with
  | nil=>intro a m h _ _;rcases h with h | h;exact h.symm;cases h
  | cons y r ih=>
   intro a m h ha hx;rw [List.foldl_cons];by_cases hy:a<y
   ·simp only [hy,decide_true,if_true];refine ih y m ?_ (hx y yY) fun x xr=>hx x (uf _ xr);rcases h with h | h
    ·have:=hx y yY;omega
    ·rcases zj.mp h with h | h
     ·exact .inl h
     ·exact .inr h
   ·simp only [hy,decide_false,Bool.false_eq_true,if_false];refine ih a m ?_ ha fun x xr=>hx x (uf _ xr);rcases h with h | h
    ·exact .inl h
    ·rcases zj.mp h with h | h
     ·left;omega
     ·exact .inr h
 intro ns m hm hle;cases ns with
 | nil=>cases hm
 | cons a r=>
  show some (r.foldl (fun m x=>if decide (m<x)=true then x else m) a)=some m;rw [go r a m (zj.mp hm) (hle a yY) fun x hx=>hle x (uf _ hx)]
noncomputable def mT:D->Option R
 | .lst ds=>(nums ds).bind fun ns=>(best (fun x m=>decide (m<x)) ns).map fun m=>.sh (.int m)
 | _=>none
theorem un_list {pins:List (Addr×Obj)} {σ:St} {H Hs:Hp} {s:Shared} (I:L2.Inv X pins σ H s) (S:aQ Hs H) {ds:List D} {x:V} {us:List Value} (vd:View Hs H (.lst ds) x) (rv:aT [x] us) :
  ∃ a vs its,us=[.ref a]/\x=.ref a/\H a=some (.lst vs)/\aB Hs ds vs/\aT vs its/\PySem.PlainL s.heap a its.toArray/\vs.length<=sizeLine:=by
 obtain ⟨a,vs,eq,h1,h2⟩:=vd.lst S;subst eq;obtain ⟨u,rfl,ru⟩:=rv.one;cases (show u=Value.ref a from ru);obtain ⟨its,u5,pl,hz⟩:=I.list (SqL.of (K:=X.K) h1);exact ⟨a,vs,its,rfl,rfl,h1,h2,u5,pl,hz⟩
end
section
variable {X:Cx}
noncomputable def cutD (xs:List D) (lo hi:Option Int):List D:=(xs.drop (HT.sIx xs.length 0 lo)).take (HT.sIx xs.length xs.length hi-HT.sIx xs.length 0 lo)
theorem cut_reps {H:Hp} {ds:List D} {vs:List V} (lo hi:Option Int) (r:aB H ds vs):aB H (cutD ds lo hi) (cutV vs lo hi):=by
 unfold cutD cutV;rw [r.length];exact (r.drop _).take _
abbrev FO:=DSt->Option (Option Int)
noncomputable def tDO (f:FO):TO:=fun σ H Q=>∃ Hs δ o,aQ Hs H/\gc Hs H δ σ/\f δ=some o/\∀ Hs' H',Wd H Hs Hs' H'->Q o H'
structure DO (X:Cx) (e:Option Expr) (f:FO):Prop where
 go:PO X e (tDO f)
theorem _root_.L2.PO.weak {X:Cx} {e:Option Expr} {t t':TO} (h:PO X e t) (w:∀ σ H Q,t' σ H Q->t σ H Q):PO X e t':=fun pins s σ H Q I q=>h pins s σ H Q I (w σ H Q q)
def fq:FO:=fun _=>some none
noncomputable def b9 (f:FE):FO:=fun δ=>(f δ).bind fun r=>match r with
 | .sh (.int i)=>some (some i)
 | _=>none
theorem km:DO X none fq:=.mk <| po_none.weak fun σ H Q ⟨Hs,δ,o,S,En,e,K⟩=>by
 cases e;exact K Hs H (.refl S)
theorem fu {e:Expr} {f:FE} (h:DE X e f):DO X (some e) (b9 f):=.mk <| (po_some h.go).weak fun σ H Q ⟨Hs,δ,o,S,En,e,K⟩=>by
 unfold b9 at e;cases ef:f δ with
 | none=>rw [ef] at e;cases e
 | some r=>
  rw [ef] at e;refine ⟨Hs,δ,r,S,En,ef,fun x uq H1 W1 R1=>?_⟩
  match r,e,R1 with
  | .sh (.int i),e,R1=>
   cases e;have R1:Rep uq (.int i) x:=R1;unfold Rep at R1;exact ⟨i,R1,K uq H1 W1⟩
noncomputable def cn (f:FE) (fl fh:FO):FE:=fun δ=>(f δ).bind fun r=>(fl δ).bind fun lo=>(fh δ).bind fun hi=>match r.view with
 | .lst ds=>some (.fr (cutD ds lo hi))
 | _=>none
theorem gr {e:Expr} {lo hi:Option Expr} {f:FE} {fl fh:FO} {p2 pos:Pos} (he:DE X e f) (hl:DO X lo fl) (hh:DO X hi fh):DE X (.Subscript e (.Slice lo hi none p2) pos) (cn f fl fh):=.mk <|
 (pe_slice sl_list he.go hl.go hh.go).weak fun σ H Q ⟨Hs,δ,r,S,En,e,K⟩=>by
  unfold cn at e;cases ef:f δ with
  | none=>rw [ef] at e;cases e
  | some rf=>
   cases el:fl δ with
   | none=>rw [ef,el] at e;cases e
   | some lo=>
    cases eh:fh δ with
    | none=>rw [ef,el,eh] at e;cases e
    | some hi=>
     rw [ef,el,eh] at e;refine ⟨Hs,δ,rf,S,En,ef,fun x uq H1 W1 R1=>⟨uq,δ,lo,W1.sub,En.mono W1,el,fun uv H2 W2=>⟨uv,δ,hi,W2.sub,En.mono (W1.trans W2),eh,fun tW H3 W3=>?_⟩⟩⟩;have vw:=((R1.mono W2).mono W3).view;replace e:(match rf.view with
      | .lst ds=>some (R.fr (cutD ds lo hi))
      | _=>none)=some r:=e
     cases hv:rf.view with
     | lst ds=>
      rw [hv] at e vw;cases e;obtain ⟨a,vs,rfl,h1,h2⟩:=vw.lst W3.sub;have v8:=W1.trans (W2.trans W3);exact ⟨a,vs,rfl,.of h1,fun p hp=>K _ tW _ (v8.trans (.fresh W3.sub hp)) ⟨p,_,rfl,v8.keep.free hp,W3.sub.free hp,aw,cut_reps lo hi h2⟩⟩
     | _=>rw [hv] at e;cases e
def kn (ns:List Int):List Int:=ns.foldl step_dedup []
theorem sN (ns:List Int):firstMet (fun i=>ns.getD i 0) ns.length=kn ns:=by
 unfold firstMet kn;congr 1;refine List.ext_getElem? fun i=>?_;rw [zc];by_cases hi:i<ns.length
 ·rw [List.getElem?_range hi];simp [List.getD,hi]
 ·rw [List.getElem?_eq_none (by simpa using hi),List.getElem?_eq_none (by simpa using hi)];rfl
theorem c_setS (hc:X.calm=true):cJ X (.type "set") (fun xs H Q=>∃ p vs ns Hs ds,xs=[.ref p]/\H p=some (.lst vs)/\aB Hs ds vs/\nums ds=some ns/\ns.length<=1000/\∀ l,H l=none->Q (.ref l) (L2.upd H l (.set (fun k=>(kn ns).any (·==k)) (kn ns).length))):=by
 intro pins s σ H xs us Q I rv h;obtain ⟨p,vs,ns,Hs,ds,rfl,h1,h2,e,hz,q⟩:=h;obtain ⟨u,rfl,ru⟩:=rv.one;cases (show u=Value.ref p from ru);obtain ⟨its,u5,pl,hz'⟩:=I.list (SqL.of (K:=X.K) h1);have hi:=kl e h2 u5;have hl:=hi.length;refine PySem.call_set_list (I.ok.hd hc) pl.isList (by simpa using hi) (by
  rw [zf,hl];show ns.length+1<4096;omega) fun h' tk hs hk=>?_
 have uQ:its.toArray.size=ns.length:=by rw [zf,hl]
 rw [uQ,sN] at hs;have k:∀ b u,s.heap.get? b=some u->h'.get? b=some u:=fun b u e=>hk b u (yZ e) e;exact ⟨.ref s.heap.objs.size,_,I.laid (t':=tk) (o:=.set (fun k=>(kn ns).any (·==k)) (kn ns).length) k (zp _) hs,rfl,q _ (I.hok.fresh (zp _))⟩
theorem c_lenS:cJ X (.builtin "len") (fun xs H Q=>∃ p S n,xs=[.ref p]/\H p=some (.set S n)/\Q (.int n) H):=by
 intro pins s σ H xs us Q I rv h;obtain ⟨p,S,n,rfl,h1,q⟩:=h;obtain ⟨u,rfl,ru⟩:=rv.one;cases (show u=Value.ref p from ru);obtain ⟨o,es,ep,t,ho,hex,hd,_,_,hsc,hf,hn⟩:=(show s.heap.SetOf (intKind X.prog X.w) p S n from I.hok p _ h1);have:(es.size:Int)<2 ^ 63:=by
  have:es.size<4096:=hsc;omega
 refine call_len_set ho hex hd hf this ?_;rw [hn];exact ⟨.int n,H,I.tok _,⟨_,rfl⟩,q⟩
noncomputable def eD (f:FE):FE:=fun δ=>(f δ).bind fun r=>match r.view with
 | .lst ds=>(nums ds).bind fun ns=>if ns.length<=1000 then some (.sh (.int (kn ns).length)) else none
 | _=>none
theorem je {e:Expr} {f:FE} {p1 p2 vi tV:Pos} (hc:X.calm=true) (he:DE X e f) (hg:Gl X "len") (hm:X.mg "len" = none) (uo:Gl X "set") (xF:X.mg "set" = none)
  (hs:starEach [e] X.env=[(false,eval e X.env)]:=by rfl)
  (uF:starEach [.Call (.Name "set" p2) [e] [] tV] X.env=[(false,eval (.Call (.Name "set" p2) [e] [] tV) X.env)]:=by rfl) :
  DE X (.Call (.Name "len" p1) [.Call (.Name "set" p2) [e] [] tV] [] vi) (eD f):=.mk <|
 (gk c_lenS hg hm PySem.boot_len (bO (jb (c_setS hc) uo xF boot_set (bO he.go dl hs) (he:=hs)) dl uF) (he:=uF)).weak fun σ H Q ⟨Hs,δ,r,S,En,e,K⟩=>by
  unfold eD at e;cases ef:f δ with
  | none=>rw [ef] at e;cases e
  | some rf=>
   rw [ef] at e;refine ⟨Hs,δ,rf,S,En,ef,fun x uq H1 W1 R1=>?_⟩;have vw:=R1.view;replace e:(match rf.view with
    | .lst ds=>(nums ds).bind fun ns=>if ns.length<=1000 then some (R.sh (.int (kn ns).length)) else none
    | _=>none)=some r:=e
   cases hv:rf.view with
   | lst ds=>
    rw [hv] at e vw;replace e:((nums ds).bind fun ns=>if ns.length<=1000 then some (R.sh (.int (kn ns).length)) else none)=some r:=e;cases en:nums ds with
    | none=>rw [en] at e;cases e
    | some ns=>
     rw [en] at e;replace e:(if ns.length<=1000 then some (R.sh (.int (kn ns).length)) else none)=some r:=e;by_cases hz:ns.length<=1000
     ·rw [if_pos hz] at e;cases e;obtain ⟨a,vs,rfl,h1,h2⟩:=vw.lst W1.sub;exact ⟨a,vs,ns,uq,ds,rfl,h1,h2,en,hz,fun l hl=>⟨l,_,_,rfl,aw,K _ uq _ (W1.trans (.fresh W1.sub hl)) (shI _ _ _ _)⟩⟩
     ·rw [if_neg hz] at e;cases e
   | _=>rw [hv] at e;cases e
def srt (ns:List Int):List Int:=ns.mergeSort (fun a b=>decide (a<=b))
theorem srt_eq {ns yg:List Int} (p:yg.Perm ns) (s:yg.Pairwise (·<=·)):yg=srt ns:=by
 have p2:(srt ns).Perm ns:=List.mergeSort_perm _ _;have s2:(srt ns).Pairwise (·<=·):=by
  have:=List.pairwise_mergeSort (le:=fun (a b:Int)=>decide (a<=b)) (fun a b c h1 h2=>by simp at *;omega) (fun a b=>by simp;omega) ns;exact this.imp (fun h=>by simpa using h)
 exact List.Perm.eq_of_pairwise (fun a b _ _ h1 h2=>Int.le_antisymm h1 h2) s s2 (p.trans p2.symm)
noncomputable def jf:D->Option R
 | .lst ds=>(nums ds).bind fun ns=>if ns.length<64 then some (.fr ((srt ns).map .int)) else none
 | _=>none
theorem c_sorted:cJ X (.builtin "sorted") (rC1 jf):=by
 intro pins s σ H xs us Q I rv h;obtain ⟨x,rfl,Hs,d,r,S,vd,e,K⟩:=h
 match d,e,vd with
 | .lst ds,e,vd=>
  cases eb:nums ds with
  | none=>simp only [jf,eb] at e;cases e
  | some ns=>
   by_cases hz:ns.length<64
   ·simp only [jf,eb,Option.bind,if_pos hz] at e;cases e;obtain ⟨a,vs,its,rfl,rfl,h1,h2,u5,pl,hz'⟩:=un_list I S vd rv;have hi:=kl eb h2 u5;refine sorted_ints pl.isList hi (by rw [hi.length];exact hz) fun out yg a1 a2 a3=>?_;have en:=srt_eq a2 a3;subst en;obtain ⟨ep,he⟩:=PyProof.Rows.sortedAll_at s.heap its out;obtain ⟨q1,q2⟩:=oZ (H:=Hs) a1;have k:∀ b u,s.heap.get? b=some u->(sortedAll s.heap its out).get? b=some u:=fun _ _=>PyProof.Rows.sortedAll_old;have hp:H (s.heap.objs.size+1)=none:=I.hok.fresh (Nat.le_succ _);refine ⟨.ref (s.heap.objs.size+1),_,I.laid (t':=s.toks) (o:=.lst ((srt ns).map V.int)) k (Nat.le_succ _) ⟨?_,out.toList,ep,q1,by simpa using he⟩,rfl,K _ Hs _ (.fresh S hp) ⟨_,_,rfl,hp,S.free hp,aw,q2⟩⟩;rw [uk,a2.length_eq];exact Ac (ck (zN (Ac hz) (by decide)))
   ·simp only [jf,eb,Option.bind,if_neg hz] at e;cases e
theorem c_max1 (hc:X.calm=true):cJ X (.builtin "max") (rC1 mT):=by
 intro pins s σ H xs us Q I rv h;obtain ⟨x,rfl,Hs,d,r,S,vd,e,K⟩:=h
 match d,e,vd with
 | .lst ds,e,vd=>
  cases eb:nums ds with
  | none=>simp only [mT,eb] at e;cases e
  | some ns=>
   obtain ⟨a,vs,its,rfl,rfl,h1,h2,u5,pl,hz'⟩:=un_list I S vd rv;have hi:=kl eb h2 u5;cases ns with
   | nil=>simp only [mT,eb,Option.bind,best] at e;cases e
   | cons n0 nr=>
    obtain ⟨ys,hx⟩:=hi.allInts.items;have xD:n0::nr=ys.toList.map (·.1):=by rw [<-hi.numsOf,<-nums_intItems,<-hx]
    have uQ:0<ys.size:=by
     have:=congrArg List.length xD;simp at this;omega
    have hl:s.heap.IsList a (intItems ys):=hx▸pl.isList;refine max_intList (I.ok.hd hc) hl uQ fun v h' tk hv hk=>?_;obtain ⟨t,rfl⟩:=intItems_at hv;obtain ⟨q1,q2⟩:=argBest_gt (numAt ys) (ys.size-1);have mem:∀ j,j<ys.size->numAt ys j∈n0::nr:=fun j hj=>by
     rw [xD];unfold numAt;simp only [Array.getElem?_eq_getElem hj,Option.map_some,Option.getD_some];exact zH.mpr ⟨ys[j],by simp,rfl⟩
    have eb2:best (fun x m=>decide (m<x)) (n0::nr)=some (numAt ys (argBest (fun i j=>decide (numAt ys i>numAt ys j)) (ys.size-1))):=by
     refine best_max (mem _ (by omega)) fun b hb=>?_;rw [xD] at hb;obtain ⟨y,hy,rfl⟩:=zH.mp hb;obtain ⟨j,hj,rfl⟩:=Array.mem_iff_getElem.mp (by simpa using hy);have:=q2 j (by omega);unfold numAt at this ⊢;simpa [hj] using this
    simp only [mT,eb,Option.bind,eb2] at e;cases e;exact ⟨.int _,H,I.kept hk,⟨_,rfl⟩,K _ Hs H (.refl S) (shI _ _ _ _)⟩
end
end Ew
end
section
namespace L2
open PySem PySem.Spec PyProof.Rows
section
variable {X:Cx} {pins:List (Addr×Obj)} {σ:List (Option V)} {H H':Hp} {s:Shared} {h':Heap}
theorem Inv.turnNew {t':Nat} {ch:List Addr} {p:Addr} {o:HO} (I:Inv X pins σ H s) (hp:s.heap.objs.size<=p) (k:∀ b u,b∉ch->s.heap.get? b=some u->h'.get? b=some u) (hf:∀ b∈ch,FpOk X pins H b)
  (new:cI X.prog X.w (upd H p o) h' p o):Inv X pins σ (upd H p o) { s with heap:=h',toks:=t' }:=by
 have hn:H p=none:=I.hok.fresh hp;have we:∀ b u,H b=some u->b∉ch:=fun b u e z=>by rw [(hf b z).1] at e;cases e
 refine I.step (g':=s.gens) (d':=s.drawn) (ch:=ch) (fun b hb=>⟨(hf b hb).2.2.2.1,(hf b hb).2.1,(hf b hb).2.2.2.2.1,(hf b hb).2.2.2.2.2⟩) (fun b u _ _ hc e _=>k b u hc e) (fun b u _ _ hc e _=>⟨u.slots,k b u hc e⟩)
  (fun b u _ e n=>by rw [av (zJ (zz (yZ e) hp))];exact n) (fun b u hc e=>⟨u,k b u hc e⟩)
  (fun b xs e=>by rw [av (aK e hn)];exact e) (fun b u xs e=>by rw [av (aK e hn)];exact e) (fun b ps e=>⟨#[],by rw [av (aK e hn),e];simp⟩) (fun m hm=>?_) (fun b u e=>?_) I.bare
 ·obtain ⟨ob,es,ep,ho,r⟩:=hm;exact ⟨ob,es,ep,k _ ob (fun z=>(hf _ z).2.1 rfl) ho,r⟩
 ·by_cases hb:b=p
  ·subst hb;rw [aw] at e;cases e;exact new
  ·rw [av hb] at e;refine (I.hok b u e).stay (fun c v hc q=>k c v ?_ q) (fun c q=>by rw [av (aK q hn)];exact q) fun c xs q=>by rw [av (aK q hn)];exact q
   rcases hc with z | z
   ·rw [z];exact we b u e
   ·exact we c _ z
theorem Inv.turnedL {t':Nat} {ch:List Addr} (I:Inv X pins σ H s) (k:∀ b u,b∉ch->s.heap.get? b=some u->h'.get? b=some u) (hf:∀ b∈ch,FpOk X pins H b):Inv X pins σ H { s with heap:=h',toks:=t' }:=by
 have we:∀ b u,H b=some u->b∉ch:=fun b u e z=>by rw [(hf b z).1] at e;cases e
 refine I.step (g':=s.gens) (d':=s.drawn) (ch:=ch) (fun b hb=>⟨(hf b hb).2.2.2.1,(hf b hb).2.1,(hf b hb).2.2.2.2.1,(hf b hb).2.2.2.2.2⟩) (fun b u _ _ hc e _=>k b u hc e) (fun b u _ _ hc e _=>⟨u.slots,k b u hc e⟩)
  (fun b u _ e n=>n) (fun b u hc e=>⟨u,k b u hc e⟩)
  (fun b xs e=>e) (fun b u xs e=>e) (fun b ps e=>⟨#[],by rw [e];simp⟩) (fun m hm=>?_) (fun b u e=>?_) I.bare
 ·obtain ⟨ob,es,ep,ho,r⟩:=hm;exact ⟨ob,es,ep,k _ ob (fun z=>(hf _ z).2.1 rfl) ho,r⟩
 ·refine (I.hok b u e).stay (fun c v hc q=>k c v ?_ q) (fun c q=>q) fun c xs q=>q;rcases hc with z | z
  ·rw [z];exact we b u e
  ·exact we c _ z
end
theorem two_line:(2:Nat)<=sizeLine:=by rw [sizeLine_eq];decide
section
variable {X:Cx} {elts:List Expr} {k:Nat} {tp:Pos}
noncomputable def Ite (K:Frag) (a:Addr):It:=
 ⟨fun i H=>∃ xs x,SqL K H a xs/\xs[i]?=some x,
  fun i H v H'=>∃ p x,v=.ref p/\H p=none/\H'=upd H p (.tup [.int i,x])/\∀ xs,SqL K H a xs->xs[i]?=some x,
  fun i H=>∃ xs,SqL K H a xs/\xs.length<=i⟩
theorem turn_enum {P:Program} {w:World} {K:Frag} (a e it:Addr) (vj:e≠it) :
  Turn P w K (.Tuple elts k tp) (Ite K a) [e,it] e (fun i h=>(∃ old,IsEnum h e it i old)/\h.IsListIter it a i) where
 mem:=by simp
 obj:=fun i h st c hc=>by
  obtain ⟨⟨old,he⟩,⟨o1,e1,c1,d1⟩⟩:=st;simp at hc;rcases hc with rfl | rfl
  ·exact ⟨_,he,fun v z=>by cases (show Data.fields _=Data.cell v from z)⟩
  ·exact ⟨o1,e1,fun v z=>by rw [d1] at z;cases z⟩
 keep:=fun i h h' st k=>by
  obtain ⟨⟨old,he⟩,h1⟩:=st;exact ⟨⟨old,k e (by simp) _ he⟩,h1.at fun o e=>k it (by simp) o e⟩
 item:=by
  intro X hP hw hK hc i pins s σ H E I hf st hg;subst hP hw hK;obtain ⟨⟨old,he⟩,h1⟩:=st;obtain ⟨xs,x,hqa,hx⟩:=hg;obtain ⟨its1,rv1,p1,hz1⟩:=I.list hqa;obtain ⟨u1,hu1,ru1⟩:=rv1.get hx;refine wpAny_pyNext_enum_item he h1 p1.isList (x:=u1) (by simpa using hu1) vj fun h' a1 a2 a3 a4 hk=>?_;have uQ:e<s.heap.objs.size:=yZ he;refine ⟨_,rfl,wpAny_letOwnedTupleGo_enum a1 fun vZ hz'' xx=>?_⟩;have keep:∀ c o,c∉[e,it]->s.heap.get? c=some o->vZ.get? c=some o:=fun c o hc e'=>by
   simp at hc;exact xx.extBut c o hc.1 (hk c o hc.1 hc.2 e')
  have tup:vZ.get? s.heap.objs.size=some { cls:=.type "tuple",data:=.seq #[.int i s.toks,u1] }:=xx.extBut _ _ (Nat.ne_of_gt uQ) a3;have hn:H s.heap.objs.size=none:=I.hok.fresh (zp _);refine ⟨.ref s.heap.objs.size,upd H s.heap.objs.size (.tup [.int i,x]),I.turnNew (t':=s.toks+1) (ch:=[e,it]) (zp _) keep hf ?_,rfl,⟨_,x,rfl,hn,rfl,fun zs hzs=>by rw [I.list_inj hzs hqa];exact hx⟩,?_,fun c hc=>?_⟩
  ·exact ⟨two_line,[.int i s.toks,u1],.cons ⟨_,rfl⟩ (.cons ru1 .nil),⟨_,tup,rfl,_,rfl⟩⟩
  ·exact ⟨⟨_,by simpa using hz''⟩,a2.extBut xx.extBut (Ne.symm vj)⟩
  ·have:c≠s.heap.objs.size:=by
    obtain ⟨o,ho,_⟩ : ∃ o,s.heap.get? c=some o/\True:=by
     simp at hc;rcases hc with rfl | rfl
     ·exact ⟨_,he,trivial⟩
     ·obtain ⟨o,e,_⟩:=h1;exact ⟨o,e,trivial⟩
    exact zJ (yZ ho)
   rw [av this];exact (hf c hc).1
 done:=by
  intro X hP hw hK hc i pins s σ H E I hf st hg;subst hP hw hK;obtain ⟨⟨old,he⟩,h1⟩:=st;obtain ⟨xs,hqa,hend⟩:=hg;obtain ⟨its1,rv1,p1,hz1⟩:=I.list hqa;have l1:=rv1.length;exact wpAny_pyNext_enum_end (I.ok.hd hc) he h1 p1.isList (by simp;omega) fun h' hk=>⟨rfl,I.turnedL (t':=s.toks) (ch:=[e,it]) (fun c o yF e'=>by
    simp at yF;exact hk c o yF.2 e') hf⟩
 self:=fun _ _ _ _ _ st h=>by obtain ⟨⟨old,he⟩,_⟩:=st;exact wpAny_pyIter_enum he h
noncomputable def iEnum (K:Frag) (ta:TA):TI:=fun σ H R=>ta σ H fun vs H1=>∃ a xs,vs=[.ref a]/\H1 a=some (.lst xs)/\R (Ite K a) H1
theorem pi_enum {a:Expr} {ta:TA} {p pos:Pos} (hg:Gl X "enumerate") (hm:X.mg "enumerate" = none) (ha:PA X [a] ta) (hs:starEach [a] X.env=[(false,eval a X.env)]:=by rfl) :
  PI X (.Tuple elts k tp) (.Call (.Name "enumerate" p) [a] [] pos) (iEnum X.K ta):=by
 intro pins s σ H R I h;refine Call_ (jK I hg hm boot_enumerate (callWith_type1 (thn (ha pos pins s σ H _ I h) fun us s1 ⟨vs,H1,I1,r1,q1⟩=>?_) hs rfl));obtain ⟨x,xs,e,hx,q⟩:=q1;subst e;cases r1 with
 | cons r rr=>
  cases rr;cases r;obtain ⟨z,its,n,rv,eo⟩:=I1.hok x _ hx;refine call_enumerate_1 eo fun h' a1 a2 a3 kk=>?_;refine wpAny_pyIter_enum a1 ?_;refine ⟨_,_,_,_,H1,rfl,I1.kept (t':=s1.toks) kk,turn_enum x (s1.heap.objs.size+1) s1.heap.objs.size (Nat.succ_ne_self _),⟨⟨_,a1⟩,a2⟩,fun c hc=>?_,q⟩;have:s1.heap.objs.size<=c:=by
   simp at hc;rcases hc with rfl | rfl <;> omega
  exact I1.fpOk this (I1.hok.fresh this)
end
end L2
namespace Ew
open PySem PySem.Spec L2
section
variable {X:Cx} {elts:List Expr} {k:Nat} {tp:Pos}
noncomputable def izip (fa:DSt->Option (List R)):DSt->Option (List D):=fun δ=>(fa δ).bind fun rs=>match rs with
 | [r,s]=>if r.isBw=true\/s.isBw=true then none else match r.view,s.view with
  | .lst xs,.lst ys=>some (List.zipWith (fun x y=>.tup [x,y]) xs ys)
  | _,_=>none
 | _=>none
noncomputable def mU (fa:DSt->Option (List R)):DSt->Option (List D):=fun δ=>(fa δ).bind fun rs=>match rs with
 | [r]=>if r.isBw=true then none else match r.view with
  | .lst xs=>some (List.zipWith (fun (k:Nat) x=>.tup [.int k,x]) (List.range xs.length) xs)
  | _=>none
 | _=>none
theorem rep_tup2 {H:Hp} {p:Addr} {x y:V} {dx dy:D} (h:H p=some (.tup [x,y])) (r1:Rep H dx x) (r2:Rep H dy y):Rep H (.tup [dx,dy]) (.ref p):=by
 unfold Rep;exact ⟨p,_,rfl,h,.cons r1 (.cons r2 .nil)⟩
theorem di_enum {a:Expr} {fa:DSt->Option (List R)} {p pos:Pos} (hg:Gl X "enumerate") (hm:X.mg "enumerate" = none) (ha:DA X [a] fa) (hs:starEach [a] X.env=[(false,eval a X.env)]:=by rfl) :
  DI X (.Tuple elts k tp) (.Call (.Name "enumerate" p) [a] [] pos) (mU fa):=.mk <|
 (pi_enum hg hm ha.go hs).weak fun σ H R0 ⟨Hs,δ,items,S,En,e,K⟩=>by
  unfold mU at e;cases ef:fa δ with
  | none=>rw [ef] at e;cases e
  | some rs=>
   rw [ef] at e;refine ⟨Hs,δ,rs,S,En,ef,fun vs uq H1 W1 R1=>?_⟩
   match rs,e,R1 with
   | [r],e,⟨v,t,ev,q1,q2⟩=>
    have q2:t=[]:=q2;subst q2;subst ev;by_cases hb:r.isBw=true
    ·simp only [Option.bind,if_pos hb] at e;cases e
    ·simp only [Option.bind,if_neg hb] at e;obtain ⟨uv,q,W2⟩:=q1.share W1 (fun ds z=>hb (by rw [z];rfl));cases hr:r.view with
     | lst xs=>
      rw [hr] at e q;cases e;unfold Rep at q;obtain ⟨a1,wZ,rfl,g1,g2⟩:=q;refine ⟨a1,wZ,rfl,W2.sub _ _ g1,K _ uv H1 W2 ?_⟩;intro i ue H5 S1 S2;have hH1:=S2 _ _ (S1 _ _ g1);refine ⟨fun d hd=>?_,fun hl=>⟨wZ,.of hH1,by rw [g2.length];simpa using hl⟩⟩;rw [List.getElem?_zipWith] at hd;cases ex:xs[i]? with
      | none=>rw [ex] at hd;simp at hd
      | some dx=>
       have hi:i<xs.length:=(yX.mp ex).1;rw [ex,List.getElem?_range hi] at hd;simp at hd;subst hd;obtain ⟨w1,hw1,rw1⟩:=g2.get ex;refine ⟨⟨wZ,w1,.of hH1,hw1⟩,fun x H' yl=>?_⟩;obtain ⟨pp,x1,rfl,hpp,rfl,z1⟩:=yl;have z1:=z1 wZ (.of hH1);rw [hw1] at z1;cases z1;have nw:aQ ue (L2.upd ue pp (.tup [.int i,w1])):=.new (S2.free hpp);exact ⟨L2.upd ue pp (.tup [.int i,w1]),.lay S2 hpp,rep_tup2 aw (by unfold Rep;rfl) (Rep.mono (S1.trans nw) _ rw1)⟩
     | _=>rw [hr] at e;cases e
end
theorem StR.upd {H0 uw Hs H:Hp} {δ:DSt} {σ:St} {i:Nat} {ds vD:List D} {a:Addr} {vs uH:List V} (W:Wd H0 uw Hs H) (S:StR H0 Hs H δ σ) (q:δ[i]?=some (some (.ow ds))) (hv:σ[i]?=some (some (.ref a)))
  (h1:H a=some (.lst vs)) (m:Hs a=none) (r:aB Hs vD uH):Wd H0 uw Hs (L2.upd H a (.lst uH))/\StR H0 Hs (L2.upd H a (.lst uH)) (δ.set i (some (.ow vD))) σ:=by
 have:=S.upG (Hs':=Hs) (H':=L2.upd H a (.lst uH)) (e':=.ow vD) (v':=.ref a) W q hv (fun b o n e=>by
  have:b≠a:=fun z=>n (by rw [z];rfl);rw [av this];exact e) (fun b o e=>by rw [av (aK e m)];exact W.sub _ _ e) (.refl _) (fun _ _ e=>.inl e) ⟨a,uH,rfl,m,aw,r⟩ (fun b f=>.inl f)
 rw [set_same hv] at this;exact this
noncomputable def cR (i:Nat) (f:FE):FS:=fun δ=>match δ[i]? with
 | some (some (.ow ds))=>(f δ).bind fun r=>if r.isBw=true then none else if ds.length<=big then some (.nx (δ.set i (some (.ow (ds++[r.view]))))) else none
 | _=>none
noncomputable def sext (i:Nat) (f:FE):FS:=fun δ=>match δ[i]? with
 | some (some (.ow ds))=>(f δ).bind fun r=>match r.view with
  | .lst es=>if ds.length+es.length<=big then some (.nx (δ.set i (some (.ow (ds++es))))) else none
  | _=>none
 | _=>none
section
variable {X:Cx} {e:Expr} {f:FE}
theorem cE {i:Nat} {x:Str} {xp apos tQ pos:Pos} (hx:PE X (.Name x xp) (kX i)) (he:DE X e f)
  (uy:attributeBase (.Name x xp) "append" X.env (eval (.Name x xp) X.env)=eval (.Name x xp) X.env:=by rfl)
  (vc:((backTo tQ (starEach [e] X.env)).all (fun x=>!x.1)&&(backToKw tQ (keywordEach [] X.env)).all (fun x=>x.1.isSome)
   &&decide ([e].length+([]:List Keyword).length+(if ([]:List Keyword).isEmpty then 0 else 1)<30))=true:=by rfl)
  (uz:(apos.endLine==tQ.line)=true:=by rfl) (hs:starEach [e] X.env=(false,eval e X.env)::starEach [] X.env:=by rfl)
  (uE:swapsWith (.Call (.Attribute (.Name x xp) "append" apos) [e] [] tQ) none pos.line X.env=pure false:=by rfl) :
  DS X (.Expr (.Call (.Attribute (.Name x xp) "append" apos) [e] [] tQ) pos) (cR i f):=.mk fun H0 uw=>
 (ja (pe_bm plainAttrs_list PySem.F.slot_list_append PySem.F.type_list_append k7 hx (bO he.go dl hs) uy vc uz hs) uE).weak fun D σ H ⟨Hs,δ,res,W,S,e,P⟩=>by
  unfold cR at e;cases q:δ[i]? with
  | none=>rw [q] at e;cases e
  | some o=>
   rw [q] at e
   match o,e with
   | some (.ow ds),e=>
    obtain ⟨v,hv,a,vs,rfl,m,h1,h2⟩:=S.ent i _ q;cases ef:f δ with
    | none=>simp only [ef] at e;cases e
    | some r=>
     simp only [ef,Option.bind] at e;by_cases hb:r.isBw=true
     ·rw [if_pos hb] at e;cases e
     ·rw [if_neg hb] at e;by_cases hz:ds.length<=big
      ·rw [if_pos hz] at e;cases e;refine ⟨_,hv,.inl ⟨rfl,vs,.of h1⟩,Hs,δ,r,W.sub,S.ent,ef,fun y uq H1 W1 R1=>?_⟩;obtain ⟨uv,g,W2⟩:=R1.share W1 (fun ds z=>hb (by rw [z];rfl));have S2:=S.mono W2;refine ⟨a,vs,y,rfl,rfl,W2.keep _ _ h1,?_,?_⟩
       ·rw [h2.length];exact ck hz
       ·obtain ⟨W3,S3⟩:=S2.upd (W.trans W2) q hv (W2.keep _ _ h1) (W2.stay h1 m) ((aB.mono W2.base _ h2).append (.cons g .nil));exact P σ uv _ W3 S3
      ·rw [if_neg hz] at e;cases e
theorem o3 {i:Nat} {x:Str} {xp apos tQ pos:Pos} (hx:PE X (.Name x xp) (kX i)) (he:DE X e f)
  (uy:attributeBase (.Name x xp) "extend" X.env (eval (.Name x xp) X.env)=eval (.Name x xp) X.env:=by rfl)
  (vc:((backTo tQ (starEach [e] X.env)).all (fun x=>!x.1)&&(backToKw tQ (keywordEach [] X.env)).all (fun x=>x.1.isSome)
   &&decide ([e].length+([]:List Keyword).length+(if ([]:List Keyword).isEmpty then 0 else 1)<30))=true:=by rfl)
  (uz:(apos.endLine==tQ.line)=true:=by rfl) (hs:starEach [e] X.env=(false,eval e X.env)::starEach [] X.env:=by rfl)
  (uE:swapsWith (.Call (.Attribute (.Name x xp) "extend" apos) [e] [] tQ) none pos.line X.env=pure false:=by rfl) :
  DS X (.Expr (.Call (.Attribute (.Name x xp) "extend" apos) [e] [] tQ) pos) (sext i f):=.mk fun H0 uw=>
 (ja (pe_bm plainAttrs_list PySem.F.slot_list_extend PySem.F.type_list_extend mt_extend hx (bO he.go dl hs) uy vc uz hs) uE).weak fun D σ H ⟨Hs,δ,res,W,S,e,P⟩=>by
  unfold sext at e;cases q:δ[i]? with
  | none=>rw [q] at e;cases e
  | some o=>
   rw [q] at e
   match o,e with
   | some (.ow ds),e=>
    obtain ⟨v,hv,a,vs,rfl,m,h1,h2⟩:=S.ent i _ q;cases ef:f δ with
    | none=>simp only [ef] at e;cases e
    | some r=>
     simp only [ef,Option.bind] at e;refine ⟨_,hv,.inl ⟨rfl,vs,.of h1⟩,Hs,δ,r,W.sub,S.ent,ef,fun y uq H1 W1 R1=>?_⟩;have vw:=R1.view;cases hr:r.view with
     | lst es=>
      rw [hr] at e vw;replace e:(if ds.length+es.length<=big then some (Res.nx (δ.set i (some (.ow (ds++es))))) else none)=some res:=e;by_cases hz:ds.length+es.length<=big
      ·rw [if_pos hz] at e;cases e;obtain ⟨b,us,rfl,g1,g2⟩:=vw.lst W1.sub;have S2:=S.mono W1;refine ⟨a,b,vs,us,rfl,rfl,W1.keep _ _ h1,g1,?_,?_⟩
       ·rw [h2.length,g2.length];exact Ac (ck hz)
       ·obtain ⟨W3,S3⟩:=S2.upd (W.trans W1) q hv (W1.keep _ _ h1) (W1.stay h1 m) ((aB.mono W1.base _ h2).append g2);exact P σ uq _ W3 S3
      ·rw [if_neg hz] at e;cases e
     | _=>rw [hr] at e;cases e
noncomputable def ma (g:Int->Int->Int) (i:Nat) (f:FE):FS:=fun δ=>match δ[i]? with
 | some (some (.sh (.int a)))=>(f δ).bind fun r=>match r with
  | .sh (.int b)=>some (.nx (δ.set i (some (.sh (.int (g a b))))))
  | _=>none
 | _=>none
theorem ds_aug {i:Nat} {x:Str} {op:Operator} {g:Int->Int->Int} {pos pos':Pos} (hN:X.N.Nodup) (hi:X.N[i]?=some x) (hx:Loc X.env.scope x) (he:DE X e f) (ho:PIp X op (ipI g))
  (hf:X.fn x=true\/X.env.scope.names.lookup x=some .local:=by first | exact .inl rfl | exact .inr rfl | assumption):DS X (.AugAssign (.Name x pos') op e pos) (ma g i f):=.mk fun H0 uw=>
 (ps_aug hN hi hx he.go ho hf).weak fun D σ H ⟨Hs,δ,res,W,S,e,P⟩=>by
  unfold ma at e;cases q:δ[i]? with
  | none=>rw [q] at e;cases e
  | some o=>
   rw [q] at e
   match o,e with
   | some (.sh (.int a)),e=>
    obtain ⟨v,hv,hr⟩:=S.ent i _ q;have hr:Rep Hs (.int a) v:=hr;unfold Rep at hr;subst hr;refine ⟨_,hv,?_⟩;cases ef:f δ with
    | none=>simp only [ef] at e;cases e
    | some r=>
     simp only [ef,Option.bind] at e;refine ⟨Hs,δ,r,W.sub,S.ent,ef,fun y uq H1 W1 R1=>?_⟩
     match r,e,R1 with
     | .sh (.int b),e,R1=>
      cases e;have R1:Rep uq (.int b) y:=R1;unfold Rep at R1;exact ⟨a,b,rfl,R1,P _ uq H1 (W.trans W1) (S.set (r:=.sh (.int (g a b))) W W1 (shI _ _ _ _) rfl)⟩
end
section
variable {X:Cx}
theorem c_rng1:cJ X (.type "range") (fun xs H Q=>∃ j:Int,xs=[.int j]/\∀ r,H r=none->Q (.ref r) (L2.upd H r (.rng 0 j))):=by
 intro pins s σ H xs us Q I rv h;obtain ⟨j,rfl,q⟩:=h;obtain ⟨u,rfl,t,rfl⟩:=rv.one;refine call_range_1 ?_;exact ⟨.ref s.heap.objs.size,_,I.laid (o:=.rng 0 j) (fun b o e=>yV _ e) (zp _) ⟨_,_,_,zg _ rfl⟩,rfl,q _ (I.hok.fresh (zp _))⟩
theorem c_listR (hc:X.calm=true):cJ X (.type "list") (fun xs H Q=>∃ r lo hi,xs=[.ref r]/\H r=some (.rng lo hi)/\(-1000000<=lo/\lo<=1000000/\-1000000<=hi/\hi<=1000000)/\
  ∀ l,H l=none->Q (.ref l) (L2.upd H l (.lst ((List.range (hi-lo).toNat).map fun k=>V.int (lo+(k:Nat)))))):=by
 intro pins s σ H xs us Q I rv h;obtain ⟨r,lo,hi,rfl,h1,⟨b1,b2,b3,b4⟩,q⟩:=h;obtain ⟨u,rfl,ru⟩:=rv.one;cases (show u=Value.ref r from ru);obtain ⟨t,u,v,e⟩:=(show ∃ t u v,s.heap.get? r=some { cls:=.type "range",data:=.fields #[.int lo t,.int hi u,.int 1 v] } from I.hok r _ h1);have e2:Builtin.Range.rangeSize lo hi 1=(((hi-lo).toNat:Nat):Int):=by rw [rangeSize_one];split <;> omega
 refine call_list_range (I.ok.hd hc) e (small_one (by omega) (by omega) (by omega) (by omega)) e2 (by omega) fun h' tk tT c' kk ho vQ=>?_;obtain ⟨hs,vP⟩:=vQ;have hv:aT ((List.range (hi-lo).toNat).map fun k=>V.int (lo+(k:Nat))) tT.toList:=by
  have gen:∀ (n:Nat) (a:Int) (l:List Value),l.length=n->(∀ (j:Nat) (v:Value),l[j]?=some v->∃ t,v=Value.int (a+(j:Nat)) t)->aT ((List.range n).map fun k=>V.int (a+(k:Nat))) l:=by
   intro n
   induction n with
   | zero=>intro a l hl _;rw [List.length_eq_zero_iff.mp hl];exact .nil
   | succ n ih=>
    intro a l hl vP;cases l with
    | nil=>cases hl
    | cons v l=>
     rw [List.range_succ_eq_map,zb,zV];obtain ⟨t,ht⟩:=vP 0 v rfl;refine .cons ⟨t,by simpa using ht⟩ ?_;have:=ih (a+1) l (by simpa using hl) fun j w hw=>by
      obtain ⟨t,ht⟩:=vP (j+1) w (by simpa using hw);exact ⟨t,by rw [ht];congr 1;push_cast;omega⟩
     have e3:((fun k:Nat=>V.int (a+(k:Nat)))∘Nat.succ)=fun k:Nat=>V.int (a+1+(k:Nat)):=by
      funext k;show V.int _=V.int _;congr 1
      push_cast
      omega
     rw [e3];exact this
  refine gen _ lo tT.toList (by simpa using hs) fun j v hj=>?_;obtain ⟨t,ht⟩:=vP j v (by simpa using hj);exact ⟨t,by rw [ht];congr 1;omega⟩
 refine ⟨.ref s.heap.objs.size,_,I.laid (t':=tk) (o:=.lst _) kk (zp _) ⟨?_,tT.toList,c',hv,by simpa using ho⟩,rfl,q _ (I.hok.fresh (zp _))⟩;rw [uk,List.length_range,PySem.sizeLine_eq];omega
noncomputable def rngD (lo hi:Int):Option R:=if -1000000<=lo/\lo<=1000000/\-1000000<=hi/\hi<=1000000 then some (.fr ((List.range (hi-lo).toNat).map fun k=>.int (lo+(k:Nat)))) else none
noncomputable def ko (fa:DSt->Option (List R)):FE:=fun δ=>(fa δ).bind fun rs=>match rs with
 | [.sh (.int j)]=>rngD 0 j
 | _=>none
theorem qV {H:Hp} (lo:Int):∀ l:List Nat,aB H (l.map fun k=>D.int (lo+(k:Nat))) (l.map fun k=>V.int (lo+(k:Nat)))
 | []=>.nil
 | k::l=>.cons (by unfold Rep;rfl) (qV lo l)
theorem rng_end {σ:St} {H Hs uq H1:Hp} {lo hi:Int} {r:R} {Q:VK} (W1:Wd H Hs uq H1) (e:rngD lo hi=some r) (K:∀ v Hs' H',Wd H Hs Hs' H'->dP H Hs' H' r v->Q v H') {p:Addr} (hp:H1 p=none) :
  ∃ r' ym wC,[V.ref p]=[V.ref r']/\(L2.upd H1 p (.rng lo hi)) r'=some (.rng ym wC)/\(-1000000<=ym/\ym<=1000000/\-1000000<=wC/\wC<=1000000)/\
   ∀ l,(L2.upd H1 p (.rng lo hi)) l=none->Q (.ref l) (L2.upd (L2.upd H1 p (.rng lo hi)) l (.lst ((List.range (wC-ym).toNat).map fun k=>V.int (ym+(k:Nat))))):=by
 unfold rngD at e;by_cases hc:-1000000<=lo/\lo<=1000000/\-1000000<=hi/\hi<=1000000
 ·rw [if_pos hc] at e;cases e;refine ⟨p,lo,hi,rfl,aw,hc,fun l hl=>?_⟩;have W2:Wd H Hs uq (L2.upd H1 p (.rng lo hi)):=W1.trans (.fresh W1.sub hp);exact K _ uq _ (W2.trans (.fresh W2.sub hl)) ⟨l,_,rfl,W2.keep.free hl,W2.sub.free hl,aw,qV lo _⟩
 ·rw [if_neg hc] at e;cases e
theorem qW {a:Expr} {fa:DSt->Option (List R)} {p1 p2 vi tV:Pos} (hc:X.calm=true) (ha:DA X [a] fa) (hg:Gl X "list") (hm:X.mg "list" = none) (uo:Gl X "range") (xF:X.mg "range" = none)
  (hs:starEach [a] X.env=[(false,eval a X.env)]:=by rfl)
  (uF:starEach [.Call (.Name "range" p2) [a] [] tV] X.env=[(false,eval (.Call (.Name "range" p2) [a] [] tV) X.env)]:=by rfl) :
  DE X (.Call (.Name "list" p1) [.Call (.Name "range" p2) [a] [] tV] [] vi) (ko fa):=.mk <|
 (jb (c_listR hc) hg hm boot_list (bO (jb c_rng1 uo xF boot_range ha.go (he:=hs)) dl uF) (he:=uF)).weak fun σ H Q ⟨Hs,δ,r,S,En,e,K⟩=>by
  unfold ko at e;cases ef:fa δ with
  | none=>rw [ef] at e;cases e
  | some rs=>
   rw [ef] at e;refine ⟨Hs,δ,rs,S,En,ef,fun vs uq H1 W1 R1=>?_⟩
   match rs,e,R1 with
   | [.sh (.int j)],e,⟨v,t,ev,q1,q2⟩=>
    have q2:t=[]:=q2;have q1:Rep uq (.int j) v:=q1;unfold Rep at q1;exact ⟨j,by rw [ev,q1,q2],fun p hp=>rng_end (σ:=σ) W1 e K hp⟩
def eO:D->Option R
 | .int i=>some (.sh (.int (-i)))
 | _=>none
theorem gT {a:Expr} {f:FE} {pos:Pos} (h:DE X a f):DE X (.UnaryOp .USub a pos) (dun eO f):=.mk <| (pe_un un_neg h.go).weak fun σ H Q hh=>by
 obtain ⟨Hs,δ,r,S,En,e,K⟩:=hh;unfold dun at e;cases ef:f δ with
 | none=>rw [ef] at e;cases e
 | some rf=>
  rw [ef] at e;refine ⟨Hs,δ,rf,S,En,ef,fun x uq H1 W1 R1=>?_⟩;have vw:=R1.view;cases hv:rf.view with
  | int i=>
   rw [hv] at vw;simp only [Option.bind,hv,eO] at e;cases e;exact ⟨i,vw.int,K _ uq H1 W1 (shI _ _ _ _)⟩
  | _=>simp only [Option.bind,hv,eO] at e;cases e
end
end Ew
end
section
namespace L2
open PySem PySem.Spec PyProof.Rows
section
variable {X:Cx}
noncomputable def tRev (K:Frag) (te ts:TE):TE:=fun σ H Q=>te σ H fun x H1=>ts σ H1 fun st H2=>st=.int (-1)/\∃ a xs,x=.ref a/\SqL K H2 a xs/\∀ p,H2 p=none->Q (.ref p) (upd H2 p (.lst xs.reverse))
theorem pe_rev {e step:Expr} {te ts:TE} {p2 pos:Pos} (he:PE X e te) (uh:PE X step ts):PE X (.Subscript e (.Slice none none (some step) p2) pos) (tRev X.K te ts):=by
 intro pins s σ H Q I h;refine Subscript_ (thn (he pins s σ H _ I h) fun v s1 ⟨x,H1,I1,r1,q1⟩=>?_);refine wpAny_Slice ?_;rw [evalPart_none];refine uc (uc ?_);rw [evalPart_some];refine thn (uh pins s1 σ H1 _ I1 q1) fun u s2 ⟨y,H2,I2,r2,e2,a,xs,ex,hx,q2⟩=>?_;subst e2;subst ex;cases r1;obtain ⟨t,rfl⟩:=r2;have I4:Inv X pins σ H2 { s2 with heap:=s2.heap.push { cls:=.type "slice",data:=.fields #[.none,.none,.int (-1) t] } }:=I2.kept (t':=s2.toks) fun b ob q=>yV _ q;obtain ⟨its,r,ht,hz⟩:=I4.list hx;have hlen:=r.length;show wpAny (model X.prog X.w) X.A (subscriptTail e (.Slice none none (some step) p2) (.ref a) (.ref s2.heap.objs.size)) (EP X pins σ Q) X.xe { s2 with heap:=s2.heap.push { cls:=.type "slice",data:=.fields #[.none,.none,.int (-1) t] } };refine tail_any (ops:=[.ref a,.ref s2.heap.objs.size]) ht.isList.typeIs slot_list_getitem.lookup ?_ (by with_unfolding_all rfl);refine wpAny_getItem_list_slice ht.isList (Heap.IsSliceOf.new ..) .none .none (.int (-1) t) (by simp) ?_ (by rw [zf] <;> omega);rw [PySem.W.krv_pick];refine ⟨.ref _,_,I4.laid (t':=s2.toks) (o:=.lst xs.reverse) (fun b ob q=>yV _ q) (zp _) ?_,rfl,q2 _ (I4.hok.fresh (zp _))⟩;exact ⟨by rw [List.length_reverse];exact hz,its.reverse,0,r.reverse,zg _ rfl⟩
end
end L2
namespace Ew
open PySem PySem.Spec L2
section
variable {X:Cx}
noncomputable def drev (f fs:FE):FE:=fun δ=>(f δ).bind fun r=>(fs δ).bind fun s=>match r.view,s with
 | .lst ds,.sh (.int (-1))=>some (.fr ds.reverse)
 | _,_=>none
theorem de_rev {e step:Expr} {f fs:FE} {p2 pos:Pos} (he:DE X e f) (uh:DE X step fs):DE X (.Subscript e (.Slice none none (some step) p2) pos) (drev f fs):=.mk <|
 (pe_rev he.go uh.go).weak fun σ H Q ⟨Hs,δ,r,S,En,e,K⟩=>by
  unfold drev at e;cases ef:f δ with
  | none=>rw [ef] at e;cases e
  | some rf=>
   cases es:fs δ with
   | none=>rw [ef,es] at e;cases e
   | some rs=>
    rw [ef,es] at e;refine ⟨Hs,δ,rf,S,En,ef,fun x uq H1 W1 R1=>⟨uq,δ,rs,W1.sub,En.mono W1,es,fun y uv H2 W2 R2=>?_⟩⟩;have vw:=(R1.mono W2).view;cases hv:rf.view with
    | lst ds=>
     rw [hv] at vw
     match rs,e,R2 with
     | .sh (.int k),e,R2=>
      simp only [Option.bind,hv] at e;have R2:Rep uv (.int k) y:=R2;unfold Rep at R2;by_cases hk:k=-1
      ·subst hk;cases e;obtain ⟨a,vs,rfl,h1,h2⟩:=vw.lst W2.sub;have wF:=W1.trans W2;exact ⟨R2,a,vs,rfl,.of h1,fun p hp=>K _ uv _ (wF.trans (.fresh W2.sub hp)) ⟨p,_,rfl,wF.keep.free hp,W2.sub.free hp,aw,h2.reverse⟩⟩
      ·exfalso;revert e;split
       ·rename_i h1 h2;simp at h2;omega
       ·intro z;cases z
     | .sh .non,e,_=>simp only [Option.bind,hv] at e;cases e
     | .sh (.bl _),e,_=>simp only [Option.bind,hv] at e;cases e
     | .sh (.str _),e,_=>simp only [Option.bind,hv] at e;cases e
     | .sh (.lst _),e,_=>simp only [Option.bind,hv] at e;cases e
     | .sh (.tup _),e,_=>simp only [Option.bind,hv] at e;cases e
     | .sh (.obj _ _),e,_=>simp only [Option.bind,hv] at e;cases e
     | .fr _,e,_=>simp only [Option.bind,hv] at e;cases e
     | .bw _,e,_=>simp only [Option.bind,hv] at e;cases e
    | _=>simp only [Option.bind,hv] at e;cases e
inductive TyD (K:Frag):D->Value->Prop where
 | non:TyD K .non (.type "NoneType")
 | bl (x:Bool):TyD K (.bl x) (.type "bool")
 | int (i:Int):TyD K (.int i) (.type "int")
 | str (x:Str):TyD K (.str x) (.type "str")
 | lst (xs:List D):TyD K (.lst xs) (.type "list")
 | tup (xs:List D):TyD K (.tup xs) (.type "tuple")
 | obj {C:Addr} (fs:List (Str×D)) (cl:Cls K C) (ha:findIn K (.ref C) "__class__" = some (some (.builtin "object.__class__")))
  (hn:specialIn K (.builtin "object.__class__") "__get__" = some (some (.builtin "getset_descriptor.__get__"))) (yp:takesIn K (.builtin "object.__class__")=some true)
  (hm:mroIn K C (.type "object")=some true):TyD K (.obj C fs) (.ref C)
theorem TyD.of {K:Frag} {Hs H:Hp} {d:D} {t:Value} {v:V} (S:aQ Hs H) (ty:TyD K d t) (h:View Hs H d v):j9 K H v t:=by
 cases ty with
 | non=>rw [h.non];exact .non
 | bl x=>rw [h.bl];exact .bl x
 | int i=>rw [h.int];exact .int i
 | str x=>rw [h.str];exact .str x
 | lst xs=>obtain ⟨a,vs,rfl,h1,_⟩:=h.lst S;exact .lst h1
 | tup xs=>obtain ⟨a,vs,rfl,h1,_⟩:=h.tup S;exact .tup h1
 | obj fs cl ha hn yp hm=>obtain ⟨a,dx,tR,rfl,h1,_⟩:=h.obj S;exact .ins h1 cl ha hn yp hm
theorem RelV.fn {x:V} {u v:Value} (hx:(∃ n,x=.ty n)\/∃ a,x=.ref a) (a:RelV x u) (b:RelV x v):u=v:=by
 rcases hx with ⟨n,rfl⟩ | ⟨n,rfl⟩
 ·cases (show u=Value.type n from a);cases (show v=Value.type n from b);rfl
 ·cases (show u=Value.ref n from a);cases (show v=Value.ref n from b);rfl
theorem c_isinst:cJ X (.builtin "isinstance") (fun xs H Q=>∃ x c cu t b,xs=[x,c]/\((∃ n,c=.ty n)\/∃ a,c=.ref a)/\RelV c cu/\j9 X.K H x t/\kitOne X.K t cu=some b/\Q (.bl b) H):=by
 intro pins s σ H xs us Q I rv h;obtain ⟨x,c,cu,t,b,rfl,hc,rc,ty,hk,q⟩:=h;obtain ⟨u,u2,rfl,ru,ru2⟩:=rv.two;cases RelV.fn hc rc ru2;exact isinst_ok I ru ty hk fun tk=>⟨.bl b,H,I.tok tk,rfl,q⟩
noncomputable def aF (uA:D->Option Bool) (f:FE):FE:=fun δ=>(f δ).bind fun r=>(uA r.view).map fun b=>.sh (.bl b)
theorem gt {e c:Expr} {f:FE} {cv:V} {cu:Value} {uA:D->Option Bool} {p pos:Pos} (he:DE X e f) (hc:PE X c (tC cv)) (hcv:(∃ n,cv=.ty n)\/∃ a,cv=.ref a) (rc:RelV cv cu)
  (hk:∀ d b,uA d=some b->∃ t,TyD X.K d t/\kitOne X.K t cu=some b) (hg:Gl X "isinstance") (hm:X.mg "isinstance" = none)
  (hs:starEach [e,c] X.env=(false,eval e X.env)::starEach [c] X.env:=by rfl) (uF:starEach [c] X.env=(false,eval c X.env)::starEach [] X.env:=by rfl) (hpl:(backTo pos (starEach [c] X.env)).any (·.1)=false:=by rfl) :
  DE X (.Call (.Name "isinstance" p) [e,c] [] pos) (aF uA f):=.mk <|
 (gk c_isinst hg hm boot_isinstance (bO he.go (bO hc dl uF) hs) (he:=hs) (hpl:=hpl)).weak fun σ H Q ⟨Hs,δ,r,S,En,e,K⟩=>by
  unfold aF at e;cases ef:f δ with
  | none=>rw [ef] at e;cases e
  | some rf=>
   rw [ef] at e;replace e:(uA rf.view).map (fun b=>R.sh (.bl b))=some r:=e;cases ea:uA rf.view with
   | none=>rw [ea] at e;cases e
   | some b=>
    rw [ea] at e;cases e;refine ⟨Hs,δ,rf,S,En,ef,fun x uq H1 W1 R1=>?_⟩;obtain ⟨t,ty,hkk⟩:=hk _ _ ea;exact ⟨x,cv,cu,t,b,rfl,hcv,rc,ty.of W1.sub R1.view,hkk,K _ uq H1 W1 (shB _ _ _ _)⟩
noncomputable def lI (i j:Nat) (fa fb:FE):FS:=fun δ=>(fa δ).bind fun r=>(fb δ).bind fun t=>r.ent.bind fun e1=>t.ent.bind fun e2=>some (.nx ((δ.set i (some e1)).set j (some e2)))
theorem ds_par {i j:Nat} {x y:Str} {a b:Expr} {fa fb:FE} {px py pt pos:Pos} {kt k2 xl} (hc:X.calm=true) (hN:X.N.Nodup) (hi:X.N[i]?=some x) (hj:X.N[j]?=some y) (xG:i≠j)
  (hx:X.env.scope.names.lookup x=some .local) (hy:X.env.scope.names.lookup y=some .local) (ha:DE X a fa) (hb:DE X b fb)
  (hw:swappedStores [.Tuple [.Name x px,.Name y py] kt pt] (.Tuple [a,b] k2 xl) X.env=pure (some [x,y]))
  (hs:swapsWithSole [.Tuple [.Name x px,.Name y py] kt pt] (.Tuple [a,b] k2 xl) pos.line X.env=pure false:=by rfl)
  (hs1:starEach [a,b] X.env=(false,eval a X.env)::starEach [b] X.env:=by rfl) (uF:starEach [b] X.env=(false,eval b X.env)::starEach [] X.env:=by rfl) :
  DS X (.Assign [.Tuple [.Name x px,.Name y py] kt pt] (.Tuple [a,b] k2 xl) pos) (lI i j fa fb):=.mk fun H0 uw=>
 (ps_par hc hN hi hj xG hx hy (bO ha.go (bO hb.go dl uF) hs1) hw hs).weak fun D σ H ⟨Hs,δ,res,W,S,e,P⟩=>by
  unfold lI at e;cases ea:fa δ with
  | none=>rw [ea] at e;cases e
  | some r=>
   cases eb:fb δ with
   | none=>rw [ea,eb] at e;cases e
   | some t=>
    rw [ea,eb] at e;replace e:(r.ent.bind fun e1=>t.ent.bind fun e2=>some (Res.nx ((δ.set i (some e1)).set j (some e2))))=some res:=e;cases er:r.ent with
    | none=>rw [er] at e;cases e
    | some e1=>
     cases et:t.ent with
     | none=>rw [er,et] at e;cases e
     | some e2=>
      rw [er,et] at e;cases e;refine ⟨Hs,δ,r,W.sub,S.ent,ea,fun v uq H1 W1 R1=>⟨uq,δ,t,W1.sub,S.ent.mono W1,eb,fun u uv H2 W2 R2=>?_⟩⟩;refine ⟨v,u,rfl,?_⟩;have wF:=W1.trans W2;have S2:=S.set (i:=i) W wF (R1.mono W2) er;have S3:StR H0 uv H2 ((δ.set i (some e1)).set j (some e2)) ((σ.set i (some v)).set j (some u)):=by
       have R2':dP H1 uv H2 t u:=R2;cases t with
       | sh d=>
        cases et;exact S2.set (i:=j) (r:=.sh d) (W.trans wF) (.refl W2.sub) R2 rfl
       | fr ds=>
        cases et;obtain ⟨p,vs,ep,n1,m,h1,h2⟩:=R2';have S1:=S.set (i:=i) W W1 R1 er;exact S1.set (i:=j) (r:=.fr ds) (W.trans W1) W2 ⟨p,vs,ep,n1,m,h1,h2⟩ rfl
       | bw ds=>cases et
      exact P _ uv H2 (W.trans wF) S3
noncomputable def sasg (f:FE) (g:GD):FS:=fun δ=>(f δ).bind fun r=>match r with
 | .sh d=>(g d δ).map .nx
 | _=>none
theorem ds_asg {tg e:Expr} {f:FE} {ks:List Nat} {g:GD} {pos:Pos} (he:DE X e f) (hg:DG X tg ks g) (hs:swapsWithSole [tg] e pos.line X.env=pure false:=by rfl) (hw:swappedStores [tg] e X.env=pure none:=by rfl)
  (h1:(assignEach [tg] X.env).map (·.2)=[assign tg X.env]:=by rfl):DS X (.Assign [tg] e pos) (sasg f g):=.mk fun H0 uw=>
 (ps_asg he.go hg.go hs hw h1).weak fun D σ H ⟨Hs,δ,res,W,S,e,P⟩=>by
  unfold sasg at e;cases ea:f δ with
  | none=>rw [ea] at e;cases e
  | some r=>
   rw [ea] at e;refine ⟨Hs,δ,r,W.sub,S.ent,ea,fun v uq H1 W1 R1=>?_⟩
   match r,e,R1 with
   | .sh d,e,R1=>
    replace e:(g d δ).map Res.nx=some res:=e;cases eg:g d δ with
    | none=>rw [eg] at e;cases e
    | some δ'=>
     rw [eg] at e;cases e;have S1:=S.mono W1;exact ⟨uq,δ,d,δ',W1.sub,S1.len,R1,eg,fun tO sr=>P tO uq H1 (W.trans W1) (sr.st S1)⟩
end
end Ew
end
section
namespace L2
open PySem PySem.Spec PyProof.Rows
section
variable {X:Cx} {a b c d:Expr} {ta tb tc td:TE} {pos:Pos}
noncomputable def tChain3 (r r' r'':R2) (ta tb tc td:TE):TE:=fun σ H Q=>ta σ H fun x H1=>tb σ H1 fun y H2=>r x y H2 fun z H3=>∃ k,z=.bl k/\
 (if k=true then tc σ H3 fun w H4=>r' y w H4 fun z2 H5=>∃ k2,z2=.bl k2/\(if k2=true then td σ H5 fun w2 H6=>r'' w w2 H6 Q else Q (.bl false) H5) else Q (.bl false) H3)
theorem pe_chain3 {op uI vn:CmpOp} {r r' r'':R2} (ho:OpR X (compareOp op) r) (uC:OpR X (compareOp uI) r') (xC:OpR X (compareOp vn) r'') (ha:PE X a ta) (hb:PE X b tb) (hc:PE X c tc) (hd:PE X d td)
  (hm:lastMarks [op,uI,vn] [b,c,d]=false:=by with_unfolding_all rfl):PE X (.Compare a [op,uI,vn] [b,c,d] pos) (tChain3 r r' r'' ta tb tc td):=by
 intro pins s σ H Q I h;refine Compare_chain (thn (ha pins s σ H _ I h) fun v s1 ⟨x,H1,I1,r1,q1⟩=>chain_link (thn (hb pins s1 σ H1 _ I1 q1) fun u s2 ⟨y,H2,I2,r2,q2⟩=>
  thn (ho pins s2 σ H2 x y v u _ I2 r1 r2 q2) fun d s3 ⟨z,H3,I3,r3,k,e,q3⟩=>?_)) hm
 subst e;cases r3;refine wpAny_truthy_bool ?_;cases k with
 | false=>exact ite_ff ⟨.bl false,H3,I3,rfl,q3⟩
 | true=>
  refine ite_tt (chain_link (thn (hc pins s3 σ H3 _ I3 q3) fun w' s4 ⟨z',H4,I4,r4,q4⟩=>thn (uC pins s4 σ H4 y z' u w' _ I4 r2 r4 q4) fun d2 s5 ⟨z2,H5,I5,r5,k2,e2,q5⟩=>?_));subst e2;cases r5;refine wpAny_truthy_bool ?_;cases k2 with
  | false=>exact ite_ff ⟨.bl false,H5,I5,rfl,q5⟩
  | true=>exact ite_tt (chain_last (thn (hd pins s5 σ H5 _ I5 q5) fun w2 s6 ⟨z3,H6,I6,r6,q6⟩=>xC pins s6 σ H6 z' z3 w' w2 Q I6 r4 r6 q6))
end
end L2
namespace Ew
open PySem PySem.Spec L2
section
variable {X:Cx} {a b c d:Expr} {fa fb fc fd:FE} {pos:Pos} {o o' wI:D->D->Option R}
noncomputable def kq (o o' wI:D->D->Option R) (fa fb fc fd:FE):FE:=fun δ=>(fa δ).bind fun a=>(fb δ).bind fun b=>(o a.view b.view).bind fun r=>match r with
 | .sh (.bl true)=>(fc δ).bind fun c=>(o' b.view c.view).bind fun r2=>match r2 with
  | .sh (.bl true)=>(fd δ).bind fun d=>wI c.view d.view
  | .sh (.bl false)=>some (.sh (.bl false))
  | _=>none
 | .sh (.bl false)=>some (.sh (.bl false))
 | _=>none
theorem tD_chain3 {σ:St} {H:Hp} {Q:VK} (h:tD (kq o o' wI fa fb fc fd) σ H Q):tChain3 (rD o) (rD o') (rD wI) (tD fa) (tD fb) (tD fc) (tD fd) σ H Q:=by
 obtain ⟨Hs,δ,r,S,En,e,K⟩:=h;unfold kq at e;cases ea:fa δ with
 | none=>simp only [ea] at e;cases e
 | some ra=>
  cases eb:fb δ with
  | none=>simp only [ea,eb] at e;cases e
  | some rb=>
   cases eo:o ra.view rb.view with
   | none=>simp only [ea,eb,eo,Option.bind] at e;cases e
   | some ro=>
    simp only [ea,eb,eo,Option.bind] at e;refine ⟨Hs,δ,ra,S,En,ea,fun x uq H1 W1 R1=>⟨uq,δ,rb,W1.sub,En.mono W1,eb,fun y uv H2 W2 R2=>?_⟩⟩;refine ⟨uv,ra.view,rb.view,ro,W2.sub,(R1.mono W2).view,R2.view,eo,fun v tW H3 W3 R3=>?_⟩;have v8:=W1.trans (W2.trans W3)
    match ro,e,R3 with
    | .sh (.bl false),e,R3=>
     cases e;refine ⟨false,unB R3,?_⟩;rw [if_neg zK];exact K _ tW H3 v8 (shB _ _ _ _)
    | .sh (.bl true),e,R3=>
     refine ⟨true,unB R3,?_⟩;rw [if_pos rfl];cases ec:fc δ with
     | none=>simp only [ec] at e;cases e
     | some rc=>
      cases eo2:o' rb.view rc.view with
      | none=>simp only [ec,eo2] at e;cases e
      | some ro2=>
       simp only [ec,eo2] at e;refine ⟨tW,δ,rc,W3.sub,En.mono v8,ec,fun z Hs4 H4 W4 R4=>?_⟩;refine ⟨Hs4,rb.view,rc.view,ro2,W4.sub,((R2.mono W3).mono W4).view,R4.view,eo2,fun v2 ue H5 W5 R5=>?_⟩;have wz:=v8.trans (W4.trans W5)
       match ro2,e,R5 with
       | .sh (.bl false),e,R5=>
        cases e;refine ⟨false,unB R5,?_⟩;rw [if_neg zK];exact K _ ue H5 wz (shB _ _ _ _)
       | .sh (.bl true),e,R5=>
        refine ⟨true,unB R5,?_⟩;rw [if_pos rfl];cases ed:fd δ with
        | none=>simp only [ed] at e;cases e
        | some rd=>
         simp only [ed] at e;refine ⟨ue,δ,rd,W5.sub,En.mono wz,ed,fun z2 Hs6 H6 W6 R6=>?_⟩;refine ⟨Hs6,rc.view,rd.view,r,W6.sub,((R4.mono W5).mono W6).view,R6.view,e,fun v3 xY H7 W7 R7=>?_⟩;exact K v3 xY H7 (wz.trans (W6.trans W7)) (R7.older (wz.keep.trans W6.keep))
theorem de_chain3 {op uI vn:CmpOp} (ho:OpR X (compareOp op) (rD o)) (uC:OpR X (compareOp uI) (rD o')) (xC:OpR X (compareOp vn) (rD wI)) (ha:DE X a fa) (hb:DE X b fb) (hc:DE X c fc) (hd:DE X d fd)
 (hm:lastMarks [op,uI,vn] [b,c,d]=false:=by with_unfolding_all rfl):DE X (.Compare a [op,uI,vn] [b,c,d] pos) (kq o o' wI fa fb fc fd):=.mk <| (pe_chain3 ho uC xC ha.go hb.go hc.go hd.go hm).weak fun _ _ _=>tD_chain3
end
structure Df (K:Frag) (mg:Str->Option Value) (x qual:Str) (st:Stmt) (ps:List Str) (f:Addr) (fd:FuncData):Prop where
 fn:Fun K x qual st f fd
 mgx:mg x=some (.ref f)
 bd:Binds K fd ps []
section
variable {X:Cx} {e:Expr} {es:List Expr} {fr:DSt->Option (List R)} {x:Str} {p pos:Pos} {id T:String}
theorem de_u {qual:Str} {st:Stmt} {ps:List Str} {f:Addr} {fd:FuncData} {k n:Nat} {m:List D->Option D} (d:Df X.K X.mg x qual st ps f fd) (G:dJ X.prog X.w X.K X.mg X.base CX0 k f fd ps (spD n m)) (hr:bx k X.A) (ha:DA X (e::es) fr)
 (hg:Gl X x:=by rfl) (vm:(x==("__debug__" : Str))=false:=by decide) (he:starEach (e::es) X.env=(false,eval e X.env)::starEach es X.env:=by exact bu rfl) (hpl:(backTo pos (starEach es X.env)).any (·.1)=false:=by rfl) :
 DE X (.Call (.Name x p) (e::es) [] pos) (ao n m fr):=.mk <| (mw (E:=E0) G hr hg d.mgx d.fn.kp d.bd .nil oV ha.go vm he hpl).weak fun _ _ _=>tD_call
theorem de_m {C:Addr} {n:Nat} {m:List D->Option D} {fo:FE} (h:PE X e (tMeth C x (spD n m) [] E0 (tD fo) (tDA fr))):DE X e (bW C x n m fo fr):=.mk <| h.weak fun _ _ _=>tD_meth
theorem de_m0 {C:Addr} {n:Nat} {m:List D->Option D} {fo:FE} (h:PE X e (tMeth C x (spD n m) [] E0 (tD fo) tNil)):DE X e (bW C x n m fo ai):=.mk <| h.weak fun σ H Q hq=>by
 obtain ⟨Hs,δ,r,S,En,e,K⟩:=tD_meth (E:=E0) hq;refine ⟨Hs,δ,r,S,En,e,fun x0 uq H1 W1 R1=>?_⟩;obtain ⟨a,dx,fs,e1,h1,h2,uv,uB,rs,S2,En2,e2,K2⟩:=K x0 uq H1 W1 R1;refine ⟨a,dx,fs,e1,h1,h2,?_⟩;cases e2;exact K2 [] uv H1 (.refl S2) rfl
theorem de_b1 {o:D->Option R} (hc:cJ X (.builtin id) (rC1 o)) (hv:bootBuiltins x=some (.builtin id)) (hm:X.mg x=none) (ha:DA X [e] fr) (hg:Gl X x:=by rfl) (hn:x≠"__name__":=by decide) (vm:(x==("__debug__" : Str))=false:=by decide)
 (he:starEach [e] X.env=(false,eval e X.env)::starEach [] X.env:=by rfl):DE X (.Call (.Name x p) [e] [] pos) (aD o fr):=.mk <| (gk hc hg hm hv ha.go hn vm he rfl).weak fun _ _ _=>qQ
theorem gu {e2:Expr} {o:D->D->Option R} (hc:cJ X (.builtin id) (rC2 o)) (hv:bootBuiltins x=some (.builtin id)) (hm:X.mg x=none) (ha:DA X [e,e2] fr) (hg:Gl X x:=by rfl) (hn:x≠"__name__":=by decide) (vm:(x==("__debug__" : Str))=false:=by decide)
 (he:starEach [e,e2] X.env=(false,eval e X.env)::starEach [e2] X.env:=by rfl) (hpl:(backTo pos (starEach [e2] X.env)).any (·.1)=false:=by rfl):DE X (.Call (.Name x p) [e,e2] [] pos) (a0 o fr):=.mk <| (gk hc hg hm hv ha.go hn vm he hpl).weak fun _ _ _=>tD_call2
theorem de_t1 {o:D->Option R} (hc:cJ X (.type T) (rC1 o)) (hv:bootBuiltins x=some (.type T)) (hm:X.mg x=none) (ha:DA X [e] fr) (hg:Gl X x:=by rfl) (hn:x≠"__name__":=by decide) (vm:(x==("__debug__" : Str))=false:=by decide)
 (he:starEach [e] X.env=(false,eval e X.env)::starEach [] X.env:=by rfl):DE X (.Call (.Name x p) [e] [] pos) (aD o fr):=.mk <| (jb hc hg hm hv ha.go hn vm he rfl).weak fun _ _ _=>qQ
end
def isC (C:Addr):Addr->Bool:=fun a=>a==C
theorem isC_of {C a:Addr} (h:isC C a=true):a=C:=by unfold isC at h;simpa using h
end Ew
namespace Ew
def eW:D->Option Bool
 | .int _=>some true
 | .bl _=>some true
 | .obj _ _=>none
 | _=>some false
def is_bool:D->Option Bool
 | .bl _=>some true
 | .obj _ _=>none
 | _=>some false
def dr:D->Option Bool
 | .lst _=>some true
 | .obj _ _=>none
 | _=>some false
def gv:D->Option Bool
 | .tup _=>some true
 | .obj _ _=>none
 | _=>some false
end Ew
end
section
namespace Ew
open PySem PySem.Spec L2
section
variable {δ:DSt} {fa fb fc f:FE} {fr:DSt->Option (List R)} {t u:DSt->Option Bool} {F G:FS}
@[simp] theorem dS (i:Nat):ac i δ=match δ[i]? with
 | some (some (.sh d))=>some (.sh d)
 | some (some (.ow ds))=>some (.bw ds)
 | _=>none:=rfl
@[simp] theorem lf (d:D):ae d δ=some (.sh d):=rfl
@[simp] theorem lg (o:D->D->Option R):af o fa fb δ=(fa δ).bind fun a=>(fb δ).bind fun b=>o a.view b.view:=rfl
@[simp] theorem dun_e (o:D->Option R):dun o fa δ=(fa δ).bind fun a=>o a.view:=rfl
@[simp] theorem dw:al f δ=(f δ).bind R.bool:=rfl
@[simp] theorem dchain_e (o o':D->D->Option R):dQ o o' fa fb fc δ=(fa δ).bind fun a=>(fb δ).bind fun b=>(o a.view b.view).bind fun r=>match r with
 | .sh (.bl true)=>(fc δ).bind fun c=>o' b.view c.view
 | .sh (.bl false)=>some (.sh (.bl false))
 | _=>none:=rfl
@[simp] theorem dchain3_e {fd:FE} (o o' wI:D->D->Option R):kq o o' wI fa fb fc fd δ=(fa δ).bind fun a=>(fb δ).bind fun b=>(o a.view b.view).bind fun r=>match r with
 | .sh (.bl true)=>(fc δ).bind fun c=>(o' b.view c.view).bind fun r2=>match r2 with
  | .sh (.bl true)=>(fd δ).bind fun d=>wI c.view d.view
  | .sh (.bl false)=>some (.sh (.bl false))
  | _=>none
 | .sh (.bl false)=>some (.sh (.bl false))
 | _=>none:=rfl
@[simp] theorem p5:bQ t u δ=(t δ).bind fun c=>if c=true then u δ else some false:=rfl
@[simp] theorem dtOr_e:bP t u δ=(t δ).bind fun c=>if c=true then some true else u δ:=rfl
@[simp] theorem jg:bb t δ=(t δ).map (!·):=rfl
@[simp] theorem dand_e:gN fa fb δ=(fa δ).bind fun r=>match r with
 | .sh (.bl true)=>fb δ
 | .sh (.bl false)=>some (.sh (.bl false))
 | _=>none:=rfl
@[simp] theorem dor_e:dor fa fb δ=(fa δ).bind fun r=>match r with
 | .sh (.bl true)=>some (.sh (.bl true))
 | .sh (.bl false)=>fb δ
 | _=>none:=rfl
@[simp] theorem dnot_e:dnot fa δ=(fa δ).bind fun r=>match r with
 | .sh (.bl b)=>some (.sh (.bl (!b)))
 | _=>none:=rfl
@[simp] theorem dif_e:dif t fa fb δ=(t δ).bind fun k=>if k=true then fa δ else fb δ:=rfl
@[simp] theorem eX:ai δ=some []:=rfl
@[simp] theorem aP:aa fa fr δ=(fa δ).bind fun r=>(fr δ).bind fun rs=>some (r::rs):=rfl
@[simp] theorem dlst_e:bV fr δ=(fr δ).bind fun rs=>if cX rs=true/\rs.length<=big then some (.fr (rs.map R.view)) else none:=rfl
@[simp] theorem dtup_e:bf fr δ=(fr δ).bind fun rs=>if cX rs=true/\rs.length<=big then some (.sh (.tup (rs.map R.view))) else none:=rfl
@[simp] theorem kr (n:Nat) (m:List D->Option D):ao n m fr δ=(fr δ).bind (kg n m):=rfl
@[simp] theorem dcallF_e (n:Nat) (m:List D->Option (List D)):dcallF n m fr δ=(fr δ).bind (mcallF n m):=rfl
@[simp] theorem jh (n:Nat) (m:List D->Option D) (rs:List R):kg n m rs=(m (rs.map R.view)).bind fun d=>if rs.length=n/\(cX rs=true\/d.flat=true) then some (.sh d) else none:=rfl
@[simp] theorem mcallF_e (n:Nat) (m:List D->Option (List D)) (rs:List R):mcallF n m rs=(m (rs.map R.view)).bind fun d=>if rs.length=n/\cX rs=true then some (.fr d) else none:=rfl
@[simp] theorem dfld_e (ok:Addr->Bool) (x:Str):eU ok x fa δ=(fa δ).bind fun r=>match r.view with
 | .obj C fs=>if ok C=true then (fs.lookup x).map .sh else none
 | _=>none:=rfl
@[simp] theorem dmeth_e (C:Addr) (name:Str) (n:Nat) (m:List D->Option D):bW C name n m fa fr δ=(fa δ).bind fun r=>match r.view with
 | .obj C' fs=>if C'=C/\fs.lookup name=none then (fr δ).bind fun rs=>kg n m (r::rs) else none
 | _=>none:=rfl
@[simp] theorem ku (o:D->Option R):aD o fr δ=(fr δ).bind fun rs=>match rs with
 | [r]=>o r.view
 | _=>none:=rfl
@[simp] theorem mV (o:D->D->Option R):a0 o fr δ=(fr δ).bind fun rs=>match rs with
 | [r,s]=>o r.view s.view
 | _=>none:=rfl
@[simp] theorem bH (d:D):(R.sh d).view=d:=rfl
@[simp] theorem view_fr (ds:List D):(R.fr ds).view=.lst ds:=rfl
@[simp] theorem view_bw (ds:List D):(R.bw ds).view=.lst ds:=rfl
@[simp] theorem gU (d:D):(R.sh d).isBw=false:=rfl
@[simp] theorem isBw_fr (ds:List D):(R.fr ds).isBw=false:=rfl
@[simp] theorem isBw_bw (ds:List D):(R.bw ds).isBw=true:=rfl
@[simp] theorem bool_bl (b:Bool):(R.sh (.bl b)).bool=some b:=rfl
@[simp] theorem ent_sh (d:D):(R.sh d).ent=some (.sh d):=rfl
@[simp] theorem ent_fr (ds:List D):(R.fr ds).ent=some (.ow ds):=rfl
@[simp] theorem qX:cX []=true:=rfl
@[simp] theorem o4 (r:R) (rs:List R):cX (r::rs)=(!r.isBw&&cX rs):=rfl
@[simp] theorem flat_bl (b:Bool):(D.bl b).flat=true:=rfl
@[simp] theorem flat_int (b:Int):(D.int b).flat=true:=rfl
@[simp] theorem flat_non:D.non.flat=true:=rfl
@[simp] theorem sret_e:aL f δ=(f δ).bind fun r=>if r.isBw=true then none else some (.rt r):=rfl
@[simp] theorem sretv_e (i:Nat):gp i δ=match δ[i]? with
 | some (some (.ow ds))=>some (.rt (.fr ds))
 | some (some (.sh d))=>some (.rt (.sh d))
 | some (some (.nw d))=>some (.rn d)
 | _=>none:=rfl
@[simp] theorem cq:sif t F G δ=(t δ).bind fun b=>if b=true then F δ else G δ:=rfl
@[simp] theorem dU:aq F G δ=(F δ).bind (Res.thn G):=rfl
@[simp] theorem thn_nx (δ:DSt):Res.thn G (.nx δ)=G δ:=rfl
@[simp] theorem thn_rt (r:R):Res.thn G (.rt r)=some (.rt r):=rfl
@[simp] theorem thn_rn (d:D):Res.thn G (.rn d)=some (.rn d):=rfl
@[simp] theorem sskip_e:aE δ=some (.nx δ):=rfl
@[simp] theorem sset_e (i:Nat):sset i f δ=(f δ).bind fun r=>r.ent.bind fun en=>some (.nx (δ.set i (some en))):=rfl
@[simp] theorem dW (i:Nat):gQ i F δ=F (frz i δ):=rfl
@[simp] theorem run_e (k:Nat) (F:FS) (ds:List D):Ew.run k F ds=match F (ds.map (fun d=>some (.sh d))++List.replicate (k-ds.length) none) with
 | some (.rt r)=>if r.isBw=true then none else some r.view
 | some (.nx _)=>some .non
 | some (.rn d)=>some d
 | _=>none:=rfl
@[simp] theorem isC_self (a:Addr):isC a a=true:=by unfold isC;simp
@[simp] theorem oAdd_ii (i j:Int):aV (.int i) (.int j)=some (.sh (.int (i+j))):=rfl
@[simp] theorem oSub_ii (i j:Int):oSub (.int i) (.int j)=some (.sh (.int (i-j))):=rfl
@[simp] theorem oLt_ii (i j:Int):oLt (.int i) (.int j)=some (.sh (.bl (decide (i<j)))):=rfl
@[simp] theorem oLe_ii (i j:Int):oLe (.int i) (.int j)=some (.sh (.bl (decide (i<=j)))):=rfl
@[simp] theorem oGt_ii (i j:Int):oGt (.int i) (.int j)=some (.sh (.bl (decide (j<i)))):=rfl
@[simp] theorem oGe_ii (i j:Int):oGe (.int i) (.int j)=some (.sh (.bl (decide (j<=i)))):=rfl
@[simp] theorem oLen_l (xs:List D):cc (.lst xs)=some (.sh (.int xs.length)):=rfl
@[simp] theorem oList_l (xs:List D):ki (.lst xs)=some (.fr xs):=rfl
@[simp] theorem oList_t (xs:List D):ki (.tup xs)=some (.fr xs):=rfl
@[simp] theorem oMin2_ii (i j:Int):dg (.int i) (.int j)=some (.sh (.int (if j<i then j else i))):=rfl
@[simp] theorem oMax2_ii (i j:Int):eN (.int i) (.int j)=some (.sh (.int (if j>i then j else i))):=rfl
@[simp] theorem lJ (xs:List D) (i:Int):oIx (.lst xs) (.int i)=(atI xs i).map .sh:=rfl
@[simp] theorem oIx_t (xs:List D) (i:Int):oIx (.tup xs) (.int i)=(atI xs i).map .sh:=rfl
@[simp] theorem dcomp_e (fi:DSt->Option (List D)) (g:GD) (c:DSt->Option Bool) (fe:FE) (m:Nat) (ix:List Nat):bC fi g c fe m ix δ=(fi δ).bind fun items=>if items.length<=big then (cZ g c fe (dIn m ix δ) items).map .fr else none:=rfl
@[simp] theorem cf:aH f δ=(f δ).bind fun r=>if r.isBw=true then none else match r.view with
 | .lst ds=>some ds
 | _=>none:=rfl
@[simp] theorem cyes_e:cN δ=some true:=rfl
theorem cg (g:GD) (c:DSt->Option Bool) (fe:FE) (δ:DSt) {α:Type} (enc:α->D) (p:α->Bool) (out:α->D) (xs:List α)
  (h:∀ x∈xs,∃ δ1,g (enc x) δ=some δ1/\c δ1=some (p x)/\(p x=true->∃ r,fe δ1=some r/\r.isBw=false/\r.view=out x)) :
  cZ g c fe δ (xs.map enc)=some ((xs.filter p).map out):=by
 induction xs with
 | nil=>rfl
 | cons x xs ih=>
  obtain ⟨δ1,h1,h2,h3⟩:=h x yY;have ih:=ih fun y hy=>h y (uf _ hy);rw [zb];unfold cZ;rw [h1];show ((c δ1).bind fun b=>if b=true then (fe δ1).bind fun r1=>if r1.isBw=true then none else (cZ g c fe δ (xs.map enc)).bind fun t=>some (r1.view::t) else cZ g c fe δ (xs.map enc))=_;rw [h2];show (if p x=true then (fe δ1).bind fun r1=>if r1.isBw=true then none else (cZ g c fe δ (xs.map enc)).bind fun t=>some (r1.view::t) else cZ g c fe δ (xs.map enc))=_;by_cases hp:p x=true
  ·obtain ⟨r,e1,e2,e3⟩:=h3 hp;rw [if_pos hp,e1,ih];simp [e2,e3,hp,List.filter_cons]
  ·rw [if_neg hp,ih];simp [hp,List.filter_cons]
theorem fU (i:Int):okD (.int i)=true:=by unfold okD;simp [D.plain,D.py,PyData.canLay0,PyData.depth]
theorem mB (i j:Int):eqP (.int i) (.int j)=decide (i=j):=by unfold eqP;simp [D.py,PyData.eqv];rfl
@[simp] theorem oEq_ii (i j:Int):oEq (.int i) (.int j)=some (.sh (.bl (decide (i=j)))):=by unfold oEq;rw [if_pos ⟨fU i,fU j⟩,mB]
@[simp] theorem p6 (i j:Int):oNe (.int i) (.int j)=some (.sh (.bl (!decide (i=j)))):=by unfold oNe;rw [if_pos ⟨fU i,fU j⟩,mB]
theorem qY (ns:List Int):pys (ns.map .int)=ns.map PyData.int:=by rw [gR,zV];rfl
theorem jO:∀ ds:List D,iJ ds=ds.all D.plain
 | []=>by unfold iJ;rfl
 | d::ds=>by unfold iJ;rw [jO ds];rfl
theorem gf:∀ ds:List PyData,PyData.canLayAll0 ds=ds.all PyData.canLay0
 | []=>by unfold PyData.canLayAll0;rfl
 | d::ds=>by unfold PyData.canLayAll0;rw [gf ds];rfl
theorem iL {k:Nat}:∀ {ds:List PyData},(∀ d∈ds,d.depth<=k)->PyData.depthAll ds<=k
 | [],_=>by unfold PyData.depthAll;exact Ad _
 | d::ds,h=>by
  unfold PyData.depthAll;exact Nat.max_le.mpr ⟨h d yY,iL fun e he=>h e (uf _ he)⟩
theorem qZ {ds:List D} (h:∀ d∈ds,d.plain=true/\d.py.canLay0=true/\d.py.depth<=15):okD (.lst ds)=true:=by
 unfold okD;rw [um,um];refine ⟨?_,?_,?_⟩
 ·unfold D.plain;rw [jO];exact Ag.mpr fun d hd=>(h d hd).1
 ·unfold D.py PyData.canLay0;rw [gf,gR];exact Ag.mpr fun d hd=>by
   obtain ⟨e,he,rfl⟩:=zH.mp hd;exact (h e he).2.1
 ·unfold D.py PyData.depth;refine Av ?_;have:=iL (k:=15) (ds:=pys ds) fun d hd=>by
   rw [gR] at hd;obtain ⟨e,he,rfl⟩:=zH.mp hd;exact (h e he).2.2
  omega
theorem kv (ns:List Int):okD (.lst (ns.map .int))=true:=qZ fun d hd=>by
 obtain ⟨i,_,rfl⟩:=zH.mp hd;obtain ⟨a,b,c⟩:=b6 (fU i);exact ⟨a,b,by unfold D.py PyData.depth;omega⟩
theorem lK:∀ (ns ms:List Int),PyData.eqvAll (ns.map PyData.int) (ms.map PyData.int)=decide (ns=ms)
 | [],[]=>by simp [PyData.eqvAll]
 | [],_::_=>by simp [PyData.eqvAll]
 | _::_,[]=>by simp [PyData.eqvAll]
 | n::ns,m::ms=>by
  simp only [zb,PyData.eqvAll,PyData.eqv,lK ns ms];by_cases h:n=m
  ·subst h;simp
  ·simp [h]
@[simp] theorem oEq_ints (ns ms:List Int):oEq (.lst (ns.map .int)) (.lst (ms.map .int))=some (.sh (.bl (decide (ns=ms)))):=by
 unfold oEq;rw [if_pos ⟨kv ns,kv ms⟩];unfold eqP D.py PyData.eqv;rw [qY,qY,lK]
theorem any_int (i:Int) (ns:List Int):((ns.map D.int).any fun y=>eqP y (.int i))=ns.contains i:=by
 rw [List.any_map,List.contains_eq_any_beq];congr 1;funext y;show eqP (.int y) (.int i)=(i==y);rw [mB,Bool.beq_eq_decide_eq];exact decide_eq_decide.mpr ⟨Eq.symm,Eq.symm⟩
@[simp] theorem oIn_ints (i:Int) (ns:List Int):oIn (.int i) (.lst (ns.map .int))=some (.sh (.bl (ns.contains i))):=by
 show (if okD (D.int i)=true/\okD (D.lst (List.map D.int ns))=true then some (R.sh (D.bl ((ns.map D.int).any fun y=>eqP y (D.int i)))) else none)=_;rw [if_pos ⟨fU i,kv ns⟩,any_int]
@[simp] theorem oNotIn_ints (i:Int) (ns:List Int):oNotIn (.int i) (.lst (ns.map .int))=some (.sh (.bl (!ns.contains i))):=by
 show (if okD (D.int i)=true/\okD (D.lst (List.map D.int ns))=true then some (R.sh (D.bl (!(ns.map D.int).any fun y=>eqP y (D.int i)))) else none)=_;rw [if_pos ⟨fU i,kv ns⟩,any_int]
end
noncomputable def tN (f:DSt->Option D):TE:=fun σ H Q=>∃ Hs δ d,aQ Hs H/\gc Hs H δ σ/\f δ=some d/\∀ v Hs' H' L,Wd H Hs Hs' H'->Own H' d v L->(∀ a∈L,H a=none/\Hs' a=none)->Q v H'
structure DN (X:Cx) (e:Expr) (f:DSt->Option D):Prop where
 go:PE X e (tN f)
noncomputable def tNA (f:DSt->Option (List D)):TA:=fun σ H Q=>∃ Hs δ ds,aQ Hs H/\gc Hs H δ σ/\f δ=some ds/\∀ vs Hs' H' L,Wd H Hs Hs' H'->aJ H' ds vs L->(∀ a∈L,H a=none/\Hs' a=none)->Q vs H'
structure DNA (X:Cx) (es:List Expr) (f:DSt->Option (List D)):Prop where
 go:PA X es (tNA f)
abbrev FN:=DSt->Option D
theorem Own.flat {H Hs:Hp} {d:D} {v:V} (hf:d.flat=true) (h:Rep Hs d v):Own H d v []:=by
 cases d with
 | lst _=>cases hf
 | tup _=>cases hf
 | obj _ _=>cases hf
 | _=>unfold Rep at h;unfold Own;exact ⟨h,rfl⟩
theorem aJ.flat {H Hs:Hp}:∀ {ds:List D} {vs:List V},(ds.all D.flat)=true->aB Hs ds vs->aJ H ds vs []
 | [],_,_,h=>by unfold aB at h;unfold aJ;exact ⟨h,rfl⟩
 | d::ds,_,hf,h=>by
  unfold aB at h;obtain ⟨v,r,e,h1,h2⟩:=h;rw [List.all_cons,um] at hf;unfold aJ;exact ⟨v,r,[],[],e,Own.flat hf.1 h1,aJ.flat hf.2 h2,fun _ z=>(by cases z),rfl⟩
theorem aJ.length {H:Hp}:∀ {ds:List D} {vs:List V} {L:List Addr},aJ H ds vs L->vs.length=ds.length
 | [],_,_,h=>by unfold aJ at h;rw [h.1];rfl
 | d::ds,_,_,h=>by
  unfold aJ at h;obtain ⟨v,r,M,N,e,h1,h2,_⟩:=h;rw [e];simp [aJ.length h2]
noncomputable def R.toN:R->Option D
 | .sh d=>if d.flat=true then some d else none
 | .fr ds=>if ds.all D.flat=true then some (.lst ds) else none
 | .bw _=>none
def gw (f:FE):FN:=fun δ=>(f δ).bind R.toN
section
variable {X:Cx} {e a b c:Expr} {es:List Expr} {f:FE} {g h:FN} {gs:DSt->Option (List D)} {fr:DSt->Option (List R)} {pos:Pos} {n:Nat} {m:List D->Option D} {E:XK}
theorem dP.toN {H0 Hs H:Hp} {r:R} {v:V} {d:D} (h:dP H0 Hs H r v) (e:r.toN=some d):∃ L,Own H d v L/\∀ a∈L,H0 a=none/\Hs a=none:=by
 cases r with
 | sh d'=>
  replace e:(if d'.flat=true then some d' else none)=some d:=e;by_cases hf:d'.flat=true
  ·rw [if_pos hf] at e;cases e;exact ⟨[],Own.flat hf h,fun _ z=>by cases z⟩
  ·rw [if_neg hf] at e;cases e
 | fr ds=>
  replace e:(if ds.all D.flat=true then some (D.lst ds) else none)=some d:=e;by_cases hf:ds.all D.flat=true
  ·rw [if_pos hf] at e;cases e;obtain ⟨a,vs,e1,n1,m1,h1,h2⟩:=h;refine ⟨[a],?_,fun b hb=>?_⟩
   ·unfold Own;exact ⟨a,vs,[],e1,h1,aJ.flat hf h2,fun z=>(by cases z),rfl⟩
   ·rcases zj.mp hb with rfl | hb
    ·exact ⟨n1,m1⟩
    ·cases hb
  ·rw [if_neg hf] at e;cases e
 | bw ds=>cases e
theorem ji (h:DE X e f):DN X e (gw f):=.mk <| h.go.weak fun σ H Q ⟨Hs,δ,d,S,En,e,K⟩=>by
 unfold gw at e;cases ef:f δ with
 | none=>rw [ef] at e;cases e
 | some r=>
  rw [ef] at e;refine ⟨Hs,δ,r,S,En,ef,fun v uq H1 W1 R1=>?_⟩;obtain ⟨L,o,n⟩:=R1.toN e;exact K v uq H1 L W1 o n
def dnw (g:FN):FE:=fun δ=>(g δ).map .sh
theorem o7 (h:DN X e g):DE X e (dnw g):=.mk <| h.go.weak fun σ H Q ⟨Hs,δ,r,S,En,e,K⟩=>by
 unfold dnw at e;cases ef:g δ with
 | none=>rw [ef] at e;cases e
 | some d=>
  rw [ef] at e;cases e;refine ⟨Hs,δ,d,S,En,ef,fun v uq H1 L W1 o n=>?_⟩;obtain ⟨uv,q,s1,s2,s3⟩:=o.share W1.sub fun a ha=>(n a ha).2;exact K v uv H1 ⟨W1.keep,s1,W1.base.trans s2,fun a o e=>(s3 a o e).elim (W1.new a o) fun z=>.inr (n a z).1⟩ q
def o8:DSt->Option (List D):=fun _=>some []
noncomputable def fC (g:FN) (gs:DSt->Option (List D)):DSt->Option (List D):=fun δ=>(g δ).bind fun d=>(gs δ).bind fun ds=>some (d::ds)
theorem dna_nil:DNA X [] o8:=.mk <| dl.weak fun σ H Q ⟨Hs,δ,r,S,En,e,K⟩=>by
 cases e;exact K [] Hs H [] (.refl S) (by unfold aJ;exact ⟨rfl,rfl⟩) fun _ z=>by cases z
theorem kx (ha:DN X e g) (hr:DNA X es gs) (hs:starEach (e::es) X.env=(false,eval e X.env)::starEach es X.env:=by exact bu rfl):DNA X (e::es) (fC g gs):=
 .mk <| (bO ha.go hr.go hs).weak fun σ H Q ⟨Hs,δ,r,S,En,e,K⟩=>by
  unfold fC at e;cases ea:g δ with
  | none=>rw [ea] at e;cases e
  | some d=>
   cases eb:gs δ with
   | none=>rw [ea,eb] at e;cases e
   | some ds=>
    rw [ea,eb] at e;cases e;refine ⟨Hs,δ,d,S,En,ea,fun x uq H1 L1 W1 O1 n1=>⟨uq,δ,ds,W1.sub,En.mono W1,eb,fun vs uv H2 L2 W2 O2 n2=>?_⟩⟩;refine K (x::vs) uv H2 (L1++L2) (W1.trans W2) ?_ fun a ha=>?_
    ·unfold aJ;refine ⟨x,vs,L1,L2,rfl,O1.mono W2.keep,O2,fun a h1 h2=>?_,rfl⟩;obtain ⟨o,ho⟩:=Own.cell _ O1 a h1;rw [(n2 a h2).1] at ho;cases ho
    ·rcases zB.mp ha with h1 | h2
     ·obtain ⟨o,ho⟩:=Own.cell _ O1 a h1;exact ⟨(n1 a h1).1,W2.stay ho (n1 a h1).2⟩
     ·exact ⟨W1.keep.free (n2 a h2).1,(n2 a h2).2⟩
noncomputable def ntup (gs:DSt->Option (List D)):FN:=fun δ=>(gs δ).bind fun ds=>if ds.length<=big then some (.tup ds) else none
noncomputable def nlst (gs:DSt->Option (List D)):FN:=fun δ=>(gs δ).bind fun ds=>if ds.length<=big then some (.lst ds) else none
theorem dn_tup {x1} (h:DNA X es gs):DN X (.Tuple es x1 pos) (ntup gs):=.mk <| (pe_tup h.go).weak fun σ H Q ⟨Hs,δ,r,S,En,e,K⟩=>by
 unfold ntup at e;cases ea:gs δ with
 | none=>rw [ea] at e;cases e
 | some ds=>
  rw [ea] at e;replace e:(if ds.length<=big then some (D.tup ds) else none)=some r:=e;by_cases hc:ds.length<=big
  ·rw [if_pos hc] at e;cases e;refine ⟨Hs,δ,ds,S,En,ea,fun vs uq H1 L W1 O n=>⟨?_,fun p hp=>?_⟩⟩
   ·rw [O.length];exact Ac (ck hc)
   ·have np:p∉L:=fun z=>by
     obtain ⟨o,ho⟩:=aJ.cell _ O p z;rw [hp] at ho;cases ho
    refine K _ uq _ (p::L) (W1.trans (.fresh W1.sub hp)) ?_ fun a ha=>?_
    ·unfold Own;exact ⟨p,vs,L,rfl,aw,O.mono (.new hp),np,rfl⟩
    ·rcases zj.mp ha with rfl | ha
     ·exact ⟨W1.keep.free hp,W1.sub.free hp⟩
     ·exact n a ha
  ·rw [if_neg hc] at e;cases e
def nif (t:DSt->Option Bool) (g h:FN):FN:=fun δ=>(t δ).bind fun k=>if k=true then g δ else h δ
end
noncomputable def spN (n:Nat) (m:List D->Option D):Sp:=fun vs H Q _=>∃ Hs ds d,ds.length=n/\aQ Hs H/\aB Hs ds vs/\m ds=some d/\∀ v Hs' H' L,Wd H Hs Hs' H'->Own H' d v L->(∀ a∈L,H a=none/\Hs' a=none)->Q v H'
theorem spN_len {n:Nat} {m:List D->Option D} {vs:List V} {H:Hp} {Q:VK} {E:XK} (h:spN n m vs H Q E):vs.length=n:=by
 obtain ⟨Hs,ds,d,e,_,r,_⟩:=h;rw [r.length,e]
noncomputable def lL (n:Nat) (m:List D->Option D) (fa:DSt->Option (List R)):FN:=fun δ=>(fa δ).bind fun rs=>if rs.length=n/\cX rs=true then m (rs.map R.view) else none
theorem tN_call {n:Nat} {m:List D->Option D} {fr:DSt->Option (List R)} {E:XK} {σ:St} {H:Hp} {Q:VK} (h:tN (lL n m fr) σ H Q):tCall (spN n m) [] E (tDA fr) σ H Q:=by
 obtain ⟨Hs,δ,r,S,En,e,K⟩:=h;unfold lL at e;cases ea:fr δ with
 | none=>rw [ea] at e;cases e
 | some rs=>
  rw [ea] at e;refine ⟨Hs,δ,rs,S,En,ea,fun vs uq H1 W1 R1=>?_⟩;replace e:(if rs.length=n/\cX rs=true then m (rs.map R.view) else none)=some r:=e;by_cases hc:rs.length=n/\cX rs=true
  ·rw [if_pos hc] at e;show spN n m (vs++[]) H1 Q E;rw [List.append_nil];obtain ⟨uv,q1,q2,q3,q4⟩:=R1.freeze W1.sub;have W2:Wd H Hs uv H1:=⟨W1.keep,q2,W1.base.trans q3,fun a o e=>by
    rcases q4 (gP hc.2) a o e with z | z
    ·exact W1.new a o z
    ·exact .inr z⟩
   exact ⟨uv,_,r,by rw [uk];exact hc.1,q2,q1,e,fun v tW H3 L W3 O n=>K v tW H3 L (W2.trans W3) O fun a ha=>⟨W1.keep.free (n a ha).1,(n a ha).2⟩⟩
  ·rw [if_neg hc] at e;cases e
noncomputable def runN (k:Nat) (F:FS) (ds:List D):Option D:=match F (ds.map (fun d=>some (.sh d))++List.replicate (k-ds.length) none) with
 | some (.rt r)=>r.toN
 | some (.nx _)=>some .non
 | some (.rn d)=>some d
 | _=>none
section
variable {P:Program} {w:World} {K:Frag} {mg:Str->Option Value} {base:Heap}
theorem fn_N {x qual:Str} {st:Stmt} {f:Addr} {fd:FuncData} {N ps:List Str} {k:Nat} {F:FS} (F0:Fun K x qual st f fd) (S:eB N ps (au st))
  (h:∀ (ux:Value) (A:Around) (outer:List Env) (s:Shared) (H:Hp) (E:XK),bx k (A.deeper (envOfC qual (au st) s.heap.objs.size f ux))->DSs (ju CX0 P w K mg base N qual (au st) f ux A outer s H E).nox (aY st) F) :
  dJ P w K mg base CX0 (k+1) f fd ps (spN ps.length (runN N.length F)):=by
 refine F0.ok S (fun vs H Q E hs=>spN_len hs) (fun ux A outer s H vs Q E hr hs=>?_);obtain ⟨Hs,ds,d,hl,sub,r,em,post⟩:=hs;refine ⟨_,(h ux A outer s H E hr).go H Hs,?_⟩;unfold runN at em;cases eF:F (ds.map (fun d=>some (.sh d))++List.replicate (N.length-ds.length) none) with
 | none=>rw [eF] at em;cases em
 | some res=>
  rw [eF] at em;refine ⟨Hs,_,res,.refl sub,mR r,eF,?_⟩;cases res with
  | nx δ=>
   cases em;exact fun σ uq H1 W1 _=>post .non uq H1 [] W1 (by unfold Own;exact ⟨rfl,rfl⟩) fun _ z=>by cases z
  | rt r1=>
   intro v uq H1 W1 R1;obtain ⟨L,o,n⟩:=R1.toN em;exact post v uq H1 L W1 o n
  | bk δ=>cases em
  | ct δ=>cases em
  | rn d'=>
   cases em;exact fun v uq H1 L W1 O n=>post v uq H1 L W1 O n
end
def mW (i:Nat) (g:FN):FS:=fun δ=>(g δ).bind fun d=>some (.nx (δ.set i (some (.nw d))))
def mX (g:FN):FS:=fun δ=>(g δ).bind fun d=>some (.rn d)
section
variable {X:Cx} {e:Expr} {g:FN} {pos:Pos}
theorem ts_setN {H0 uw:Hp} {i:Nat} {D:Ends} {σ:St} {H:Hp} (h:tS H0 uw (mW i g) D σ H):tAsg (tN g) (oO i) D σ H:=by
 obtain ⟨Hs,δ,res,W,S,e,P⟩:=h;unfold mW at e;cases et:g δ with
 | none=>rw [et] at e;cases e
 | some d=>
  rw [et] at e;cases e;refine ⟨Hs,δ,d,W.sub,S.ent,et,fun v uq H1 L W1 O n=>P _ uq H1 (W.trans W1) (S.put W.keep W1 ⟨L,O,fun a ha=>(n a ha).2⟩ fun b ⟨L',O',hb⟩=>?_)⟩;rw [Own.uniq d O' O] at hb;exact (n b hb).1
theorem ds_setN {i:Nat} {x:Str} {pos':Pos} (hN:X.N.Nodup) (hi:X.N[i]?=some x) (hx:Loc X.env.scope x) (he:DN X e g) (hs:swapsWith e (some (.Name x pos')) pos.line X.env=pure false:=by rfl)
 (hf:X.fn x=true\/X.env.scope.names.lookup x=some .local:=by first | exact .inl rfl | exact .inr rfl | assumption):DS X (.Assign [.Name x pos'] e pos) (mW i g):=.mk fun H0 uw=>(ps_set hN hi hx he.go hs hf).weak fun _ _ _=>ts_setN
theorem mY (h:DN X e g):DS X (.Return (some e) pos) (mX g):=.mk fun H0 uw=>(pJ h.go).weak fun D σ H ⟨Hs,δ,res,W,S,e,P⟩=>by
 unfold mX at e;cases et:g δ with
 | none=>rw [et] at e;cases e
 | some d=>
  rw [et] at e;cases e;exact ⟨Hs,δ,d,W.sub,S.ent,et,fun v uq H1 L W1 O n=>P v uq H1 L (W.trans W1) O fun a ha=>⟨W.keep.free (n a ha).1,(n a ha).2⟩⟩
end
theorem aJ.snoc {H:Hp}:∀ {ds:List D} {vs:List V} {L M:List Addr} {d:D} {v:V},aJ H ds vs L->Own H d v M->(∀ a∈L,a∉M)->aJ H (ds++[d]) (vs++[v]) (L++M)
 | [],_,_,M,d,v,h,h',n=>by
  unfold aJ at h;obtain ⟨rfl,rfl⟩:=h;show aJ H [d] [v] M;unfold aJ;exact ⟨v,[],M,[],rfl,h',by unfold aJ;exact ⟨rfl,rfl⟩,fun _ _ z=>(by cases z),by simp⟩
 | c::ds,_,_,M,d,v,h,h',n=>by
  unfold aJ at h;obtain ⟨u,r,A,B,rfl,h1,h2,k,rfl⟩:=h;have:=aJ.snoc h2 h' fun a ha=>n a (zd _ ha);show aJ H (c::(ds++[d])) (u::(r++[v])) _;unfold aJ;refine ⟨u,r++[v],A,B++M,rfl,h1,this,fun a ha hb=>?_,by simp⟩;rcases zB.mp hb with hb | hb
  ·exact k a ha hb
  ·exact n a (zC _ ha) hb
noncomputable def dh (g:GD) (c:DSt->Option Bool) (fe:FN) (δ:DSt):List D->Option (List D)
 | []=>some []
 | d::r=>(g d δ).bind fun δ1=>(c δ1).bind fun b=>if b=true then (fe δ1).bind fun r1=>(dh g c fe δ r).bind fun t=>some (r1::t) else dh g c fe δ r
noncomputable def mZ (fi:DSt->Option (List D)) (g:GD) (c:DSt->Option Bool) (fe:FN) (m:Nat) (ix:List Nat):FN:=fun δ=>(fi δ).bind fun items=>if items.length<=big then (dh g c fe (dIn m ix δ) items).map .lst else none
theorem tN_comp {fi:DSt->Option (List D)} {ks:List Nat} {g:GD} {c:DSt->Option Bool} {fe:FN} {m:Nat} {ix:List Nat} (hk:∀ j∈ks,j<m) {σ:St} {H:Hp} {Q:VK} (h:tN (mZ fi g c fe m ix) σ H Q) :
  tComp (tI fi) (tG ks g) (tDT c) (tN fe) m ix σ H Q:=by
 obtain ⟨Hs,δ,r,S,En,e,K⟩:=h;unfold mZ at e;cases ei:fi δ with
 | none=>rw [ei] at e;cases e
 | some items=>
  rw [ei] at e;replace e:(if items.length<=big then (dh g c fe (dIn m ix δ) items).map D.lst else none)=some r:=e;by_cases uY:items.length<=big
  ·rw [if_pos uY] at e;cases em:dh g c fe (dIn m ix δ) items with
   | none=>rw [em] at e;cases e
   | some out=>
    rw [em] at e;cases e;refine ⟨Hs,δ,items,S,En,ei,fun J uq H1 W1 Y A hA=>?_⟩;have En1:gc uq H1 (dIn m ix δ) (gM m ix σ):=entIn m ix (En.mono W1);have xn:(gM m ix σ).length=(dIn m ix δ).length:=by unfold gM dIn;simp
    have hA1:uq A=none:=W1.sub.free hA;refine ⟨fun i n tO H'=>n=items.length-i/\i<=items.length/\tO.length=(dIn m ix δ).length/\(∀ j,m<=j->tO[j]?=(gM m ix σ)[j]?)/\
     ∃ Hs' ds vs rest L,Wd H1 uq Hs' H'/\Hs' A=none/\H' A=some (.lst vs)/\aJ H' ds vs L/\(∀ a∈L,H1 a=none/\Hs' a=none/\a≠A)/\ds.length<=i/\dh g c fe (dIn m ix δ) (items.drop i)=some rest/\out=ds++rest,?_,?_⟩
    ·refine ⟨items.length,by simp,Ad _,xn,fun _ _=>rfl,uq,[],[],out,[],⟨.new hA,W1.sub.trans (.new hA),.refl _,fun _ _ e=>.inl e⟩,hA1,aw,by unfold aJ;exact ⟨rfl,rfl⟩,fun _ z=>(by cases z),Ad _,by simpa using em,by simp⟩
    ·rintro i n uN H2 ⟨rfl,hi,yv,wk,uv,ds,vs,rest,L,W2,yJ,wJ,r2,nL,hd2,e2,eo⟩;by_cases vk:i<items.length
     ·have hd:items[i]?=some items[i]:=by simp [vk]
      obtain ⟨go,yl⟩:=(Y i uv H2 W2.base W2.sub).1 _ hd;refine .inr ⟨go,fun tO H'=>i+1<=items.length/\tO.length=(dIn m ix δ).length/\(∀ j,m<=j->tO[j]?=(gM m ix σ)[j]?)/\
       ∃ Hs' ds vs rest L,Wd H1 uq Hs' H'/\Hs' A=none/\H' A=some (.lst vs)/\aJ H' ds vs L/\(∀ a∈L,H1 a=none/\Hs' a=none/\a≠A)/\ds.length<=i+1/\dh g c fe (dIn m ix δ) (items.drop (i+1))=some rest/\out=ds++rest,
       fun tO H' ⟨a,b,c',d'⟩=>⟨_,by omega,rfl,a,b,c',d'⟩,fun x H3 y=>?_⟩
      obtain ⟨tW,W3,rx⟩:=yl x H3 y;have v8:=W2.trans W3;have A3:=W3.stay wJ yJ;have v3:=W3.keep _ _ wJ;have En3:gc tW H3 (dIn m ix δ) uN:=fun j en q=>by
       obtain ⟨v,hv,hr⟩:=(En1.mono v8) j en q;exact ⟨v,by rw [wk j (dIn_own q)];exact hv,hr⟩
      rw [List.drop_eq_getElem_cons vk] at e2;unfold dh at e2;cases eg:g items[i] (dIn m ix δ) with
      | none=>rw [eg] at e2;cases e2
      | some uB=>
       rw [eg] at e2;refine ⟨tW,_,items[i],uB,W3.sub,yv,rx,eg,fun wY sr=>?_⟩;have yu:wY.length=(dIn m ix δ).length:=by rw [sr.lenS];exact yv
       have wj:∀ j,m<=j->wY[j]?=(gM m ix σ)[j]?:=fun j hj=>by
        rw [(sr.out j fun z=>Nat.not_lt.mpr hj (hk j z)).2];exact wk j hj
       have yT:gc tW H3 uB wY:=sr.ent En3;replace e2:((c uB).bind fun b=>if b=true then (fe uB).bind fun r1=>(dh g c fe (dIn m ix δ) (items.drop (i+1))).bind fun t=>some (r1::t) else dh g c fe (dIn m ix δ) (items.drop (i+1)))=some rest:=e2;cases ec:c uB with
       | none=>rw [ec] at e2;cases e2
       | some b=>
        rw [ec] at e2;refine ⟨tW,uB,b,W3.sub,yT,ec,fun ue H5 W5=>?_⟩;have wz:=v8.trans W5;have A5:=W5.stay v3 A3;have v5:=W5.keep _ _ v3;have k25:aQ H2 H5:=W3.keep.trans W5.keep;have nL5:∀ a∈L,H1 a=none/\ue a=none/\a≠A:=fun a ha=>by
         obtain ⟨o,ho⟩:=aJ.cell _ r2 a ha;exact ⟨(nL a ha).1,W5.stay (W3.keep _ _ ho) (W3.stay ho (nL a ha).2.1),(nL a ha).2.2⟩
        cases b with
        | false=>
         simp only [Bool.false_eq_true,if_false];exact ⟨vk,yu,wj,ue,ds,vs,rest,L,wz,A5,v5,r2.mono k25,nL5,by omega,e2,eo⟩
        | true=>
         simp only [if_true];replace e2:((fe uB).bind fun r1=>(dh g c fe (dIn m ix δ) (items.drop (i+1))).bind fun t=>some (r1::t))=some rest:=e2;cases ef:fe uB with
         | none=>rw [ef] at e2;cases e2
         | some r1=>
          rw [ef] at e2;replace e2:((dh g c fe (dIn m ix δ) (items.drop (i+1))).bind fun t=>some (r1::t))=some rest:=e2;cases er:dh g c fe (dIn m ix δ) (items.drop (i+1)) with
          | none=>rw [er] at e2;cases e2
          | some t=>
           rw [er] at e2;cases e2;refine ⟨ue,uB,r1,W5.sub,yT.mono W5,ef,fun v xY H6 M W7 O6 n6=>?_⟩;have A7:=W7.stay v5 A5;have v7:=W7.keep _ _ v5;have wX:=wz.trans W7;have nA:H1 A=none:=hA;have r5:=r2.mono k25;have dj:∀ a∈L,a∉M:=fun a ha hm=>by
            obtain ⟨o,ho⟩:=aJ.cell _ r5 a ha;rw [(n6 a hm).1] at ho;cases ho
           have nM:∀ a∈M,a≠A:=fun a ha z=>by
            have:=(n6 a ha).1;rw [z,v5] at this;cases this
           have nLM:∀ a∈L++M,H1 a=none/\xY a=none/\a≠A:=fun a ha=>by
            rcases zB.mp ha with h | h
            ·obtain ⟨o,ho⟩:=aJ.cell _ r5 a h;exact ⟨(nL5 a h).1,W7.stay ho (nL5 a h).2.1,(nL5 a h).2.2⟩
            ·exact ⟨wz.keep.free (n6 a h).1,(n6 a h).2,nM a h⟩
           refine ⟨vs,v7,?_,vk,yu,wj,xY,ds++[r1],vs++[v],t,L++M,⟨fun b o q=>?_,fun b o q=>?_,wX.base,wX.new⟩,A7,aw,?_,nLM,by simp;omega,rfl,by rw [eo];simp⟩
           ·rw [r2.length];exact Nat.lt_of_le_of_lt hd2 (Nat.lt_trans vk (ck uY))
           ·rw [av (aK q nA)];exact wX.keep _ _ q
           ·rw [av (aK q A7)];exact wX.sub _ _ q
           ·exact ((r5.mono W7.keep).snoc O6 dj).agree _ fun a ha=>av (nLM a ha).2.2
     ·have wC:i=items.length:=by omega
      subst wC;rw [List.drop_length] at e2;cases e2;refine .inl ⟨(Y _ uv H2 W2.base W2.sub).2 (zp _),K _ uv H2 (A::L) (W1.trans W2) ?_ fun a ha=>?_⟩
      ·rw [eo,List.append_nil];unfold Own;exact ⟨A,vs,L,rfl,wJ,r2,fun z=>(nL A z).2.2 rfl,rfl⟩
      ·rcases zj.mp ha with rfl | ha
       ·exact ⟨W1.keep.free hA,yJ⟩
       ·exact ⟨W1.keep.free (nL a ha).1,(nL a ha).2.1⟩
  ·rw [if_neg uY] at e;cases e
section
variable {X:Cx} {tg elt iter:Expr} {ifs:List Expr} {scope:Scope} {pos:Pos} {N:List Str} {m:Nat} {ix:List Nat} {ks:List Nat} {g:GD} {c:DSt->Option Bool} {fe:FN} {fi:DSt->Option (List D)}
theorem dn_comp (hc:X.calm=true) (S:dO X N m ix scope) (hk:∀ j∈ks,j<m) (hi:DI X tg iter fi)
  (tU:∀ cl C s H fp,DG (bD X N scope cl C s H fp) tg ks g/\DIfs (bD X N scope cl C s H fp) ifs c/\DN (bD X N scope cl C s H fp) elt fe)
  (hs:∀ x,foldedSetIterable iter X.env x=pure x:=by intro _;rfl):DN X (.ListComp elt [⟨tg,iter,ifs,0⟩] scope pos) (mZ fi g c fe m ix):=.mk <|
 (pe_comp hc S hi.go (fun cl C s H fp=>⟨(tU cl C s H fp).1.go,(tU cl C s H fp).2.1.go,(tU cl C s H fp).2.2.go⟩) hs).weak fun _ _ _=>tN_comp hk
end
theorem bc.snoc {H:Hp}:∀ {fs:List (Str×D)} {vs:List (Str×V)} {L M:List Addr} {f:Str} {d:D} {v:V},bc H fs vs L->Own H d v M->(∀ a∈L,a∉M)->bc H (fs++[(f,d)]) (vs++[(f,v)]) (L++M)
 | [],_,_,M,f,d,v,h,h',n=>by
  unfold bc at h;obtain ⟨rfl,rfl⟩:=h;show bc H [(f,d)] [(f,v)] M;unfold bc;exact ⟨v,[],M,[],rfl,h',by unfold bc;exact ⟨rfl,rfl⟩,fun _ _ z=>(by cases z),by simp⟩
 | c::fs,_,_,M,f,d,v,h,h',n=>by
  unfold bc at h;obtain ⟨u,r,A,B,rfl,h1,h2,k,rfl⟩:=h;have:=bc.snoc (f:=f) h2 h' fun a ha=>n a (zd _ ha);show bc H (c::(fs++[(f,d)])) ((c.1,u)::(r++[(f,v)])) _;unfold bc;refine ⟨u,r++[(f,v)],A,B++M,rfl,h1,this,fun a ha hb=>?_,by simp⟩;rcases zB.mp hb with hb | hb
  ·exact k a ha hb
  ·exact n a (zC _ ha) hb
theorem bc.length {H:Hp}:∀ {fs:List (Str×D)} {vs:List (Str×V)} {L:List Addr},bc H fs vs L->vs.length=fs.length
 | [],_,_,h=>by unfold bc at h;rw [h.1];rfl
 | d::ds,_,_,h=>by
  unfold bc at h;obtain ⟨v,r,M,N,e,h1,h2,_⟩:=h;rw [e];simp [bc.length h2]
theorem bc.put_none {H:Hp} {f:Str} {v:V}:∀ {fs:List (Str×D)} {vs:List (Str×V)} {L:List Addr},bc H fs vs L->fs.lookup f=none->iC f v vs=vs++[(f,v)]
  | [],_,_,h,_=>by unfold bc at h;rw [h.1];rfl
  | (g,d)::fs,_,_,h,e=>by
    unfold bc at h;obtain ⟨u,r,A,B,rfl,h1,h2,k,rfl⟩:=h;rw [List.lookup_cons] at e;cases hx:f==g with
    | true=>rw [hx] at e;cases e
    | false=>
      rw [hx] at e;unfold iC;have:¬g=f:=fun z=>by subst z;simp at hx
      rw [if_neg this,bc.put_none h2 e];rfl
noncomputable def o9 (C:Addr) (f:Str) (g:FN):FS:=fun δ=>match δ with
 | some (.on a (.obj C' fs))::r=>if C'=C/\fs.length<1000/\fs.lookup f=none then (g δ).bind fun d=>some (.nx (some (.on a (.obj C (fs++[(f,d)])))::r)) else none
 | _=>none
section
variable {X:Cx} {e:Expr} {g:FN}
theorem mC {f x:Str} {xp pos pos':Pos} {C:Addr} (hx:PE X (.Name x xp) (kX 0)) (he:DN X e g) (hk:Cls X.K C/\NoAttr X.K C f)
  (hs:swapsWith e (some (.Attribute (.Name x xp) f pos')) pos.line X.env=pure false:=by rfl) :
  DS X (.Assign [.Attribute (.Name x xp) f pos'] e pos) (o9 C f g):=.mk fun H0 uw=>
 (ps_fld hx he.go hs).weak fun D σ H ⟨Hs,δ,res,W,S,e,P⟩=>by
  match δ,e,S with
  | some (.on a (.obj C' fs))::r,e,S=>
   replace e:(if C'=C/\fs.length<1000/\fs.lookup f=none then (g (some (.on a (.obj C' fs))::r)).bind fun d=>some (Res.nx (some (.on a (.obj C (fs++[(f,d)])))::r)) else none)=some res:=e;by_cases hc:C'=C/\fs.length<1000/\fs.lookup f=none
   ·rw [if_pos hc] at e;obtain ⟨rfl,hl,hf⟩:=hc;cases eg:g (some (.on a (.obj C' fs))::r) with
    | none=>rw [eg] at e;cases e
    | some d=>
     rw [eg] at e;cases e;refine ⟨Hs,_,d,W.sub,S.ent,eg,fun y uq H1 L1 W1 O1 n1=>?_⟩;obtain ⟨v,hv,ev,L,O,nL⟩:=S.ent 0 _ rfl;have O':=O;unfold Own at O;obtain ⟨a',dx,tR,M,e1,h1,h3,h2,nM,nM2,rfl⟩:=O;rw [ev] at e1;cases e1;subst ev;refine ⟨_,hv,a,C',dx,tR,rfl,W1.keep _ _ h1,hk.1,hk.2,by rw [h2.length];exact hl,?_⟩;have na:∀ b∈L1,b∉a::dx::M:=fun b hb z=>by
      obtain ⟨o,ho⟩:=Own.cell _ O' b z;rw [(n1 b hb).1] at ho;cases ho
     have nd:dx≠a:=fun z=>by rw [z,h1] at h3;cases h3
     have aM:uq a=none:=W1.stay h1 (nL a yY);have ON:Own (L2.upd H1 a (.ins C' dx (tR++[(f,y)]))) (.obj C' (fs++[(f,d)])) (.ref a) (a::dx::(M++L1)):=by
      unfold Own;refine ⟨a,dx,tR++[(f,y)],M++L1,rfl,aw,?_,?_,fun z=>?_,fun z=>?_,rfl⟩
      ·rw [av nd];exact W1.keep _ _ h3
      ·refine (bc.snoc (h2.mono W1.keep) O1 fun b hb hb1=>na b hb1 (uf _ (uf _ hb))).agree _ fun b hb=>av fun z=>?_;subst z;rcases zB.mp hb with hb | hb
       ·exact nM hb
       ·exact na _ hb yY
      ·rcases zB.mp z with z | z
       ·exact nM z
       ·exact na _ z yY
      ·rcases zB.mp z with z | z
       ·exact nM2 z
       ·exact na _ z (uf _ yY)
     rw [h2.put_none hf];have:=S.upG (i:=0) (Hs':=uq) (H':=L2.upd H1 a (.ins C' dx (tR++[(f,y)]))) (e':=.on a (.obj C' (fs++[(f,d)]))) (v':=.ref a) W rfl hv (fun b o n eb=>by
       have:b≠a:=fun z=>n ⟨_,O',by rw [z];exact yY⟩;rw [av this];exact W1.keep _ _ eb) (fun b o eb=>by rw [av (aK eb aM)];exact W1.sub _ _ eb) W1.base W1.new
       ⟨rfl,_,ON,fun b hb=>by
        rcases zj.mp hb with rfl | hb
        ·exact aM
        ·rcases zj.mp hb with rfl | hb
         ·exact W1.stay h3 (nL _ (uf _ yY))
         ·rcases zB.mp hb with hb | hb
          ·obtain ⟨o,ho⟩:=bc.cell _ h2 b hb;exact W1.stay ho (nL _ (uf _ (uf _ hb)))
          ·exact (n1 b hb).2⟩
       (fun b ⟨L',f',hb⟩=>by
        rw [Own.uniq _ f' ON] at hb;rcases zj.mp hb with rfl | hb
        ·exact .inl ⟨_,O',yY⟩
        ·rcases zj.mp hb with rfl | hb
         ·exact .inl ⟨_,O',uf _ yY⟩
         ·rcases zB.mp hb with hb | hb
          ·exact .inl ⟨_,O',uf _ (uf _ hb)⟩
          ·exact .inr (n1 b hb).1)
     rw [set_same hv] at this;exact P σ uq _ this.1 this.2
   ·rw [if_neg hc] at e;cases e
end
noncomputable def spIN (C:Addr) (n:Nat) (m:List D->Option (List (Str×D))):Sp:=fun vs H Q _=>∃ H1 Hs p dx us ds fs,ds.length=n/\vs=.ref p::us/\H=L2.upd (L2.upd H1 dx (.own p)) p (.ins C dx [])/\H1 p=none/\H1 dx=none/\dx≠p/\aQ Hs H1/\aB Hs ds us/\m ds=some fs/\
 ∀ Hs' H' L,Wd H1 Hs Hs' H'->Own H' (.obj C fs) (.ref p) L->(∀ a∈L,H1 a=none/\Hs' a=none)->Q .non H'
noncomputable def ky (k:Nat) (C:Addr) (F:FS) (ds:List D) (p:Addr):Option (List (Str×D)):=match F (some (.on p (.obj C []))::(ds.map (fun d=>some (.sh d))++List.replicate (k-(ds.length+1)) none)) with
 | some (.nx (some (.on a (.obj C' fs))::_))=>if a=p/\C'=C then some fs else none
 | _=>none
section
variable {P:Program} {w:World} {K:Frag} {mg:Str->Option Value} {base:Heap}
theorem fn_IN {x qual:Str} {st:Stmt} {f C:Addr} {fd:FuncData} {N ps:List Str} {k n:Nat} {F:FS} {m:List D->Option (List (Str×D))} (hn:ps.length=n+1) (F0:Fun K x qual st f fd) (S:eB N ps (au st))
  (hm:∀ ds fs,m ds=some fs->∀ p,ky N.length C F ds p=some fs)
  (h:∀ (ux:Value) (A:Around) (outer:List Env) (s:Shared) (H:Hp) (E:XK),bx k (A.deeper (envOfC qual (au st) s.heap.objs.size f ux))->DSs (ju CX0 P w K mg base N qual (au st) f ux A outer s H E).nox (aY st) F) :
  dJ P w K mg base CX0 (k+1) f fd ps (spIN C n m):=by
 refine F0.ok S (fun vs H Q E' hs=>?_) (fun ux A outer s H vs Q E' hr hs=>?_)
 ·obtain ⟨H1,Hs,p,dx,us,ds,fs,e1,rfl,_,_,_,_,_,r,_⟩:=hs;rw [zQ,r.length,e1,hn]
 ·obtain ⟨H1,Hs,p,dx,us,ds,fs,e1,rfl,rfl,np,nd,ne,sub,r,em,post⟩:=hs;refine ⟨_,(h ux A outer s _ E' hr).go H1 Hs,?_⟩;have em:=hm ds fs em p;unfold ky at em;have np':(L2.upd H1 dx (.own p)) p=none:=by rw [av (Ne.symm ne)];exact np
  have W0:Wd H1 Hs Hs (L2.upd (L2.upd H1 dx (.own p)) p (.ins C dx [])):=(Wd.fresh sub nd).trans (.fresh (sub.trans (.new nd)) np');have vp:Hs p=none:=sub.free np;have hsd:Hs dx=none:=sub.free nd;have O0:Own (L2.upd (L2.upd H1 dx (.own p)) p (.ins C dx [])) (.obj C []) (.ref p) [p,dx]:=by
   unfold Own;refine ⟨p,dx,[],[],rfl,aw,?_,by unfold bc;exact ⟨rfl,rfl⟩,fun z=>(by cases z),fun z=>(by cases z),rfl⟩;rw [av ne,aw]
  have in2:∀ b∈[p,dx],H1 b=none/\Hs b=none:=fun b hb=>by
   rcases zj.mp hb with rfl | hb
   ·exact ⟨np,vp⟩
   ·rcases zj.mp hb with rfl | hb
    ·exact ⟨nd,hsd⟩
    ·cases hb
  have St0:StR H1 Hs (L2.upd (L2.upd H1 dx (.own p)) p (.ins C dx [])) (some (.on p (.obj C []))::(ds.map (fun d=>some (E.sh d))++List.replicate (N.length-(ds.length+1)) none)) (L2.start N (.ref p::us)):=by
   have hN:n+1<=N.length:=by
    have:=congrArg List.length S.pre;rw [List.length_take,hn] at this;omega
   have get:∀ (i:Nat) (en:E),(ds.map (fun d=>some (E.sh d))++List.replicate (N.length-(ds.length+1)) none)[i]?=some (some en)->∃ d,ds[i]?=some d/\en=E.sh d:=fun i en h=>by
    by_cases hi:i<ds.length
    ·rw [zw (by simpa using hi),zc] at h;cases q:ds[i]? with
     | none=>rw [q] at h;cases h
     | some d=>rw [q] at h;cases h;exact ⟨d,rfl,rfl⟩
    ·rw [zR (by simpa using hi),List.getElem?_replicate] at h;split at h <;> cases h
   refine ⟨fun i en h=>?_,?_,fun i e v b h hv f=>?_,fun i j e e' v v' b xG h h' _ _ f f'=>?_⟩
   ·cases i with
    | zero=>
     cases h;exact ⟨.ref p,rfl,rfl,[p,dx],O0,fun b hb=>(in2 b hb).2⟩
    | succ i=>
     obtain ⟨d,hd,rfl⟩:=get i en (by simpa using h);obtain ⟨v,hv,rv⟩:=r.get hd;refine ⟨v,?_,rv⟩;unfold L2.start;have hi:i<us.length:=(yX.mp hv).1;rw [zb,List.cons_append,ug,zw (by simpa using hi),zc,hv];rfl
   ·unfold L2.start;simp [r.length]
   ·cases i with
    | zero=>
     cases h;have wK:(some (some (V.ref p)):Option (Option V))=some (some v):=hv;cases wK;obtain ⟨L,O,hb⟩:=f;rw [Own.uniq _ O O0] at hb;exact (in2 b hb).1
    | succ i=>obtain ⟨d,_,z⟩:=get i _ (by simpa using h);rw [z] at f;cases f
   ·cases i with
    | zero=>
     cases j with
     | zero=>exact xG rfl
     | succ j=>obtain ⟨d,_,z⟩:=get j _ (by simpa using h');rw [z] at f';cases f'
    | succ i=>obtain ⟨d,_,z⟩:=get i _ (by simpa using h);rw [z] at f;cases f
  cases eF:F (some (.on p (.obj C []))::(ds.map (fun d=>some (E.sh d))++List.replicate (N.length-(ds.length+1)) none)) with
  | none=>rw [eF] at em;cases em
  | some res=>
   rw [eF] at em;refine ⟨Hs,_,res,W0,St0,eF,?_⟩
   match res,em with
   | .nx (some (.on a (.obj C' fs'))::rest),em=>
    by_cases hc:a=p/\C'=C
    ·simp only [if_pos hc] at em;cases em;obtain ⟨rfl,rfl⟩:=hc;intro σ uq H1' W1 S1;obtain ⟨v,hv,ev,L,O,nL⟩:=S1.ent 0 _ rfl;subst ev;exact post uq H1' L W1 O fun b hb=>⟨S1.new 0 _ _ b rfl hv ⟨L,O,hb⟩,nL b hb⟩
    ·simp only [if_neg hc] at em;cases em
end
noncomputable def eP (C:Addr) (n:Nat) (m:List D->Option (List (Str×D))) (fa:DSt->Option (List R)):FN:=fun δ=>(fa δ).bind fun rs=>if rs.length=n/\cX rs=true then (m (rs.map R.view)).map (.obj C) else none
theorem tN_make {C:Addr} {n:Nat} {m:List D->Option (List (Str×D))} {fr:DSt->Option (List R)} {E:XK} {σ:St} {H:Hp} {Q:VK} (h:tN (eP C n m fr) σ H Q):tMake C (spIN C n m) [] E (tDA fr) σ H Q:=by
 obtain ⟨Hs,δ,r,S,En,e,K⟩:=h;unfold eP at e;cases ea:fr δ with
 | none=>rw [ea] at e;cases e
 | some rs=>
  rw [ea] at e;replace e:(if rs.length=n/\cX rs=true then (m (rs.map R.view)).map (.obj C) else none)=some r:=e;refine ⟨Hs,δ,rs,S,En,ea,fun vs uq H1 W1 R1 x dx nx nd ne=>?_⟩;by_cases hc:rs.length=n/\cX rs=true
  ·rw [if_pos hc] at e;cases em:m (rs.map R.view) with
   | none=>rw [em] at e;cases e
   | some fs=>
    rw [em] at e;cases e;obtain ⟨uv,q1,q2,q3,q4⟩:=R1.freeze W1.sub;have W2:Wd H Hs uv H1:=⟨W1.keep,q2,W1.base.trans q3,fun a o e=>by
     rcases q4 (gP hc.2) a o e with z | z
     ·exact W1.new a o z
     ·exact .inr z⟩
    rw [List.append_nil];refine ⟨H1,uv,x,dx,vs,_,fs,by rw [uk];exact hc.1,rfl,rfl,nx,nd,ne,q2,q1,em,fun tW H3 L W3 O n3=>⟨rfl,?_⟩⟩;exact K (.ref x) tW H3 L (W2.trans W3) O fun a ha=>⟨W1.keep.free (n3 a ha).1,(n3 a ha).2⟩
  ·rw [if_neg hc] at e;cases e
noncomputable def iM (i:Nat) (t:DSt->Option Bool) (F G:FS):FS:=fun δ=>(t (frz i δ)).bind fun b=>if b=true then F δ else G δ
noncomputable def m5 (i k:Nat) (f:FE):FS:=fun δ=>(f (frz i δ)).bind fun r=>match r with
 | .sh d=>if d.flat=true then some (.nx (δ.set k (some (.sh d)))) else none
 | _=>none
noncomputable def sretB (i:Nat) (f:FE):FS:=fun δ=>(f (frz i δ)).bind fun r=>match r with
 | .sh d=>if d.flat=true then some (.rt (.sh d)) else none
 | _=>none
theorem Wd.lend {H Hs uq uv H2:Hp} (s:aQ Hs H) (w:Wd H uq uv H2):Wd H Hs Hs H2:=⟨w.keep,s.trans w.keep,.refl _,fun _ _ e=>.inl e⟩
section
variable {X:Cx} {c e:Expr} {a b:List Stmt} {t:DSt->Option Bool} {F G:FS} {f:FE} {pos:Pos}
theorem ds_ifB {i:Nat} (hc:DT X c t) (ha:DSs X a F) (hb:DSs X b G):DS X (.If c a b pos) (iM i t F G):=.mk fun H0 uw=>(ps_if hc.go (ha.go H0 uw) (hb.go H0 uw)).weak fun D σ H ⟨Hs,δ,res,W,S,e,P⟩=>by
 unfold iM at e;cases et:t (frz i δ) with
 | none=>rw [et] at e;cases e
 | some k=>
  rw [et] at e;obtain ⟨uq,W1,S1⟩:=S.frz (i:=i) W;refine ⟨uq,_,k,W1.sub,S1.ent,et,fun uv H2 W2=>?_⟩;have W3:=W2.lend W.sub;cases k with
  | true=>show (if true=true then tS H0 uw F D σ H2 else tS H0 uw G D σ H2);rw [if_pos rfl];exact ⟨Hs,δ,res,W.trans W3,S.mono W3,e,P⟩
  | false=>show (if false=true then tS H0 uw F D σ H2 else tS H0 uw G D σ H2);rw [if_neg zK];exact ⟨Hs,δ,res,W.trans W3,S.mono W3,e,P⟩
theorem ds_retB {i:Nat} (h:DE X e f):DS X (.Return (some e) pos) (sretB i f):=.mk fun H0 uw=>(pJ h.go).weak fun D σ H ⟨Hs,δ,res,W,S,e,P⟩=>by
 unfold sretB at e;cases et:f (frz i δ) with
 | none=>rw [et] at e;cases e
 | some r=>
  rw [et] at e;obtain ⟨uq,W1,S1⟩:=S.frz (i:=i) W;refine ⟨uq,_,r,W1.sub,S1.ent,et,fun v uv H2 W2 R2=>?_⟩
  match r,e,R2 with
  | .sh d,e,R2=>
   replace e:(if d.flat=true then some (Res.rt (.sh d)) else none)=some res:=e;by_cases hf:d.flat=true
   ·rw [if_pos hf] at e;cases e;exact P v Hs H2 (W.trans (W2.lend W.sub)) (Rep.flat hf R2)
   ·rw [if_neg hf] at e;cases e
theorem ds_setB {i k:Nat} {x:Str} {pos':Pos} (hN:X.N.Nodup) (hi:X.N[k]?=some x) (hx:Loc X.env.scope x) (he:DE X e f) (hs:swapsWith e (some (.Name x pos')) pos.line X.env=pure false:=by rfl)
  (hf:X.fn x=true\/X.env.scope.names.lookup x=some .local:=by first | exact .inl rfl | exact .inr rfl | assumption):DS X (.Assign [.Name x pos'] e pos) (m5 i k f):=.mk fun H0 uw=>(ps_set hN hi hx he.go hs hf).weak fun D σ H ⟨Hs,δ,res,W,S,e,P⟩=>by
 unfold m5 at e;cases et:f (frz i δ) with
 | none=>rw [et] at e;cases e
 | some r=>
  rw [et] at e;obtain ⟨uq,W1,S1⟩:=S.frz (i:=i) W;refine ⟨uq,_,r,W1.sub,S1.ent,et,fun v uv H2 W2 R2=>?_⟩
  match r,e,R2 with
  | .sh d,e,R2=>
   replace e:(if d.flat=true then some (Res.nx (δ.set k (some (.sh d)))) else none)=some res:=e;by_cases hf:d.flat=true
   ·rw [if_pos hf] at e;cases e;have W3:=W2.lend W.sub;exact P _ Hs H2 (W.trans W3) (S.put W.keep W3 (Rep.flat hf R2) fun b z=>by cases z)
   ·rw [if_neg hf] at e;cases e
end
noncomputable def oIs:D->D->Option R
 | .bl b,.bl c=>some (.sh (.bl (decide (b=c))))
 | .non,.bl _=>some (.sh (.bl false))
 | .int _,.bl _=>some (.sh (.bl false))
 | .str _,.bl _=>some (.sh (.bl false))
 | .lst _,.bl _=>some (.sh (.bl false))
 | .tup _,.bl _=>some (.sh (.bl false))
 | .obj _ _,.bl _=>some (.sh (.bl false))
 | .non,.non=>some (.sh (.bl true))
 | .bl _,.non=>some (.sh (.bl false))
 | .int _,.non=>some (.sh (.bl false))
 | .str _,.non=>some (.sh (.bl false))
 | .lst _,.non=>some (.sh (.bl false))
 | .tup _,.non=>some (.sh (.bl false))
 | .obj _ _,.non=>some (.sh (.bl false))
 | _,_=>none
noncomputable def gV (a b:D):Option R:=(oIs a b).bind fun r=>match r with
 | .sh (.bl x)=>some (.sh (.bl (!x)))
 | _=>none
section
variable {X:Cx}
theorem is_vals {H Hs:Hp} {a b:D} {x y:V} {v u:Value} {r:R} (S:aQ Hs H) (va:View Hs H a x) (vb:View Hs H b y) (rx:RelV x v) (ry:RelV y u) (e:oIs a b=some r):plainIs v u=true/\r=.sh (.bl (v==u)):=by
 have key:∀ (x:V),RelV x v->(∀ q,x≠.bl q)->(∀ n,x≠.ty n)->(x=.non->v=.none)/\∀ c,plainIs v (.bool c)=true/\(v==Value.bool c)=false/\plainIs v .none=true/\(x≠.non->(v==Value.none)=false):=fun x rx nq nt=>by
  cases x with
  | non=>cases rx;exact ⟨fun _=>rfl,fun c=>⟨rfl,rfl,rfl,fun z=>absurd rfl z⟩⟩
  | bl q=>exact absurd rfl (nq q)
  | int i=>obtain ⟨t,rfl⟩:=rx;exact ⟨fun z=>(by cases z),fun c=>⟨rfl,rfl,rfl,fun _=>rfl⟩⟩
  | str i=>obtain ⟨t,rfl⟩:=rx;exact ⟨fun z=>(by cases z),fun c=>⟨rfl,rfl,rfl,fun _=>rfl⟩⟩
  | byt i=>obtain ⟨t,rfl⟩:=rx;exact ⟨fun z=>(by cases z),fun c=>⟨rfl,rfl,rfl,fun _=>rfl⟩⟩
  | flt i=>obtain ⟨t,rfl⟩:=rx;exact ⟨fun z=>(by cases z),fun c=>⟨rfl,rfl,rfl,fun _=>rfl⟩⟩
  | ref i=>cases rx;exact ⟨fun z=>(by cases z),fun c=>⟨rfl,rfl,rfl,fun _=>rfl⟩⟩
  | ty n=>exact absurd rfl (nt n)
 have fin:∀ {x:V},RelV x v->(∀ q,x≠.bl q)->(∀ n,x≠.ty n)->x≠.non->((∃ c,y=.bl c)\/y=.non)->r=.sh (.bl false)->plainIs v u=true/\r=.sh (.bl (v==u)):=fun {x} rx nq nt nn hy er=>by
  have:=(key x rx nq nt).2;rcases hy with ⟨c,rfl⟩ | rfl
  ·cases ry;rw [er,(this c).2.1];exact ⟨(this c).1,rfl⟩
  ·cases ry;rw [er,(this true).2.2.2 nn];exact ⟨(this true).2.2.1,rfl⟩
 match a,b,e,va,vb with
 | .bl p,.bl c,e,va,vb=>
  cases e;have h1:=va.bl;have h2:=vb.bl;subst h1;subst h2;cases rx;cases ry;refine ⟨rfl,?_⟩;cases p <;> cases c <;> rfl
 | .non,.non,e,va,vb=>
  cases e;have h1:=va.non;have h2:=vb.non;subst h1;subst h2;cases rx;cases ry;exact ⟨rfl,rfl⟩
 | .non,.bl c,e,va,vb=>
  cases e;have h1:=va.non;have h2:=vb.bl;subst h1;subst h2;cases rx;cases ry;exact ⟨rfl,rfl⟩
 | .bl p,.non,e,va,vb=>
  cases e;have h1:=va.bl;have h2:=vb.non;subst h1;subst h2;cases rx;cases ry;exact ⟨rfl,rfl⟩
 | .int _,.bl _,e,va,vb=>cases e;have h1:=va.int;subst h1;exact fin rx (fun _ z=>by cases z) (fun _ z=>by cases z) (fun z=>by cases z) (.inl ⟨_,vb.bl⟩) rfl
 | .str _,.bl _,e,va,vb=>cases e;have h1:=va.str;subst h1;exact fin rx (fun _ z=>by cases z) (fun _ z=>by cases z) (fun z=>by cases z) (.inl ⟨_,vb.bl⟩) rfl
 | .lst _,.bl _,e,va,vb=>cases e;obtain ⟨a,vs,h1,_⟩:=va.lst S;subst h1;exact fin rx (fun _ z=>by cases z) (fun _ z=>by cases z) (fun z=>by cases z) (.inl ⟨_,vb.bl⟩) rfl
 | .tup _,.bl _,e,va,vb=>cases e;obtain ⟨a,vs,h1,_⟩:=va.tup S;subst h1;exact fin rx (fun _ z=>by cases z) (fun _ z=>by cases z) (fun z=>by cases z) (.inl ⟨_,vb.bl⟩) rfl
 | .obj _ _,.bl _,e,va,vb=>cases e;obtain ⟨a,dx,vs,h1,_⟩:=va.obj S;subst h1;exact fin rx (fun _ z=>by cases z) (fun _ z=>by cases z) (fun z=>by cases z) (.inl ⟨_,vb.bl⟩) rfl
 | .int _,.non,e,va,vb=>cases e;have h1:=va.int;subst h1;exact fin rx (fun _ z=>by cases z) (fun _ z=>by cases z) (fun z=>by cases z) (.inr vb.non) rfl
 | .str _,.non,e,va,vb=>cases e;have h1:=va.str;subst h1;exact fin rx (fun _ z=>by cases z) (fun _ z=>by cases z) (fun z=>by cases z) (.inr vb.non) rfl
 | .lst _,.non,e,va,vb=>cases e;obtain ⟨a,vs,h1,_⟩:=va.lst S;subst h1;exact fin rx (fun _ z=>by cases z) (fun _ z=>by cases z) (fun z=>by cases z) (.inr vb.non) rfl
 | .tup _,.non,e,va,vb=>cases e;obtain ⟨a,vs,h1,_⟩:=va.tup S;subst h1;exact fin rx (fun _ z=>by cases z) (fun _ z=>by cases z) (fun z=>by cases z) (.inr vb.non) rfl
 | .obj _ _,.non,e,va,vb=>cases e;obtain ⟨a,dx,vs,h1,_⟩:=va.obj S;subst h1;exact fin rx (fun _ z=>by cases z) (fun _ z=>by cases z) (fun z=>by cases z) (.inr vb.non) rfl
theorem op_oIs:OpR X (compareOp .Is) (rD oIs):=by
 intro pins s σ H x y v u Q I rx ry h;obtain ⟨Hs,a,b,r,S,va,vb,e,K⟩:=h;obtain ⟨hp,rfl⟩:=is_vals S va vb rx ry e;exact wpAny_is_plain hp (fin_bl I (K (.bl (v==u)) Hs H (.refl S) (shB _ _ _ _)) rfl)
theorem lh:OpR X (compareOp .IsNot) (rD gV):=by
 intro pins s σ H x y v u Q I rx ry h;obtain ⟨Hs,a,b,r,S,va,vb,e,K⟩:=h;unfold gV at e;cases eo:oIs a b with
 | none=>rw [eo] at e;cases e
 | some r0=>
  rw [eo] at e;obtain ⟨hp,rfl⟩:=is_vals S va vb rx ry eo;cases e;exact wpAny_isNot_plain hp (fin_bl I (K (.bl (!(v==u))) Hs H (.refl S) (shB _ _ _ _)) rfl)
end
inductive Stp where
 | f (C:Addr) (g:Str)
 | x (n:Nat)
noncomputable def setF (g:Str) (h:D->D):List (Str×D)->List (Str×D)
  | []=>[]
  | (k,e)::r=>if k=g then (k,h e)::r else (k,e)::setF g h r
noncomputable def setX (n:Nat) (h:D->D) (ds:List D):List D:=match ds[n]? with
 | some e=>ds.set n (h e)
 | none=>ds
noncomputable def sub:D->List Stp->Option D
 | d,[]=>some d
 | .obj C fs,.f C' g::π=>if C=C' then (fs.lookup g).bind (sub · π) else none
 | .lst ds,.x n::π=>ds[n]?.bind (sub · π)
 | .tup ds,.x n::π=>ds[n]?.bind (sub · π)
 | _,_::_=>none
noncomputable def putAt:D->List Stp->D->D
 | _,[],d'=>d'
 | .obj C fs,.f _ g::π,d'=>.obj C (setF g (putAt · π d') fs)
 | .lst ds,.x n::π,d'=>.lst (setX n (putAt · π d') ds)
 | .tup ds,.x n::π,d'=>.tup (setX n (putAt · π d') ds)
 | d,_::_,_=>d
noncomputable def At (H:Hp):D->V->List Stp->D->V->Prop
 | d,v,[],d',v'=>d'=d/\v'=v
 | .obj C fs,v,.f C' g::π,d',v'=>C=C'/\∃ a dx tR w e,v=.ref a/\H a=some (.ins C dx tR)/\fs.lookup g=some e/\tR.lookup g=some w/\At H e w π d' v'
 | .lst ds,v,.x n::π,d',v'=>∃ a vs w e,v=.ref a/\H a=some (.lst vs)/\ds[n]?=some e/\vs[n]?=some w/\At H e w π d' v'
 | .tup ds,v,.x n::π,d',v'=>∃ a vs w e,v=.ref a/\H a=some (.tup vs)/\ds[n]?=some e/\vs[n]?=some w/\At H e w π d' v'
 | _,_,_::_,_,_=>False
theorem aJ.part {H:Hp}:∀ {ds:List D} {vs:List V} {L:List Addr} {n:Nat} {e:D} {w:V},aJ H ds vs L->ds[n]?=some e->vs[n]?=some w->
  ∃ M,Own H e w M/\(∀ b∈M,b∈L)/\∀ H' e' M',(∀ b,b∉M->H' b=H b)->Own H' e' w M'->(∀ b∈M',b∈M)->∃ L',aJ H' (ds.set n e') vs L'/\∀ b∈L',b∈L
 | [],_,_,n,e,w,h,he,hw=>by simp at he
 | d::ds,_,_,0,e,w,h,he,hw=>by
  unfold aJ at h;obtain ⟨v,r,A,B,rfl,h1,h2,k,rfl⟩:=h;simp at he hw;subst he;subst hw;refine ⟨A,h1,fun b hb=>zC _ hb,fun H' e' M' ag o s=>⟨M'++B,?_,fun b hb=>?_⟩⟩
  ·rw [List.set_cons_zero];unfold aJ;exact ⟨v,r,M',B,rfl,o,h2.agree _ fun b hb=>ag b fun z=>k b z hb,fun b hb wx=>k b (s b hb) wx,rfl⟩
  ·rcases zB.mp hb with hb | hb
   ·exact zC _ (s b hb)
   ·exact zd _ hb
 | d::ds,_,_,n+1,e,w,h,he,hw=>by
  unfold aJ at h;obtain ⟨v,r,A,B,rfl,h1,h2,k,rfl⟩:=h;simp at he hw;obtain ⟨M,o,s,p⟩:=aJ.part h2 he hw;refine ⟨M,o,fun b hb=>zd _ (s b hb),fun H' e' M' ag o' s'=>?_⟩;obtain ⟨L',q1,q2⟩:=p H' e' M' ag o' s';refine ⟨A++L',?_,fun b hb=>?_⟩
  ·rw [List.set_cons_succ];unfold aJ;exact ⟨v,r,A,L',rfl,h1.agree _ fun b hb=>ag b fun z=>k b hb (s b z),q1,fun b hb wx=>k b hb (q2 b wx),rfl⟩
  ·rcases zB.mp hb with hb | hb
   ·exact zC _ hb
   ·exact zd _ (q2 b hb)
theorem bc.part {H:Hp} {g:Str}:∀ {fs:List (Str×D)} {vs:List (Str×V)} {L:List Addr} {e:D} {w:V},bc H fs vs L->fs.lookup g=some e->vs.lookup g=some w->
    ∃ M,Own H e w M/\(∀ b∈M,b∈L)/\∀ H' (h:D->D) M',(∀ b,b∉M->H' b=H b)->Own H' (h e) w M'->(∀ b∈M',b∈M)->∃ L',bc H' (setF g h fs) vs L'/\∀ b∈L',b∈L
  | [],_,_,e,w,h,he,hw=>by simp at he
  | (c,d)::fs,_,_,e,w,h,he,hw=>by
    unfold bc at h;obtain ⟨v,r,A,B,rfl,h1,h2,k,rfl⟩:=h;rw [List.lookup_cons] at he hw;cases hx:g==c with
    | true=>
      rw [hx] at he hw;cases he;cases hw;have hc:c=g:=by simpa using (eq_comm.mp (by simpa using hx))
      refine ⟨A,h1,fun b hb=>zC _ hb,fun H' h M' ag o s=>⟨M'++B,?_,fun b hb=>?_⟩⟩
      . unfold setF
        rw [if_pos hc];unfold bc;exact ⟨_,r,M',B,rfl,o,h2.agree _ fun b hb=>ag b fun z=>k b z hb,fun b hb wx=>k b (s b hb) wx,rfl⟩
      . rcases zB.mp hb with hb | hb
        . exact zC _ (s b hb)
        . exact zd _ hb
    | false=>
      rw [hx] at he hw;have hc:¬c=g:=fun z=>by subst z;simp at hx
      obtain ⟨M,o,s,p⟩:=bc.part h2 he hw;refine ⟨M,o,fun b hb=>zd _ (s b hb),fun H' h M' ag o' s'=>?_⟩;obtain ⟨L',q1,q2⟩:=p H' h M' ag o' s';refine ⟨A++L',?_,fun b hb=>?_⟩
      . unfold setF
        rw [if_neg hc];unfold bc;exact ⟨v,r,A,L',rfl,h1.agree _ fun b hb=>ag b fun z=>k b hb (s b z),q1,fun b hb wx=>k b hb (q2 b wx),rfl⟩
      . rcases zB.mp hb with hb | hb
        . exact zC _ hb
        . exact zd _ (q2 b hb)
theorem Own.part {H:Hp} {π:List Stp}:∀ {d:D} {v:V} {L:List Addr} {d':D} {v':V},Own H d v L->At H d v π d' v'->
  ∃ M,Own H d' v' M/\(∀ b∈M,b∈L)/\∀ H' e' M',(∀ b,b∉M->H' b=H b)->Own H' e' v' M'->(∀ b∈M',b∈M)->∃ L',Own H' (putAt d π e') v L'/\∀ b∈L',b∈L:=by
 induction π with
 | nil=>
  intro d v L d' v' h a;unfold At at a;obtain ⟨rfl,rfl⟩:=a;exact ⟨L,h,fun b hb=>hb,fun H' e' M' ag o s=>⟨M',by unfold putAt;exact o,s⟩⟩
 | cons stp π ih=>
  intro d v L d' v' h a;cases stp with
  | f C g=>
   cases d with
   | obj C' fs=>
    unfold At at a;obtain ⟨rfl,p,dx,tR,w,e,rfl,h1,he,hw,a⟩:=a;unfold Own at h;obtain ⟨p',dx',wR,M0,e1,tZ,h3,h2,n1,n2,rfl⟩:=h;cases e1;rw [h1] at tZ;cases tZ;obtain ⟨Me,oe,se,pe⟩:=bc.part h2 he hw;obtain ⟨M,o,s,q⟩:=ih oe a;refine ⟨M,o,fun b hb=>uf _ (uf _ (se b (s b hb))),fun H' e' M' ag o' s'=>?_⟩;obtain ⟨Le,ol,sl⟩:=q H' e' M' ag o' s';obtain ⟨L',yf,ve⟩:=pe H' (putAt · π e') Le (fun b hb=>ag b fun z=>hb (s b z)) ol sl;refine ⟨p::dx::L',?_,fun b hb=>?_⟩
    ·unfold putAt Own;exact ⟨p,dx,tR,L',rfl,by rw [ag p fun z=>n1 (se _ (s _ z))];exact h1,by rw [ag dx fun z=>n2 (se _ (s _ z))];exact h3,yf,fun z=>n1 (ve _ z),fun z=>n2 (ve _ z),rfl⟩
    ·rcases zj.mp hb with rfl | hb
     ·exact yY
     ·rcases zj.mp hb with rfl | hb
      ·exact uf _ yY
      ·exact uf _ (uf _ (ve _ hb))
   | _=>unfold At at a;exact a.elim
  | x n=>
   cases d with
   | lst ds=>
    unfold At at a;obtain ⟨p,vs,w,e,rfl,h1,he,hw,a⟩:=a;unfold Own at h;obtain ⟨p',uH,M0,e1,tZ,h2,n1,rfl⟩:=h;cases e1;rw [h1] at tZ;cases tZ;obtain ⟨Me,oe,se,pe⟩:=aJ.part h2 he hw;obtain ⟨M,o,s,q⟩:=ih oe a;refine ⟨M,o,fun b hb=>uf _ (se b (s b hb)),fun H' e' M' ag o' s'=>?_⟩;obtain ⟨Le,ol,sl⟩:=q H' e' M' ag o' s';obtain ⟨L',yf,ve⟩:=pe H' (putAt e π e') Le (fun b hb=>ag b fun z=>hb (s b z)) ol sl;refine ⟨p::L',?_,fun b hb=>?_⟩
    ·unfold putAt Own setX;rw [he];exact ⟨p,vs,L',rfl,by rw [ag p fun z=>n1 (se _ (s _ z))];exact h1,yf,fun z=>n1 (ve _ z),rfl⟩
    ·rcases zj.mp hb with rfl | hb
     ·exact yY
     ·exact uf _ (ve _ hb)
   | tup ds=>
    unfold At at a;obtain ⟨p,vs,w,e,rfl,h1,he,hw,a⟩:=a;unfold Own at h;obtain ⟨p',uH,M0,e1,tZ,h2,n1,rfl⟩:=h;cases e1;rw [h1] at tZ;cases tZ;obtain ⟨Me,oe,se,pe⟩:=aJ.part h2 he hw;obtain ⟨M,o,s,q⟩:=ih oe a;refine ⟨M,o,fun b hb=>uf _ (se b (s b hb)),fun H' e' M' ag o' s'=>?_⟩;obtain ⟨Le,ol,sl⟩:=q H' e' M' ag o' s';obtain ⟨L',yf,ve⟩:=pe H' (putAt e π e') Le (fun b hb=>ag b fun z=>hb (s b z)) ol sl;refine ⟨p::L',?_,fun b hb=>?_⟩
    ·unfold putAt Own setX;rw [he];exact ⟨p,vs,L',rfl,by rw [ag p fun z=>n1 (se _ (s _ z))];exact h1,yf,fun z=>n1 (ve _ z),rfl⟩
    ·rcases zj.mp hb with rfl | hb
     ·exact yY
     ·exact uf _ (ve _ hb)
   | _=>unfold At at a;exact a.elim
theorem aJ.get {H:Hp}:∀ {ds:List D} {vs:List V} {L:List Addr} {n:Nat} {e:D},aJ H ds vs L->ds[n]?=some e->∃ w,vs[n]?=some w
 | [],_,_,_,_,_,he=>by simp at he
 | d::ds,_,_,0,e,h,he=>by unfold aJ at h;obtain ⟨v,r,A,B,rfl,_⟩:=h;exact ⟨v,rfl⟩
 | d::ds,_,_,n+1,e,h,he=>by
  unfold aJ at h;obtain ⟨v,r,A,B,rfl,h1,h2,_⟩:=h;obtain ⟨w,hw⟩:=aJ.get (n:=n) h2 (by simpa using he);exact ⟨w,by simpa using hw⟩
theorem bc.get {H:Hp} {g:Str}:∀ {fs:List (Str×D)} {vs:List (Str×V)} {L:List Addr} {e:D},bc H fs vs L->fs.lookup g=some e->∃ w,vs.lookup g=some w
  | [],_,_,_,_,he=>by simp at he
  | (c,d)::fs,_,_,e,h,he=>by
    unfold bc at h;obtain ⟨v,r,A,B,rfl,h1,h2,_⟩:=h;rw [List.lookup_cons] at he ⊢;cases hx:g==c with
    | true=>exact ⟨v,rfl⟩
    | false=>rw [hx] at he;exact bc.get h2 he
theorem At.one {H:Hp} {π:List Stp}:∀ {d:D} {v:V} {L:List Addr} {d' wD:D} {v':V} {st:Stp},Own H d v L->At H d v π d' v'->sub d' [st]=some wD->∃ u6,At H d' v' [st] wD u6/\At H d v (π++[st]) wD u6:=by
 induction π with
 | nil=>
  intro d v L d' wD v' st h a e;unfold At at a;obtain ⟨rfl,rfl⟩:=a;cases st with
  | f C' g=>
   cases d' with
   | obj C fs=>
    unfold sub at e;by_cases hC:C=C'
    ·rw [if_pos hC] at e;cases el:fs.lookup g with
     | none=>rw [el] at e;cases e
     | some k=>
      rw [el] at e;have:k=wD:=by simpa [sub] using e
      subst this;unfold Own at h;obtain ⟨p,dx,tR,M,e1,h1,h3,h2,_⟩:=h;obtain ⟨w,hw⟩:=bc.get h2 el;have:At H (.obj C fs) v' [.f C' g] k w:=by
       unfold At;exact ⟨hC,p,dx,tR,w,k,e1,h1,el,hw,by unfold At;exact ⟨rfl,rfl⟩⟩
      exact ⟨w,this,this⟩
    ·rw [if_neg hC] at e;cases e
   | _=>unfold sub at e;cases e
  | x n=>
   cases d' with
   | lst ds=>
    unfold sub at e;cases el:ds[n]? with
    | none=>rw [el] at e;cases e
    | some k=>
     rw [el] at e;have:k=wD:=by simpa [sub] using e
     subst this;unfold Own at h;obtain ⟨p,vs,M,e1,h1,h2,_⟩:=h;obtain ⟨w,hw⟩:=aJ.get h2 el;have:At H (.lst ds) v' [.x n] k w:=by
      unfold At;exact ⟨p,vs,w,k,e1,h1,el,hw,by unfold At;exact ⟨rfl,rfl⟩⟩
     exact ⟨w,this,this⟩
   | tup ds=>
    unfold sub at e;cases el:ds[n]? with
    | none=>rw [el] at e;cases e
    | some k=>
     rw [el] at e;have:k=wD:=by simpa [sub] using e
     subst this;unfold Own at h;obtain ⟨p,vs,M,e1,h1,h2,_⟩:=h;obtain ⟨w,hw⟩:=aJ.get h2 el;have:At H (.tup ds) v' [.x n] k w:=by
      unfold At;exact ⟨p,vs,w,k,e1,h1,el,hw,by unfold At;exact ⟨rfl,rfl⟩⟩
     exact ⟨w,this,this⟩
   | _=>unfold sub at e;cases e
 | cons stp π ih=>
  intro d v L d' wD v' st h a e;cases stp with
  | f C g=>
   cases d with
   | obj C' fs=>
    unfold At at a;obtain ⟨rfl,p,dx,tR,w,k,rfl,h1,he,hw,a⟩:=a;unfold Own at h;obtain ⟨p',dx',wR,M0,e1,tZ,h3,h2,n1,n2,rfl⟩:=h;cases e1;rw [h1] at tZ;cases tZ;obtain ⟨Me,oe,_⟩:=bc.part h2 he hw;obtain ⟨u6,a1,a2⟩:=ih oe a e;refine ⟨u6,a1,?_⟩;rw [List.cons_append];unfold At;exact ⟨rfl,p,dx,tR,w,k,rfl,h1,he,hw,a2⟩
   | _=>unfold At at a;exact a.elim
  | x n=>
   cases d with
   | lst ds=>
    unfold At at a;obtain ⟨p,vs,w,k,rfl,h1,he,hw,a⟩:=a;unfold Own at h;obtain ⟨p',uH,M0,e1,tZ,h2,n1,rfl⟩:=h;cases e1;rw [h1] at tZ;cases tZ;obtain ⟨Me,oe,_⟩:=aJ.part h2 he hw;obtain ⟨u6,a1,a2⟩:=ih oe a e;refine ⟨u6,a1,?_⟩;rw [List.cons_append];unfold At;exact ⟨p,vs,w,k,rfl,h1,he,hw,a2⟩
   | tup ds=>
    unfold At at a;obtain ⟨p,vs,w,k,rfl,h1,he,hw,a⟩:=a;unfold Own at h;obtain ⟨p',uH,M0,e1,tZ,h2,n1,rfl⟩:=h;cases e1;rw [h1] at tZ;cases tZ;obtain ⟨Me,oe,_⟩:=aJ.part h2 he hw;obtain ⟨u6,a1,a2⟩:=ih oe a e;refine ⟨u6,a1,?_⟩;rw [List.cons_append];unfold At;exact ⟨p,vs,w,k,rfl,h1,he,hw,a2⟩
   | _=>unfold At at a;exact a.elim
theorem sub_f (C C':Addr) (fs:List (Str×D)) (g:Str) (π:List Stp):sub (.obj C fs) (.f C' g::π)=if C=C' then (fs.lookup g).bind (sub · π) else none:=by rw [sub]
theorem sub_l (ds:List D) (n:Nat) (π:List Stp):sub (.lst ds) (.x n::π)=ds[n]?.bind (sub · π):=by rw [sub]
theorem sub_t (ds:List D) (n:Nat) (π:List Stp):sub (.tup ds) (.x n::π)=ds[n]?.bind (sub · π):=by rw [sub]
theorem sub_nil (d:D):sub d []=some d:=by rw [sub]
theorem kz:∀ (π:List Stp) (d:D) (st:Stp),sub d (π++[st])=(sub d π).bind (sub · [st])
 | [],d,st=>by rw [sub_nil];rfl
 | .f C g::π,.obj C' fs,st=>by
  rw [List.cons_append,sub_f,sub_f];by_cases h:C'=C
  ·rw [if_pos h,if_pos h];cases fs.lookup g with
   | none=>rfl
   | some e=>exact kz π e st
  ·rw [if_neg h,if_neg h];rfl
 | .x n::π,.lst ds,st=>by
  rw [List.cons_append,sub_l,sub_l];cases ds[n]? with
  | none=>rfl
  | some e=>exact kz π e st
 | .x n::π,.tup ds,st=>by
  rw [List.cons_append,sub_t,sub_t];cases ds[n]? with
  | none=>rfl
  | some e=>exact kz π e st
 | .f C g::π,.non,st=>rfl
 | .f C g::π,.bl _,st=>rfl
 | .f C g::π,.int _,st=>rfl
 | .f C g::π,.str _,st=>rfl
 | .f C g::π,.lst _,st=>rfl
 | .f C g::π,.tup _,st=>rfl
 | .x n::π,.non,st=>rfl
 | .x n::π,.bl _,st=>rfl
 | .x n::π,.int _,st=>rfl
 | .x n::π,.str _,st=>rfl
 | .x n::π,.obj _ _,st=>rfl
noncomputable def tP (i:Nat) (π:List Stp):TE:=fun σ H Q=>∃ v d d' L,σ[i]?=some (some v)/\Own H d v L/\sub d π=some d'/\∀ v',At H d v π d' v'->Q v' H
structure DP (X:Cx) (e:Expr) (i:Nat) (π:List Stp):Prop where
 go:PE X e (tP i π)
section
variable {X:Cx} {e:Expr} {i:Nat} {π:List Stp} {pos:Pos}
theorem dp_var {x:Str} (h:PE X (.Name x pos) (kX i)):DP X (.Name x pos) i []:=.mk <| h.weak fun σ H Q ⟨v,d,d',L,hv,o,es,K⟩=>by
 have:d=d':=by simpa [sub] using es
 subst this;exact ⟨v,hv,K v (by unfold At;exact ⟨rfl,rfl⟩)⟩
theorem dp_fld {C:Addr} {g:Str} (h:DP X e i π) (hk:Cls X.K C/\NoAttr X.K C g) (hb:attributeBase e g X.env (eval e X.env)=eval e X.env:=by rfl):DP X (.Attribute e g pos) i (π++[.f C g]):=.mk <|
 (pe_fld h.go hb).weak fun σ H Q ⟨v,d,wD,L,hv,o,es,K⟩=>by
  rw [kz] at es;cases e1:sub d π with
  | none=>rw [e1] at es;cases es
  | some d'=>
   rw [e1] at es;refine ⟨v,d,d',L,hv,o,e1,fun v' a=>?_⟩;obtain ⟨u6,a1,a2⟩:=At.one o a es
   match d',a1 with
   | .obj C' fs,a1=>
    unfold At at a1;obtain ⟨rfl,p,dx,tR,w,k,rfl,h1,he,hw,a1⟩:=a1;unfold At at a1;obtain ⟨rfl,rfl⟩:=a1;exact ⟨p,C',dx,tR,u6,rfl,h1,hk.1,hk.2,hw,K u6 a2⟩
theorem dp_ix {n:Nat} {b:Expr} (h:DP X e i π) (hb:PE X b (tC (.int n))) (hs:kc b):DP X (.Subscript e b pos) i (π++[.x n]):=.mk <|
 (pe_ix ((pM (X:=X)).or ix_tup) h.go hb hs).weak fun σ H Q ⟨v,d,wD,L,hv,o,es,K⟩=>by
  rw [kz] at es;cases e1:sub d π with
  | none=>rw [e1] at es;cases es
  | some d'=>
   rw [e1] at es;refine ⟨v,d,d',L,hv,o,e1,fun v' a=>?_⟩;obtain ⟨u6,a1,a2⟩:=At.one o a es
   match d',a1 with
   | .lst ds,a1=>
    unfold At at a1;obtain ⟨p,vs,w,k,rfl,h1,he,hw,a1⟩:=a1;unfold At at a1;obtain ⟨rfl,rfl⟩:=a1;exact .inl ⟨p,vs,n,u6,rfl,rfl,.of h1,atI_nat hw,K u6 a2⟩
   | .tup ds,a1=>
    unfold At at a1;obtain ⟨p,vs,w,k,rfl,h1,he,hw,a1⟩:=a1;unfold At at a1;obtain ⟨rfl,rfl⟩:=a1;exact .inr ⟨p,vs,n,u6,rfl,rfl,.of h1,atI_nat hw,K u6 a2⟩
end
noncomputable def smut (i:Nat) (π:List Stp) (op:List D->Option (List D)):FS:=fun δ=>match δ[i]? with
 | some (some (.nw d))=>(sub d π).bind fun d'=>match d' with
  | .lst ds=>(op ds).bind fun vD=>some (.nx (δ.set i (some (.nw (putAt d π (.lst vD))))))
  | _=>none
 | _=>none
theorem aJ.reverse {H:Hp}:∀ {ds:List D} {vs:List V} {L:List Addr},aJ H ds vs L->∃ L',aJ H ds.reverse vs.reverse L'/\∀ b∈L',b∈L
 | [],_,_,h=>by unfold aJ at h;obtain ⟨rfl,rfl⟩:=h;exact ⟨[],by simp;unfold aJ;exact ⟨rfl,rfl⟩,fun b hb=>hb⟩
 | d::ds,_,_,h=>by
  unfold aJ at h;obtain ⟨v,r,A,B,rfl,h1,h2,k,rfl⟩:=h;obtain ⟨L',q1,q2⟩:=aJ.reverse h2;refine ⟨L'++A,?_,fun b hb=>?_⟩
  ·rw [List.reverse_cons,List.reverse_cons];exact q1.snoc h1 fun b hb wx=>k b wx (q2 b hb)
  ·rcases zB.mp hb with hb | hb
   ·exact zd _ (q2 b hb)
   ·exact zC _ hb
theorem StR.mut {H0 uw Hs H:Hp} {δ:DSt} {σ:St} {i:Nat} {π:List Stp} {d:D} {ds:List D} {v:V} {l:V} (W:Wd H0 uw Hs H) (S:StR H0 Hs H δ σ) (q:δ[i]?=some (some (.nw d))) (hv:σ[i]?=some (some v)) (a:At H d v π (.lst ds) l) :
  ∃ p vs M,l=.ref p/\H p=some (.lst vs)/\aJ H ds vs M/\∀ vD uH M',aJ H vD uH M'->(∀ b∈M',b∈M)->Wd H0 uw Hs (L2.upd H p (.lst uH))/\StR H0 Hs (L2.upd H p (.lst uH)) (δ.set i (some (.nw (putAt d π (.lst vD))))) σ:=by
 obtain ⟨L,O,nL⟩:=S.rep q hv;obtain ⟨M1,o1,s1,pt⟩:=Own.part O a;have o1':=o1;unfold Own at o1;obtain ⟨p,vs,M,e1,h1,h2,n,rfl⟩:=o1;refine ⟨p,vs,M,e1,h1,h2,fun vD uH M' o' sM=>?_⟩;have nM':p∉M':=fun z=>n (sM _ z);obtain ⟨L',ol,sl⟩:=pt (L2.upd H p (.lst uH)) (.lst vD) (p::M') (fun b hb=>av fun z=>hb (by rw [z];exact yY)) (by
  unfold Own;exact ⟨p,uH,M',e1,aw,o'.agree _ fun b hb=>av fun z=>nM' (by rw [<-z];exact hb),nM',rfl⟩) (fun b hb=>by
  rcases zj.mp hb with rfl | hb
  ·exact yY
  ·exact uf _ (sM b hb))
 have pL:p∈L:=s1 p yY;have:=S.upG (Hs':=Hs) (H':=L2.upd H p (.lst uH)) (e':=.nw (putAt d π (.lst vD))) (v':=v) W q hv (fun b o nb eb=>by
   have:b≠p:=fun z=>nb ⟨L,O,by rw [z];exact pL⟩;rw [av this];exact eb) (fun b o eb=>by rw [av (aK eb (nL p pL))];exact W.sub _ _ eb) (.refl _) (fun _ _ e=>.inl e) ⟨L',ol,fun b hb=>nL b (sl b hb)⟩
   (fun b ⟨L'',f,hb⟩=>.inl ⟨L,O,by rw [Own.uniq _ f ol] at hb;exact sl b hb⟩)
 rw [set_same hv] at this;exact this
section
variable {X:Cx} {e o:Expr} {i:Nat} {π:List Stp} {pos apos tQ:Pos}
def opRev (ds:List D):Option (List D):=some ds.reverse
theorem re (h:DP X o i π) (uy:attributeBase o "reverse" X.env (eval o X.env)=eval o X.env:=by rfl) (uz:(apos.endLine==tQ.line)=true:=by rfl)
  (uE:swapsWith (.Call (.Attribute o "reverse" apos) [] [] tQ) none pos.line X.env=pure false:=by rfl):DS X (.Expr (.Call (.Attribute o "reverse" apos) [] [] tQ) pos) (smut i π opRev):=.mk fun H0 uw=>
 (ja (pe_bm0 plainAttrs_list PySem.F.slot_list_reverse PySem.F.type_list_reverse sL h.go uy uz) uE).weak fun D σ H ⟨Hs,δ,res,W,S,e,P⟩=>by
  unfold smut at e;cases q:δ[i]? with
  | none=>rw [q] at e;cases e
  | some z=>
   rw [q] at e
   match z,e with
   | some (.nw d),e=>
    obtain ⟨v,hv,L,O,nL⟩:=S.ent i _ q;cases es:sub d π with
    | none=>simp only [es] at e;cases e
    | some d'=>
     simp only [es,Option.bind] at e
     match d',e,es with
     | .lst ds,e,es=>
      refine ⟨v,d,_,L,hv,O,es,fun v' a=>?_⟩;obtain ⟨p,vs,M,rfl,h1,h2,K⟩:=S.mut W q hv a;refine ⟨.inl ⟨rfl,vs,.of h1⟩,?_⟩;simp only [opRev] at e;cases e;obtain ⟨M',o',sM⟩:=h2.reverse;obtain ⟨W1,S1⟩:=K _ _ _ o' sM;exact ⟨p,vs,rfl,rfl,h1,P σ Hs _ W1 S1⟩
noncomputable def smutA (i:Nat) (π:List Stp) (f:FE):FS:=fun δ=>match δ[i]? with
 | some (some (.nw d))=>(sub d π).bind fun d'=>match d' with
  | .lst ds=>if ds.length<=big then (f δ).bind fun r=>match r with
   | .sh x=>if x.flat=true then some (.nx (δ.set i (some (.nw (putAt d π (.lst (ds++[x]))))))) else none
   | _=>none
   else none
  | _=>none
 | _=>none
theorem At.mono {H H':Hp} (k:aQ H H') {π:List Stp}:∀ {d:D} {v:V} {d':D} {v':V},At H d v π d' v'->At H' d v π d' v':=by
  induction π with
  | nil=>intro d v d' v' h;unfold At at h ⊢;exact h
  | cons p π ih=>
    intro d v d' v' h;cases p <;> cases d <;> unfold At at h ⊢ <;> first
      | exact h
      | (obtain ⟨e0,p,dx,tR,w,e,e1,h1,he,hw,a⟩:=h;exact ⟨e0,p,dx,tR,w,e,e1,k _ _ h1,he,hw,ih a⟩)
      | (obtain ⟨p,vs,w,e,e1,h1,he,hw,a⟩:=h;exact ⟨p,vs,w,e,e1,k _ _ h1,he,hw,ih a⟩)
theorem sO {f:FE} (h:DP X o i π) (he:DE X e f) (uy:attributeBase o "append" X.env (eval o X.env)=eval o X.env:=by rfl)
  (vc:((backTo tQ (starEach [e] X.env)).all (fun x=>!x.1)&&(backToKw tQ (keywordEach [] X.env)).all (fun x=>x.1.isSome)
   &&decide ([e].length+([]:List Keyword).length+(if ([]:List Keyword).isEmpty then 0 else 1)<30))=true:=by rfl)
  (uz:(apos.endLine==tQ.line)=true:=by rfl) (hs:starEach [e] X.env=(false,eval e X.env)::starEach [] X.env:=by rfl)
  (uE:swapsWith (.Call (.Attribute o "append" apos) [e] [] tQ) none pos.line X.env=pure false:=by rfl) :
  DS X (.Expr (.Call (.Attribute o "append" apos) [e] [] tQ) pos) (smutA i π f):=.mk fun H0 uw=>
 (ja (pe_bm plainAttrs_list PySem.F.slot_list_append PySem.F.type_list_append k7 h.go (bO he.go dl hs) uy vc uz hs) uE).weak fun D σ H ⟨Hs,δ,res,W,S,e,P⟩=>by
  unfold smutA at e;cases q:δ[i]? with
  | none=>rw [q] at e;cases e
  | some z=>
   rw [q] at e
   match z,e with
   | some (.nw d),e=>
    obtain ⟨v,hv,L,O,nL⟩:=S.ent i _ q;cases es:sub d π with
    | none=>simp only [es] at e;cases e
    | some d'=>
     simp only [es,Option.bind] at e
     match d',e,es with
     | .lst ds,e,es=>
      replace e:(if ds.length<=big then (f δ).bind fun r=>match r with
       | .sh x=>if x.flat=true then some (Res.nx (δ.set i (some (.nw (putAt d π (.lst (ds++[x]))))))) else none
       | _=>none
       else none)=some res:=e
      by_cases hz:ds.length<=big
      ·rw [if_pos hz] at e;cases ef:f δ with
       | none=>rw [ef] at e;cases e
       | some r=>
        rw [ef] at e;refine ⟨v,d,_,L,hv,O,es,fun v' a=>?_⟩;obtain ⟨p0,vs0,_,e0,yK,_⟩:=S.mut W q hv a;subst e0;refine ⟨.inl ⟨rfl,vs0,.of yK⟩,Hs,δ,r,W.sub,S.ent,ef,fun y uq H1 W1 R1=>?_⟩
        match r,e,R1 with
        | .sh x,e,R1=>
         replace e:(if x.flat=true then some (Res.nx (δ.set i (some (.nw (putAt d π (.lst (ds++[x]))))))) else none)=some res:=e;by_cases hf:x.flat=true
         ·rw [if_pos hf] at e;cases e;obtain ⟨p,vs,M,ep,h1,h2,K⟩:=(S.mono W1).mut (W.trans W1) q hv (At.mono W1.keep a);cases ep;obtain ⟨W2,S2⟩:=K (ds++[x]) (vs++[y]) (M++[]) (h2.snoc (Own.flat hf R1) fun b _ hb=>by cases hb) (fun b hb=>by simpa using hb);refine ⟨_,vs,y,rfl,rfl,h1,?_,P σ uq _ W2 S2⟩;rw [h2.length];exact ck hz
         ·rw [if_neg hf] at e;cases e
      ·rw [if_neg hz] at e;cases e
end
section
variable {X:Cx} {e:Expr} {es:List Expr} {fr:DSt->Option (List R)} {x:Str} {p pos:Pos} {id T:String}
theorem dn_u {qual:Str} {st:Stmt} {ps:List Str} {f:Addr} {fd:FuncData} {k n:Nat} {m:List D->Option D} (d:Df X.K X.mg x qual st ps f fd) (G:dJ X.prog X.w X.K X.mg X.base CX0 k f fd ps (spN n m)) (hr:bx k X.A) (ha:DA X (e::es) fr)
 (hg:Gl X x:=by rfl) (vm:(x==("__debug__" : Str))=false:=by decide) (he:starEach (e::es) X.env=(false,eval e X.env)::starEach es X.env:=by exact bu rfl) (hpl:(backTo pos (starEach es X.env)).any (·.1)=false:=by rfl) :
 DN X (.Call (.Name x p) (e::es) [] pos) (lL n m fr):=.mk <| (mw (E:=E0) G hr hg d.mgx d.fn.kp d.bd .nil oV ha.go vm he hpl).weak fun _ _ _=>tN_call
theorem dn_mk {C f:Addr} {fd:FuncData} {ps:List Str} {k n:Nat} {m:List D->Option (List (Str×D))} (M:Mk X.K C f) (G:dJ X.prog X.w X.K X.mg X.base CX0 k f fd ps (spIN C n m)) (hb:Binds X.K fd ps []) (hm:X.mg x=some (.ref C)) (hr:bx (k+1) X.A) (ha:DA X (e::es) fr)
 (hg:Gl X x:=by rfl) (vm:(x==("__debug__" : Str))=false:=by decide) (he:starEach (e::es) X.env=(false,eval e X.env)::starEach es X.env:=by exact bu rfl) (hpl:(backTo pos (starEach es X.env)).any (·.1)=false:=by rfl) :
 DN X (.Call (.Name x p) (e::es) [] pos) (eP C n m fr):=.mk <| (pe_make (E:=E0) M G hr hg hm hb .nil oV ha.go vm he hpl).weak fun _ _ _=>tN_make
end
section
variable {δ:DSt} {f:FE} {g h:FN} {gs:DSt->Option (List D)} {fr:DSt->Option (List R)} {t:DSt->Option Bool} {F G:FS}
@[simp] theorem nflat_e:gw f δ=(f δ).bind R.toN:=rfl
@[simp] theorem toN_sh (d:D):(R.sh d).toN=if d.flat=true then some d else none:=rfl
@[simp] theorem toN_fr (ds:List D):(R.fr ds).toN=if ds.all D.flat=true then some (.lst ds) else none:=rfl
@[simp] theorem dnw_e:dnw g δ=(g δ).map .sh:=rfl
@[simp] theorem nanil_e:o8 δ=some []:=rfl
@[simp] theorem nacons_e:fC g gs δ=(g δ).bind fun d=>(gs δ).bind fun ds=>some (d::ds):=rfl
@[simp] theorem ntup_e:ntup gs δ=(gs δ).bind fun ds=>if ds.length<=big then some (.tup ds) else none:=rfl
@[simp] theorem nlst_e:nlst gs δ=(gs δ).bind fun ds=>if ds.length<=big then some (.lst ds) else none:=rfl
@[simp] theorem nif_e:nif t g h δ=(t δ).bind fun k=>if k=true then g δ else h δ:=rfl
@[simp] theorem ncall_e (n:Nat) (m:List D->Option D):lL n m fr δ=(fr δ).bind fun rs=>if rs.length=n/\cX rs=true then m (rs.map R.view) else none:=rfl
@[simp] theorem p7 (C:Addr) (n:Nat) (m:List D->Option (List (Str×D))):eP C n m fr δ=(fr δ).bind fun rs=>if rs.length=n/\cX rs=true then (m (rs.map R.view)).map (.obj C) else none:=rfl
@[simp] theorem ssetN_e (i:Nat):mW i g δ=(g δ).bind fun d=>some (.nx (δ.set i (some (.nw d)))):=rfl
@[simp] theorem sretN_e:mX g δ=(g δ).bind fun d=>some (.rn d):=rfl
@[simp] theorem ncomp_e (fi:DSt->Option (List D)) (g:GD) (c:DSt->Option Bool) (fe:FN) (m:Nat) (ix:List Nat):mZ fi g c fe m ix δ=(fi δ).bind fun items=>if items.length<=big then (dh g c fe (dIn m ix δ) items).map .lst else none:=rfl
@[simp] theorem runN_e (k:Nat) (F:FS) (ds:List D):runN k F ds=match F (ds.map (fun d=>some (.sh d))++List.replicate (k-ds.length) none) with
 | some (.rt r)=>r.toN
 | some (.nx _)=>some .non
 | some (.rn d)=>some d
 | _=>none:=rfl
@[simp] theorem sfldN_e (C C' a:Addr) (f:Str) (fs:List (Str×D)) (r:DSt):o9 C f g (some (.on a (.obj C' fs))::r)=if C'=C/\fs.length<1000/\fs.lookup f=none then (g (some (.on a (.obj C' fs))::r)).bind fun d=>some (.nx (some (.on a (.obj C (fs++[(f,d)])))::r)) else none:=rfl
@[simp] theorem sifB_e (i:Nat):iM i t F G δ=(t (frz i δ)).bind fun b=>if b=true then F δ else G δ:=rfl
theorem rg (g:GD) (c:DSt->Option Bool) (fe:FN) (δ:DSt) {α:Type} (enc:α->D) (p:α->Bool) (out:α->D) (xs:List α)
  (h:∀ x∈xs,∃ δ1,g (enc x) δ=some δ1/\c δ1=some (p x)/\(p x=true->fe δ1=some (out x))) :
  dh g c fe δ (xs.map enc)=some ((xs.filter p).map out):=by
 induction xs with
 | nil=>rfl
 | cons x xs ih=>
  obtain ⟨δ1,h1,h2,h3⟩:=h x yY;have ih:=ih fun y hy=>h y (uf _ hy);rw [zb];unfold dh;rw [h1];show ((c δ1).bind fun b=>if b=true then (fe δ1).bind fun r1=>(dh g c fe δ (xs.map enc)).bind fun t=>some (r1::t) else dh g c fe δ (xs.map enc))=_;rw [h2];show (if p x=true then (fe δ1).bind fun r1=>(dh g c fe δ (xs.map enc)).bind fun t=>some (r1::t) else dh g c fe δ (xs.map enc))=_;by_cases hp:p x=true
  ·rw [if_pos hp,h3 hp,ih];simp [hp,List.filter_cons]
  ·rw [if_neg hp,ih];simp [hp,List.filter_cons]
end
end Ew
end
section
open PyProof.Rows PySem PySem.Spec
namespace Ew
theorem zip3_type (a b c:Value):checkTypeCall "zip" { pos:=[a,b,c] }=pure ():=by rfl
theorem zip3_new (a b c:Value):checkBuiltinCall "zip.__new__" { pos:=[Value.type "zip",a,b,c] }=pure ():=by with_unfolding_all rfl
abbrev md (f0:Value) (f1:Bool) (TI TO:Addr):Obj:={ cls:=Value.type "zip",data:=Data.fields #[f0,Value.bool f1,Value.bool false,Value.ref TI,Value.ref TO] }
abbrev dX (vs:List Value):Obj:={ cls:=Value.type "tuple",data:=Data.seq vs.toArray }
abbrev itO (l:Addr) (i:Nat):Obj:={ cls:=Value.type "list_iterator",data:=Data.fields #[Value.ref l,Value.int i 0] }
abbrev mD (h:Heap) (l1 l2 l3:Addr):Heap:=(((((h.push (itO l1 0)).push (itO l2 0)).push (itO l3 0)).push (dX [.ref h.objs.size,.ref (h.objs.size+1),.ref (h.objs.size+2)])).push (dX [.none,.none,.none])).push (md .none false (h.objs.size+3) (h.objs.size+4))
theorem sP (l1 l2 l3:Addr) (xs ys zs:Array Value) :
  Meets (Builtin.«zip.__new__» { pos:=[Value.type "zip",Value.ref l1,Value.ref l2,Value.ref l3] }) fun A R s=>
   s.heap.IsList l1 xs/\s.heap.IsList l2 ys/\s.heap.IsList l3 zs/\
    R (Except.ok (Flow.ret (Value.ref (s.heap.objs.size+5)))) { s with heap:=mD s.heap l1 l2 l3 }:=by
 refine Meets.of_wp fun prog w A R s ⟨h1,h2,h3,hR⟩=>?_;unfold Builtin.«zip.__new__»;refine ub ?_;unfold Builtin.SmallTypes.newClass;refine ub (wpAny_of_eq (a:=true) rfl ?_);refine zk rfl ?_;refine ub (wpAny_of_eq sub_zip ?_);refine zk rfl ?_;refine uc ?_;refine zk rfl ?_;refine ub ?_;unfold Builtin.SmallTypes.iterAll;simp only [List.forIn_cons,List.forIn_nil];refine ub (ub (ub (wpAny_holding (wpAny_pyIter_list h1 (uc ?_)))));refine (ub (ub (wpAny_holding (wpAny_pyIter_list (h2.push _) (uc ?_)))));refine (ub (ub (wpAny_holding (wpAny_pyIter_list ((h3.push _).push _) (uc ?_)))));refine uc (uc ?_);refine ub (wpAny_newTuple ?_ (by simp [PySem.sizeLine_eq]));refine ub (wpAny_newTuple ?_ (by simp [PySem.sizeLine_eq]));refine ub ?_;unfold Builtin.SmallTypes.newRecord newObj;refine zk (Aw (by rw [PySem.sizeLine_eq];simp [Builtin.SmallTypes.ownedTupleFields])) ?_;refine ub (wpAny_alloc ?_);refine uc (uc ⟨_,rfl,?_⟩);simp only [Heap.size_push];exact hR
theorem call_zip3 {prog:Program} {w:World} {A:Around} {E:Value->Shared->Prop} {s:Shared} {l1 l2 l3:Addr} {xs ys zs:Array Value} {Q:Value->Shared->Prop}
  (h1:s.heap.IsList l1 xs) (h2:s.heap.IsList l2 ys) (h3:s.heap.IsList l3 zs)
  (k:Q (Value.ref (s.heap.objs.size+5)) { s with heap:=mD s.heap l1 l2 l3 }) :
  wpAny (model prog w) A (call (Value.type "zip") [Value.ref l1,Value.ref l2,Value.ref l3]) Q E s:=by
 refine callType_new F.called_zip (by decide) (zip3_type _ _ _) (zip3_new _ _ _) (fun obj=>by first | exact PySem.F.args_object_init_4 _ _ _ _ | trivial) F.entry_zip_new (sP l1 l2 l3 xs ys zs) ⟨h1,h2,h3,?_⟩;refine ⟨?_,k⟩;have:=zg ((((((s.heap.push (itO l1 0)).push (itO l2 0)).push (itO l3 0)).push (dX [.ref s.heap.objs.size,.ref (s.heap.objs.size+1),.ref (s.heap.objs.size+2)])).push (dX [.none,.none,.none]))) (o:=md .none false (s.heap.objs.size+3) (s.heap.objs.size+4)) rfl;exact ⟨_,by simpa [Heap.size_push] using this,rfl⟩
end Ew
open PyProof.Rows PySem PySem.Spec
namespace Ew
structure Zs (h:Heap) (N l1 l2 l3 k:Nat) (f0:Value) (f1:Bool):Prop where
 z:h.get? (N+5)=some (md f0 f1 (N+3) (N+4))
 ti:h.get? (N+3)=some (dX [.ref N,.ref (N+1),.ref (N+2)])
 to:∃ a b c,h.get? (N+4)=some (dX [a,b,c])
 i1:h.IsListIter N l1 k
 i2:h.IsListIter (N+1) l2 k
 i3:h.IsListIter (N+2) l3 k
def Off (N:Nat) (c:Nat):Prop:=c<N\/N+5<c
theorem rh {M:Model} {A:Around} {E:Value->Shared->Prop} {s:Shared} {a:Addr} {Q:Option Obj->Shared->Prop} (h:Q (s.heap.get? a) s):wpAny M A (loadIfAlive a) Q E s:=by
 intro Γ p hΓ;unfold loadIfAlive;rw [Sem.wp_loadIfAlive];exact uc (M:=M) (A:=A) (E:=E) h Γ p hΓ
theorem thn3 {α:Type} {t:Sem α} {Q Q':α->Shared->Prop} {M:Model} {A:Around} {E:Value->Shared->Prop} {s:Shared} (h:wpAny M A t Q E s) (hQ:∀ a s,Q a s->Q' a s):wpAny M A t Q' E s:=Ap h hQ fun _ _ x=>x
theorem next3_nf {prog:Program} {w:World} {A:Around} {E:Value->Shared->Prop} {s:Shared} {N l1 l2 l3 k:Nat} {a:Addr} {o:Obj} {f1:Bool} {xs ys zs:Array Value} {x y v:Value} {Q:Value->Shared->Prop}
  (Z:Zs s.heap N l1 l2 l3 k (rawInt a) f1) (ha:s.heap.get? a=some o) (h1:s.heap.IsList l1 xs) (h2:s.heap.IsList l2 ys) (h3:s.heap.IsList l3 zs) (b1:l1<N) (b2:l2<N) (b3:l3<N)
  (hx:xs[k]?=some x) (hy:ys[k]?=some y) (hv:zs[k]?=some v)
  (K:∀ h':Heap,Zs h' N l1 l2 l3 (k+1) (rawInt a) true->h'.get? s.heap.objs.size=some (dX [x,y,v])->h'.objs.size=s.heap.objs.size+1->(∀ (c:Nat) (o:Obj),Off N c->s.heap.get? c=some o->h'.get? c=some o)->Q (Value.ref s.heap.objs.size) { s with heap:=h' }) :
  wpAny (model prog w) A (Builtin.«zip.__next__» { pos:=[Value.ref (N+5)] }) (fun fin s'=>∃ v,fin=Fin.done (Flow.ret v)/\Q v s') E s:=by
 unfold Builtin.«zip.__next__»;refine ub (wpAny_of_eq (a:=(Value.ref (N+5),[])) rfl ?_);refine ub (Ak (x:=Value.bool false) Z.z rfl rfl ?_);refine ub (Ak (x:=Value.ref (N+3)) Z.z rfl rfl ?_);refine ub (wpAny_seqItems Z.ti rfl ?_);refine zk rfl ?_;refine ub ?_;unfold Builtin.SmallTypes.ownedTupleIsFree;refine ub (Ak (x:=rawInt a) Z.z rfl rfl ?_);refine ub (rh ?_);rw [show ((a:Int).toNat)=a from rfl,ha];refine zk rfl ?_;refine ub (Ak (x:=Value.bool f1) Z.z rfl rfl ?_);refine thn3 (Q:=fun b s'=>b=false/\∃ h0:Heap,s'={ s with heap:=h0 }/\Zs h0 N l1 l2 l3 k (rawInt a) true/\h0.objs.size=s.heap.objs.size/\∀ c,c≠N+5->h0.get? c=s.heap.get? c) ?_ ?_
 ·cases f1 with
  | true=>exact zk rfl (uc ⟨rfl,s.heap,rfl,Z,rfl,fun _ _=>rfl⟩)
  | false=>
   refine wpAny_ite_true rfl (ub (Am Z.z rfl (by simp) (uc ⟨rfl,_,rfl,?_,?_,?_⟩)))
   ·have hk:∀ c,c≠N+5->(s.heap.update (N+5) (Obj.mapFields fun x_1=>x_1.setIfInBounds 1 (Value.bool true))).get? c=s.heap.get? c:=fun c hc=>zW _ _ (Ne.symm hc);refine ⟨zF _ Z.z rfl,?_,?_,Z.i1.at fun o e=>?_,Z.i2.at fun o e=>?_,Z.i3.at fun o e=>?_⟩
    ·rw [hk _ (by omega)];exact Z.ti
    ·obtain ⟨p,q,r,e⟩:=Z.to;exact ⟨p,q,r,by rw [hk _ (by omega)];exact e⟩
    ·rw [hk _ (by omega)];exact e
    ·rw [hk _ (by omega)];exact e
    ·rw [hk _ (by omega)];exact e
   ·exact Heap.size_update _ _ _
   ·exact fun c hc=>zW _ _ (Ne.symm hc)
 ·rintro b s0 ⟨rfl,h0,rfl,Z0,hs0,vO⟩;refine zk rfl ?_;simp only [List.forIn_toArray,List.forIn_cons,List.forIn_nil];refine ub (ub (ub (wpAny_holding (zk rfl (ub (wpAny_nextOf_list_item Z0.i1 (h1.at fun o e=>by rw [vO _ (by omega)];exact e) hx fun g1 j1 uG=>uc ?_))))));refine uc ?_;have uG:g1.objs.size=h0.objs.size/\∀ c:Nat,c≠N->g1.get? c=h0.get? c:=uG;have e1:∀ c:Nat,c≠N+5->c≠N->g1.get? c=s.heap.get? c:=fun c c1 c2=>by rw [uG.2 c c2];exact vO c c1
  refine ub (ub (wpAny_holding (zk rfl (ub (wpAny_nextOf_list_item (Z0.i2.at fun o e=>by rw [uG.2 _ (by omega)];exact e) (h2.at fun o e=>by rw [e1 _ (by omega) (by omega)];exact e) hy fun g2 j2 xk=>uc (uc ?_))))));have xk:g2.objs.size=g1.objs.size/\∀ c:Nat,c≠N+1->g2.get? c=g1.get? c:=xk;have e2:∀ c:Nat,c≠N+5->c≠N->c≠N+1->g2.get? c=s.heap.get? c:=fun c c1 c2 c3=>by rw [xk.2 c c3];exact e1 c c1 c2
  refine ub (ub (wpAny_holding (zk rfl (ub (wpAny_nextOf_list_item (Z0.i3.at fun o e=>by rw [xk.2 _ (by omega)];rw [uG.2 _ (by omega)];exact e) (h3.at fun o e=>by rw [e2 _ (by omega) (by omega) (by omega)];exact e) hv fun g3 j3 vh=>uc (uc ?_))))));have vh:g3.objs.size=g2.objs.size/\∀ c:Nat,c≠N+2->g3.get? c=g2.get? c:=vh;have e3:∀ c:Nat,c≠N+5->c≠N->c≠N+1->c≠N+2->g3.get? c=s.heap.get? c:=fun c c1 c2 c3 c4=>by rw [vh.2 c c4];exact e2 c c1 c2 c3
  refine uc ?_;have hz:g3.objs.size=s.heap.objs.size:=by rw [vh.1,xk.1,uG.1];exact hs0
  refine ub (wpAny_newTuple ?_ (by simp [PySem.sizeLine_eq]));refine uc ⟨_,rfl,?_⟩;rw [hz];have hp:∀ c o,g3.get? c=some o->(g3.push (dX [x,y,v])).get? c=some o:=fun c o e=>yV _ e;refine K _ ⟨?_,?_,?_,?_,?_,?_⟩ ?_ ?_ ?_
  ·refine hp _ _ ?_;rw [vh.2 _ (by omega),xk.2 _ (by omega),uG.2 _ (by omega)];exact Z0.z
  ·refine hp _ _ ?_;rw [e3 _ (by omega) (by omega) (by omega) (by omega)];exact Z.ti
  ·obtain ⟨p,q,r,e⟩:=Z.to;refine ⟨p,q,r,hp _ _ ?_⟩;rw [e3 _ (by omega) (by omega) (by omega) (by omega)];exact e
  ·refine j1.at fun o e=>hp _ _ ?_;rw [vh.2 _ (by omega),xk.2 _ (by omega)];exact e
  ·refine j2.at fun o e=>hp _ _ ?_;rw [vh.2 _ (by omega)];exact e
  ·exact j3.at fun o e=>hp _ _ e
  ·rw [<-hz];exact zg _ rfl
  ·rw [Heap.size_push,hz]
  ·intro c o hc e;refine hp _ _ ?_;unfold Off at hc;rw [e3 c (by omega) (by omega) (by omega) (by omega)];exact e
end Ew
open PyProof.Rows PySem PySem.Spec
namespace Ew
theorem be {h:Heap} {a b:Nat} {f:Obj->Obj} (hc:b≠a):(h.update a f).get? b=h.get? b:=zW _ _ (Ne.symm hc)
theorem next3_fr {prog:Program} {w:World} {A:Around} {E:Value->Shared->Prop} {s:Shared} {N l1 l2 l3 k:Nat} {xs ys zs:Array Value} {x y v:Value} {Q:Value->Shared->Prop}
  (Z:Zs s.heap N l1 l2 l3 k .none false) (h1:s.heap.IsList l1 xs) (h2:s.heap.IsList l2 ys) (h3:s.heap.IsList l3 zs) (b1:l1<N) (b2:l2<N) (b3:l3<N)
  (hx:xs[k]?=some x) (hy:ys[k]?=some y) (hv:zs[k]?=some v)
  (K:∀ h':Heap,Zs h' N l1 l2 l3 (k+1) (rawInt s.heap.objs.size) false->h'.get? s.heap.objs.size=some (dX [x,y,v])->h'.objs.size=s.heap.objs.size+1->(∀ (c:Nat) (o:Obj),Off N c->s.heap.get? c=some o->h'.get? c=some o)->Q (Value.ref s.heap.objs.size) { s with heap:=h' }) :
  wpAny (model prog w) A (Builtin.«zip.__next__» { pos:=[Value.ref (N+5)] }) (fun fin s'=>∃ v,fin=Fin.done (Flow.ret v)/\Q v s') E s:=by
 have vk:N+5<s.heap.objs.size:=yZ Z.z;unfold Builtin.«zip.__next__»;refine ub (wpAny_of_eq (a:=(Value.ref (N+5),[])) rfl ?_);refine ub (Ak (x:=Value.bool false) Z.z rfl rfl ?_);refine ub (Ak (x:=Value.ref (N+3)) Z.z rfl rfl ?_);refine ub (wpAny_seqItems Z.ti rfl ?_);refine zk rfl ?_;refine ub ?_;unfold Builtin.SmallTypes.ownedTupleIsFree;refine ub (Ak (x:=Value.none) Z.z rfl rfl (uc ?_));refine wpAny_ite_true rfl ?_;refine ub (wpAny_rule ?_);refine ub (Ak (x:=Value.ref (N+4)) Z.z rfl rfl ?_);refine ub (Am Z.z rfl (by simp) ?_);obtain ⟨p,q,r,hto⟩:=Z.to;generalize xR:s.heap.update (N+5) (Obj.mapFields fun x_1=>x_1.setIfInBounds 0 Value.ellipsis)=g0;have k0:∀ c:Nat,c≠N+5->g0.get? c=s.heap.get? c:=fun c hc=>by rw [<-xR];exact be hc
 have z0:g0.get? (N+5)=some (md Value.ellipsis false (N+3) (N+4)):=by rw [<-xR];exact zF _ Z.z rfl
 have s0:g0.objs.size=s.heap.objs.size:=by rw [<-xR];exact Heap.size_update _ _ _
 simp only [List.zipIdx_cons,List.zipIdx_nil,List.forIn_cons,List.forIn_nil];refine ub (ub (ub (wpAny_onRaise (zk rfl (ub (wpAny_nextOf_list_item (Z.i1.at fun o e=>by rw [k0 _ (by omega)];exact e) (h1.at fun o e=>by rw [k0 _ (by omega)];exact e) hx fun g1 j1 uG=>uc ?_))))));have uG:g1.objs.size=g0.objs.size/\∀ c:Nat,c≠N->g1.get? c=g0.get? c:=uG;have t1:g1.get? (N+4)=some (dX [p,q,r]):=by rw [uG.2 _ (by omega),k0 _ (by omega)];exact hto
 refine ub (wpAny_seqItems t1 rfl (ub (wpAny_updateSeq t1 rfl ?_ (by simp [PySem.sizeLine_eq]) (by simp [PySem.sizeLine_eq]))));refine ub (wpAny_letGo (uc ?_));generalize uo:g1.update (N+4) _=g2;have k2:∀ c:Nat,c≠N+5->c≠N->c≠N+4->g2.get? c=s.heap.get? c:=fun c c1 c2 c3=>by rw [<-uo,be c3,uG.2 c c2];exact k0 c c1
 have z2:g2.get? (N+5)=some (md Value.ellipsis false (N+3) (N+4)):=by rw [<-uo,be (by omega),uG.2 _ (by omega)];exact z0
 have t2:g2.get? (N+4)=some (dX [x,q,r]):=by rw [<-uo];exact zF _ t1 rfl
 have i2:g2.IsListIter N l1 (k+1):=j1.at fun o e=>by rw [<-uo,be (by omega)];exact e
 have s2:g2.objs.size=s.heap.objs.size:=by rw [<-uo,Heap.size_update,uG.1,s0]
 refine ub (ub (wpAny_onRaise (zk rfl (ub (wpAny_nextOf_list_item (Z.i2.at fun o e=>by rw [k2 _ (by omega) (by omega) (by omega)];exact e) (h2.at fun o e=>by rw [k2 _ (by omega) (by omega) (by omega)];exact e) hy fun g3 j3 vh=>uc ?_)))));have vh:g3.objs.size=g2.objs.size/\∀ c:Nat,c≠N+1->g3.get? c=g2.get? c:=vh;have t3:g3.get? (N+4)=some (dX [x,q,r]):=by rw [vh.2 _ (by omega)];exact t2
 refine ub (wpAny_seqItems t3 rfl (ub (wpAny_updateSeq t3 rfl ?_ (by simp [PySem.sizeLine_eq]) (by simp [PySem.sizeLine_eq]))));refine ub (wpAny_letGo (uc ?_));generalize xQ:g3.update (N+4) _=g4;have k4:∀ c:Nat,c≠N+5->c≠N->c≠N+4->c≠N+1->g4.get? c=s.heap.get? c:=fun c c1 c2 c3 c4=>by rw [<-xQ,be c3,vh.2 c c4];exact k2 c c1 c2 c3
 have z4:g4.get? (N+5)=some (md Value.ellipsis false (N+3) (N+4)):=by rw [<-xQ,be (by omega),vh.2 _ (by omega)];exact z2
 have t4:g4.get? (N+4)=some (dX [x,y,r]):=by rw [<-xQ];exact zF _ t3 rfl
 have i4:g4.IsListIter N l1 (k+1):=i2.at fun o e=>by rw [<-xQ,be (by omega),vh.2 _ (by omega)];exact e
 have i4':g4.IsListIter (N+1) l2 (k+1):=j3.at fun o e=>by rw [<-xQ,be (by omega)];exact e
 have s4:g4.objs.size=s.heap.objs.size:=by rw [<-xQ,Heap.size_update,vh.1,s2]
 refine ub (ub (wpAny_onRaise (zk rfl (ub (wpAny_nextOf_list_item (Z.i3.at fun o e=>by rw [k4 _ (by omega) (by omega) (by omega) (by omega)];exact e) (h3.at fun o e=>by rw [k4 _ (by omega) (by omega) (by omega) (by omega)];exact e) hv fun g5 j5 w8=>uc ?_)))));have w8:g5.objs.size=g4.objs.size/\∀ c:Nat,c≠N+2->g5.get? c=g4.get? c:=w8;have t5:g5.get? (N+4)=some (dX [x,y,r]):=by rw [w8.2 _ (by omega)];exact t4
 refine ub (wpAny_seqItems t5 rfl (ub (wpAny_updateSeq t5 rfl ?_ (by simp [PySem.sizeLine_eq]) (by simp [PySem.sizeLine_eq]))));refine ub (wpAny_letGo (uc (uc ?_)));generalize xH:g5.update (N+4) _=g6;have k6:∀ c:Nat,c≠N+5->c≠N->c≠N+4->c≠N+1->c≠N+2->g6.get? c=s.heap.get? c:=fun c c1 c2 c3 c4 c5=>by rw [<-xH,be c3,w8.2 c c5];exact k4 c c1 c2 c3 c4
 have z6:g6.get? (N+5)=some (md Value.ellipsis false (N+3) (N+4)):=by rw [<-xH,be (by omega),w8.2 _ (by omega)];exact z4
 have t6:g6.get? (N+4)=some (dX [x,y,v]):=by rw [<-xH];exact zF _ t5 rfl
 have i6:g6.IsListIter N l1 (k+1):=i4.at fun o e=>by rw [<-xH,be (by omega),w8.2 _ (by omega)];exact e
 have i6':g6.IsListIter (N+1) l2 (k+1):=i4'.at fun o e=>by rw [<-xH,be (by omega),w8.2 _ (by omega)];exact e
 have i6'':g6.IsListIter (N+2) l3 (k+1):=j5.at fun o e=>by rw [<-xH,be (by omega)];exact e
 have s6:g6.objs.size=s.heap.objs.size:=by rw [<-xH,Heap.size_update,w8.1,s4]
 refine ub (wpAny_seqItems t6 rfl ?_);refine ub (wpAny_newTuple ?_ (by simp [PySem.sizeLine_eq]));have hp:∀ c o,g6.get? c=some o->(g6.push (dX [x,y,v])).get? c=some o:=fun c o e=>yV _ e;refine ub ?_;unfold Builtin.SmallTypes.ownedTupleHandOut;refine ub (Am (hp _ _ z6) rfl (by simp) ?_);generalize hg7:(g6.push _).update (N+5) _=g7;have z7:g7.get? (N+5)=some (md (rawInt g6.objs.size) false (N+3) (N+4)):=by rw [<-hg7];exact zF _ (hp _ _ z6) rfl
 refine Am z7 rfl (by simp) ?_;generalize hg8:g7.update (N+5) _=g8;have z8:g8.get? (N+5)=some (md (rawInt g6.objs.size) false (N+3) (N+4)):=by rw [<-hg8];exact zF _ z7 rfl
 have k8:∀ (c:Nat) (o:Obj),c≠N+5->g6.get? c=some o->g8.get? c=some o:=fun c o hc e=>by rw [<-hg8,be hc,<-hg7,be hc];exact hp _ _ e
 refine uc ⟨_,rfl,?_⟩;rw [s6] at z8;show Q (Value.ref g6.objs.size) _;rw [s6];refine K _ ⟨z8,?_,?_,?_,?_,?_⟩ ?_ ?_ ?_
 ·refine k8 _ _ (by omega) ?_;rw [k6 _ (by omega) (by omega) (by omega) (by omega) (by omega)];exact Z.ti
 ·exact ⟨_,_,_,k8 _ _ (by omega) t6⟩
 ·exact i6.at fun o e=>k8 _ _ (by omega) e
 ·exact i6'.at fun o e=>k8 _ _ (by omega) e
 ·exact i6''.at fun o e=>k8 _ _ (by omega) e
 ·rw [<-hg8,be (by omega),<-hg7,be (by omega),<-s6];exact zg _ rfl
 ·rw [<-hg8,Heap.size_update,<-hg7,Heap.size_update,Heap.size_push,s6]
 ·intro c o hc e;unfold Off at hc;refine k8 _ _ (by omega) ?_;rw [k6 _ (by omega) (by omega) (by omega) (by omega) (by omega)];exact e
theorem next3_end {prog:Program} {w:World} {A:Around} {E:Value->Shared->Prop} {s:Shared} {N l1 l2 l3 k:Nat} {f0:Value} {f1:Bool} {xs ys:Array Value} {x:Value} {Q:PySem.Fin->Shared->Prop} (hA:A.handled=none)
  (Z:Zs s.heap N l1 l2 l3 k f0 f1) (hf:(f0=.none/\f1=false)\/∃ (a:Addr) (o:Obj),f0=rawInt a/\s.heap.get? a=some o) (h1:s.heap.IsList l1 xs) (h2:s.heap.IsList l2 ys) (b1:l1<N) (b2:l2<N)
  (hx:xs[k]?=some x) (hy:ys[k]?=none)
  (K:∀ (h':Heap) (e:Addr),(∀ (c:Nat) (o:Obj),Off N c->s.heap.get? c=some o->h'.get? c=some o)->(∃ o,h'.get? e=some o/\o.cls=Value.type "StopIteration")->E (Value.ref e) { s with heap:=h' }) :
  wpAny (model prog w) A (Builtin.«zip.__next__» { pos:=[Value.ref (N+5)] }) Q E s:=by
 unfold Builtin.«zip.__next__»;refine ub (wpAny_of_eq (a:=(Value.ref (N+5),[])) rfl ?_);refine ub (Ak (x:=Value.bool false) Z.z rfl rfl ?_);refine ub (Ak (x:=Value.ref (N+3)) Z.z rfl rfl ?_);refine ub (wpAny_seqItems Z.ti rfl ?_);refine zk rfl ?_;refine ub ?_;unfold Builtin.SmallTypes.ownedTupleIsFree;rcases hf with ⟨rfl,rfl⟩ | ⟨a,o,rfl,ha⟩
 ·refine ub (Ak (x:=Value.none) Z.z rfl rfl (uc ?_));refine wpAny_ite_true rfl ?_;refine ub (wpAny_rule ?_);refine ub (Ak (x:=Value.ref (N+4)) Z.z rfl rfl ?_);refine ub (Am Z.z rfl (by simp) ?_);obtain ⟨p,q,r,hto⟩:=Z.to;generalize xR:s.heap.update (N+5) (Obj.mapFields fun x_1=>x_1.setIfInBounds 0 Value.ellipsis)=g0;have k0:∀ c:Nat,c≠N+5->g0.get? c=s.heap.get? c:=fun c hc=>by rw [<-xR];exact be hc
  have z0:g0.get? (N+5)=some (md Value.ellipsis false (N+3) (N+4)):=by rw [<-xR];exact zF _ Z.z rfl
  simp only [List.zipIdx_cons,List.zipIdx_nil,List.forIn_cons,List.forIn_nil];refine ub (ub (ub (wpAny_onRaise (zk rfl (ub (wpAny_nextOf_list_item (Z.i1.at fun o e=>by rw [k0 _ (by omega)];exact e) (h1.at fun o e=>by rw [k0 _ (by omega)];exact e) hx fun g1 j1 uG=>uc ?_))))));have uG:g1.objs.size=g0.objs.size/\∀ c:Nat,c≠N->g1.get? c=g0.get? c:=uG;have t1:g1.get? (N+4)=some (dX [p,q,r]):=by rw [uG.2 _ (by omega),k0 _ (by omega)];exact hto
  refine ub (wpAny_seqItems t1 rfl (ub (wpAny_updateSeq t1 rfl ?_ (by simp [PySem.sizeLine_eq]) (by simp [PySem.sizeLine_eq]))));refine ub (wpAny_letGo (uc ?_));generalize uo:g1.update (N+4) _=g2;have k2:∀ c:Nat,c≠N+5->c≠N->c≠N+4->g2.get? c=s.heap.get? c:=fun c c1 c2 c3=>by rw [<-uo,be c3,uG.2 c c2];exact k0 c c1
  have z2:g2.get? (N+5)=some (md Value.ellipsis false (N+3) (N+4)):=by rw [<-uo,be (by omega),uG.2 _ (by omega)];exact z0
  refine ub (ub (wpAny_onRaise (zk rfl (ub (wpAny_nextOf_list_end hA (Z.i2.at fun o e=>by rw [k2 _ (by omega) (by omega) (by omega)];exact e) (h2.at fun o e=>by rw [k2 _ (by omega) (by omega) (by omega)];exact e) hy fun g3 e uW he=>?_)))));have uW:∀ (c:Nat) (o:Obj),c≠N+1->g2.get? c=some o->g3.get? c=some o:=uW;refine Am (uW _ _ (by omega) z2) rfl (by simp) ?_;obtain ⟨oe,he1,he2⟩:=he;refine K _ e ?_ ?_
  ·intro c o hc hce;unfold Off at hc;rw [be (by omega)];refine uW _ _ (by omega) ?_;rw [k2 _ (by omega) (by omega) (by omega)];exact hce
  ·by_cases hez:e=N+5
   ·subst hez;rw [uW _ _ (by omega) z2] at he1;cases he1;exact absurd (show Value.type "zip" = Value.type "StopIteration" from he2) (by decide)
   ·exact ⟨oe,by rw [be hez];exact he1,he2⟩
 ·refine ub (Ak (x:=rawInt a) Z.z rfl rfl ?_);refine ub (rh ?_);rw [show ((a:Int).toNat)=a from rfl,ha];refine zk rfl ?_;refine ub (Ak (x:=Value.bool f1) Z.z rfl rfl ?_);refine thn3 (Q:=fun b s'=>b=false/\∃ h0:Heap,s'={ s with heap:=h0 }/\∀ c:Nat,c≠N+5->h0.get? c=s.heap.get? c) ?_ ?_
  ·cases f1 with
   | true=>exact zk rfl (uc ⟨rfl,s.heap,rfl,fun _ _=>rfl⟩)
   | false=>exact wpAny_ite_true rfl (ub (Am Z.z rfl (by simp) (uc ⟨rfl,_,rfl,fun c hc=>be hc⟩)))
  ·rintro b s0 ⟨rfl,h0,rfl,vO⟩;refine zk rfl ?_;simp only [List.forIn_toArray,List.forIn_cons,List.forIn_nil];refine ub (ub (ub (wpAny_holding (zk rfl (ub (wpAny_nextOf_list_item (Z.i1.at fun o e=>by rw [vO _ (by omega)];exact e) (h1.at fun o e=>by rw [vO _ (by omega)];exact e) hx fun g1 j1 uG=>uc ?_))))));refine uc ?_;have uG:g1.objs.size=h0.objs.size/\∀ c:Nat,c≠N->g1.get? c=h0.get? c:=uG;have e1:∀ c:Nat,c≠N+5->c≠N->g1.get? c=s.heap.get? c:=fun c c1 c2=>by rw [uG.2 c c2];exact vO c c1
   refine ub (ub (wpAny_holding (zk rfl (ub (wpAny_nextOf_list_end hA (Z.i2.at fun o e=>by rw [e1 _ (by omega) (by omega)];exact e) (h2.at fun o e=>by rw [e1 _ (by omega) (by omega)];exact e) hy fun g3 e uW he=>?_)))));have uW:∀ (c:Nat) (o:Obj),c≠N+1->g1.get? c=some o->g3.get? c=some o:=uW;refine K _ e ?_ he;intro c o hc hce;unfold Off at hc;refine uW _ _ (by omega) ?_;rw [e1 _ (by omega) (by omega)];exact hce
end Ew
open PyProof.Rows PySem PySem.Spec
namespace Ew
theorem sQ:typeLookup (Value.type "zip") (Str.ofString "__len__")=pure none:=by with_unfolding_all rfl
theorem ri:typeLookup (Value.type "zip") (Str.ofString "__length_hint__")=pure none:=by with_unfolding_all rfl
def FOk (M0 k:Nat) (f0:Value) (f1:Bool):Prop:=(k=0/\f0=.none/\f1=false)\/(0<k/\f0=rawInt M0)
theorem p9 {prog:Program} {w:World} {A:Around} {E:Value->Shared->Prop} {s:Shared} {N l1 l2 l3 k M0:Nat} {f0:Value} {f1:Bool} {xs ys zs:Array Value} {x y v:Value} {Q:Option Value->Shared->Prop}
  (Z:Zs s.heap N l1 l2 l3 k f0 f1) (hf:FOk M0 k f0 f1) (uQ:s.heap.objs.size=M0+k) (xi:0<k->∃ o,s.heap.get? M0=some o) (h1:s.heap.IsList l1 xs) (h2:s.heap.IsList l2 ys) (h3:s.heap.IsList l3 zs) (b1:l1<N) (b2:l2<N) (b3:l3<N)
  (hx:xs[k]?=some x) (hy:ys[k]?=some y) (hv:zs[k]?=some v)
  (K:∀ (h':Heap) (g:Bool),Zs h' N l1 l2 l3 (k+1) (rawInt M0) g->h'.get? (M0+k)=some (dX [x,y,v])->h'.objs.size=M0+(k+1)->(∀ (c:Nat) (o:Obj),Off N c->s.heap.get? c=some o->h'.get? c=some o)->Q (some (Value.ref (M0+k))) { s with heap:=h' }) :
  wpAny (model prog w) A (pyNext (Value.ref (N+5))) Q E s:=by
 unfold pyNext;have vL:s.TypeIs (Value.ref (N+5)) "zip":=⟨_,Z.z,rfl⟩;refine ub (wpAny_attempt (wpAny_callSpecial?_slot vL F.slot_zip_next (wpAny_call_entry F.slot_zip_next vL F.entry_zip_next ?_ (F.args_zip_next_1 _))));rcases hf with ⟨rfl,rfl,rfl⟩ | ⟨hk,rfl⟩
 ·refine next3_fr Z h1 h2 h3 b1 b2 b3 hx hy hv fun h' Z' t' s' k'=>uc ?_;rw [uQ] at t' s' Z' ⊢;exact K h' false Z' t' (by omega) k'
 ·obtain ⟨o,ho⟩:=xi hk;refine next3_nf Z ho h1 h2 h3 b1 b2 b3 hx hy hv fun h' Z' t' s' k'=>uc ?_;rw [uQ] at t' s' ⊢;exact K h' true Z' t' (by omega) k'
theorem rj {prog:Program} {w:World} {A:Around} {E:Value->Shared->Prop} {s:Shared} {N l1 l2 l3 k M0:Nat} {f0:Value} {f1:Bool} {xs ys:Array Value} {x:Value} {Q:Option Value->Shared->Prop} (hA:A.handled=none)
  (Z:Zs s.heap N l1 l2 l3 k f0 f1) (hf:FOk M0 k f0 f1) (xi:0<k->∃ o,s.heap.get? M0=some o) (h1:s.heap.IsList l1 xs) (h2:s.heap.IsList l2 ys) (b1:l1<N) (b2:l2<N)
  (hx:xs[k]?=some x) (hy:ys[k]?=none)
  (K:∀ h':Heap,(∀ (c:Nat) (o:Obj),Off N c->s.heap.get? c=some o->h'.get? c=some o)->Q none { s with heap:=h' }) :
  wpAny (model prog w) A (pyNext (Value.ref (N+5))) Q E s:=by
 unfold pyNext;have vL:s.TypeIs (Value.ref (N+5)) "zip":=⟨_,Z.z,rfl⟩;refine ub (wpAny_attempt (wpAny_callSpecial?_slot vL F.slot_zip_next (wpAny_call_entry F.slot_zip_next vL F.entry_zip_next ?_ (F.args_zip_next_1 _))));have hf':(f0=.none/\f1=false)\/∃ (a:Addr) (o:Obj),f0=rawInt a/\s.heap.get? a=some o:=by
  rcases hf with ⟨_,rfl,rfl⟩ | ⟨hk,rfl⟩
  ·exact .inl ⟨rfl,rfl⟩
  ·obtain ⟨o,ho⟩:=xi hk;exact .inr ⟨M0,o,rfl,ho⟩
 refine next3_end (A:=A.in1) hA Z hf' h1 h2 b1 b2 hx hy fun h' e hk he=>?_;refine ub (wpAny_isInstance he isSubtype_stop ?_);exact wpAny_ite_true rfl (uc (K h' hk))
abbrev jP (vs:Array Value) (c:Nat):Obj:={ cls:=Value.type "list",data:=Data.seq vs c }
theorem ext3_loop {prog:Program} {w:World} {A:Around} {R:Result->Shared->Prop} {N l1 l2 l3 S M0:Nat} {xs ys zs:Array Value} {res:Value} (hA:A.handled=none)
  (b1:l1<N) (b2:l2<N) (b3:l3<N) (bS:N+5<S) (bM:S<M0) (yt:xs.size=ys.size+1) (hn3:zs.size=ys.size) (yq:ys.size<=sizeLine) :
  ∀ (d k:Nat) (s:Shared) (f0:Value) (f1:Bool) (acc:Array Value) (c:Nat),ys.size-k=d->k<=ys.size->Zs s.heap N l1 l2 l3 k f0 f1->FOk M0 k f0 f1->s.heap.objs.size=M0+k->
   s.heap.IsList l1 xs->s.heap.IsList l2 ys->s.heap.IsList l3 zs->s.heap.get? S=some (jP acc c)->acc.toList=(List.range k).map (fun j=>Value.ref (M0+j))->
   (∀ j x y v,j<k->xs[j]?=some x->ys[j]?=some y->zs[j]?=some v->s.heap.get? (M0+j)=some (dX [x,y,v]))->
   (∀ (h':Heap) (tT:Array Value) (c':Nat),h'.get? S=some (jP tT c')->tT.toList=(List.range ys.size).map (fun j=>Value.ref (M0+j))->
    (∀ j x y v,j<ys.size->xs[j]?=some x->ys[j]?=some y->zs[j]?=some v->h'.get? (M0+j)=some (dX [x,y,v]))->
    (∀ (c:Nat) (o:Obj),c<N->s.heap.get? c=some o->h'.get? c=some o)->R (Except.ok (Flow.ret res)) { s with heap:=h' })->
   codeAny (model prog w) A (Code.builtin "list.extend.loop" { pos:=[Value.ref S,Value.ref (N+5),res] }) R s:=by
 intro d
 induction d with
 | zero=>
  intro k s f0 f1 acc c hd hk Z hf uQ h1 h2 h3 hS vQ wo K;have yx:k=ys.size:=by omega
  refine codeAny_builtin F.entry_extend_loop ?_;rw [Around.under_plainId F.plain_extend_loop];unfold Builtin.«list.extend.loop»;obtain ⟨x,hx⟩ : ∃ x,xs[k]?=some x:=⟨xs[k]'(by omega),by simp⟩;have xi:0<k->∃ o,s.heap.get? M0=some o:=by
   intro h0;have:=wo 0 (xs[0]'(by omega)) (ys[0]'(by omega)) (zs[0]'(by omega)) h0 (by simp) (by simp) (by simp);exact ⟨_,this⟩
  refine ub (rj (A:=A.in1) hA Z hf xi h1 h2 b1 b2 hx (by simp [yx]) fun h' hh=>?_);refine uc ?_;refine K h' acc c (hh _ _ (by unfold Off;omega) hS) (by rw [vQ,yx]) ?_ ?_
  ·intro j x y v hj e1 e2 e3;exact hh _ _ (by unfold Off;omega) (wo j x y v (by omega) e1 e2 e3)
  ·intro c o hc e;exact hh _ _ (by unfold Off;omega) e
 | succ d ih=>
  intro k s f0 f1 acc c hd hk Z hf uQ h1 h2 h3 hS vQ wo K;refine codeAny_builtin F.entry_extend_loop ?_;rw [Around.under_plainId F.plain_extend_loop];unfold Builtin.«list.extend.loop»;have l1':k<xs.size:=by omega
  have l2':k<ys.size:=by omega
  have l3':k<zs.size:=by omega
  have xi:0<k->∃ o,s.heap.get? M0=some o:=by
   intro h0;have:=wo 0 (xs[0]'(by omega)) (ys[0]'(by omega)) (zs[0]'(by omega)) h0 (by simp) (by simp) (by simp);exact ⟨_,this⟩
  refine ub (p9 (x:=xs[k]) (y:=ys[k]) (v:=zs[k]) Z hf uQ xi h1 h2 h3 b1 b2 b3 (by simp) (by simp) (by simp) fun h' g Z' t' s' k'=>?_);have hS':h'.get? S=some (jP acc c):=k' _ _ (by unfold Off;omega) hS;have xi:acc.size=k:=by
   have:=congrArg List.length vQ;simpa using this
  refine ub (listUpdate_at hS' rfl ?_ (by omega) (by simp;omega));refine uc ⟨plainId_quiet F.plain_extend_loop _,?_⟩;generalize hg:h'.update S (Obj.mapSeq fun x_1=>x_1.push (Value.ref (M0+k)))=vZ;have ho:∀ c:Nat,c≠S->vZ.get? c=h'.get? c:=fun c hc=>by rw [<-hg];exact be hc
  have xO:∃ c'',vZ.get? S=some (jP (acc.push (Value.ref (M0+k))) c''):=⟨_,by rw [<-hg];exact zF _ hS' rfl⟩;obtain ⟨c'',xO⟩:=xO;have hL:∀ {l:Nat} {us:Array Value},l<N->s.heap.IsList l us->vZ.IsList l us:=fun {l us} hl hh=>hh.at fun o e=>by
   rw [ho _ (by omega)];exact k' _ _ (by unfold Off;omega) e
  refine ih (k+1) { s with heap:=vZ } (rawInt M0) g (acc.push (Value.ref (M0+k))) c'' (by omega) (by omega) ?_ (.inr ⟨by omega,rfl⟩) ?_ (hL b1 h1) (hL b2 h2) (hL b3 h3) xO ?_ ?_ ?_
  ·obtain ⟨p,q,r,e⟩:=Z'.to;exact ⟨by rw [ho _ (by omega)];exact Z'.z,by rw [ho _ (by omega)];exact Z'.ti,⟨p,q,r,by rw [ho _ (by omega)];exact e⟩,Z'.i1.at fun o e=>by rw [ho _ (by omega)];exact e,Z'.i2.at fun o e=>by rw [ho _ (by omega)];exact e,Z'.i3.at fun o e=>by rw [ho _ (by omega)];exact e⟩
  ·show vZ.objs.size=_;rw [<-hg,Heap.size_update,s']
  ·simp [vQ,List.range_succ]
  ·intro j x y v hj e1 e2 e3;show vZ.get? (M0+j)=_;rw [ho _ (by omega)];by_cases wN:j=k
   ·subst wN;rw [Array.getElem?_eq_getElem l1'] at e1;rw [Array.getElem?_eq_getElem l2'] at e2;rw [Array.getElem?_eq_getElem l3'] at e3;cases e1;cases e2;cases e3;exact t'
   ·exact k' _ _ (by unfold Off;omega) (wo j x y v (by omega) e1 e2 e3)
  ·intro h3' tT c3 q1 q2 q3 q4;refine K h3' tT c3 q1 q2 q3 ?_;intro c o hc e;refine q4 c o hc ?_;show vZ.get? c=some o;rw [ho _ (by omega)];exact k' _ _ (by unfold Off;omega) e
theorem m6 {prog:Program} {w:World} {A:Around} {E:Value->Shared->Prop} {s:Shared} {N l1 l2 l3:Nat} {xs ys zs:Array Value} {Q:Value->Shared->Prop} (hA:A.handled=none)
  (hN:s.heap.objs.size=N+6) (Z:Zs s.heap N l1 l2 l3 0 .none false) (h1:s.heap.IsList l1 xs) (h2:s.heap.IsList l2 ys) (h3:s.heap.IsList l3 zs)
  (b1:l1<N) (b2:l2<N) (b3:l3<N) (yt:xs.size=ys.size+1) (hn3:zs.size=ys.size) (yq:ys.size<=sizeLine)
  (K:∀ (h':Heap) (tT:Array Value) (c':Nat),h'.get? (N+6)=some (jP tT c')->tT.toList=(List.range ys.size).map (fun j=>Value.ref (N+7+j))->
   (∀ j x y v,j<ys.size->xs[j]?=some x->ys[j]?=some y->zs[j]?=some v->h'.get? (N+7+j)=some (dX [x,y,v]))->
   (∀ (c:Nat) (o:Obj),c<N->s.heap.get? c=some o->h'.get? c=some o)->Q (Value.ref (N+6)) { s with heap:=h' }) :
  wpAny (model prog w) A (call (Value.type "list") [Value.ref (N+5)]) Q E s:=by
 refine callType_codes F.called_list (F.typeCall_list_1 _) F.entry_list_init (code_list_new _ (Q₁:=fun v tM=>v=Value.ref (N+6)/\tM={ s with heap:=s.heap.push (jP #[] 0) }) ⟨by rw [hN],rfl⟩) ?_;rintro obj tM ⟨rfl,rfl⟩;have uK:(s.heap.push (jP #[] 0)).get? (N+6)=some (jP #[] 0):=by
  have:=zg s.heap (o:=jP #[] 0) rfl;rw [hN] at this;exact this
 refine ⟨⟨_,uK,rfl⟩,F.args_list_init_2 _ _,?_⟩;unfold Builtin.«list.__init__»;refine zk rfl ?_;refine zk rfl ?_;refine ub (ub (wpAny_seqItems uK rfl (uc ?_)));refine ub (listUpdate_at uK rfl ?_ (by simp) (by simp));refine ub (wpAny_letGo ?_);unfold Builtin.List.listExtendWith;generalize hg:(s.heap.push (jP #[] 0)).update (N+6) (Obj.mapSeq fun _=>#[])=g;have hp:∀ (c:Nat) (o:Obj),s.heap.get? c=some o->(s.heap.push (jP #[] 0)).get? c=some o:=fun c o e=>yV _ e;have k1:∀ (c:Nat) (o:Obj),s.heap.get? c=some o->g.get? c=some o:=fun c o e=>by
  have:c<s.heap.objs.size:=yZ e;rw [<-hg,be (by omega)];exact hp c o e
 obtain ⟨c1,hS⟩ : ∃ c1,g.get? (N+6)=some (jP #[] c1):=⟨_,by rw [<-hg];exact zF _ uK rfl⟩;have uQ:g.objs.size=N+7:=by rw [<-hg,Heap.size_update,Heap.size_push,hN]
 have vL:({ s with heap:=g }:Shared).TypeIs (Value.ref (N+5)) "zip":=⟨_,k1 _ _ Z.z,rfl⟩;refine ub (wpAny_typeOf vL ?_);refine zk (by simp [Builtin.List.listSameRef]) ?_;refine ub (wpAny_pyIter_zip (k1 _ _ Z.z) ?_);refine ub (wpAny_holding ?_);unfold Builtin.List.listLengthHint;refine ub (wpAny_specialOf vL sQ ?_);refine zk rfl ?_;refine zk rfl ?_;refine ub (wpAny_specialOf vL ri (uc ?_));refine wpAny_ite_true rfl ?_;refine ub (wpAny_rule ?_);refine ub ?_;unfold Builtin.List.listTouch;refine ub (listUpdate_at hS rfl ?_ (by simp) (by simp));generalize uo:g.update (N+6) (Obj.mapSeq fun x=>x.push Value.none)=g2;obtain ⟨c2,hS2⟩ : ∃ c2,g2.get? (N+6)=some (jP #[Value.none] c2):=⟨_,by rw [<-uo];exact zF _ hS rfl⟩;refine listUpdate_at hS2 rfl ?_ (by simp [PySem.sizeLine_eq]) (by simp);generalize hg3:g2.update (N+6) (Obj.mapSeq fun x=>x.pop)=g3;obtain ⟨c3,hS3⟩ : ∃ c3,g3.get? (N+6)=some (jP #[] c3):=⟨_,by rw [<-hg3];exact zF _ hS2 rfl⟩;have k3:∀ (c:Nat) (o:Obj),s.heap.get? c=some o->g3.get? c=some o:=fun c o e=>by
  have:c<s.heap.objs.size:=yZ e;rw [<-hg3,be (by omega),<-uo,be (by omega)];exact k1 c o e
 have hsz3:g3.objs.size=N+7:=by rw [<-hg3,Heap.size_update,<-uo,Heap.size_update,uQ]
 refine uc ⟨plainId_quiet F.plain_extend_loop _,?_⟩;obtain ⟨p,q,r,e⟩:=Z.to;refine ext3_loop (A:=A.in1) (N:=N) (S:=N+6) (M0:=N+7) (l1:=l1) (l2:=l2) (l3:=l3) (xs:=xs) (ys:=ys) (zs:=zs) hA b1 b2 b3 (by omega) (by omega) yt hn3 yq _ 0 { s with heap:=g3 } .none false #[] c3 rfl (by omega)
  ⟨k3 _ _ Z.z,k3 _ _ Z.ti,⟨p,q,r,k3 _ _ e⟩,Z.i1.at fun o e=>k3 _ _ e,Z.i2.at fun o e=>k3 _ _ e,Z.i3.at fun o e=>k3 _ _ e⟩ (.inl ⟨rfl,rfl,rfl⟩) hsz3 (h1.at fun o e=>k3 _ _ e) (h2.at fun o e=>k3 _ _ e) (h3.at fun o e=>k3 _ _ e) hS3 (by simp) (by intro j x y v hj;omega) ?_
 intro h' tT c' q1 q2 q3 q4;exact ⟨rfl,K h' tT c' q1 q2 q3 fun c o hc e=>q4 c o hc (k3 _ _ e)⟩
theorem list_zip3 {prog:Program} {w:World} {A A':Around} {E E':Value->Shared->Prop} {s:Shared} {l1 l2 l3:Nat} {xs ys zs:Array Value} {Q:Value->Shared->Prop} (hA:A.handled=none)
  (h1:s.heap.IsList l1 xs) (h2:s.heap.IsList l2 ys) (h3:s.heap.IsList l3 zs)
  (b1:l1<s.heap.objs.size) (b2:l2<s.heap.objs.size) (b3:l3<s.heap.objs.size) (yt:xs.size=ys.size+1) (hn3:zs.size=ys.size) (yq:ys.size<=sizeLine)
  (K:∀ (h':Heap) (tT:Array Value) (c':Nat),h'.get? (s.heap.objs.size+6)=some (jP tT c')->tT.toList=(List.range ys.size).map (fun j=>Value.ref (s.heap.objs.size+7+j))->
   (∀ j x y v,j<ys.size->xs[j]?=some x->ys[j]?=some y->zs[j]?=some v->h'.get? (s.heap.objs.size+7+j)=some (dX [x,y,v]))->
   (∀ (c:Nat) (o:Obj),s.heap.get? c=some o->h'.get? c=some o)->Q (Value.ref (s.heap.objs.size+6)) { s with heap:=h' }) :
  wpAny (model prog w) A' (call (Value.type "zip") [Value.ref l1,Value.ref l2,Value.ref l3]) (fun z s1=>wpAny (model prog w) A (call (Value.type "list") [z]) Q E s1) E' s:=by
 refine call_zip3 h1 h2 h3 ?_;have e0:=zg s.heap (o:=itO l1 0) rfl;have e1:=zg (s.heap.push (itO l1 0)) (o:=itO l2 0) rfl;have e2:=zg ((s.heap.push (itO l1 0)).push (itO l2 0)) (o:=itO l3 0) rfl;have e3:=zg (((s.heap.push (itO l1 0)).push (itO l2 0)).push (itO l3 0)) (o:=dX [.ref s.heap.objs.size,.ref (s.heap.objs.size+1),.ref (s.heap.objs.size+2)]) rfl;have e4:=zg ((((s.heap.push (itO l1 0)).push (itO l2 0)).push (itO l3 0)).push (dX [.ref s.heap.objs.size,.ref (s.heap.objs.size+1),.ref (s.heap.objs.size+2)])) (o:=dX [.none,.none,.none]) rfl;have e5:=zg (((((s.heap.push (itO l1 0)).push (itO l2 0)).push (itO l3 0)).push (dX [.ref s.heap.objs.size,.ref (s.heap.objs.size+1),.ref (s.heap.objs.size+2)])).push (dX [.none,.none,.none])) (o:=md .none false (s.heap.objs.size+3) (s.heap.objs.size+4)) rfl;simp only [Heap.size_push] at e1 e2 e3 e4 e5;have up:∀ (h:Heap) (o:Obj) (c:Nat) (u:Obj),h.get? c=some u->(h.push o).get? c=some u:=fun h o c u e=>yV _ e;have old:∀ (c:Nat) (u:Obj),s.heap.get? c=some u->(mD s.heap l1 l2 l3).get? c=some u:=fun c u e=>up _ _ _ _ (up _ _ _ _ (up _ _ _ _ (up _ _ _ _ (up _ _ _ _ (up _ _ _ _ e)))));refine m6 (N:=s.heap.objs.size) (l1:=l1) (l2:=l2) (l3:=l3) hA (by simp [mD,Heap.size_push]) ⟨e5,up _ _ _ _ (up _ _ _ _ e3),⟨_,_,_,up _ _ _ _ e4⟩,⟨_,up _ _ _ _ (up _ _ _ _ (up _ _ _ _ (up _ _ _ _ (up _ _ _ _ e0)))),rfl,rfl⟩,⟨_,up _ _ _ _ (up _ _ _ _ (up _ _ _ _ (up _ _ _ _ e1))),rfl,rfl⟩,⟨_,up _ _ _ _ (up _ _ _ _ (up _ _ _ _ e2)),rfl,rfl⟩⟩
  (h1.at fun o e=>old _ _ e) (h2.at fun o e=>old _ _ e) (h3.at fun o e=>old _ _ e) b1 b2 b3 yt hn3 yq ?_
 intro h' tT c' q1 q2 q3 q4;exact K h' tT c' q1 q2 q3 fun c o e=>q4 c o (yZ e) (old c o e)
end Ew
end
section
namespace L2
open PySem PySem.Spec PyProof.Rows
section
variable {X:Cx} {pins:List (Addr×Obj)} {σ:List (Option V)} {H H':Hp} {s:Shared} {h':Heap}
theorem Inv.lays {t':Nat} (I:Inv X pins σ H s) (k:∀ b u,s.heap.get? b=some u->h'.get? b=some u) (hold:∀ b u,H b=some u->H' b=some u) (uK:∀ b,b<s.heap.objs.size->H' b=H b)
  (new:∀ b u,H b=none->H' b=some u->cI X.prog X.w H' h' b u):Inv X pins σ H' { s with heap:=h',toks:=t' }:=by
 refine I.step (g':=s.gens) (d':=s.drawn) (ch:=[]) (by simp) (fun b u _ _ _ e _=>k b u e) (fun b u _ _ _ e _=>⟨u.slots,k b u e⟩)
  (fun b u _ e n=>by rw [uK b (yZ e)];exact n) (fun b u _ e=>⟨u,k b u e⟩)
  (fun b xs e=>hold _ _ e) (fun b u xs e=>hold _ _ e) (fun b ps e=>⟨#[],by rw [hold _ _ e];simp⟩) (fun m hm=>?_) (fun b u e=>?_) I.bare
 ·obtain ⟨ob,es,ep,ho,r⟩:=hm;exact ⟨ob,es,ep,k _ ob ho,r⟩
 ·cases hb:H b with
  | none=>exact new b u hb e
  | some u'=>
   rw [hold b u' hb] at e;cases e;exact (I.hok b u hb).stay (fun c v _ q=>k c v q) (fun c q=>hold _ _ q) fun c xs q=>hold _ _ q
end
noncomputable def tZip3 (K:Frag) (ta:TA):TE:=fun σ H Q=>ta σ H fun vs H1=>∃ a b c xs ys zs,vs=[.ref a,.ref b,.ref c]/\SqL K H1 a xs/\SqL K H1 b ys/\SqL K H1 c zs/\xs.length=ys.length+1/\zs.length=ys.length/\
 ∀ (l:Addr) (q:Nat->Addr) (H':Hp),aQ H1 H'->H1 l=none->(∀ j,H1 (q j)=none)->(∀ j,q j≠l)->H' l=some (.lst ((List.range ys.length).map fun j=>.ref (q j)))->
  (∀ j x y z,xs[j]?=some x->ys[j]?=some y->zs[j]?=some z->H' (q j)=some (.tup [x,y,z]))->
  (∀ b u,H' b=some u->H1 b=some u\/b=l\/∃ j,j<ys.length/\b=q j)->Q (.ref l) H'
section
variable {X:Cx} {a b c:Expr} {ta:TA} {p1 p2 vi tV:Pos}
set_option maxHeartbeats 4000000 in
theorem rk (hc:X.calm=true) (ha:PA X [a,b,c] ta) (hg:Gl X "list") (hm:X.mg "list" = none) (uo:Gl X "zip") (xF:X.mg "zip" = none)
   (hs:starEach [a,b,c] X.env=(false,eval a X.env)::starEach [b,c] X.env:=by rfl) (hpl:(backTo tV (starEach [b,c] X.env)).any (·.1)=false:=by rfl)
   (uF:starEach [.Call (.Name "zip" p2) [a,b,c] [] tV] X.env=[(false,eval (.Call (.Name "zip" p2) [a,b,c] [] tV) X.env)]:=by rfl) :
   PE X (.Call (.Name "list" p1) [.Call (.Name "zip" p2) [a,b,c] [] tV] [] vi) (tZip3 X.K ta):=by
 intro pins s σ H Q I h;refine wpAny_Call_Name_kw (jK I hg hm boot_list ?_ (by decide) (by decide));refine callWith_type1 (rest:=[]) ?_ uF rfl;rw [uF];refine Calls.spliced_cons (rest:=[]) ?_;refine wpAny_Call_Name_kw (jK I uo xF boot_zip ?_ (by decide) (by decide));refine callWith_type1 (thn (ha tV pins s σ H _ I h) fun us s1 ⟨vs,H1,I1,r1,q1⟩=>?_) hs hpl;obtain ⟨x,y,z,xs,ys,zs,rfl,hx,hy,hz,n1,n3,q⟩:=q1;cases r1 with
 | cons ra rr=>cases rr with
  | cons rb rr=>cases rr with
   | cons rc rr=>
   cases rr;cases ra;cases rb;cases rc;obtain ⟨i1,v1,p1,z1⟩:=I1.list hx;obtain ⟨i2,v2,p2,z2⟩:=I1.list hy;obtain ⟨i3,v3,p3,z3⟩:=I1.list hz;have l1:=v1.length;have l2:=v2.length;have l3:=v3.length;have lx:x<s1.heap.objs.size:=by obtain ⟨o,n,e,_⟩:=p1;exact yZ e
   have ly:y<s1.heap.objs.size:=by obtain ⟨o,n,e,_⟩:=p2;exact yZ e
   have lz:z<s1.heap.objs.size:=by obtain ⟨o,n,e,_⟩:=p3;exact yZ e
   refine thn (Ew.list_zip3 (A:=X.A) (E:=X.xe) (Q:=EP X pins σ Q) (I1.ok.hd hc) p1.isList p2.isList p3.isList lx ly lz (by simp;omega) (by simp;omega) (by simp;omega) ?_) fun v s2 hv=>Calls.spliced_nil hv;intro h' tT c' q1 q2 q3 q4;simp only [zf] at q2 q3
   let qa:Nat->Addr:=fun j=>s1.heap.objs.size+7+j
   have vx:∀ b,s1.heap.objs.size<=b->H1 b=none:=fun b hb=>I1.hok.fresh hb
   classical
   let H2:Hp:=fun b=>if b=s1.heap.objs.size+6 then some (.lst ((List.range ys.length).map fun j=>.ref (qa j))) else
    if hb:s1.heap.objs.size+7<=b/\b<s1.heap.objs.size+7+ys.length then some (.tup [xs.getD (b-(s1.heap.objs.size+7)) .non,ys.getD (b-(s1.heap.objs.size+7)) .non,zs.getD (b-(s1.heap.objs.size+7)) .non]) else H1 b
   have hL:H2 (s1.heap.objs.size+6)=some (.lst ((List.range ys.length).map fun j=>.ref (qa j))):=by simp [H2]
   have hT:∀ j,j<ys.length->H2 (qa j)=some (.tup [xs.getD j .non,ys.getD j .non,zs.getD j .non]):=by
    intro j hj;have e1:¬(s1.heap.objs.size+7+j=s1.heap.objs.size+6):=by omega
    have e2:s1.heap.objs.size+7<=s1.heap.objs.size+7+j/\s1.heap.objs.size+7+j<s1.heap.objs.size+7+ys.length:=by omega
    have e3:s1.heap.objs.size+7+j-(s1.heap.objs.size+7)=j:=by omega
    simp only [H2,qa,if_neg e1,dif_pos e2,e3]
   have hO:∀ b,b<s1.heap.objs.size->H2 b=H1 b:=by
    intro b hb;have hb:(b:Nat)<s1.heap.objs.size:=hb;have e1:¬(b=s1.heap.objs.size+6):=by omega
    have e2:¬(s1.heap.objs.size+7<=b/\b<s1.heap.objs.size+7+ys.length):=by omega
    simp only [H2,if_neg e1,dif_neg e2]
   have hS:aQ H1 H2:=by
    intro b u e;have:b<s1.heap.objs.size:=by
     apply Classical.byContradiction;intro hn;rw [vx b (Nat.le_of_not_lt hn)] at e;cases e
    rw [hO b this];exact e
   have hN:∀ b u,H2 b=some u->H1 b=some u\/b=s1.heap.objs.size+6\/∃ j,j<ys.length/\b=qa j:=by
    intro b u e;by_cases e1:b=s1.heap.objs.size+6
    ·exact .inr (.inl e1)
    ·by_cases e2:s1.heap.objs.size+7<=b/\b<s1.heap.objs.size+7+ys.length
     ·obtain ⟨m,hm⟩ : ∃ m:Nat,b=s1.heap.objs.size+7+m:=Nat.exists_eq_add_of_le e2.1;subst hm;have e4:=e2.2;exact .inr (.inr ⟨m,Nat.lt_of_add_lt_add_left e4,rfl⟩)
     ·left;simpa only [H2,if_neg e1,dif_neg e2] using e
   refine ⟨.ref (s1.heap.objs.size+6),H2,I1.lays (t':=s1.toks) (H':=H2) (fun b u e=>q4 b u e) hS hO ?_,rfl,?_⟩
   ·intro b u hb e;rcases hN b u e with e1 | e1 | ⟨j,hj,e1⟩
    ·rw [hb] at e1;cases e1
    ·subst e1;rw [hL] at e;cases e;refine ⟨by simp;omega,tT.toList,c',?_,by simpa using q1⟩;rw [q2,<-l2];clear q2 q3 hL hT hN hS hO;generalize List.range ys.length=rs
     induction rs with
     | nil=>exact .nil
     | cons r rs ih=>exact .cons rfl ih
    ·subst e1;rw [hT j hj] at e;cases e;have gx:xs[j]?=some (xs.getD j .non):=by rw [List.getD_eq_getElem?_getD,yW (show j<xs.length by omega)];rfl
     have gy:ys[j]?=some (ys.getD j .non):=by rw [List.getD_eq_getElem?_getD,yW (show j<ys.length by omega)];rfl
     have gz:zs[j]?=some (zs.getD j .non):=by rw [List.getD_eq_getElem?_getD,yW (show j<zs.length by omega)];rfl
     obtain ⟨w1,hw1,rw1⟩:=v1.get gx;obtain ⟨w2,hw2,rw2⟩:=v2.get gy;obtain ⟨w3,hw3,rw3⟩:=v3.get gz;refine ⟨by simp [PySem.sizeLine_eq],[w1,w2,w3],.cons rw1 (.cons rw2 (.cons rw3 .nil)),⟨_,q3 j w1 w2 w3 (by omega) (by simpa using hw1) (by simpa using hw2) (by simpa using hw3),rfl,_,rfl⟩⟩
   ·refine q _ qa H2 hS (vx _ (by omega)) (fun j=>vx _ (by show s1.heap.objs.size<=s1.heap.objs.size+7+j;omega)) (fun j=>by show s1.heap.objs.size+7+j≠s1.heap.objs.size+6;omega) hL ?_ hN;intro j x' y' z' ex ey ez;have hj:j<ys.length:=by
     rcases Nat.lt_or_ge j ys.length with h | h
     ·exact h
     ·rw [List.getElem?_eq_none h] at ey;cases ey
    rw [hT j hj];simp [List.getD_eq_getElem?_getD,ex,ey,ez]
end
end L2
end
section
namespace Ew
open PySem PySem.Spec L2
theorem lM {H:Hp}:∀ {ds:List D} {vs:List V},ds.length=vs.length->(∀ (j:Nat) d v,ds[j]?=some d->vs[j]?=some v->Rep H d v)->aB H ds vs
 | [],[],_,_=>.nil
 | [],_::_,h,_=>by cases h
 | _::_,[],h,_=>by cases h
 | d::ds,v::vs,h,g=>.cons (g 0 d v rfl rfl) (lM (by simpa using h) fun j d' v' e1 e2=>g (j+1) d' v' (by simpa using e1) (by simpa using e2))
def lN (xs ys zs:List D):List D:=List.zipWith (fun x p=>.tup [x,p.1,p.2]) xs (ys.zip zs)
noncomputable def jj (fa:DSt->Option (List R)):FE:=fun δ=>(fa δ).bind fun rs=>match rs with
 | [r1,r2,r3]=>match r1.view,r2.view,r3.view with
  | .lst xs,.lst ys,.lst zs=>if xs.length=ys.length+1/\zs.length=ys.length then some (.fr (lN xs ys zs)) else none
  | _,_,_=>none
 | _=>none
theorem View.sq {K:Frag} {Hs H:Hp} (s:aQ Hs H) {ds:List D} {v:V} (h:View Hs H (.lst ds) v):∃ a vs,v=.ref a/\SqL K H a vs/\aB Hs ds vs:=by
 rcases h with h | ⟨vD,a,vs,e,e2,h1,h2⟩
 ·unfold Rep at h;obtain ⟨a,vs,e,h1,h2⟩:=h;exact ⟨a,vs,e,.of (s _ _ h1),h2⟩
 ·cases e;exact ⟨a,vs,e2,.of h1,h2⟩
section
variable {X:Cx} {a b c:Expr} {fa:DSt->Option (List R)} {p1 p2 vi tV:Pos}
set_option maxHeartbeats 1000000 in
theorem rl (hc:X.calm=true) (ha:DA X [a,b,c] fa) (hg:Gl X "list") (hm:X.mg "list" = none) (uo:Gl X "zip") (xF:X.mg "zip" = none)
  (hs:starEach [a,b,c] X.env=(false,eval a X.env)::starEach [b,c] X.env:=by rfl) (hpl:(backTo tV (starEach [b,c] X.env)).any (·.1)=false:=by rfl)
  (uF:starEach [.Call (.Name "zip" p2) [a,b,c] [] tV] X.env=[(false,eval (.Call (.Name "zip" p2) [a,b,c] [] tV) X.env)]:=by rfl) :
  DE X (.Call (.Name "list" p1) [.Call (.Name "zip" p2) [a,b,c] [] tV] [] vi) (jj fa):=.mk <| (rk hc ha.go hg hm uo xF hs hpl uF).weak fun σ H Q ⟨Hs,δ,r,S,En,e,K⟩=>by
 unfold jj at e;cases ef:fa δ with
 | none=>rw [ef] at e;cases e
 | some rs=>
  rw [ef] at e;refine ⟨Hs,δ,rs,S,En,ef,fun vs uq H1 W1 R1=>?_⟩
  match rs,e,R1 with
  | [r1,r2,r3],e,⟨v1,t1,ev1,q1,⟨v2,t2,ev2,q2,⟨v3,t3,ev3,q3,q4⟩⟩⟩=>
   have q4:t3=[]:=q4;subst q4 ev3 ev2 ev1;replace e:(match r1.view,r2.view,r3.view with
    | .lst xs,.lst ys,.lst zs=>if xs.length=ys.length+1/\zs.length=ys.length then some (R.fr (lN xs ys zs)) else none
    | _,_,_=>none)=some r:=e
   have w1:=q1.view;have w2:=q2.view;have w3:=q3.view
   match r1.view,r2.view,r3.view,e,w1,w2,w3 with
   | .lst xs,.lst ys,.lst zs,e,w1,w2,w3=>
    by_cases hl:xs.length=ys.length+1/\zs.length=ys.length
    ·replace e:(if xs.length=ys.length+1/\zs.length=ys.length then some (R.fr (lN xs ys zs)) else none)=some r:=e;rw [if_pos hl] at e;cases e;obtain ⟨a1,wZ,rfl,s1,p1⟩:=w1.sq (K:=X.K) W1.sub;obtain ⟨a2,wA,rfl,s2,p2⟩:=w2.sq (K:=X.K) W1.sub;obtain ⟨a3,us3,rfl,s3,p3⟩:=w3.sq (K:=X.K) W1.sub;have n1:=p1.length;have n2:=p2.length;have n3:=p3.length;refine ⟨a1,a2,a3,wZ,wA,us3,rfl,s1,s2,s3,by omega,by omega,?_⟩;intro l q H' hS hl0 hq hql hL hT hN
     classical
     let uv:Hp:=fun b=>if ∃ j,j<wA.length/\b=q j then H' b else uq b
     have xv:aQ uv H':=by
      intro b o e;by_cases hb:∃ j,j<wA.length/\b=q j
      ·simpa only [uv,if_pos hb] using e
      ·simp only [uv,if_neg hb] at e;exact hS _ _ (W1.sub _ _ e)
     have uy:aQ uq uv:=by
      intro b o e;by_cases hb:∃ j,j<wA.length/\b=q j
      ·obtain ⟨j,hj,rfl⟩:=hb;have:=W1.sub _ _ e;rw [hq j] at this;cases this
      ·simp only [uv,if_neg hb];exact e
     have W2:Wd H1 uq uv H':=⟨hS,xv,uy,by
      intro b o e;by_cases hb:∃ j,j<wA.length/\b=q j
      ·obtain ⟨j,hj,rfl⟩:=hb;exact .inr (hq j)
      ·simp only [uv,if_neg hb] at e;exact .inl e⟩
     refine K _ uv H' (W1.trans W2) ⟨l,_,rfl,W1.keep.free hl0,?_,hL,?_⟩
     ·have hb:¬∃ j,j<wA.length/\l=q j:=fun ⟨j,_,e⟩=>hql j e.symm;simp only [uv,if_neg hb];exact W1.sub.free hl0
     ·refine lM (by simp [lN];omega) ?_;intro j d v ed ev;have hj:j<wA.length:=by
       rw [zc] at ev;rcases Nat.lt_or_ge j wA.length with h | h
       ·exact h
       ·rw [List.getElem?_eq_none (by simpa using h)] at ev;cases ev
      have ev':v=.ref (q j):=by
       rw [zc,List.getElem?_range hj] at ev;cases ev;rfl
      subst ev';have l1:j<xs.length:=by omega
      have l2:j<ys.length:=by omega
      have l3:j<zs.length:=by omega
      have m1:j<wZ.length:=by omega
      have m3:j<us3.length:=by omega
      have ed':d=.tup [xs[j],ys[j],zs[j]]:=by
       unfold lN at ed;rw [List.getElem?_zipWith] at ed;simp [yW l1,List.getElem?_zip_eq_some,l2,l3] at ed;rw [yW (by simp;omega)] at ed;simp at ed;exact ed.symm
      subst ed';unfold Rep;refine ⟨q j,[wZ[j],wA[j],us3[j]],rfl,?_,.cons ?_ (.cons ?_ (.cons ?_ .nil))⟩
      ·have hb:∃ k,k<wA.length/\q j=q k:=⟨j,hj,rfl⟩;simp only [uv,if_pos hb];exact hT j _ _ _ (yW m1) (yW hj) (yW m3)
      ·obtain ⟨u,hu,ru⟩:=p1.get (yW l1);rw [yW m1] at hu;cases hu;exact Rep.mono uy _ ru
      ·obtain ⟨u,hu,ru⟩:=p2.get (yW l2);rw [yW hj] at hu;cases hu;exact Rep.mono uy _ ru
      ·obtain ⟨u,hu,ru⟩:=p3.get (yW l3);rw [yW m3] at hu;cases hu;exact Rep.mono uy _ ru
    ·replace e:(if xs.length=ys.length+1/\zs.length=ys.length then some (R.fr (lN xs ys zs)) else none)=some r:=e;rw [if_neg hl] at e;cases e
end
open Classical in
noncomputable def ij (K:Frag) (i:Nat) (δ:DSt):Option (List Int):=match δ[i]? with
 | some (some (.scr K' ns))=>if K'=K then some ns else none
 | _=>none
theorem li {K:Frag} {i:Nat} {δ:DSt} {ns:List Int} (h:ij K i δ=some ns):δ[i]?=some (some (.scr K ns)):=by
 unfold ij at h;split at h
 ·rename_i K' yg e;split at h
  ·rename_i ek;cases h;rw [e,ek]
  ·cases h
 ·cases h
noncomputable def dlenS (K:Frag) (i:Nat):FE:=fun δ=>(ij K i δ).map fun ns=>.sh (.int ns.length)
noncomputable def dixS (K:Frag) (i:Nat) (f:FE):FE:=fun δ=>(f δ).bind fun r=>match r with
 | .sh (.int k)=>(ij K i δ).bind fun ns=>(atI ns k).map fun n=>.sh (.int n)
 | _=>none
noncomputable def iN (K:Frag) (i:Nat) (m:List Int->Int->Option Int) (f:FE):FE:=fun δ=>(f δ).bind fun r=>match r with
 | .sh (.int k)=>(ij K i δ).bind fun ns=>(m ns k).map fun n=>.sh (.int n)
 | _=>none
noncomputable def spS (K:Frag) (m:List Int->Int->Option Int):Sp:=fun vs H Q _=>∃ a k ns n,vs=[.ref a,.int k]/\SqL K H a (ns.map V.int)/\m ns k=some n/\∀ Hs H',aQ H H'->Wd H H Hs H'->Q (.int n) H'
noncomputable def spL (K:Frag) (m:List Int->Option D):Sp:=fun vs H Q _=>∃ a ns d,vs=[.ref a]/\SqL K H a (ns.map V.int)/\m ns=some d/\∀ v Hs' H',Wd H H Hs' H'->Rep Hs' d v->Q v H'
noncomputable def runS (k:Nat) (K:Frag) (F:FS) (ns:List Int) (n:Int):Option Int:=match F (some (.scr K ns)::some (.sh (.int n))::List.replicate (k-2) none) with
 | some (.rt (.sh (.int j)))=>some j
 | _=>none
noncomputable def runL (k:Nat) (K:Frag) (F:FS) (ns:List Int):Option D:=match F (some (.scr K ns)::List.replicate (k-1) none) with
 | some (.rt r)=>if r.isBw=true then none else some r.view
 | _=>none
theorem atI_map {α β:Type} {f:α->β} {xs:List α} {k:Int} {x:α} (h:atI xs k=some x):atI (xs.map f) k=some (f x):=by
 unfold atI at h ⊢;simp only [uk] at h ⊢;cases e:ixN xs.length k with
 | none=>rw [e] at h;cases h
 | some j=>
  rw [e] at h;replace h:xs[j]?=some x:=h;show (xs.map f)[j]?=some (f x);rw [zc,h];rfl
section
variable {X:Cx} {e:Expr} {x:Str} {p pos:Pos} {i:Nat} {f:FE}
theorem de_lenS (h:PE X (.Name x p) (kX i)) (hg:Gl X "len") (hm:X.mg "len" = none) (hs:starEach [.Name x p] X.env=[(false,eval (.Name x p) X.env)]:=by rfl) {p0:Pos} :
  DE X (.Call (.Name "len" p0) [.Name x p] [] pos) (dlenS X.K i):=.mk <| (gk gL hg hm PySem.boot_len (bO h dl hs) (he:=hs)).weak fun σ H Q ⟨Hs,δ,r,S,En,e,K⟩=>by
 unfold dlenS at e;cases es:ij X.K i δ with
 | none=>rw [es] at e;cases e
 | some ns=>
  rw [es] at e;cases e;obtain ⟨v,hv,a,ev,hq⟩:=En i _ (li es);refine ⟨v,hv,a,ns.map V.int,by rw [ev],.inl (iH S hq),?_⟩;rw [uk];exact K _ Hs H (.refl S) (by show Rep Hs _ _;unfold Rep;rfl)
theorem de_ixS (h:PE X (.Name x p) (kX i)) (hb:DE X e f) (hs:kc e):DE X (.Subscript (.Name x p) e pos) (dixS X.K i f):=.mk <| (pe_ix pM h hb.go hs).weak fun σ H Q ⟨Hs,δ,r,S,En,e,K⟩=>by
 unfold dixS at e;cases ef:f δ with
 | none=>rw [ef] at e;cases e
 | some rf=>
  rw [ef] at e
  match rf,e with
  | .sh (.int k),e=>
   replace e:((ij X.K i δ).bind fun ns=>(atI ns k).map fun n=>R.sh (.int n))=some r:=e;cases es:ij X.K i δ with
   | none=>rw [es] at e;cases e
   | some ns=>
    rw [es] at e;replace e:((atI ns k).map fun n=>R.sh (.int n))=some r:=e;cases ea:atI ns k with
    | none=>rw [ea] at e;cases e
    | some n=>
     rw [ea] at e;cases e;obtain ⟨v,hv,a,ev,hq⟩:=En i _ (li es);refine ⟨v,hv,Hs,δ,.sh (.int k),S,En,ef,fun y uq H1 W1 R1=>?_⟩;have R1:Rep uq (.int k) y:=R1;unfold Rep at R1;exact ⟨a,ns.map V.int,k,.int n,ev,R1,iH (S.trans W1.keep) hq,atI_map ea,K _ uq H1 W1 (by show Rep uq _ _;unfold Rep;rfl)⟩
theorem de_callS {y qual:Str} {st:Stmt} {ps:List Str} {fa:Addr} {fd:FuncData} {k:Nat} {m:List Int->Int->Option Int} {py:Pos} (d:Df X.K X.mg y qual st ps fa fd) (G:dJ X.prog X.w X.K X.mg X.base CX0 k fa fd ps (spS X.K m)) (hr:bx k X.A)
  (h:PE X (.Name x p) (kX i)) (hb:DE X e f)
  (hg:Gl X y:=by rfl) (vm:(y==("__debug__" : Str))=false:=by decide) (he:starEach [.Name x p,e] X.env=(false,eval (.Name x p) X.env)::starEach [e] X.env:=by exact bu rfl) (hs:starEach [e] X.env=[(false,eval e X.env)]:=by exact bu rfl) (hpl:(backTo pos (starEach [e] X.env)).any (·.1)=false:=by rfl) :
  DE X (.Call (.Name y py) [.Name x p,e] [] pos) (iN X.K i m f):=.mk <| (mw (E:=E0) G hr hg d.mgx d.fn.kp d.bd .nil oV (bO h (bO hb.go dl hs) he) vm he hpl).weak fun σ H Q ⟨Hs,δ,r,S,En,e,K⟩=>by
 unfold iN at e;cases ef:f δ with
 | none=>rw [ef] at e;cases e
 | some rf=>
  rw [ef] at e
  match rf,e with
  | .sh (.int k),e=>
   replace e:((ij X.K i δ).bind fun ns=>(m ns k).map fun n=>R.sh (.int n))=some r:=e;cases es:ij X.K i δ with
   | none=>rw [es] at e;cases e
   | some ns=>
    rw [es] at e;replace e:((m ns k).map fun n=>R.sh (.int n))=some r:=e;cases ea:m ns k with
    | none=>rw [ea] at e;cases e
    | some n=>
     rw [ea] at e;cases e;obtain ⟨v,hv,a,ev,hq⟩:=En i _ (li es);refine ⟨v,hv,Hs,δ,.sh (.int k),S,En,ef,fun y uq H1 W1 R1=>?_⟩;have R1:Rep uq (.int k) y:=R1;unfold Rep at R1;refine ⟨a,k,ns,n,by rw [ev,R1];rfl,iH (S.trans W1.keep) hq,ea,fun uv H2 s2 W2=>?_⟩;exact K _ uq H2 (W1.trans ⟨s2,W1.sub.trans s2,.refl _,fun _ _ e=>.inl e⟩) (by show Rep uq _ _;unfold Rep;rfl)
def gA (f:FE):FS:=fun δ=>(f δ).bind fun _=>some (.nx δ)
theorem mE (h:DE X e f) (hs:swapsWith e none pos.line X.env=pure false:=by rfl):DS X (.Expr e pos) (gA f):=.mk fun H0 uw=>(ja h.go hs).weak fun D σ H ⟨Hs,δ,res,W,S,e,P⟩=>by
 unfold gA at e;cases ef:f δ with
 | none=>rw [ef] at e;cases e
 | some r=>
  rw [ef] at e;cases e;exact ⟨Hs,δ,r,W.sub,S.ent,ef,fun v uq H1 W1 R1=>P σ uq H1 (W.trans W1) (S.mono W1)⟩
end
theorem st_scr {K:Frag} {H:Hp} {N:List Str} {a:Addr} {ns:List Int} {ds:List D} {vs:List V} (h:SqL K H a (ns.map V.int)) (r:aB H ds vs) :
  StR H H H (some (.scr K ns)::(ds.map (fun d=>some (E.sh d))++List.replicate (N.length-(ds.length+1)) none)) (L2.start N (.ref a::vs)):=by
 have get:∀ (i:Nat) (e:E),(some (.scr K ns)::(ds.map (fun d=>some (E.sh d))++List.replicate (N.length-(ds.length+1)) none))[i]?=some (some e)->(i=0/\e=.scr K ns)\/∃ j d,i=j+1/\ds[j]?=some d/\e=E.sh d:=fun i e h=>by
  cases i with
  | zero=>simp at h;exact .inl ⟨rfl,h.symm⟩
  | succ i=>
   right;rw [ug] at h;by_cases hi:i<ds.length
   ·rw [zw (by simpa using hi),zc] at h;cases q:ds[i]? with
    | none=>rw [q] at h;cases h
    | some d=>rw [q] at h;cases h;exact ⟨i,d,rfl,q,rfl⟩
   ·rw [zR (by simpa using hi),List.getElem?_replicate] at h;split at h <;> cases h
 have nf:∀ (i:Nat) (e:E) (v:V) (b:Addr),(some (.scr K ns)::(ds.map (fun d=>some (E.sh d))++List.replicate (N.length-(ds.length+1)) none))[i]?=some (some e)->¬Fp H e v b:=fun i e v b h f=>by
  rcases get i e h with ⟨_,rfl⟩ | ⟨_,d,_,_,rfl⟩ <;> cases f
 refine ⟨fun i e h'=>?_,?_,fun i e v b h _ f=>(nf i e v b h f).elim,fun i j e e' v v' b _ h _ _ _ f=>(nf i e v b h f).elim⟩
 ·rcases get i e h' with ⟨rfl,rfl⟩ | ⟨j,d,rfl,hd,rfl⟩
  ·exact ⟨.ref a,by unfold L2.start;simp,a,rfl,h⟩
  ·obtain ⟨v,hv,rv⟩:=r.get hd;refine ⟨v,?_,rv⟩;unfold L2.start;have hi:j<vs.length:=(yX.mp hv).1;rw [zw (by simpa using hi),zc,ug,hv];rfl
 ·unfold L2.start;simp [r.length]
section
variable {P:Program} {w:World} {K:Frag} {mg:Str->Option Value} {base:Heap}
theorem fn_S {x qual:Str} {st:Stmt} {f:Addr} {fd:FuncData} {N:List Str} {p1 p2:Str} {k:Nat} {F:FS} (F0:Fun K x qual st f fd) (S:eB N [p1,p2] (au st)) (hN:2<=N.length)
  (h:∀ (ux:Value) (A:Around) (outer:List Env) (s:Shared) (H:Hp) (E:XK),bx k (A.deeper (envOfC qual (au st) s.heap.objs.size f ux))->DSs (ju CX0 P w K mg base N qual (au st) f ux A outer s H E).nox (aY st) F) :
  dJ P w K mg base CX0 (k+1) f fd [p1,p2] (spS K (runS N.length K F)):=by
 refine F0.ok S (fun vs H Q E hs=>?_) (fun ux A outer s H vs Q E hr hs=>?_)
 ·obtain ⟨a,k,ns,n,e,_⟩:=hs;rw [e];rfl
 ·obtain ⟨a,j,ns,n,rfl,hq,em,post⟩:=hs;refine ⟨_,(h ux A outer s H E hr).go H H,?_⟩;unfold runS at em;cases eF:F (some (.scr K ns)::some (.sh (.int j))::List.replicate (N.length-2) none) with
  | none=>rw [eF] at em;cases em
  | some res=>
   rw [eF] at em;have St:=st_scr (N:=N) (K:=K) (H:=H) (ds:=[.int j]) (vs:=[.int j]) hq (.cons (by unfold Rep;rfl) .nil);refine ⟨H,_,res,.refl (.refl _),St,eF,?_⟩
   match res,em with
   | .rt (.sh (.int j2)),em=>
    cases em;intro v uq H1 W1 R1;have R1:Rep uq (.int n) v:=R1;unfold Rep at R1;rw [R1];exact post uq H1 W1.keep W1
theorem fn_L {x qual:Str} {st:Stmt} {f:Addr} {fd:FuncData} {N:List Str} {p1:Str} {k:Nat} {F:FS} (F0:Fun K x qual st f fd) (S:eB N [p1] (au st)) (hN:1<=N.length)
  (h:∀ (ux:Value) (A:Around) (outer:List Env) (s:Shared) (H:Hp) (E:XK),bx k (A.deeper (envOfC qual (au st) s.heap.objs.size f ux))->DSs (ju CX0 P w K mg base N qual (au st) f ux A outer s H E).nox (aY st) F) :
  dJ P w K mg base CX0 (k+1) f fd [p1] (spL K (runL N.length K F)):=by
 refine F0.ok S (fun vs H Q E hs=>?_) (fun ux A outer s H vs Q E hr hs=>?_)
 ·obtain ⟨a,ns,n,e,_⟩:=hs;rw [e];rfl
 ·obtain ⟨a,ns,d,rfl,hq,em,post⟩:=hs;refine ⟨_,(h ux A outer s H E hr).go H H,?_⟩;unfold runL at em;cases eF:F (some (.scr K ns)::List.replicate (N.length-1) none) with
  | none=>rw [eF] at em;cases em
  | some res=>
   rw [eF] at em;have St:=st_scr (N:=N) (K:=K) (H:=H) (ds:=[]) (vs:=[]) hq .nil;refine ⟨H,_,res,.refl (.refl _),St,eF,?_⟩;cases res with
   | nx δ=>cases em
   | bk δ=>cases em
   | ct δ=>cases em
   | rn d=>cases em
   | rt r1=>
    replace em:(if r1.isBw=true then none else some r1.view)=some d:=em;by_cases hb:r1.isBw=true
    ·rw [if_pos hb] at em;cases em
    ·rw [if_neg hb] at em;cases em;intro v uq H1 W1 R1;obtain ⟨uv,q,W2⟩:=R1.share W1 (fun ds z=>hb (by rw [z];rfl));exact post v uv H1 W2 q
end
open Classical in
noncomputable def unif {α:Type} (f:Addr->Option α):Option α:=if h:∃ a,∀ p,f p=some a then some h.choose else none
theorem unif_all {α:Type} {f:Addr->Option α} {a:α} (h:unif f=some a):∀ p,f p=some a:=by
 unfold unif at h;split at h
 ·rename_i e;cases h;exact e.choose_spec
 ·cases h
theorem qb {α:Type} {f:Addr->Option α} {a:α} (h:∀ p,f p=some a):unif f=some a:=by
 unfold unif;rw [dif_pos ⟨a,h⟩];have e:∃ a,∀ p,f p=some a:=⟨a,h⟩;have:=e.choose_spec 0;rw [h 0] at this;exact this.symm
noncomputable def spLaw (K:Frag):Sp:=fun vs H Q _=>∃ (a:Addr) (ns:List Int),vs=[.ref a]/\ns.length<=63/\SqL K H a (ns.map V.int)/\∀ H',aQ H H'->Q (.bl true) H'
theorem spLaw_imp {K:Frag} {m:List Int->Option D} (h:∀ ns:List Int,ns.length<=63->m ns=some (.bl true)):∀ vs H Q E,spLaw K vs H Q E->spL K m vs H Q E:=by
 rintro vs H Q E ⟨a,ns,rfl,hl,hq,k⟩;refine ⟨a,ns,.bl true,rfl,hq,h ns hl,fun v Hs' H' W r=>?_⟩;unfold Rep at r;rw [r];exact k H' W.keep
theorem gC {K:Frag} {C:Addr}:kitOne K (.ref C) (.ref C)=some true:=by
 unfold kitOne;rw [if_pos (by simp)]
theorem kit_sub {K:Frag} {C D:Addr} {oc:Value} {od:Option Addr} {cd:ClassData} {sl:Array (Option Value)} {b:Bool} (h1:K.lookup D=some ⟨oc,od,.cls cd,sl⟩) (h2:typeIn K (.ref D)=some (.type "type"))
  (h3:subIn K (.ref C) (.ref D)=some b) (hn:C≠D):kitOne K (.ref C) (.ref D)=some b:=by
 unfold kitOne;rw [if_neg (by simpa using hn)];show (if ((clsIn K D).isSome&&typeIn K (.ref D)==some (.type "type"))=true then subIn K (.ref C) (.ref D) else none)=some b;have hc:clsIn K D=some cd:=by
  unfold clsIn;rw [show List.lookup D K=_ from h1]
 rw [hc,h2];simpa using h3
theorem kk_int (K:Frag):∀ d b,eW d=some b->∃ t,TyD K d t/\kitOne K t (.type "int")=some b:=fun d b h=>match d,h with
 | .non,h=>⟨_,.non,by cases h;with_unfolding_all rfl⟩
 | .bl _,h=>⟨_,.bl _,by cases h;with_unfolding_all rfl⟩
 | .int _,h=>⟨_,.int _,by cases h;with_unfolding_all rfl⟩
 | .str _,h=>⟨_,.str _,by cases h;with_unfolding_all rfl⟩
 | .lst _,h=>⟨_,.lst _,by cases h;with_unfolding_all rfl⟩
 | .tup _,h=>⟨_,.tup _,by cases h;with_unfolding_all rfl⟩
 | .obj _ _,h=>by cases h
theorem kk_bool (K:Frag):∀ d b,is_bool d=some b->∃ t,TyD K d t/\kitOne K t (.type "bool")=some b:=fun d b h=>match d,h with
 | .non,h=>⟨_,.non,by cases h;with_unfolding_all rfl⟩
 | .bl _,h=>⟨_,.bl _,by cases h;with_unfolding_all rfl⟩
 | .int _,h=>⟨_,.int _,by cases h;with_unfolding_all rfl⟩
 | .str _,h=>⟨_,.str _,by cases h;with_unfolding_all rfl⟩
 | .lst _,h=>⟨_,.lst _,by cases h;with_unfolding_all rfl⟩
 | .tup _,h=>⟨_,.tup _,by cases h;with_unfolding_all rfl⟩
 | .obj _ _,h=>by cases h
theorem kk_list (K:Frag):∀ d b,dr d=some b->∃ t,TyD K d t/\kitOne K t (.type "list")=some b:=fun d b h=>match d,h with
 | .non,h=>⟨_,.non,by cases h;with_unfolding_all rfl⟩
 | .bl _,h=>⟨_,.bl _,by cases h;with_unfolding_all rfl⟩
 | .int _,h=>⟨_,.int _,by cases h;with_unfolding_all rfl⟩
 | .str _,h=>⟨_,.str _,by cases h;with_unfolding_all rfl⟩
 | .lst _,h=>⟨_,.lst _,by cases h;with_unfolding_all rfl⟩
 | .tup _,h=>⟨_,.tup _,by cases h;with_unfolding_all rfl⟩
 | .obj _ _,h=>by cases h
theorem kk_tuple (K:Frag):∀ d b,gv d=some b->∃ t,TyD K d t/\kitOne K t (.type "tuple")=some b:=fun d b h=>match d,h with
 | .non,h=>⟨_,.non,by cases h;with_unfolding_all rfl⟩
 | .bl _,h=>⟨_,.bl _,by cases h;with_unfolding_all rfl⟩
 | .int _,h=>⟨_,.int _,by cases h;with_unfolding_all rfl⟩
 | .str _,h=>⟨_,.str _,by cases h;with_unfolding_all rfl⟩
 | .lst _,h=>⟨_,.lst _,by cases h;with_unfolding_all rfl⟩
 | .tup _,h=>⟨_,.tup _,by cases h;with_unfolding_all rfl⟩
 | .obj _ _,h=>by cases h
noncomputable def Fx (K:Frag) (x qual:Str) (st:Stmt) (ps:List Str):Prop:=∃ f fd,nsIn K mainGlobals x=some (some (.ref f))/\Fun K x qual st f fd/\Binds K fd ps []
noncomputable def FxL (K:Frag) (x qual:Str) (st:Stmt) (p:Str):Prop:=∃ f fd,nsIn K mainGlobals x=some (some (.ref f))/\Fun K x qual st f fd/\Binds K fd [p] []/\∀ (s:Shared) (u:Value),BindsTo s fd ⟨[u],[]⟩ [(p,u)]
noncomputable def Fm (K:Frag) (C:Addr) (x qual:Str) (st:Stmt) (ps:List Str):Prop:=∃ f fd,findIn K (.ref C) x=some (some (.ref f))/\isFn K (.ref f)=true/\Fun K x qual st f fd/\Binds K fd ps []
section
variable {K:Frag} {C:Addr} {x qual p:Str} {st:Stmt} {ps:List Str} {f:Addr} {oc:Value} {od an:Option Addr} {uP:Array (Option Value)} {kV doc pm ux ct:Value}
theorem fx_mk (e1:nsIn K mainGlobals x=some (some (.ref f))) (e2:K.lookup f=some ⟨oc,od,.func (fnOf x qual (bz st) (aY st) (au st) .none kV doc pm an ux ct),uP⟩) (e3:codeIn K ux qual=true) (e4:keepIn K (.ref f)=true)
  (h:∀ (kV doc pm:Value) (an:Option Addr) (ux ct:Value) (us:List Value),us.length=ps.length->bindArgs (fnOf x qual (bz st) (aY st) (au st) .none kV doc pm an ux ct) ⟨us,[]⟩=pure (ps.zip us)):Fx K x qual st ps:=
 ⟨f,_,e1,k9 e2 e3 e4,(k9 e2 e3 e4).binds h⟩
theorem fxl_mk (e1:nsIn K mainGlobals x=some (some (.ref f))) (e2:K.lookup f=some ⟨oc,od,.func (fnOf x qual (bz st) (aY st) (au st) .none kV doc pm an ux ct),uP⟩) (e3:codeIn K ux qual=true) (e4:keepIn K (.ref f)=true)
  (h:∀ (kV doc pm:Value) (an:Option Addr) (ux ct:Value) (us:List Value),us.length=[p].length->bindArgs (fnOf x qual (bz st) (aY st) (au st) .none kV doc pm an ux ct) ⟨us,[]⟩=pure ([p].zip us)):FxL K x qual st p:=
 ⟨f,_,e1,k9 e2 e3 e4,(k9 e2 e3 e4).binds h,fun s u=>.of_eq (h _ _ _ _ _ _ [u] rfl)⟩
theorem fm_mk (e1:findIn K (.ref C) x=some (some (.ref f))) (e2:K.lookup f=some ⟨oc,od,.func (fnOf x qual (bz st) (aY st) (au st) .none kV doc pm an ux ct),uP⟩) (e3:codeIn K ux qual=true) (e4:keepIn K (.ref f)=true) (e5:isFn K (.ref f)=true)
  (h:∀ (kV doc pm:Value) (an:Option Addr) (ux ct:Value) (us:List Value),us.length=ps.length->bindArgs (fnOf x qual (bz st) (aY st) (au st) .none kV doc pm an ux ct) ⟨us,[]⟩=pure (ps.zip us)):Fm K C x qual st ps:=
 ⟨f,_,e1,e5,k9 e2 e3 e4,(k9 e2 e3 e4).binds h⟩
end
section
variable {X:Cx}
noncomputable def dslT (f:FE) (fl fh:FO):FE:=fun δ=>(f δ).bind fun r=>(fl δ).bind fun lo=>(fh δ).bind fun hi=>match r with
 | .sh (.tup ds)=>if HT.sIx ds.length 0 lo=0/\HT.sIx ds.length ds.length hi=ds.length then none else some (.sh (.tup (cutD ds lo hi)))
 | _=>none
@[simp] theorem dslT_e {f:FE} {fl fh:FO} {δ:DSt}:dslT f fl fh δ=(f δ).bind fun r=>(fl δ).bind fun lo=>(fh δ).bind fun hi=>match r with
 | .sh (.tup ds)=>if HT.sIx ds.length 0 lo=0/\HT.sIx ds.length ds.length hi=ds.length then none else some (.sh (.tup (cutD ds lo hi)))
 | _=>none:=rfl
end
section
variable {K:Frag} {C:Addr} {x qual p zx zq:Str} {st ur:Stmt} {ps:List Str} {f:Addr} {oc:Value} {od an:Option Addr} {uP:Array (Option Value)} {kV doc pm ux ct:Value}
theorem fx_mk2 (ex:x=zx) (eq:qual=zq) (es:st=ur) (e1:nsIn K mainGlobals x=some (some (.ref f))) (e2:K.lookup f=some ⟨oc,od,.func (fnOf zx zq (bz ur) (aY ur) (au ur) .none kV doc pm an ux ct),uP⟩) (e3:codeIn K ux qual=true) (e4:keepIn K (.ref f)=true)
  (h:∀ (kV doc pm:Value) (an:Option Addr) (ux ct:Value) (us:List Value),us.length=ps.length->bindArgs (fnOf x qual (bz st) (aY st) (au st) .none kV doc pm an ux ct) ⟨us,[]⟩=pure (ps.zip us)):Fx K x qual st ps:=by
 subst ex;subst eq;subst es;exact fx_mk e1 e2 e3 e4 h
theorem fxl_mk2 (ex:x=zx) (eq:qual=zq) (es:st=ur) (e1:nsIn K mainGlobals x=some (some (.ref f))) (e2:K.lookup f=some ⟨oc,od,.func (fnOf zx zq (bz ur) (aY ur) (au ur) .none kV doc pm an ux ct),uP⟩) (e3:codeIn K ux qual=true) (e4:keepIn K (.ref f)=true)
  (h:∀ (kV doc pm:Value) (an:Option Addr) (ux ct:Value) (us:List Value),us.length=[p].length->bindArgs (fnOf x qual (bz st) (aY st) (au st) .none kV doc pm an ux ct) ⟨us,[]⟩=pure ([p].zip us)):FxL K x qual st p:=by
 subst ex;subst eq;subst es;exact fxl_mk e1 e2 e3 e4 h
theorem fm_mk2 (ex:x=zx) (eq:qual=zq) (es:st=ur) (e1:findIn K (.ref C) x=some (some (.ref f))) (e2:K.lookup f=some ⟨oc,od,.func (fnOf zx zq (bz ur) (aY ur) (au ur) .none kV doc pm an ux ct),uP⟩) (e3:codeIn K ux qual=true) (e4:keepIn K (.ref f)=true) (e5:isFn K (.ref f)=true)
  (h:∀ (kV doc pm:Value) (an:Option Addr) (ux ct:Value) (us:List Value),us.length=ps.length->bindArgs (fnOf x qual (bz st) (aY st) (au st) .none kV doc pm an ux ct) ⟨us,[]⟩=pure (ps.zip us)):Fm K C x qual st ps:=by
 subst ex;subst eq;subst es;exact fm_mk e1 e2 e3 e4 e5 h
end
structure Fb (K:Frag) (x qual:Str) (st:Stmt) (ps:List Str) where
 f:Addr
 fd:FuncData
 fn:Fun K x qual st f fd
 bd:Binds K fd ps []
structure Fd (K:Frag) (mg:Str->Option Value) (x:Str) (st:Stmt) (ps:List Str) extends Fb K x x st ps where
 mgx:mg x=some (.ref f)
structure Md (K:Frag) (C:Addr) (x qual:Str) (st:Stmt) (ps:List Str) extends Fb K x qual st ps where
 mt:Meth K C x f
structure Ni (K:Frag) (C:Addr) (qual:Str) (st:Stmt) (ps:List Str) extends Fb K "__init__" qual st ps where
 mk':Mk K C f
structure Cd (K:Frag) (mg:Str->Option Value) (C:Addr) (x:Str):Prop where
 cls:Cls K C
 g:mg x=some (.ref C)
noncomputable def Ka (K:Frag) (f:D->Option Bool) (a:Addr):Prop:=∀ d b,f d=some b->∃ t,TyD K d t/\kitOne K t (.ref a)=some b
noncomputable def pick:List (Addr×Bool)->Addr->Option Bool
  | [],_=>none
  | (a,b)::r,C=>if C=a then some b else pick r C
@[simp] theorem pick_nil (C:Addr):pick [] C=none:=rfl
@[simp] theorem pick_cons (a:Addr) (b:Bool) (r:List (Addr×Bool)) (C:Addr):pick ((a,b)::r) C=if C=a then some b else pick r C:=rfl
def isT (t:List (Addr×Bool)):D->Option Bool
 | .obj C _=>pick t C
 | _=>none
@[simp] theorem isT_obj (t:List (Addr×Bool)) (C:Addr) (fs:List (Str×D)):isT t (.obj C fs)=pick t C:=rfl
section
variable {K:Frag} {a C:Addr} {b:Bool} {t:List (Addr×Bool)}
theorem lj:Ka K (isT []) a:=fun d b h=>by cases d <;> cases h
theorem aZ (o:∀ fs,TyD K (.obj C fs) (.ref C)) (k:kitOne K (.ref C) (.ref a)=some b) (r:Ka K (isT t) a):Ka K (isT ((C,b)::t)) a:=fun d b' h=>by
 cases d with
 | obj D fs=>
  replace h:(if D=C then some b else pick t D)=some b':=h;split at h
  ·rename_i e;cases h;cases e;exact ⟨_,o fs,k⟩
  ·exact r (.obj D fs) b' h
 | _=>cases h
end
theorem cd_mk {K:Frag} {mg:Str->Option Value} {h:Heap} (KX:K.In h) (G:h.Ns mainGlobals mg) {C:Addr} {x:Str} (e0:nsIn K mainGlobals x=some (some (.ref C))) (e1:plainGet K C Str.empty=true) (e2:hasDictIn K C=true) (e3:plainOver K C=true)
 (e4:findIn K (.ref C) "__setattr__" = some (some (.builtin "object.__setattr__"))):Cd K mg C x:=⟨⟨e1,e2,e3,e4⟩,mg_of KX G e0⟩
theorem ob_mk {K:Frag} {C:Addr} (c:Cls K C) (c2:specialIn K (.builtin "object.__class__") "__get__" = some (some (.builtin "getset_descriptor.__get__"))) (c3:takesIn K (.builtin "object.__class__")=some true)
 (c1:findIn K (.ref C) "__class__" = some (some (.builtin "object.__class__"))) (c4:mroIn K C (.type "object")=some true):∀ fs,TyD K (.obj C fs) (.ref C):=fun fs=>.obj _ c c1 c2 c3 c4
noncomputable def Fd.of {K:Frag} {mg:Str->Option Value} {h:Heap} (KX:K.In h) (G:h.Ns mainGlobals mg) {x:Str} {st:Stmt} {ps:List Str} (e:Fx K x x st ps):Fd K mg x st ps:=
 have e1:=e.choose_spec.choose_spec
 ⟨⟨e.choose,e.choose_spec.choose,e1.2.1,e1.2.2⟩,mg_of KX G e1.1⟩
noncomputable def Md.of {K:Frag} {C:Addr} {x q:Str} {st:Stmt} {ps:List Str} (e:Fm K C x q st ps):Md K C x q st ps:=
 have e1:=e.choose_spec.choose_spec
 ⟨⟨e.choose,e.choose_spec.choose,e1.2.2.1,e1.2.2.2⟩,⟨e1.1,e1.2.1,e1.2.2.1.kp⟩⟩
noncomputable def Ni.of {K:Frag} {C:Addr} {q:Str} {st:Stmt} {ps:List Str} (e:Fm K C "__init__" q st ps) (h1:makesIn K C=true) (h2:keepIn K (.ref C)=true):Ni K C q st ps:=
 have e1:=e.choose_spec.choose_spec
 ⟨⟨e.choose,e.choose_spec.choose,e1.2.2.1,e1.2.2.2⟩,⟨h1,e1.1,e1.2.1,h2⟩⟩
structure Fl' (K:Frag) (mg:Str->Option Value) (st:Stmt) extends Fd K mg "law" st ["_law_script"] where
 bl:∀ (s:Shared) (u:Value),BindsTo s fd ⟨[u],[]⟩ [("_law_script",u)]
noncomputable def Fl'.of {K:Frag} {mg:Str->Option Value} {h:Heap} (KX:K.In h) (G:h.Ns mainGlobals mg) {st:Stmt} (e:FxL K "law" "law" st "_law_script"):Fl' K mg st:=
 have e1:=e.choose_spec.choose_spec
 ⟨⟨⟨e.choose,e.choose_spec.choose,e1.2.1,e1.2.2.1⟩,mg_of KX G e1.1⟩,e1.2.2.2⟩
section
variable {K:Frag} {C:Addr} {x qual p zx zq:Str} {st ur:Stmt} {ps:List Str} {f:Addr} {oc:Value} {od an:Option Addr} {uP:Array (Option Value)} {kV doc pm ux ct:Value}
abbrev Bnd (x qual:Str) (st:Stmt) (ps:List Str):Prop:=∀ (kV doc pm:Value) (an:Option Addr) (ux ct:Value) (us:List Value),us.length=ps.length->bindArgs (fnOf x qual (bz st) (aY st) (au st) .none kV doc pm an ux ct) ⟨us,[]⟩=pure (ps.zip us)
theorem fx2 (es:st=ur) (e1:nsIn K mainGlobals x=some (some (.ref f))) (e2:K.lookup f=some ⟨oc,od,.func (fnOf zx zq (bz ur) (aY ur) (au ur) .none kV doc pm an ux ct),uP⟩) (e3:codeIn K ux qual=true) (e4:keepIn K (.ref f)=true)
 (h:Bnd x qual st ps:=by first | (exact fun _ _ _ _ _ _ us hl=>match us,hl with | [_],_=>rfl) | (exact fun _ _ _ _ _ _ us hl=>match us,hl with | [_,_],_=>rfl) | (exact fun _ _ _ _ _ _ us hl=>match us,hl with | [_,_,_],_=>rfl) | (exact fun _ _ _ _ _ _ us hl=>match us,hl with | [_,_,_,_],_=>rfl) | (exact fun _ _ _ _ _ _ us hl=>match us,hl with | [_,_,_,_,_],_=>rfl))
 (ex:x=zx:=by kernel_rfl) (eq:qual=zq:=by kernel_rfl):Fx K x qual st ps:=fx_mk2 ex eq es e1 e2 e3 e4 h
theorem fxl2 (es:st=ur) (e1:nsIn K mainGlobals x=some (some (.ref f))) (e2:K.lookup f=some ⟨oc,od,.func (fnOf zx zq (bz ur) (aY ur) (au ur) .none kV doc pm an ux ct),uP⟩) (e3:codeIn K ux qual=true) (e4:keepIn K (.ref f)=true)
 (h:Bnd x qual st [p]:=by (exact fun _ _ _ _ _ _ us hl=>match us,hl with | [_],_=>rfl)) (ex:x=zx:=by kernel_rfl) (eq:qual=zq:=by kernel_rfl):FxL K x qual st p:=fxl_mk2 ex eq es e1 e2 e3 e4 h
theorem fm2 (es:st=ur) (e1:findIn K (.ref C) x=some (some (.ref f))) (e2:K.lookup f=some ⟨oc,od,.func (fnOf zx zq (bz ur) (aY ur) (au ur) .none kV doc pm an ux ct),uP⟩) (e3:codeIn K ux qual=true) (e4:keepIn K (.ref f)=true) (e5:isFn K (.ref f)=true)
 (h:Bnd x qual st ps:=by first | (exact fun _ _ _ _ _ _ us hl=>match us,hl with | [_],_=>rfl) | (exact fun _ _ _ _ _ _ us hl=>match us,hl with | [_,_],_=>rfl) | (exact fun _ _ _ _ _ _ us hl=>match us,hl with | [_,_,_],_=>rfl) | (exact fun _ _ _ _ _ _ us hl=>match us,hl with | [_,_,_,_],_=>rfl) | (exact fun _ _ _ _ _ _ us hl=>match us,hl with | [_,_,_,_,_],_=>rfl))
 (ex:x=zx:=by kernel_rfl) (eq:qual=zq:=by kernel_rfl):Fm K C x qual st ps:=fm_mk2 ex eq es e1 e2 e3 e4 e5 h
end
abbrev Ok {K:Frag} {x q:Str} {st:Stmt} {ps:List Str} (P:Program) (w:World) (mg:Str->Option Value) (base:Heap) (k:Nat) (F:Fb K x q st ps) (sp:Sp):Prop:=dJ P w K mg base CX0 k F.f F.fd ps sp
noncomputable def gg (N ps:List Str) (sc:Scope):Bool:=sc.kind==.function&&!sc.isCoroutine&&!sc.isGenerator&&decide N.Nodup&&N.take ps.length==ps&&ps.all (fun x=>sc.names.lookup x==some .local||sc.names.lookup x==some .cell)&&sc.names.all (fun y=>!(y.2==.free))
theorem gg.fs {N ps:List Str} {sc:Scope} (h:gg N ps sc=true):eB N ps sc:=by
 unfold gg at h;simp only [um] at h;obtain ⟨⟨⟨⟨⟨⟨a,b⟩,c⟩,d⟩,e⟩,f⟩,g⟩:=h;refine ⟨by simpa using a,by simpa using b,by simpa using c,by simpa using d,by simpa using e,fun x hx=>?_,fun y hy z=>?_⟩
 ·have:=Ag.mp f x hx;simpa using this
 ·have:=Ag.mp g y hy;simp [z] at this
section
variable {P:Program} {w:World} {K:Frag} {mg:Str->Option Value} {base:Heap} {x q:Str} {st:Stmt} {ps:List Str} {k:Nat} {F:FS}
abbrev Bod (P:Program) (w:World) (mg:Str->Option Value) (base:Heap) (k:Nat) (F0:Fb K x q st ps) (L:List Str) (F:FS):Prop:=
 ∀ (ux:Value) (A:Around) (outer:List Env) (s:Shared) (H:Hp) (E:XK),bx k (A.deeper (envOfC q (au st) s.heap.objs.size F0.f ux))->(ps++L).Nodup->DSs (ju CX0 P w K mg base (ps++L) q (au st) F0.f ux A outer s H E).nox (aY st) F
theorem fD {F0:Fb K x q st ps} (L:List Str) (h:Bod P w mg base k F0 L F) (S:gg (ps++L) ps (au st)=true:=by kernel_rfl):Ok P w mg base (k+1) F0 (spD ps.length (run (ps++L).length F)):=
 fn_D F0.fn (gg.fs S) fun ux A o s H E hr=>h ux A o s H E hr (gg.fs S).nd
theorem fN {F0:Fb K x q st ps} (L:List Str) (h:Bod P w mg base k F0 L F) (S:gg (ps++L) ps (au st)=true:=by kernel_rfl):Ok P w mg base (k+1) F0 (spN ps.length (runN (ps++L).length F)):=
 fn_N F0.fn (gg.fs S) fun ux A o s H E hr=>h ux A o s H E hr (gg.fs S).nd
theorem fI {F0:Fb K x q st ps} {C:Addr} {n:Nat} (L:List Str) (h:Bod P w mg base k F0 L F) (hn:ps.length=n+1:=by rfl) (S:gg (ps++L) ps (au st)=true:=by kernel_rfl):Ok P w mg base (k+1) F0 (spIN C n (fun ds=>unif fun p=>ky (ps++L).length C F ds p)):=
 fn_IN hn F0.fn (gg.fs S) (fun ds fs h=>unif_all h) fun ux A o s H E hr=>h ux A o s H E hr (gg.fs S).nd
theorem fS {p1 p2:Str} {F0:Fb K x q st [p1,p2]} (L:List Str) (h:Bod P w mg base k F0 L F) (S:gg ([p1,p2]++L) [p1,p2] (au st)=true:=by kernel_rfl):Ok P w mg base (k+1) F0 (spS K (runS ([p1,p2]++L).length K F)):=
 fn_S F0.fn (gg.fs S) (by simp) fun ux A o s H E hr=>h ux A o s H E hr (gg.fs S).nd
theorem fL {p1:Str} {F0:Fb K x q st [p1]} (L:List Str) (h:Bod P w mg base k F0 L F) (S:gg ([p1]++L) [p1] (au st)=true:=by kernel_rfl):Ok P w mg base (k+1) F0 (spL K (runL ([p1]++L).length K F)):=
 fn_L F0.fn (gg.fs S) (by simp) fun ux A o s H E hr=>h ux A o s H E hr (gg.fs S).nd
end
section
variable {X:Cx} {a b c d e o:Expr} {es:List Expr} {fa fb fc fd fo f:FE} {g:FN} {fr:DSt->Option (List R)} {x y q:Str} {st:Stmt} {ps:List Str} {p pos pos' apos:Pos} {i j k n m':Nat} {C:Addr} {m:List D->Option D} {F G:FS} {body:List Stmt}
theorem dv (hN:X.N[i]?=some x:=by rfl) (hv:Vis X.env.scope x:=by first | exact Or.inl rfl | exact Or.inr (Or.inl rfl) | exact Or.inr (Or.inr rfl)) (hd:(x==("__debug__" : Str))=false:=by decide)
 (uX:(x==("__classdict__" : Str))=false:=by decide):DE X (.Name x pos) (ac i):=de_var (pv i hN hv hd uX)
theorem dk {z:Int} (h:∃ t,X.mg x=some (.int z t)) (hg:Gl X x:=by rfl) (hd:(x==("__debug__" : Str))=false:=by decide):DE X (.Name x pos) (ae (.int z)):=by
 obtain ⟨t,h⟩:=h;exact mL (pI (v:=.int z) hg h ⟨_,rfl⟩ hd) fun H=>by unfold Rep;rfl
theorem dx (ha:DE X a fa) (hb:DE X b fb) (hs:kc b:=by exact fun _ _=>rfl):DE X (.Subscript a b pos) (af oIx fa fb):=de_ix ix_oIx ha hb hs
theorem d1 (ha:DE X e fa) (hs:starEach [e] X.env=(false,eval e X.env)::starEach [] X.env:=by exact bu rfl):DA X [e] (aa fa ai):=ad ha gO hs
theorem du {F:Fd X.K X.mg x st ps} (G:Ok X.prog X.w X.mg X.base k F.toFb (spD n m)) (hr:bx j X.A) (ha:DA X (e::es) fr) (hk:k<=j:=by decide)
 (hg:Gl X x:=by rfl) (vm:(x==("__debug__" : Str))=false:=by decide) (he:starEach (e::es) X.env=(false,eval e X.env)::starEach es X.env:=by exact bu rfl) (hpl:(backTo pos (starEach es X.env)).any (·.1)=false:=by rfl) :
 DE X (.Call (.Name x p) (e::es) [] pos) (ao n m fr):=de_u ⟨F.fn,F.mgx,F.bd⟩ G (hr.mono hk) ha hg vm he hpl
theorem nu {F:Fd X.K X.mg x st ps} (G:Ok X.prog X.w X.mg X.base k F.toFb (spN n m)) (hr:bx j X.A) (ha:DA X (e::es) fr) (hk:k<=j:=by decide)
 (hg:Gl X x:=by rfl) (vm:(x==("__debug__" : Str))=false:=by decide) (he:starEach (e::es) X.env=(false,eval e X.env)::starEach es X.env:=by exact bu rfl) (hpl:(backTo pos (starEach es X.env)).any (·.1)=false:=by rfl) :
 DN X (.Call (.Name x p) (e::es) [] pos) (lL n m fr):=dn_u ⟨F.fn,F.mgx,F.bd⟩ G (hr.mono hk) ha hg vm he hpl
theorem nk {F:Ni X.K C q st ps} {m:List D->Option (List (Str×D))} (c:Cd X.K X.mg C x) (G:Ok X.prog X.w X.mg X.base k F.toFb (spIN C n m)) (hr:bx j X.A) (ha:DA X (e::es) fr) (hk:k+1<=j:=by decide)
 (hg:Gl X x:=by rfl) (vm:(x==("__debug__" : Str))=false:=by decide) (he:starEach (e::es) X.env=(false,eval e X.env)::starEach es X.env:=by exact bu rfl) (hpl:(backTo pos (starEach es X.env)).any (·.1)=false:=by rfl) :
 DN X (.Call (.Name x p) (e::es) [] pos) (eP C n m fr):=dn_mk F.mk' G F.bd c.g (hr.mono hk) ha hg vm he hpl
theorem dm {F:Md X.K C x q st ps} {pl:Sem Bool} (c:Cls X.K C) (G:Ok X.prog X.w X.mg X.base k F.toFb (spD n m)) (hr:bx j X.A) (ho:DE X o fo) (ha:DA X (e::es) fr) (hk:k<=j:=by decide)
  (uh:starEach (e::es) X.env=(false,eval e X.env)::starEach es X.env:=by rfl) (hpl:(backTo pos (starEach es X.env)).any (·.1)=false:=by rfl)
  (ht:eval (.Call (.Attribute o x apos) (e::es) [] pos) X.env=(do
   let ov <-eval o X.env
   standAt apos.atName
   let (f,first) <-holding [ov] (getMethod ov x pl)
   callWith pos f first (backTo pos (starEach (e::es) X.env)) (backToKw pos (keywordEach [] X.env))):=by rfl):DE X (.Call (.Attribute o x apos) (e::es) [] pos) (bW C x n m fo fr):=
 de_m (pe_meth (E:=E0) ho.go c F.mt G (hr.mono hk) F.bd .nil oV ha.go uh hpl ht)
theorem dm0 {F:Md X.K C x q st ps} {pl:Sem Bool} (c:Cls X.K C) (G:Ok X.prog X.w X.mg X.base k F.toFb (spD n m)) (hr:bx j X.A) (ho:DE X o fo) (hk:k<=j:=by decide)
  (ht:eval (.Call (.Attribute o x apos) [] [] pos) X.env=(do
   let ov <-eval o X.env
   standAt apos.atName
   let (f,first) <-holding [ov] (getMethod ov x pl)
   callWith pos f first (backTo pos (starEach [] X.env)) (backToKw pos (keywordEach [] X.env))):=by rfl):DE X (.Call (.Attribute o x apos) [] [] pos) (bW C x n m fo ai):=
 de_m0 (pe_meth0 (E:=E0) ho.go c F.mt G (hr.mono hk) F.bd .nil oV ht)
theorem duS {F:Fd X.K X.mg y st ps} {m:List Int->Int->Option Int} {py:Pos} (G:Ok X.prog X.w X.mg X.base k F.toFb (spS X.K m)) (hr:bx j X.A) (h:PE X (.Name x p) (kX i)) (hb:DE X e f) (hk:k<=j:=by decide)
 (hg:Gl X y:=by rfl) (vm:(y==("__debug__" : Str))=false:=by decide) (he:starEach [.Name x p,e] X.env=(false,eval (.Name x p) X.env)::starEach [e] X.env:=by exact bu rfl) (hs:starEach [e] X.env=[(false,eval e X.env)]:=by exact bu rfl) (hpl:(backTo pos (starEach [e] X.env)).any (·.1)=false:=by rfl) :
 DE X (.Call (.Name y py) [.Name x p,e] [] pos) (iN X.K i m f):=de_callS ⟨F.fn,F.mgx,F.bd⟩ G (hr.mono hk) h hb hg vm he hs hpl
theorem df (ho:DE X o fo) (hc:Cls X.K C) (hk:NoAttr X.K C x) (hb:attributeBase o x X.env (eval o X.env)=eval o X.env:=by rfl):DE X (.Attribute o x pos) (eU (isC C) x fo):=de_fld ho (fun C' h=>by rw [isC_of h];exact ⟨hc,hk⟩) hb
theorem ii_int (he:DE X e f) (h1:X.mg "int" = none) (h2:X.mg "isinstance" = none) (hs:starEach [e,.Name "int" p] X.env=(false,eval e X.env)::starEach [.Name "int" p] X.env:=by rfl) (hg:Gl X "int":=by rfl) (uo:Gl X "isinstance":=by rfl) :
 DE X (.Call (.Name "isinstance" apos) [e,.Name "int" p] [] pos) (aF eW f):=gt he (j8 (v:=.ty "int") hg h1 boot_int rfl) (.inl ⟨_,rfl⟩) rfl (kk_int _) uo h2 hs
theorem qc (he:DE X e f) (h1:X.mg "bool" = none) (h2:X.mg "isinstance" = none) (hs:starEach [e,.Name "bool" p] X.env=(false,eval e X.env)::starEach [.Name "bool" p] X.env:=by rfl) (hg:Gl X "bool":=by rfl) (uo:Gl X "isinstance":=by rfl) :
 DE X (.Call (.Name "isinstance" apos) [e,.Name "bool" p] [] pos) (aF is_bool f):=gt he (j8 (v:=.ty "bool") hg h1 boot_bool rfl) (.inl ⟨_,rfl⟩) rfl (kk_bool _) uo h2 hs
theorem kA (he:DE X e f) (h1:X.mg "list" = none) (h2:X.mg "isinstance" = none) (hs:starEach [e,.Name "list" p] X.env=(false,eval e X.env)::starEach [.Name "list" p] X.env:=by rfl) (hg:Gl X "list":=by rfl) (uo:Gl X "isinstance":=by rfl) :
 DE X (.Call (.Name "isinstance" apos) [e,.Name "list" p] [] pos) (aF dr f):=gt he (j8 (v:=.ty "list") hg h1 boot_list rfl) (.inl ⟨_,rfl⟩) rfl (kk_list _) uo h2 hs
theorem rm (he:DE X e f) (h1:X.mg "tuple" = none) (h2:X.mg "isinstance" = none) (hs:starEach [e,.Name "tuple" p] X.env=(false,eval e X.env)::starEach [.Name "tuple" p] X.env:=by rfl) (hg:Gl X "tuple":=by rfl) (uo:Gl X "isinstance":=by rfl) :
 DE X (.Call (.Name "isinstance" apos) [e,.Name "tuple" p] [] pos) (aF gv f):=gt he (j8 (v:=.ty "tuple") hg h1 boot_tuple rfl) (.inl ⟨_,rfl⟩) rfl (kk_tuple _) uo h2 hs
theorem ii_c {uA:D->Option Bool} (he:DE X e f) (h1:Cd X.K X.mg C x) (hk:Ka X.K uA C) (h2:X.mg "isinstance" = none) (hs:starEach [e,.Name x p] X.env=(false,eval e X.env)::starEach [.Name x p] X.env:=by rfl) (hg:Gl X x:=by rfl) (uo:Gl X "isinstance":=by rfl) (hd:(x==("__debug__" : Str))=false:=by decide) :
 DE X (.Call (.Name "isinstance" apos) [e,.Name x p] [] pos) (aF uA f):=gt he (pI (v:=.ref C) hg h1.g rfl hd) (.inr ⟨_,rfl⟩) rfl hk uo h2 hs
theorem c6 (hm:X.mg "len" = none) (ha:DE X e f) (hg:Gl X "len":=by rfl) (he:starEach [e] X.env=(false,eval e X.env)::starEach [] X.env:=by exact bu rfl):DE X (.Call (.Name "len" p) [e] [] pos) (aD cc (aa f ai)):=de_b1 c_len PySem.boot_len hm (d1 ha he) hg (he:=he)
theorem pb (hm:X.mg "all" = none) (ha:DE X e f) (hc:X.calm=true:=by rfl) (hg:Gl X "all":=by rfl) (he:starEach [e] X.env=(false,eval e X.env)::starEach [] X.env:=by exact bu rfl):DE X (.Call (.Name "all" p) [e] [] pos) (aD iK (aa f ai)):=de_b1 (c_all hc) boot_all hm (d1 ha he) hg (he:=he)
theorem c_eq (ha:DE X a fa) (hb:DE X b fb) (hr:bx j X.A):DE X (.Compare a [.Eq] [b] pos) (af oEq fa fb):=mM (op_oEq (hu64 hr)) ha hb (kY _)
theorem c_ne (ha:DE X a fa) (hb:DE X b fb) (hr:bx j X.A):DE X (.Compare a [.NotEq] [b] pos) (af oNe fa fb):=mM (op_oNe (hu64 hr)) ha hb (kY _)
theorem c_in (ha:DE X a fa) (hb:DE X b fb) (hr:bx j X.A) (hm:behindInMarks .In b=false:=by with_unfolding_all rfl):DE X (.Compare a [.In] [b] pos) (af oIn fa fb):=mM (op_oIn (hu64 hr)) ha hb hm
theorem c_ni (ha:DE X a fa) (hb:DE X b fb) (hr:bx j X.A) (hm:behindInMarks .NotIn b=false:=by with_unfolding_all rfl):DE X (.Compare a [.NotIn] [b] pos) (af oNotIn fa fb):=mM (oY (hu64 hr)) ha hb hm
theorem t_eq (ha:DE X a fa) (hb:DE X b fb) (hr:bx j X.A):DT X (.Compare a [.Eq] [b] pos) (al (af oEq fa fb)):=mO (op_oEq (hu64 hr)) ha hb (kY _)
theorem kB (ha:DE X a fa) (hb:DE X b fb) (hr:bx j X.A):DT X (.Compare a [.NotEq] [b] pos) (al (af oNe fa fb)):=mO (op_oNe (hu64 hr)) ha hb (kY _)
theorem t_in (ha:DE X a fa) (hb:DE X b fb) (hr:bx j X.A) (hm:behindInMarks .In b=false:=by with_unfolding_all rfl):DT X (.Compare a [.In] [b] pos) (al (af oIn fa fb)):=mO (op_oIn (hu64 hr)) ha hb hm
theorem t_ni (ha:DE X a fa) (hb:DE X b fb) (hr:bx j X.A) (hm:behindInMarks .NotIn b=false:=by with_unfolding_all rfl):DT X (.Compare a [.NotIn] [b] pos) (al (af oNotIn fa fb)):=mO (oY (hu64 hr)) ha hb hm
theorem dc2 {op:CmpOp} {o:D->D->Option R} (ho:OpR X (compareOp op) (rD o)) (ha:DE X a fa) (hb:DE X b fb) (hm:behindInMarks op b=false:=by exact kY _):DE X (.Compare a [op] [b] pos) (af o fa fb):=mM ho ha hb hm
theorem tc2 {op:CmpOp} {o:D->D->Option R} (ho:OpR X (compareOp op) (rD o)) (ha:DE X a fa) (hb:DE X b fb) (hm:behindInMarks op b=false:=by exact kY _):DT X (.Compare a [op] [b] pos) (al (af o fa fb)):=mO ho ha hb hm
theorem m7 {tf tg:DSt->Option Bool} (ha:DT X a tf) (hb:DT X b tg):DT X (.BoolOp .And [a,b] pos) (bQ tf tg):=(mQ ha (pT hb)).dt
theorem t_or {tf tg:DSt->Option Bool} (ha:DT X a tf) (hb:DT X b tg):DT X (.BoolOp .Or [a,b] pos) (bP tf tg):=(kf ha (pU hb)).dt
theorem t_or3 {tf tg th:DSt->Option Bool} (ha:DT X a tf) (hb:DT X b tg) (hc:DT X c th):DT X (.BoolOp .Or [a,b,c] pos) (bP tf (bP tg th)):=(kf ha (kf hb (pU hc))).dt
abbrev Inn (X:Cx) (N:List Str) (scope:Scope) (tg elt:Expr) (ifs:List Expr) (ks:List Nat) (g:GD) (c:DSt->Option Bool) (fe:FE):Prop:=N.Nodup->∀ cl C s H fp,DG (bD X N scope cl C s H fp) tg ks g/\DIfs (bD X N scope cl C s H fp) ifs c/\DE (bD X N scope cl C s H fp) elt fe
abbrev InN (X:Cx) (N:List Str) (scope:Scope) (tg elt:Expr) (ifs:List Expr) (ks:List Nat) (g:GD) (c:DSt->Option Bool) (fe:FN):Prop:=N.Nodup->∀ cl C s H fp,DG (bD X N scope cl C s H fp) tg ks g/\DIfs (bD X N scope cl C s H fp) ifs c/\DN (bD X N scope cl C s H fp) elt fe
section
variable {scope:Scope} {tg iter elt:Expr} {ifs:List Expr} {ks ix:List Nat} {fi:DSt->Option (List D)} {g:GD} {c:DSt->Option Bool} {fe:FE} {fn:FN} {u4 py:Pos}
theorem dc (N:List Str) (hi:DI X tg iter fi) (tU:Inn X N scope tg elt ifs ks g c fe) (hc:X.calm=true:=by rfl) (S:mS X.env.scope X.N N n ix scope=true:=by kernel_rfl) (nd:N.Nodup:=by decide +kernel) (hk:∀ j∈ks,j<n:=by decide)
 (hs:∀ x,foldedSetIterable iter X.env x=pure x:=by intro _;rfl):DE X (.ListComp elt [⟨tg,iter,ifs,0⟩] scope pos) (bC fi g c fe n ix):=de_comp hc (lb rfl rfl S) hk hi (tU nd) hs
theorem nc (N:List Str) (hi:DI X tg iter fi) (tU:InN X N scope tg elt ifs ks g c fn) (hc:X.calm=true:=by rfl) (S:mS X.env.scope X.N N n ix scope=true:=by kernel_rfl) (nd:N.Nodup:=by decide +kernel) (hk:∀ j∈ks,j<n:=by decide)
 (hs:∀ x,foldedSetIterable iter X.env x=pure x:=by intro _;rfl):DN X (.ListComp elt [⟨tg,iter,ifs,0⟩] scope pos) (mZ fi g c fn n ix):=dn_comp hc (lb rfl rfl S) hk hi (tU nd) hs
theorem sc (N:List Str) (hN:X.N.Nodup) (hi:DI X tg iter fi) (tU:Inn X N scope tg elt ifs ks g c fe) (hc:X.calm=true:=by rfl) (S:mS X.env.scope X.N N n ix scope=true:=by kernel_rfl) (nd:N.Nodup:=by decide +kernel) (hk:∀ j∈ks,j<n:=by decide)
 (yz:X.N[i]?=some y:=by rfl) (hy:Loc X.env.scope y:=by first | exact .inl rfl | exact .inr rfl)
 (uE:swapsWith (.ListComp elt [⟨tg,iter,ifs,0⟩] scope pos) (some (.Name y py)) u4.line X.env=pure true:=by rfl) (hf:X.fn y=true\/X.env.scope.names.lookup y=some .local:=by first | exact .inl rfl | exact .inr rfl | assumption)
 (hs:∀ x,foldedSetIterable iter X.env x=pure x:=by intro _;rfl):DS X (.Assign [.Name y py] (.ListComp elt [⟨tg,iter,ifs,0⟩] scope pos) u4) (sset i (bC fi g c fe n ix)):=ds_comp hc (lb rfl rfl S) hk hi (tU nd) hN yz hy uE hf hs
theorem gn (hN:X.N.Nodup) (hi:X.N[i]?=some x:=by rfl) (hx:Loc X.env.scope x:=by first | exact .inl rfl | exact .inr rfl) (hf:X.fn x=true\/X.env.scope.names.lookup x=some .local:=by first | exact .inl rfl | exact .inr rfl | assumption):DG X (.Name x pos) [i] (ap i):=dg_name (pg_name hN hi hx hf)
theorem g2 {k:Nat} {js:List Nat} {g':GD} (h1:DG X a ks g) (h2:DG X b js g') (hc:X.calm=true:=by rfl) (e1:(assignEach [a,b] X.env).map (·.2)=assign a X.env::(assignEach [b] X.env).map (·.2):=by rfl) (e2:(assignEach [b] X.env).map (·.2)=assign b X.env::(assignEach [] X.env).map (·.2):=by rfl)
 (hn:(assignEach [a,b] X.env).length=2:=by rfl) (uh:(assignEach [a,b] X.env).findIdx? (·.1)=none:=by rfl):DG X (.Tuple [a,b] k pos) (ks++(js++[])) (gtup 2 (dM g (dM g' gnil))):=dg_tup hc (qR h1 (qR h2 dgs_nil e2) e1) hn uh
theorem sf (hi:DI X tg iter fi) (hg:DG X tg ks g) (hb:DSs X body F) (hc:X.calm=true:=by rfl) (hp:PassesOwn (model X.prog X.w) X.A X.env X.xe:=by exact PassesOwn.never) (hs:∀ x,foldedSetIterable iter X.env x=pure x:=by intro _;rfl):DS X (.For tg iter body [] pos) (bg fi g F):=ds_for hp hc hi hg hb hs
theorem sw {t:DSt->Option Bool} (ht:DT X a t) (hb:DSs X body F) (hp:PassesOwn (model X.prog X.w) X.A X.env X.xe:=by exact PassesOwn.never):DS X (.While a body [] pos) (dn t F n):=ds_while n hp ht hb
theorem ir (hm:X.mg "range" = none) (ha:DE X a fa) (hg:Gl X "range":=by rfl) (hs:starEach [a] X.env=[(false,eval a X.env)]:=by exact bu rfl):DI X tg (.Call (.Name "range" p) [a] [] pos) (cY (aa fa ai)):=di_range1 hg hm (d1 ha hs) hs
end
theorem sA (hN:X.N.Nodup) (he:DE X e f) (hi:X.N[i]?=some x:=by rfl) (hx:Loc X.env.scope x:=by first | exact .inl rfl | exact .inr rfl) (hs:swapsWith e (some (.Name x pos')) pos.line X.env=pure false:=by rfl)
 (hf:X.fn x=true\/X.env.scope.names.lookup x=some .local:=by first | exact .inl rfl | exact .inr rfl | assumption):DS X (.Assign [.Name x pos'] e pos) (sset i f):=ds_set hN hi hx he hs hf
theorem stB (hN:X.N.Nodup) (he:DE X e f) (hi:X.N[k]?=some x:=by rfl) (hx:Loc X.env.scope x:=by first | exact .inl rfl | exact .inr rfl) (hs:swapsWith e (some (.Name x pos')) pos.line X.env=pure false:=by rfl)
 (hf:X.fn x=true\/X.env.scope.names.lookup x=some .local:=by first | exact .inl rfl | exact .inr rfl | assumption):DS X (.Assign [.Name x pos'] e pos) (m5 i k f):=ds_setB hN hi hx he hs hf
theorem stN (hN:X.N.Nodup) (he:DN X e g) (hi:X.N[i]?=some x:=by rfl) (hx:Loc X.env.scope x:=by first | exact .inl rfl | exact .inr rfl) (hs:swapsWith e (some (.Name x pos')) pos.line X.env=pure false:=by rfl)
 (hf:X.fn x=true\/X.env.scope.names.lookup x=some .local:=by first | exact .inl rfl | exact .inr rfl | assumption):DS X (.Assign [.Name x pos'] e pos) (mW i g):=ds_setN hN hi hx he hs hf
theorem sg {op:Operator} {g:Int->Int->Int} (hN:X.N.Nodup) (he:DE X e f) (ho:PIp X op (ipI g)) (hi:X.N[i]?=some x:=by rfl) (hx:Loc X.env.scope x:=by first | exact .inl rfl | exact .inr rfl)
 (hf:X.fn x=true\/X.env.scope.names.lookup x=some .local:=by first | exact .inl rfl | exact .inr rfl | assumption):DS X (.AugAssign (.Name x pos') op e pos) (ma g i f):=ds_aug hN hi hx he ho hf
theorem i0 {t:DSt->Option Bool} (hc:DT X c t) (ha:DSs X body F):DS X (.If c body [] pos) (sif t F aE):=ds_if hc ha dss_nil
theorem iB0 {t:DSt->Option Bool} (hc:DT X c t) (ha:DSs X body F):DS X (.If c body [] pos) (iM i t F aE):=ds_ifB hc ha dss_nil
end
end Ew
end
section
namespace Mx
section
variable {P N:Type} [DecidableEq P] [DecidableEq N]
abbrev Wlk (P N:Type):=List P×List N
def am (w:Wlk P N):List (P×P×N):=w.1.zip (w.1.tail.zip w.2)
theorem oh (qs:List P) (ns:List N) (b c:P) (n:N) (h:qs.length=ns.length) :
  am (qs++[b]++[c],ns++[n])=am (qs++[b],ns)++[(b,c,n)]:=by
 induction qs generalizing ns with
 | nil=>cases ns with
  | nil=>rfl
  | cons m ns=>simp at h
 | cons q qs ih=>cases ns with
  | nil=>simp at h
  | cons m ns=>
   have:=ih ns (by simpa using h);cases qs with
   | nil=>cases ns with
    | nil=>rfl
    | cons _ _=>simp at h
   | cons q' qs=>simp [am] at this ⊢;exact this
theorem qd {ps:List P} {ns:List N} {b c:P} {n:N} (hl:ps.getLast?=some b) (h:ps.length=ns.length+1) :
  am (ps++[c],ns++[n])=am (ps,ns)++[(b,c,n)]:=by
 obtain ⟨qs,rfl⟩ : ∃ qs,ps=qs++[b]:=by
  rw [List.getLast?_eq_some_iff] at hl;exact hl
 exact oh qs ns b c n (by simpa using h)
inductive Sw (L:List (P×P×N)) (ends:List P) (a:P):P->List P->List N->Prop
 | nil:Sw L ends a a [a] []
 | snoc {b ps ns c n}:Sw L ends a b ps ns->(b,c,n)∈L->c∉ps->b∉ends->Sw L ends a c (ps++[c]) (ns++[n])
namespace Sw
variable {L:List (P×P×N)} {ends:List P} {a b:P} {ps:List P} {ns:List N}
theorem last (h:Sw L ends a b ps ns):ps.getLast?=some b:=by cases h <;> simp
theorem head (h:Sw L ends a b ps ns):ps.head?=some a:=by
 induction h with
 | nil=>rfl
 | snoc h1 _ _ _ ih=>rw [List.head?_append,ih];rfl
theorem len (h:Sw L ends a b ps ns):ps.length=ns.length+1:=by
 induction h with
 | nil=>rfl
 | snoc h1 _ _ _ ih=>simp [ih]
theorem nodup (h:Sw L ends a b ps ns):ps.Nodup:=by
 induction h with
 | nil=>simp
 | snoc h1 _ hc _ ih=>
  rw [List.nodup_append];refine ⟨ih,by simp,?_⟩;intro x hx y hy;simp at hy;subst hy;intro e;subst e;exact hc hx
theorem memA (h:Sw L ends a b ps ns):a∈ps:=by
 induction h with
 | nil=>simp
 | snoc h1 _ hc _ ih=>simp [ih]
theorem memB (h:Sw L ends a b ps ns):b∈ps:=by
 cases h <;> simp
theorem steps_snoc {c n} (h:Sw L ends a b ps ns):am (ps++[c],ns++[n])=am (ps,ns)++[(b,c,n)]:=qd h.last h.len
theorem step (h:Sw L ends a b ps ns):∀ s∈am (ps,ns),s∈L/\s.1∈ps/\s.2.1∈ps/\s.2.2∈ns/\s.2.1≠a/\s.1∉ends:=by
 induction h with
 | nil=>intro s hs;simp [am] at hs
 | snoc h1 hL hc hb ih=>
  intro s hs;rw [h1.steps_snoc] at hs;simp at hs;rcases hs with hs | hs
  ·obtain ⟨i1,i2,i3,i4,i5,i6⟩:=ih s hs;exact ⟨i1,by simp [i2],by simp [i3],by simp [i4],i5,i6⟩
  ·subst hs;refine ⟨hL,by simp [h1.memB],by simp,by simp,?_,hb⟩;intro e;simp at e;subst e;exact hc h1.memA
theorem names (h:Sw L ends a b ps ns):(am (ps,ns)).map (·.2.2)=ns:=by
 induction h with
 | nil=>rfl
 | snoc h1 hL hc hb ih=>rw [h1.steps_snoc];simp [ih]
theorem stepsNodup (h:Sw L ends a b ps ns):(am (ps,ns)).Nodup:=by
 induction h with
 | nil=>simp [am]
 | snoc h1 hL hc hb ih=>
  rw [h1.steps_snoc,List.nodup_append];refine ⟨ih,by simp,?_⟩;intro x hx y hy e;simp at hy;subst hy;subst e;exact hc (h1.step _ hx).2.2.1
theorem namesNodup (h:Sw L ends a b ps ns) (U:∀ s∈L,∀ t∈L,s.2.2=t.2.2->t=s\/t=(s.2.1,s.1,s.2.2)):ns.Nodup:=by
 induction h with
 | nil=>simp
 | snoc h1 hL hc hb ih=>
  rw [List.nodup_append];refine ⟨ih,by simp,?_⟩;intro x hx y hy e;simp at hy;subst hy;subst e;rw [<-h1.names] at hx;simp only [zH] at hx;obtain ⟨s,hs,e⟩:=hx;have q:=h1.step s hs;rcases U s q.1 _ hL e with e' | e'
  ·rw [<-e'] at q;exact hc q.2.2.1
  ·have:s.1=_:=(congrArg (fun (x:P×P×N)=>x.2.1) e').symm;simp at this;rw [this] at q;exact hc q.2.1
theorem mono {L':List (P×P×N)} (h:Sw L ends a b ps ns) (hL:∀ s∈L,s∈L'):Sw L' ends a b ps ns:=by
 induction h with
 | nil=>exact .nil
 | snoc h1 h2 hc hb ih=>exact .snoc ih (hL _ h2) hc hb
end Sw
noncomputable def scan1 (w:Wlk P N) (q:List (Wlk P N)×List P) (s:P×P×N):List (Wlk P N)×List P:=
 if w.1.getLast?=some s.1/\s.2.1∉q.2 then (q.1++[(w.1++[s.2.1],w.2++[s.2.2])],q.2++[s.2.1]) else q
def scan (L:List (P×P×N)) (w:Wlk P N) (q:List (Wlk P N)×List P):=L.foldl (scan1 w) q
noncomputable def jQ (ends:List P) (w:Wlk P N):Bool:=match w.1.getLast? with
 | some b=>decide (b∈ends)
 | none=>false
noncomputable def bfs (L:List (P×P×N)) (ends:List P):Nat->Nat->List (Wlk P N)×List P->Option (Wlk P N)
 | 0,_,_=>none
 | f+1,k,q=>match q.1[k]? with
  | none=>none
  | some w=>if jQ ends w then some w else bfs L ends f (k+1) (scan L w q)
noncomputable def dz (n:Nat) (L:List (P×P×N)) (a:P) (ends:List P):Option (Wlk P N):=bfs L ends n 0 ([([a],[])],[a])
structure Inv (L L0:List (P×P×N)) (ends:List P) (a:P) (q:List (Wlk P N)×List P):Prop where
 nd:q.2.Nodup
 ls:q.1.map (fun w=>w.1.getLast?)=q.2.map some
 ok:∀ w∈q.1,∃ b,Sw L0 ends a b w.1 w.2/\∀ p∈w.1,p∈q.2
 sub:∀ p∈q.2,p=a\/∃ s∈L0,s.2.1=p
 ha:a∈q.2
theorem scan1_inv {L L0:List (P×P×N)} {ends:List P} {a b:P} {q:List (Wlk P N)×List P} {w:Wlk P N} {s:P×P×N}
  (I:Inv L L0 ends a q) (hw:Sw L0 ends a b w.1 w.2) (hm:∀ p∈w.1,p∈q.2) (hb:b∉ends) (hs:s∈L0) :
  Inv L L0 ends a (scan1 w q s)/\(∃ e,(scan1 w q s).1=q.1++e)/\(∃ e,(scan1 w q s).2=q.2++e)/\(s.1=b->s.2.1∈(scan1 w q s).2):=by
 unfold scan1;rw [hw.last];split
 ·rename_i h;obtain ⟨h1,h2⟩:=h;simp at h1;subst h1;refine ⟨⟨?_,?_,?_,?_,?_⟩,⟨_,rfl⟩,⟨_,rfl⟩,by simp⟩
  ·rw [List.nodup_append];refine ⟨I.nd,by simp,?_⟩;intro x hx y hy e;simp at hy;subst hy;subst e;exact h2 hx
  ·simp [I.ls]
  ·intro w' ui;simp at ui;rcases ui with ui | ui
   ·obtain ⟨b',i1,i2⟩:=I.ok w' ui;exact ⟨b',i1,fun p hp=>by simp [i2 p hp]⟩
   ·subst ui;refine ⟨s.2.1,.snoc hw hs (fun h=>h2 (hm _ h)) hb,?_⟩;intro p hp;simp at hp ⊢;rcases hp with hp | hp
    ·exact .inl (hm p hp)
    ·exact .inr hp
  ·intro p hp;simp at hp;rcases hp with hp | hp
   ·exact I.sub p hp
   ·exact .inr ⟨s,hs,hp.symm⟩
  ·simp [I.ha]
 ·rename_i h;refine ⟨I,⟨[],by simp⟩,⟨[],by simp⟩,?_⟩;intro e;subst e;simp at h;exact h
theorem m8 {L0:List (P×P×N)} {ends:List P} {a b:P} {w:Wlk P N} (hw:Sw L0 ends a b w.1 w.2) (hb:b∉ends) :
  ∀ (L:List (P×P×N)) (q:List (Wlk P N)×List P),(∀ s∈L,s∈L0)->Inv L0 L0 ends a q->(∀ p∈w.1,p∈q.2)->
  Inv L0 L0 ends a (scan L w q)/\(∃ e,(scan L w q).1=q.1++e)/\(∃ e,(scan L w q).2=q.2++e)/\(∀ s∈L,s.1=b->s.2.1∈(scan L w q).2)
 | [],q,_,I,hm=>⟨I,⟨[],by simp [scan]⟩,⟨[],by simp [scan]⟩,by simp⟩
 | s::L,q,hL,I,hm=>by
  obtain ⟨i1,⟨e1,j1⟩,⟨e2,j2⟩,i4⟩:=scan1_inv I hw hm hb (hL s (by simp));have hm':∀ p∈w.1,p∈(scan1 w q s).2:=fun p hp=>by rw [j2];simp [hm p hp]
  obtain ⟨k1,⟨f1,l1⟩,⟨f2,l2⟩,k4⟩:=m8 hw hb L (scan1 w q s) (fun t ht=>hL t (by simp [ht])) i1 hm';have e:scan (s::L) w q=scan L w (scan1 w q s):=rfl;rw [e];refine ⟨k1,⟨e1++f1,by rw [l1,j1];simp⟩,⟨e2++f2,by rw [l2,j2];simp⟩,?_⟩;intro t ht et;simp at ht;rcases ht with ht | ht
  ·subst ht;rw [l2];exact zB.2 (.inl (i4 et))
  ·exact k4 t ht et
structure Shut (L:List (P×P×N)) (a:P) (S:List P):Prop where
 ha:a∈S
 cl:∀ s∈L,s.1∈S->s.2.1∈S
noncomputable def BfsOk (L:List (P×P×N)) (a:P) (ends:List P):Option (Wlk P N)->Prop
 | some w=>∃ b,b∈ends/\Sw L ends a b w.1 w.2
 | none=>∃ S,Shut L a S/\∀ p∈S,p∉ends
theorem qe {L:List (P×P×N)} {ends:List P} {a:P} {q:List (Wlk P N)×List P} (I:Inv L L ends a q):q.1.length<=L.length+1:=by
 have h1:q.1.length=q.2.length:=by have:=congrArg List.length I.ls;simpa using this
 have h2:=zm (l₂:=a::L.map (·.2.1)) I.nd (by
  intro p hp;rcases I.sub p hp with e | ⟨s,hs,e⟩
  ·simp [e]
  ·simp only [zj,zH];exact .inr ⟨s,hs,e⟩)
 simp at h2;omega
theorem bfs_ok {L:List (P×P×N)} {ends:List P} {a:P}:∀ (f k:Nat) (q:List (Wlk P N)×List P),Inv L L ends a q->
  (∀ i,i<k->∀ w,q.1[i]?=some w->jQ ends w=false/\∀ s∈L,w.1.getLast?=some s.1->s.2.1∈q.2)->k<=q.1.length->L.length+2<=f+k->
  BfsOk L a ends (bfs L ends f k q)
 | 0,k,q,I,_,hk,hf=>by have:=qe I;omega
 | f+1,k,q,I,hd,hk,hf=>by
  unfold bfs;split
  ·rename_i hn;have yx:k=q.1.length:=by
    rw [List.getElem?_eq_none_iff] at hn;omega
   have key:∀ p∈q.2,∃ i w,i<k/\q.1[i]?=some w/\w.1.getLast?=some p:=by
    intro p hp;have:some p∈q.1.map (fun w=>w.1.getLast?):=by rw [I.ls];simp [hp]
    rw [zH] at this;obtain ⟨w,hw,e⟩:=this;obtain ⟨i,hi,e'⟩:=List.mem_iff_getElem.1 hw;exact ⟨i,w,by omega,by simp [e',hi],e⟩
   refine ⟨q.2,⟨I.ha,?_⟩,?_⟩
   ·intro s hs hp;obtain ⟨i,w,hi,hw,hl⟩:=key s.1 hp;exact (hd i hi w hw).2 s hs hl
   ·intro p hp he;obtain ⟨i,w,hi,hw,hl⟩:=key p hp;have:=(hd i hi w hw).1;simp [jQ,hl,he] at this
  ·rename_i w hw;obtain ⟨b,sw,hm⟩:=I.ok w (List.mem_of_getElem? hw);split
   ·rename_i hl;simp [jQ,sw.last] at hl;exact ⟨b,hl,sw⟩
   ·rename_i hl;have hb:b∉ends:=by simpa [jQ,sw.last] using hl
    obtain ⟨i1,⟨e1,j1⟩,⟨e2,j2⟩,i4⟩:=m8 sw hb L q (fun _ h=>h) I hm;have vt:k<q.1.length:=by
     rcases Nat.lt_or_ge k q.1.length with h | h
     ·exact h
     ·rw [List.getElem?_eq_none h] at hw;simp at hw
    apply bfs_ok f (k+1) _ i1
    ·intro i hi w' ui;rw [j1,zw (by omega)] at ui;by_cases hik:i=k
     ·subst hik;rw [hw] at ui;simp at ui;subst ui;refine ⟨by simpa using hl,?_⟩;intro s hs e;rw [sw.last] at e;simp at e;exact i4 s hs e.symm
     ·obtain ⟨d1,d2⟩:=hd i (by omega) w' ui;refine ⟨d1,fun s hs e=>?_⟩;rw [j2];simp [d2 s hs e]
    ·rw [j1];simp;omega
    ·omega
theorem jk {L:List (P×P×N)} {a:P} {ends:List P} {n:Nat} (h:L.length+2<=n):BfsOk L a ends (dz n L a ends):=by
 apply bfs_ok
 ·exact ⟨by simp,by simp,by intro w hw;simp at hw;subst hw;exact ⟨a,.nil,by simp⟩,by simp,by simp⟩
 ·intro i hi;omega
 ·simp
 ·omega
end
section
variable {P N:Type} [DecidableEq P] [DecidableEq N]
abbrev aI (P N:Type):=List (P×P×N)
def turned (s:P×P×N):P×P×N:=(s.2.1,s.1,s.2.2)
def cr (s:P×P×N):N:=s.2.2
def bn (L:aI P N) (names:List N):aI P N:=L.filter fun s=>decide (s.2.2∉names)
def aG (L gone:aI P N):aI P N:=bn L (gone.map cr)++gone.map turned
noncomputable def eH (gone:aI P N) (w:Wlk P N):aI P N:=(gone.filter fun s=>decide (turned s∉am w))++(am w).filter fun s=>decide (turned s∉gone)
noncomputable def bp (n:Nat) (L:aI P N) (b e:P):Nat->aI P N->aI P N
 | 0,g=>g
 | k+1,g=>match dz n (aG L g) b [e] with
  | none=>g
  | some w=>bp n L b e k (eH g w)
noncomputable def drain (n:Nat) (b e:P):Nat->aI P N->Option (Wlk P N)->List (Wlk P N)->List (Wlk P N)
 | 0,_,_,ws=>ws
 | _+1,_,none,ws=>ws
 | f+1,left,some w,ws=>drain n b e f (bn left w.2) (dz n (bn left w.2) b [e]) (ws++[w])
noncomputable def cy (n f:Nat) (L:aI P N) (b e:P) (many:Nat):List (Wlk P N):=
 drain n b e f (bp n L b e many []) (dz n (bp n L b e many []) b [e]) []
theorem eI (s:P×P×N):turned (turned s)=s:=rfl
def net (φ:P->Int) (L:aI P N):Int:=(L.map fun s=>φ s.1-φ s.2.1).sum
theorem jl {φ:P->Int}:net φ ([]:aI P N)=0:=rfl
theorem gD {φ:P->Int} {s:P×P×N} {L:aI P N}:net φ (s::L)=(φ s.1-φ s.2.1)+net φ L:=by simp [net]
theorem fE {φ:P->Int} {L M:aI P N}:net φ (L++M)=net φ L+net φ M:=by
 induction L with
 | nil=>simp [jl]
 | cons s L ih=>simp [gD,ih];omega
theorem m9 {φ:P->Int} {L M:aI P N} (h:L.Perm M):net φ L=net φ M:=by
 induction h with
 | nil=>rfl
 | cons x _ ih=>simp [gD,ih]
 | swap x y l=>simp [gD];omega
 | trans _ _ h1 h2=>exact h1.trans h2
theorem sR {φ:P->Int} {L:aI P N}:net φ (L.map turned)=- net φ L:=by
 induction L with
 | nil=>rfl
 | cons s L ih=>simp [gD,ih,turned];omega
theorem pd {φ:P->Int} (p:P×P×N->Bool) (L:aI P N):net φ L=net φ (L.filter p)+net φ (L.filter fun s=>!p s):=by
 rw [<-fE];exact (m9 (List.filter_append_perm p L)).symm
theorem Sw.net {L:aI P N} {ends:List P} {a b:P} {ps:List P} {ns:List N} (h:Sw L ends a b ps ns) (φ:P->Int):Mx.net φ (am (ps,ns))=φ a-φ b:=by
 induction h with
 | nil=>simp [am,jl]
 | snoc h1 _ _ _ ih=>rw [h1.steps_snoc,fE,ih];simp [gD,jl];omega
theorem cz {α β:Type} {f:α->β}:∀ {L:List α},(L.map f).Nodup->L.Nodup
 | [],_=>by simp
 | x::L,h=>by
  simp only [zb,List.nodup_cons] at h ⊢;exact ⟨fun hx=>h.1 (List.mem_map_of_mem hx),cz h.2⟩
theorem cF {α β:Type} {f:α->β}:∀ {L:List α},L.Nodup->(∀ x∈L,∀ y∈L,f x=f y->x=y)->(L.map f).Nodup
 | [],_,_=>by simp
 | x::L,h,hf=>by
  simp only [zb,List.nodup_cons] at h ⊢;refine ⟨?_,cF h.2 fun y hy z hz=>hf y (by simp [hy]) z (by simp [hz])⟩;intro hx;obtain ⟨y,hy,e⟩:=zH.1 hx;have:=hf y (by simp [hy]) x (by simp) e;subst this;exact h.1 hy
theorem jm {α β:Type} {f:α->β}:∀ {L:List α},(L.map f).Nodup->∀ {x y},x∈L->y∈L->f x=f y->x=y
 | [],_,_,_,h,_,_=>by simp at h
 | z::L,h,x,y,hx,hy,e=>by
  simp only [zb,List.nodup_cons] at h;simp only [zj] at hx hy;rcases hx with hx | hx <;> rcases hy with hy | hy
  ·rw [hx,hy]
  ·subst hx;exact absurd (e▸List.mem_map_of_mem hy) h.1
  ·subst hy;exact absurd (e▸List.mem_map_of_mem hx) h.1
  ·exact jm h.2 hx hy e
theorem cS {α:Type} {p:α->Bool} {L:List α} (h:L.Nodup):(L.filter p).Nodup:=List.Pairwise.filter p h
def ll (L:aI P N):Prop:=∀ s∈L,∀ t∈L,s.2.2=t.2.2->t=s\/t=(s.2.1,s.1,s.2.2)
theorem gW {L:aI P N} {ns:List N} {s:P×P×N}:s∈bn L ns↔s∈L/\s.2.2∉ns:=by simp [bn]
theorem dA {L G:aI P N} {s:P×P×N}:s∈aG L G↔(s∈L/\s.2.2∉G.map cr)\/∃ g∈G,turned g=s:=by
 unfold aG;rw [zB,gW];exact or_congr Iff.rfl zH
theorem pf {L G:aI P N} (U:ll L) (hG:∀ g∈G,g∈L):ll (aG L G):=by
 intro s hs t ht e;have back:∀ s∈aG L G,∃ s'∈L,s'.2.2=s.2.2/\(s=s'\/s=turned s'):=by
  intro s hs;rcases dA.1 hs with h | ⟨g,hg,h⟩
  ·exact ⟨s,h.1,rfl,.inl rfl⟩
  ·exact ⟨g,hG g hg,by rw [<-h];rfl,.inr h.symm⟩
 obtain ⟨s',a1,a2,a3⟩:=back s hs;obtain ⟨t',b1,b2,b3⟩:=back t ht;have:=U s' a1 t' b1 (by rw [a2,b2,e]);rcases s with ⟨x,y,n⟩
 rcases t with ⟨x2,y2,n2⟩
 rcases s' with ⟨u,v,m⟩
 rcases t' with ⟨u2,v2,m2⟩
 simp [turned] at *;subst e;rcases this with ⟨c1,c2,c3⟩ | ⟨c1,c2,c3⟩ <;> rcases a3 with ⟨d1,d2,d3⟩ | ⟨d1,d2,d3⟩ <;> rcases b3 with ⟨f1,f2,f3⟩ | ⟨f1,f2,f3⟩ <;> subst_vars <;> simp
structure Flow (L:aI P N) (b e:P) (k:Nat) (G:aI P N):Prop where
 sub:∀ g∈G,g∈L
 nd:(G.map cr).Nodup
 net:∀ φ:P->Int,Mx.net φ G=(k:Int)*(φ b-φ e)
 nb:∀ g∈G,g.2.1≠b/\g.1≠e
theorem Flow.zero {L:aI P N} {b e:P}:Flow L b e 0 []:=⟨by simp,by simp,by simp [jl],by simp⟩
theorem Flow.step {L G:aI P N} {b e:P} {k:Nat} {w:Wlk P N} (U:ll L) (F:Flow L b e k G) (hw:Sw (aG L G) [e] b e w.1 w.2) :
  Flow L b e (k+1) (eH G w):=by
 have hA:∀ s∈am w,_:=hw.step;have uK:∀ s∈am w,turned s∉G->s∈L/\cr s∉G.map cr:=by
  intro s hs ht;rcases dA.1 (hA s hs).1 with h | ⟨g,hg,h⟩
  ·exact h
  ·exfalso;apply ht;rw [<-h];exact hg
 have ndG:G.Nodup:=cz F.nd;have ndA:(am w).Nodup:=hw.stepsNodup;refine ⟨?_,?_,?_,?_⟩
 ·intro g hg;simp only [eH,zB,Af,decide_eq_true_eq] at hg;rcases hg with ⟨h,_⟩ | ⟨h,h2⟩
  ·exact F.sub g h
  ·exact (uK g h h2).1
 ·unfold eH;rw [zT,List.nodup_append];refine ⟨?_,?_,?_⟩
  ·exact List.Pairwise.sublist (List.Sublist.map _ List.filter_sublist) F.nd
  ·have:((am w).map cr).Nodup:=by
    have:=hw.namesNodup (pf U F.sub);rw [<-hw.names] at this;exact this
   exact List.Pairwise.sublist (List.Sublist.map _ List.filter_sublist) this
  ·intro x hx y hy u7;obtain ⟨s,hs,rfl⟩:=zH.1 hx;obtain ⟨t,ht,rfl⟩:=zH.1 hy;rw [Af] at hs ht;have:=(uK t ht.1 (by simpa using ht.2)).2;exact this (u7▸List.mem_map_of_mem hs.1)
 ·intro φ;have h1:=pd (φ:=φ) (fun s=>decide (turned s∉am w)) G;have h2:=pd (φ:=φ) (fun s=>decide (turned s∉G)) (am w);have hp:((am w).filter fun s=>!decide (turned s∉G)).Perm ((G.filter fun s=>!decide (turned s∉am w)).map turned):=by
   rw [List.perm_ext_iff_of_nodup (cS ndA)]
   ·intro s;simp only [Af,zH];constructor
    ·rintro ⟨h,h'⟩;exact ⟨turned s,⟨by simpa using h',by rw [eI];simpa using h⟩,eI s⟩
    ·rintro ⟨t,⟨h,h'⟩,rfl⟩;exact ⟨by simpa using h',by rw [eI];simpa using h⟩
   ·refine cF (cS ndG) ?_;intro x _ y _ u7;have:=congrArg turned u7;simpa [eI] using this
  have h3:=m9 (φ:=φ) hp;rw [sR] at h3;have h4:=F.net φ;have h5:Mx.net φ (am w)=φ b-φ e:=hw.net φ;unfold eH;rw [fE];have:((k+1:Nat):Int)*(φ b-φ e)=(k:Int)*(φ b-φ e)+(φ b-φ e):=by
   rw [Int.natCast_add,Int.add_mul];simp
  rw [this];omega
 ·intro g hg;simp only [eH,zB,Af,decide_eq_true_eq] at hg;rcases hg with ⟨h,_⟩ | ⟨h,h2⟩
  ·exact F.nb g h
  ·exact ⟨(hA g h).2.2.2.2.1,by simpa using (hA g h).2.2.2.2.2⟩
theorem iO {L G:aI P N} {b e:P} {k:Nat} (U:ll L) (F:Flow L b e k G):G.length<=L.length:=by
 have:=zm (cz F.nd) F.sub;exact this
theorem rp {L G:aI P N} (h:G.length<=L.length):(aG L G).length<=2*L.length:=by
 unfold aG bn;have:=zM (fun s:P×P×N=>decide (s.2.2∉G.map cr)) L;simp at this ⊢;omega
theorem qf {L:aI P N} {b e:P} {n:Nat} (U:ll L) (hn:2*L.length+2<=n):∀ (m k:Nat) (G:aI P N),Flow L b e k G->
  ∃ k',Flow L b e k' (bp n L b e m G)/\k'<=k+m/\(k'<k+m->∃ S,Shut (aG L (bp n L b e m G)) b S/\e∉S)
 | 0,k,G,F=>⟨k,F,by omega,by intro h;omega⟩
 | m+1,k,G,F=>by
  have hb:=jk (L:=aG L G) (a:=b) (ends:=[e]) (n:=n) (by have:=rp (iO U F);omega);unfold bp;split
  ·rename_i h;rw [h] at hb;obtain ⟨S,s1,s2⟩:=hb;exact ⟨k,F,by omega,fun _=>⟨S,s1,fun he=>s2 e he (by simp)⟩⟩
  ·rename_i w h;rw [h] at hb;obtain ⟨c,hc,sw⟩:=hb;simp at hc;subst hc;obtain ⟨k',f,h1,h2⟩:=qf U hn m (k+1) _ (F.step U sw);exact ⟨k',f,by omega,fun h=>h2 (by omega)⟩
def ind (S:List P) (x:P):Int:=if x∈S then 1 else 0
def cK (S:List P) (s:P×P×N):Bool:=decide (s.1∈S)&&decide (s.2.1∉S)
def into (S:List P) (s:P×P×N):Bool:=decide (s.1∉S)&&decide (s.2.1∈S)
theorem kC (S:List P):∀ G:aI P N,net (ind S) G=((G.filter (cK S)).length:Int)-((G.filter (into S)).length:Int)
 | []=>by simp [jl]
 | s::G=>by
  rw [gD,kC S G];unfold ind cK into;by_cases h1:s.1∈S <;> by_cases h2:s.2.1∈S <;> simp [h1,h2] <;> omega
theorem Flow.none {L G:aI P N} {b e:P} {k:Nat} (F:Flow L b e k G) {S:List P} (h:Shut G b S) (he:e∉S):k=0:=by
 have h1:=F.net (ind S);rw [kC] at h1;have h2:(G.filter (cK S))=[]:=by
  rw [List.filter_eq_nil_iff];intro s hs;simp only [cK,um,decide_eq_true_eq,not_and];intro a;simpa using h.cl s hs a
 rw [h2] at h1;simp [ind,h.ha,he] at h1;omega
theorem Flow.pos {L G:aI P N} {b e:P} {k:Nat} (F:Flow L b e k G) (tY:b≠e) {w:Wlk P N} (h:Sw G [e] b e w.1 w.2):0<k:=by
 obtain ⟨s,hs,e1⟩ : ∃ s∈G,s.1=b:=by
  have:∃ s∈am w,s.1=b:=by
   have:=h.head;have h2:=h.len;have h3:=h.last;rcases w with ⟨ps,ns⟩
   simp at *;cases ps with
   | nil=>simp at this
   | cons p ps=>
    simp at this;subst this;cases ps with
    | nil=>simp at h3;exact absurd h3 tY
    | cons q ps=>cases ns with
     | nil=>simp at h2
     | cons m ns=>exact ⟨q,m,by simp [am]⟩
  obtain ⟨s,hs,e1⟩:=this;exact ⟨s,(h.step s hs).1,e1⟩
 have h1:=F.net (ind [b]);rw [kC] at h1;have h2:(G.filter (into [b]))=[]:=by
  rw [List.filter_eq_nil_iff];intro s hs;have:=(F.nb s hs).1;simp [into,this]
 have h3:s∈G.filter (cK [b]):=by
  rw [Af];refine ⟨hs,?_⟩;have:=(F.nb s hs).1;simp [cK,this,e1]
 have h4:0<(G.filter (cK [b])).length:=List.length_pos_of_mem h3;rw [h2] at h1;simp [ind,Ne.symm tY] at h1;omega
theorem Flow.take {L G:aI P N} {b e:P} {k:Nat} (F:Flow L b e (k+1) G) {w:Wlk P N} (h:Sw G [e] b e w.1 w.2) :
  Flow L b e k (bn G w.2)/\G.Perm (am w++bn G w.2):=by
 have hmem:∀ s∈G,s.2.2∈w.2↔s∈am w:=by
  intro s hs;constructor
  ·intro hn;rw [<-h.names] at hn;obtain ⟨t,ht,e1⟩:=zH.1 hn;have:=jm F.nd (h.step t ht).1 hs e1;subst this;exact ht
  ·intro hn;exact (h.step s hn).2.2.2.1
 have ndG:G.Nodup:=cz F.nd;have hp:G.Perm (am w++bn G w.2):=by
  have h1:=List.filter_append_perm (fun s:P×P×N=>decide (s.2.2∉w.2)) G;have h2:(G.filter fun s=>!decide (s.2.2∉w.2)).Perm (am w):=by
   rw [List.perm_ext_iff_of_nodup (cS ndG) h.stepsNodup];intro s;simp only [Af];constructor
   ·rintro ⟨a,c⟩;exact (hmem s a).1 (by simpa using c)
   ·intro a;exact ⟨(h.step s a).1,by simpa using (h.step s a).2.2.2.1⟩
  exact h1.symm.trans (List.perm_append_comm.trans (List.Perm.append_right _ h2))
 refine ⟨⟨?_,?_,?_,?_⟩,hp⟩
 ·intro g hg;exact F.sub g (gW.1 hg).1
 ·exact List.Pairwise.sublist (List.Sublist.map _ List.filter_sublist) F.nd
 ·intro φ;have h1:=m9 (φ:=φ) hp;rw [fE,F.net φ] at h1;have h5:Mx.net φ (am w)=φ b-φ e:=h.net φ;have:((k+1:Nat):Int)*(φ b-φ e)=(k:Int)*(φ b-φ e)+(φ b-φ e):=by
   rw [Int.natCast_add,Int.add_mul];simp
  omega
 ·intro g hg;exact F.nb g (gW.1 hg).1
structure Drained (L:aI P N) (b e:P) (G:aI P N) (k:Nat) (ws:List (Wlk P N)):Prop where
 len:ws.length=k
 ok:∀ w∈ws,Sw L [e] b e w.1 w.2
 perm:∃ R,G.Perm (ws.flatMap am++R)/\Flow L b e 0 R
theorem rq {L G0:aI P N} {b e:P} {n:Nat} (tY:b≠e):∀ (f k:Nat) (G:aI P N) (ws:List (Wlk P N)),Flow L b e k G->G.length+2<=n->k<f->
  (∀ w∈ws,Sw L [e] b e w.1 w.2)->G0.Perm (ws.flatMap am++G)->Drained L b e G0 (ws.length+k) (drain n b e f G (dz n G b [e]) ws)
 | 0,k,G,ws,_,_,h,_,_=>by omega
 | f+1,k,G,ws,F,hn,hk,hw,hp=>by
  have hb:=jk (L:=G) (a:=b) (ends:=[e]) (n:=n) hn;cases hq:dz n G b [e] with
  | none=>
   rw [hq] at hb;obtain ⟨S,s1,s2⟩:=hb;have:=F.none s1 (fun he=>s2 e he (by simp));subst this;exact ⟨by simp [drain],by simpa [drain] using hw,⟨G,by simpa [drain] using hp,F⟩⟩
  | some w=>
   rw [hq] at hb;obtain ⟨c,hc,sw⟩:=hb;simp at hc;subst hc;have:=F.pos tY sw;cases k with
   | zero=>omega
   | succ k=>
    obtain ⟨F',vq⟩:=F.take sw;have hl:(bn G w.2).length<=G.length:=zM _ _;have:=rq (L:=L) (G0:=G0) (n:=n) tY f k (bn G w.2) (ws++[w]) F' (by omega) (by omega) (by
     intro w' ui;simp at ui;rcases ui with ui | ui
     ·exact hw w' ui
     ·subst ui;exact sw.mono F.sub) (by
     refine hp.trans ?_;simp only [List.flatMap_append,List.flatMap_cons,List.flatMap_nil,List.append_nil,List.append_assoc];exact List.Perm.append_left _ vq)
    have e1:(ws++[w]).length+k=ws.length+(k+1):=by simp;omega
    rw [e1] at this;simpa [drain] using this
structure qg (L:aI P N) (b e:P) (many:Nat) (ws:List (Wlk P N)):Prop where
 ok:∀ w∈ws,Sw L [e] b e w.1 w.2
 nd:(ws.flatMap (·.2)).Nodup
 le:ws.length<=many
 side:ws.length<many->∀ R:List P,Shut (aG L (ws.flatMap am)) b R->(∀ S,Shut (aG L (ws.flatMap am)) b S->∀ p∈R,p∈S)->
  e∉R/\(∀ s∈L,s.1∈R->s.2.1∉R->s∈ws.flatMap am)/\((ws.flatMap am).filter (cK R)).length=ws.length
theorem gX {L:aI P N} {ends:List P} {a b:P}:∀ {ws:List (Wlk P N)},(∀ w∈ws,Sw L ends a b w.1 w.2)->(ws.flatMap am).map cr=ws.flatMap (·.2)
 | [],_=>rfl
 | w::ws,h=>by
  have h1:(am w).map cr=w.2:=(h w (by simp)).names;have h2:=gX (ws:=ws) fun w' ui=>h w' (by simp [ui]);simp only [List.flatMap_cons,zT];rw [h1,h2]
theorem rz {L:aI P N} {ends:List P} {a b:P} (φ:P->Int):∀ {ws:List (Wlk P N)},(∀ w∈ws,Sw L ends a b w.1 w.2)->net φ (ws.flatMap am)=(ws.length:Int)*(φ a-φ b)
 | [],_=>by simp [jl]
 | w::ws,h=>by
  have h1:net φ (am w)=_:=(h w (by simp)).net φ;have h2:=rz φ (ws:=ws) fun w' ui=>h w' (by simp [ui]);simp only [List.flatMap_cons,fE,h1,h2,zQ];rw [Int.natCast_add,Int.add_mul];simp;omega
theorem apart_ok {L:aI P N} {b e:P} {n f many:Nat} (U:ll L) (tY:b≠e) (hn:2*L.length+2<=n) (hf:many<f) :
  qg L b e many (cy n f L b e many):=by
 obtain ⟨k,F,k1,k2⟩:=qf (n:=n) U hn many 0 [] (Flow.zero (L:=L) (b:=b) (e:=e));have d:Drained L b e (bp n L b e many []) k (cy n f L b e many):=by
  have:=rq (G0:=bp n L b e many []) (n:=n) tY f k (bp n L b e many []) [] F (by have:=iO U F;omega) (by omega) (by simp) (by simp);simpa [cy] using this
 obtain ⟨R0,hp,FR⟩:=d.perm;have hnd:(((cy n f L b e many).flatMap am++R0).map cr).Nodup:=(List.Perm.nodup_iff (hp.map cr)).1 F.nd;refine ⟨d.ok,?_,by rw [d.len];omega,?_⟩
 ·rw [zT,List.nodup_append] at hnd;rw [<-gX d.ok];exact hnd.1
 ·intro vk R hR wq;rw [d.len] at vk;obtain ⟨S,s1,s2⟩:=k2 (by omega);have tU:∀ g∈bp n L b e many [],g.1∉S->g.2.1∈S->False:=by
   intro g hg h1 h2;have:=s1.cl (turned g) (dA.2 (.inr ⟨g,hg,rfl⟩)) h2;exact h1 this
  have vM:∀ s∈L,s.1∈S->s.2.1∉S->s∈bp n L b e many []:=by
   intro s hs h1 h2;by_cases hn:s.2.2∈(bp n L b e many []).map cr
   ·obtain ⟨g,hg,e1⟩:=zH.1 hn;rcases U g (F.sub g hg) s hs e1 with e2 | e2
    ·rw [e2];exact hg
    ·exfalso;rw [e2] at h1 h2;exact tU g hg h2 h1
   ·exfalso;exact h2 (s1.cl s (dA.2 (.inl ⟨hs,hn⟩)) h1)
  have hR0:∀ g∈R0,cK S g=false:=by
   have h1:=FR.net (ind S);rw [kC] at h1;have h2:R0.filter (into S)=[]:=by
    rw [List.filter_eq_nil_iff];intro s hs;simp only [into,um,decide_eq_true_eq,not_and];intro a c;exact tU s (hp.mem_iff.2 (by simp [hs])) a c
   rw [h2] at h1;simp at h1;intro g hg;have:=h1 g.1 g.2.1 g.2.2 hg;simpa using this
  have hS:Shut (aG L ((cy n f L b e many).flatMap am)) b S:=by
   refine ⟨s1.ha,?_⟩;intro s hs h1;apply Classical.byContradiction;intro h2;rcases dA.1 hs with ⟨h3,h4⟩ | ⟨g,hg,h3⟩
   ·have h5:=hp.mem_iff.1 (vM s h3 h1 h2);rw [zB] at h5;rcases h5 with h5 | h5
    ·exact h4 (List.mem_map_of_mem h5)
    ·have:=hR0 s h5;simp [cK,h1,h2] at this
   ·subst h3;exact tU g (hp.mem_iff.2 (by rw [zB];exact .inl hg)) h2 h1
  have xJ:e∉R:=fun h=>s2 (wq S hS e h);refine ⟨xJ,?_,?_⟩
  ·intro s hs h1 h2;by_cases hn:s.2.2∈((cy n f L b e many).flatMap am).map cr
   ·obtain ⟨g,hg,e1⟩:=zH.1 hn;have hgL:g∈L:=F.sub g (hp.mem_iff.2 (by rw [zB];exact .inl hg));rcases U g hgL s hs e1 with e2 | e2
    ·rw [e2];exact hg
    ·exfalso;apply h2;exact hR.cl s (dA.2 (.inr ⟨g,hg,e2.symm⟩)) h1
   ·exfalso;exact h2 (hR.cl s (dA.2 (.inl ⟨hs,hn⟩)) h1)
  ·have h1:=rz (ind R) d.ok;rw [kC] at h1;have h2:((cy n f L b e many).flatMap am).filter (into R)=[]:=by
    rw [List.filter_eq_nil_iff];intro s hs;simp only [into,um,decide_eq_true_eq,not_and];intro a c;exact a (hR.cl (turned s) (dA.2 (.inr ⟨s,hs,rfl⟩)) c)
   rw [h2] at h1;simp [ind,hR.ha,xJ] at h1;omega
end
section
variable {P N:Type} [DecidableEq P] [DecidableEq N]
theorem fv {p q:P} {ps:List P} {n:N} {ns:List N} (h:ps.head?=some q):am (p::ps,n::ns)=(p,q,n)::am (ps,ns):=by
 cases ps with
 | nil=>simp at h
 | cons x ps=>simp at h;subst h;rfl
theorem mG {L:aI P N} {ns:List N}:(bn L ns).length<=L.length:=zM _ _
end
section
variable {P:Type} [DecidableEq P]
def eY (p:P) (f:List P) (s:P×P):List P:=if s.1=p/\s.2∉f then f++[s.2] else f
def iP (L:List (P×P)) (p:P) (f:List P):List P:=L.foldl (eY p) f
noncomputable def lO (L:List (P×P)):Nat->Nat->List P->List P
 | 0,_,f=>f
 | n+1,k,f=>match f[k]? with
  | none=>f
  | some p=>lO L n (k+1) (iP L p f)
def reach (n:Nat) (L:List (P×P)) (a:P):List P:=lO L n 0 [a]
structure RInv (L:List (P×P)) (a:P) (f:List P):Prop where
 nd:f.Nodup
 ha:a∈f
 sub:∀ p∈f,p=a\/∃ s∈L,s.2=p
 min:∀ Q:P->Prop,Q a->(∀ s∈L,Q s.1->Q s.2)->∀ p∈f,Q p
theorem lm {L0:List (P×P)} {a p:P}:∀ (L:List (P×P)) (f:List P),(∀ s∈L,s∈L0)->RInv L0 a f->p∈f->
  RInv L0 a (iP L p f)/\(∃ e,iP L p f=f++e)/\∀ s∈L,s.1=p->s.2∈iP L p f
 | [],f,_,I,_=>⟨I,⟨[],by simp [iP]⟩,by simp⟩
 | s::L,f,hL,I,hp=>by
  have e:iP (s::L) p f=iP L p (eY p f s):=rfl;have h1:RInv L0 a (eY p f s)/\(∃ e,eY p f s=f++e)/\(s.1=p->s.2∈eY p f s):=by
   unfold eY;split
   ·rename_i h;refine ⟨⟨?_,by simp [I.ha],?_,?_⟩,⟨_,rfl⟩,by simp⟩
    ·rw [List.nodup_append];refine ⟨I.nd,by simp,?_⟩;intro x hx y hy u7;simp at hy;subst hy;subst u7;exact h.2 hx
    ·intro q hq;simp at hq;rcases hq with hq | hq
     ·exact I.sub q hq
     ·exact .inr ⟨s,hL s (by simp),hq.symm⟩
    ·intro Q q1 q2 q hq;simp at hq;rcases hq with hq | hq
     ·exact I.min Q q1 q2 q hq
     ·rw [hq];exact q2 s (hL s (by simp)) (by rw [h.1];exact I.min Q q1 q2 p hp)
   ·rename_i h;refine ⟨I,⟨[],by simp⟩,?_⟩;intro e1;simp [e1] at h;exact h
  obtain ⟨i1,⟨e1,j1⟩,i3⟩:=h1;obtain ⟨k1,⟨f1,l1⟩,k3⟩:=lm (p:=p) L (eY p f s) (fun t ht=>hL t (by simp [ht])) i1 (by rw [j1];simp [hp]);rw [e];refine ⟨k1,⟨e1++f1,by rw [l1,j1];simp⟩,?_⟩;intro t ht et;rw [zj] at ht;rcases ht with rfl | ht
  ·rw [l1];exact zB.2 (.inl (i3 et))
  ·exact k3 t ht et
structure ReachOk (L:List (P×P)) (a:P) (f:List P):Prop extends RInv L a f where
 cl:∀ s∈L,s.1∈f->s.2∈f
theorem rA {L:List (P×P)} {a:P}:∀ (n k:Nat) (f:List P),RInv L a f->(∀ i,i<k->∀ p,f[i]?=some p->∀ s∈L,s.1=p->s.2∈f)->k<=f.length->L.length+2<=n+k->
  ReachOk L a (lO L n k f)
 | 0,k,f,I,_,hk,hn=>by
  have h2:=zm (l₂:=a::L.map (·.2)) I.nd (by
   intro p hp;rcases I.sub p hp with e | ⟨s,hs,e⟩
   ·simp [e]
   ·simp only [zj,zH];exact .inr ⟨s,hs,e⟩)
  simp at h2;omega
 | n+1,k,f,I,hd,hk,hn=>by
  unfold lO;split
  ·rename_i h;rw [List.getElem?_eq_none_iff] at h;refine { I with cl:=?_ };intro s hs hp;obtain ⟨i,hi,e⟩:=List.mem_iff_getElem.1 hp;exact hd i (by omega) s.1 (by simp [e,hi]) s hs rfl
  ·rename_i p h;have vt:k<f.length:=by
    rcases Nat.lt_or_ge k f.length with h' | h'
    ·exact h'
    ·rw [List.getElem?_eq_none h'] at h;simp at h
   obtain ⟨i1,⟨e1,j1⟩,i3⟩:=lm (p:=p) L f (fun _ h=>h) I (List.mem_of_getElem? h);apply rA n (k+1) _ i1
   ·intro i hi q hq;rw [j1,zw (by omega)] at hq;by_cases hik:i=k
    ·subst hik;rw [h] at hq;simp at hq;subst hq;exact i3
    ·intro s hs e2;rw [j1];exact zB.2 (.inl (hd i (by omega) q hq s hs e2))
   ·rw [j1];simp;omega
   ·omega
theorem rB {L:List (P×P)} {a:P} {n:Nat} (h:L.length+2<=n):ReachOk L a (reach n L a):=by
 apply rA
 ·exact ⟨by simp,by simp,by simp,by intro Q h _ p hp;simp at hp;rw [hp];exact h⟩
 ·intro i hi;omega
 ·simp
 ·omega
end
section
variable {P N:Type} [DecidableEq P] [DecidableEq N]
abbrev Nd (P:Type):=P×Bool
abbrev Nm (P N:Type):=P ⊕ (P×P×N)
def thr (p:P):Nd P×Nd P×Nm P N:=((p,false),(p,true),.inl p)
def cM (s:P×P×N):Nd P×Nd P×Nm P N:=((s.1,true),(s.2.1,false),.inr s)
def through (pts:List P) (L:aI P N):aI (Nd P) (Nm P N):=pts.map thr++L.map cM
def evens {α:Type}:List α->List α
 | []=>[]
 | [x]=>[x]
 | x::_::xs=>x::evens xs
def iQ (ss:aI P N):List (Nd P):=ss.flatMap fun s=>[(s.2.1,false),(s.2.1,true)]
def iR (ss:aI P N):List (Nm P N):=ss.flatMap fun s=>[.inr s,.inl s.2.1]
def Chn:P->aI P N->P->Prop
 | a,[],b=>a=b
 | a,s::ss,b=>s.1=a/\Chn s.2.1 ss b
theorem Chn.snoc {a b c:P} {n:N}:∀ {ss:aI P N},Chn a ss b->Chn a (ss++[(b,c,n)]) c:=by
 intro ss
 induction ss generalizing a with
 | nil=>intro h;exact ⟨h.symm,rfl⟩
 | cons s ss ih=>intro h;exact ⟨h.1,ih h.2⟩
theorem bq {pts:List P} {L:aI P N} {c:Nd P×Nd P×Nm P N}:c∈through pts L↔(∃ p∈pts,thr p=c)\/∃ s∈L,cM s=c:=by simp [through]
theorem sS (ss:aI P N) (z:Nd P):evens (iQ ss++[z])=ss.map (fun s=>(s.2.1,false))++[z]:=by
 induction ss with
 | nil=>rfl
 | cons s ss ih=>simp [iQ,evens] at ih ⊢;exact ih
theorem ng (ss:aI P N) (z:Nm P N):evens (iR ss++[z])=ss.map .inr++[z]:=by
 induction ss with
 | nil=>rfl
 | cons s ss ih=>simp [iR,evens] at ih ⊢;exact ih
theorem shape {pts:List P} {L:aI P N} {ends:List (Nd P)} {b:P} {v:Nd P} {ps:List (Nd P)} {ns:List (Nm P N)} (h:Sw (through pts L) ends (b,true) v ps ns) :
  (∃ ss x,v=(x,true)/\ps=(b,true)::iQ ss/\ns=iR ss/\Chn b ss x/\∀ s∈ss,s∈L)\/
  ∃ ss x s,v=(s.2.1,false)/\ps=(b,true)::(iQ ss++[(s.2.1,false)])/\ns=iR ss++[.inr s]/\Chn b ss x/\s.1=x/\(∀ s∈ss,s∈L)/\s∈L:=by
 induction h with
 | nil=>exact .inl ⟨[],b,rfl,rfl,rfl,rfl,by simp⟩
 | @snoc u ps ns c n h1 h2 hc hb ih=>
  rcases ih with ⟨ss,x,rfl,rfl,rfl,uM,hL⟩ | ⟨ss,x,s,rfl,rfl,rfl,uM,hx,hL,hs⟩
  ·right;rcases bq.1 h2 with ⟨p,hp,e⟩ | ⟨s,hs,e⟩
   ·simp [thr] at e
   ·simp only [cM,Prod.mk.injEq,and_true] at e;obtain ⟨e1,e2,e3⟩:=e;subst e2;subst e3;exact ⟨ss,x,s,rfl,by simp,rfl,uM,e1,hL,hs⟩
  ·left;rcases bq.1 h2 with ⟨p,hp,e⟩ | ⟨t,ht,e⟩
   ·simp only [thr,Prod.mk.injEq,and_true] at e;obtain ⟨e1,e2,e3⟩:=e;subst e1;subst e2;subst e3;refine ⟨ss++[s],s.2.1,rfl,?_,?_,?_,?_⟩
    ·simp [iQ]
    ·simp [iR]
    ·have:=uM.snoc (c:=s.2.1) (n:=s.2.2);rw [<-hx] at this;exact this
    ·intro t ht;simp at ht;rcases ht with ht | rfl
     ·exact hL t ht
     ·exact hs
   ·simp [cM] at e
structure Wy (L:aI P N) (b e:P) (w:Wlk (Nd P) (Nm P N)) (ss:aI P N) (s:P×P×N):Prop where
 ps:w.1=(b,true)::(iQ ss++[(e,false)])
 ns:w.2=iR ss++[.inr s]
 ch:Chn b (ss++[s]) e
 sub:∀ t∈ss++[s],t∈L
 last:s.2.1=e
 nd:(b::(ss++[s]).map (·.2.1)).Nodup
 inb:∀ t∈ss,t.2.1≠b/\t.2.1≠e
theorem inN {ss:aI P N} {t:P×P×N} (h:t∈ss):(t.2.1,false)∈iQ ss/\(t.2.1,true)∈iQ ss:=by
 constructor <;> (simp only [iQ,zX];exact ⟨t,h,by simp⟩)
theorem wy_of {pts:List P} {L:aI P N} {b e:P} (tY:b≠e) {w:Wlk (Nd P) (Nm P N)} (h:Sw (through pts L) [(e,false)] (b,true) (e,false) w.1 w.2):∃ ss s,Wy L b e w ss s:=by
 have nd:=h.nodup;rcases shape h with ⟨ss,x,e1,_⟩ | ⟨ss,x,s,e1,e2,e3,uM,hx,hL,hs⟩
 ·simp at e1
 ·simp at e1;subst e1;have yD:Chn b (ss++[s]) s.2.1:=by
   have:=uM.snoc (c:=s.2.1) (n:=s.2.2);rw [<-hx] at this;exact this
  rw [e2] at nd;simp only [List.nodup_cons,zB] at nd;obtain ⟨n1,n2⟩:=nd;rw [List.nodup_append] at n2;have hb:∀ t∈ss,t.2.1≠b/\t.2.1≠s.2.1:=by
   intro t ht;refine ⟨fun e=>n1 (.inl ?_),fun e=>?_⟩
   ·rw [<-e];exact (inN ht).2
   ·exact n2.2.2 _ (inN ht).1 (s.2.1,false) (by simp) (by rw [e])
  refine ⟨ss,s,⟨e2,e3,yD,?_,rfl,?_,hb⟩⟩
  ·intro t ht;simp at ht;rcases ht with ht | rfl
   ·exact hL t ht
   ·exact hs
  ·have hmap:(ss.map (·.2.1)).Nodup:=by
    have xv:(ss.map fun s=>((s.2.1,false):Nd P)).Sublist (iQ ss):=by
     clear n1 n2 hb uM yD hL e2 e3
     induction ss with
     | nil=>simp
     | cons t ss ih=>
      simp only [iQ,List.flatMap_cons,zb,List.cons_append,List.nil_append];exact List.Sublist.cons_cons _ (List.Sublist.cons _ ih)
    have:=List.Pairwise.sublist xv n2.1;have h2:((ss.map (·.2.1)).map fun p=>((p,false):Nd P)).Nodup:=by rw [zV];exact this
    exact cz h2
   rw [List.nodup_cons,zT,List.nodup_append];refine ⟨?_,hmap,by simp,?_⟩
   ·simp only [zB,zH];rintro (⟨t,ht,et⟩ | ⟨t,ht,et⟩)
    ·exact (hb t ht).1 et
    ·simp at ht;subst ht;exact tY et.symm
   ·intro x hx y hy u7;simp at hy;obtain ⟨t,ht,et⟩:=zH.1 hx;exact (hb t ht).2 (et.trans (u7.trans hy))
theorem ph:∀ {ss:aI P N} {a b:P},Chn a ss b->am (a::ss.map (·.2.1),ss.map (·.2.2))=ss
 | [],_,_,_=>rfl
 | s::ss,a,b,⟨h1,h2⟩=>by
  have ih:=ph h2;simp only [zb];rw [fv (q:=s.2.1) rfl,ih,<-h1]
def getL:Nm P N->Option P
 | .inl p=>some p
 | .inr _=>none
theorem getL_outM (ss:aI P N) (s:P×P×N):(iR ss++[Sum.inr s]).filterMap getL=ss.map (·.2.1):=by
 induction ss with
 | nil=>rfl
 | cons t ss ih=>
  have e:iR (t::ss)++[Sum.inr s]=Sum.inr t::Sum.inl t.2.1::(iR ss++[Sum.inr s]):=by simp [iR]
  rw [e,List.filterMap_cons_none rfl,List.filterMap_cons_some (f:=getL) (a:=(Sum.inl t.2.1:Nm P N)) (b:=t.2.1) rfl,ih];rfl
theorem ik {α β:Type} {f:α->Option β}:∀ {L:List α},L.Nodup->(∀ x∈L,∀ y∈L,∀ z,f x=some z->f y=some z->x=y)->(L.filterMap f).Nodup
 | [],_,_=>by simp
 | x::L,h,hf=>by
  rw [List.nodup_cons] at h;have ih:=ik h.2 fun y hy z hz=>hf y (by simp [hy]) z (by simp [hz]);cases hx:f x with
  | none=>rw [List.filterMap_cons_none hx];exact ih
  | some z=>
   rw [List.filterMap_cons_some hx,List.nodup_cons];refine ⟨?_,ih⟩;intro hz;obtain ⟨y,hy,e⟩:=List.mem_filterMap.1 hz;have:=hf x (by simp) y (by simp [hy]) z hx e;subst this;exact h.1 hy
inductive Wys (L:aI P N) (b e:P):List (Wlk (Nd P) (Nm P N))->List (aI P N×(P×P×N))->Prop
 | nil:Wys L b e [] []
 | cons {w ws ss s r}:Wy L b e w ss s->Wys L b e ws r->Wys L b e (w::ws) ((ss,s)::r)
theorem qh {pts:List P} {L:aI P N} {b e:P} (tY:b≠e):∀ {ws:List (Wlk (Nd P) (Nm P N))},(∀ w∈ws,Sw (through pts L) [(e,false)] (b,true) (e,false) w.1 w.2)->∃ r,Wys L b e ws r
 | [],_=>⟨[],.nil⟩
 | w::ws,h=>by
  obtain ⟨ss,s,hw⟩:=wy_of tY (h w (by simp));obtain ⟨r,hr⟩:=qh tY (ws:=ws) fun w' ui=>h w' (by simp [ui]);exact ⟨_,.cons hw hr⟩
theorem Wys.getL {L:aI P N} {b e:P} {ws:List (Wlk (Nd P) (Nm P N))} {r:List (aI P N×(P×P×N))} (h:Wys L b e ws r):(ws.flatMap (·.2)).filterMap Mx.getL=(r.flatMap (·.1)).map (·.2.1):=by
 induction h with
 | nil=>rfl
 | @cons w ws ss s r hw _ ih=>
  simp only [List.flatMap_cons,List.filterMap_append,zT];rw [ih,hw.ns,getL_outM]
theorem Wys.mem {L:aI P N} {b e:P} {ws:List (Wlk (Nd P) (Nm P N))} {r:List (aI P N×(P×P×N))} (h:Wys L b e ws r) {w:Wlk (Nd P) (Nm P N)} (hw:w∈ws):∃ q∈r,Wy L b e w q.1 q.2:=by
 induction h with
 | nil=>simp at hw
 | @cons w' ws ss s r ui _ ih=>
  rw [zj] at hw;rcases hw with rfl | hw
  ·exact ⟨(ss,s),by simp,ui⟩
  ·obtain ⟨q,hq,h2⟩:=ih hw;exact ⟨q,by simp [hq],h2⟩
theorem Wys.inner {L:aI P N} {b e:P} {ws:List (Wlk (Nd P) (Nm P N))} {r:List (aI P N×(P×P×N))} (h:Wys L b e ws r) (nd:(ws.flatMap (·.2)).Nodup):((r.flatMap (·.1)).map (·.2.1)).Nodup:=by
 rw [<-h.getL];refine ik nd ?_;intro x _ y _ z hx hy;cases x with
 | inr _=>simp [Mx.getL] at hx
 | inl p=>cases y with
  | inr _=>simp [Mx.getL] at hy
  | inl q=>simp [Mx.getL] at hx hy;rw [hx,hy]
theorem wy_steps {L:aI P N} {b e:P} {w:Wlk (Nd P) (Nm P N)} {ss:aI P N} {s:P×P×N} (h:Wy L b e w ss s) :
  (∀ c∈am w,(∃ t∈ss++[s],c=cM t)\/∃ t∈ss,c=thr t.2.1):=by
 have key:∀ (ss:aI P N) (a:P) (s:P×P×N),Chn a (ss++[s]) s.2.1->∀ c∈am ((a,true)::(iQ ss++[(s.2.1,false)]),iR ss++[Sum.inr s]),(∃ t∈ss++[s],c=cM t)\/∃ t∈ss,c=thr t.2.1:=by
  intro ss
  induction ss with
  | nil=>
   intro a s h c hc;obtain ⟨h1,_⟩:=h;simp [iQ,iR,am] at hc;left;exact ⟨s,by simp,by rw [hc];simp [cM,h1]⟩
  | cons t ss ih=>
   intro a s h c hc;obtain ⟨h1,h2⟩:=h;have e:am ((a,true)::(iQ (t::ss)++[(s.2.1,false)]),iR (t::ss)++[Sum.inr s]) =
     ((a,true),(t.2.1,false),Sum.inr t)::((t.2.1,false),(t.2.1,true),Sum.inl t.2.1)::am ((t.2.1,true)::(iQ ss++[(s.2.1,false)]),iR ss++[Sum.inr s]):=by
    simp only [iQ,iR,List.flatMap_cons,List.cons_append,List.nil_append];rw [fv (q:=(t.2.1,false)) rfl,fv (q:=(t.2.1,true)) rfl]
   rw [e] at hc;simp only [zj] at hc;rcases hc with hc | hc | hc
   ·left;exact ⟨t,by simp,by rw [hc];simp [cM,h1]⟩
   ·right;exact ⟨t,by simp,by rw [hc];rfl⟩
   ·rcases ih t.2.1 s h2 c hc with ⟨u,hu,e⟩ | ⟨u,hu,e⟩
    ·left;refine ⟨u,?_,e⟩;simp at hu ⊢;rcases hu with hu | hu
     ·exact .inr (.inl hu)
     ·exact .inr (.inr hu)
    ·right;exact ⟨u,by simp [hu],e⟩
 intro c hc;have:am w=am ((b,true)::(iQ ss++[(s.2.1,false)]),iR ss++[Sum.inr s]):=by
  have h1:=h.ps;have h2:=h.ns;rw [<-h.last] at h1;rcases w with ⟨x,y⟩
  simp at h1 h2;rw [h1,h2]
 rw [this] at hc;have uM:=h.ch;rw [<-h.last] at uM;exact key ss b s uM c hc
theorem qi:∀ {ss:aI P N} {a b:P} {s:P×P×N},Chn a (ss++[s]) b->((ss++[s]).tail).map (·.1)=ss.map (·.2.1)
 | [],_,_,_,_=>rfl
 | t::ss,a,b,s,⟨_,h⟩=>by
  cases ss with
  | nil=>obtain ⟨h1,_⟩:=h;simp [h1]
  | cons u us=>
   have ih:=qi (ss:=u::us) h;obtain ⟨h1,_⟩:=h;simp only [List.cons_append,List.tail_cons,zb] at ih ⊢;rw [ih,h1]
end
section
variable {P N:Type} [DecidableEq P] [DecidableEq N]
theorem kD {pts:List P} {L:aI P N}:ll (through pts L):=by
 intro s hs t ht e;left;rcases bq.1 hs with ⟨p,_,rfl⟩ | ⟨a,_,rfl⟩ <;> rcases bq.1 ht with ⟨q,_,rfl⟩ | ⟨c,_,rfl⟩
 ·simp [thr] at e;rw [e]
 ·simp [thr,cM] at e
 ·simp [thr,cM] at e
 ·simp [cM] at e;rw [e]
theorem jx {pts:List P} {L:aI P N} (h1:pts.Nodup) (h2:L.Nodup):(through pts L).Nodup:=by
 unfold through;rw [List.nodup_append];refine ⟨cF h1 (fun x _ y _ e=>by simpa [thr] using e),cF h2 (fun x _ y _ e=>by simp [cM] at e;exact e.2.2),?_⟩;intro x hx y hy e;obtain ⟨p,_,rfl⟩:=zH.1 hx;obtain ⟨s,_,rfl⟩:=zH.1 hy;simp [thr,cM] at e
noncomputable def gY (pts:List P) (L:aI P N) (R:List (Nd P)):List P:=((through pts L).filter (cK R)).map fun s=>s.2.1.1
structure WallOk (L:aI P N) (pt:P->Prop) (b e:P) (many:Nat) (W:List P):Prop where
 nd:W.Nodup
 len:W.length<many
 mem:∀ p∈W,pt p/\p≠b/\p≠e
 cut:∃ Q:P->Prop,Q b/\¬Q e/\∀ s∈L,s.1∉W->s.2.1∉W->Q s.1->Q s.2.1
theorem wall_ok {pts:List P} {L:aI P N} {b e:P} {many:Nat} {ws:List (Wlk (Nd P) (Nm P N))} (hp:pts.Nodup) (hL:L.Nodup) (tY:b≠e)
  (xb:∀ s∈L,s.1∈pts/\s.2.1∈pts) (hnt:∀ s∈L,s.1=b->s.2.1≠e)
  (A:qg (through pts L) (b,true) (e,false) many ws) (vk:ws.length<many) {R:List (Nd P)}
  (hR:Shut (aG (through pts L) (ws.flatMap am)) (b,true) R) (wq:∀ S,Shut (aG (through pts L) (ws.flatMap am)) (b,true) S->∀ p∈R,p∈S) :
  WallOk L (·∈pts) b e many (gY pts L R):=by
 obtain ⟨xJ,vM,xN⟩:=A.side vk R hR wq;obtain ⟨r,hr⟩:=qh tY A.ok;have tU:=hr.inner A.nd;have vG:∀ c∈ws.flatMap am,∃ q∈r,∃ w∈ws,c∈am w/\Wy L b e w q.1 q.2/\((∃ t∈q.1++[q.2],c=cM t)\/∃ t∈q.1,c=thr t.2.1):=by
  intro c hc;obtain ⟨w,hw,hcw⟩:=zX.1 hc;obtain ⟨q,hq,h2⟩:=hr.mem hw;exact ⟨q,hq,w,hw,hcw,h2,wy_steps h2 c hcw⟩
 have hsrc:((r.flatMap fun q=>(q.1++[q.2]).tail).map (·.1)).Nodup:=by
  have:(r.flatMap fun q=>(q.1++[q.2]).tail).map (·.1)=(r.flatMap (·.1)).map (·.2.1):=by
   clear tU vG vM xN xJ A hR wq
   induction hr with
   | nil=>rfl
   | @cons w ws ss s r hw _ ih=>
    simp only [List.flatMap_cons,zT];rw [ih (by simp at vk;omega),qi hw.ch]
  rw [this];exact tU
 have wu:∀ q∈r,∀ w,Wy L b e w q.1 q.2->∀ t∈q.1++[q.2],t.1≠b->t∈(q.1++[q.2]).tail/\∃ u∈q.1,u.2.1=t.1:=by
  intro q hq w hw t ht htb;have uM:=hw.ch;cases hc:q.1++[q.2] with
  | nil=>simp at hc
  | cons x xs=>
   rw [hc] at ht;rw [hc] at uM;have hx:x.1=b:=uM.1;rw [zj] at ht;rcases ht with rfl | ht
   ·exact absurd hx htb
   ·have h1:t∈(q.1++[q.2]).tail:=by rw [hc];exact ht
    refine ⟨ht,?_⟩;have h2:t.1∈((q.1++[q.2]).tail).map (·.1):=List.mem_map_of_mem h1;rw [qi hw.ch] at h2;obtain ⟨u,hu,e1⟩:=zH.1 h2;exact ⟨u,hu,e1⟩
 have hnm:∀ q∈r,∀ w∈ws,Wy L b e w q.1 q.2->∀ u∈q.1,(Sum.inl u.2.1:Nm P N)∈(ws.flatMap am).map cr:=by
  intro q hq w hw hy u hu;rw [gX A.ok];refine zX.2 ⟨w,hw,?_⟩;rw [hy.ns];refine zB.2 (.inl ?_);simp only [iR,zX];exact ⟨u,hu,by simp⟩
 have vj:∀ s∈L,(s.1,true)∈R->(s.2.1,false)∉R->s.2.1≠e:=by
  intro s hs h1 h2 he;have xw:s.1≠b:=fun h=>hnt s hs h he;have hg:=vM (cM s) (bq.2 (.inr ⟨s,hs,rfl⟩)) h1 h2;obtain ⟨q,hq,w,hw,hcw,hy,hk⟩:=vG _ hg;obtain ⟨t,ht,et⟩ : ∃ t∈q.1++[q.2],cM s=cM t:=by
   rcases hk with hk | ⟨t,_,et⟩
   ·exact hk
   ·simp [cM,thr] at et
  have est:t=s:=by simp [cM] at et;exact et.2.2.symm
  subst est;obtain ⟨ht2,u,hu,eu⟩:=wu q hq w hy t ht xw;have hS:Shut (aG (through pts L) (ws.flatMap am)) (b,true) (R.filter fun x=>decide (x≠(t.1,true))):=by
   refine ⟨?_,?_⟩
   ·rw [Af];refine ⟨hR.ha,?_⟩;simp;exact fun e=>xw e.symm
   ·intro f hf h3;rw [Af] at h3 ⊢;refine ⟨hR.cl f hf h3.1,?_⟩;simp only [ne_eq,decide_eq_true_eq];intro h4;rcases dA.1 hf with ⟨h5,h6⟩ | ⟨g,uo,h5⟩
    ·rcases bq.1 h5 with ⟨p,hp2,e5⟩ | ⟨x,_,e5⟩
     ·rw [<-e5] at h4 h6;simp [thr] at h4;apply h6;show (Sum.inl p:Nm P N)∈_;rw [h4,<-eu];exact hnm q hq w hw hy u hu
     ·rw [<-e5] at h4;simp [cM] at h4
    ·obtain ⟨q',xa,w',ui,hcw',hy',yx⟩:=vG _ uo;rcases yx with ⟨x,hx,ex⟩ | ⟨x,_,ex⟩
     ·rw [<-h5,ex] at h4;simp [turned,cM] at h4;have hxb:x.1≠b:=by rw [h4];exact xw
      obtain ⟨uJ,_⟩:=wu q' xa w' hy' x hx hxb;have hxt:x=t:=jm hsrc (zX.2 ⟨q',xa,uJ⟩) (zX.2 ⟨q,hq,ht2⟩) h4;rw [<-h5,ex,hxt] at h3;have h31:=h3.1;simp only [turned,cM,he] at h31;exact xJ h31
     ·rw [<-h5,ex] at h4;simp [turned,thr] at h4
  have:=wq _ hS _ h1;rw [Af] at this;simp at this
 have vv:∀ s∈L,(s.1,true)∈R->(s.2.1,false)∉R->s∈r.flatMap (·.1)/\s.2.1≠b:=by
  intro s hs h1 h2;have he:=vj s hs h1 h2;have hg:=vM (cM s) (bq.2 (.inr ⟨s,hs,rfl⟩)) h1 h2;obtain ⟨q,hq,w,hw,hcw,hy,hk⟩:=vG _ hg;obtain ⟨t,ht,et⟩ : ∃ t∈q.1++[q.2],cM s=cM t:=by
   rcases hk with hk | ⟨t,_,et⟩
   ·exact hk
   ·simp [cM,thr] at et
  have est:t=s:=by simp [cM] at et;exact et.2.2.symm
  subst est;simp at ht;rcases ht with ht | ht
  ·exact ⟨zX.2 ⟨q,hq,ht⟩,(hy.inb t ht).1⟩
  ·rw [ht] at he;exact absurd hy.last he
 refine ⟨?_,?_,?_,?_⟩
 ·unfold gY;refine cF (cS (jx hp hL)) ?_;intro x hx y hy u7;rw [Af] at hx hy;have uJ:x.1∈R/\x.2.1∉R:=by simpa [cK] using hx.2
  have xq:y.1∈R/\y.2.1∉R:=by simpa [cK] using hy.2
  rcases bq.1 hx.1 with ⟨p,_,rfl⟩ | ⟨s,hs,rfl⟩ <;> rcases bq.1 hy.1 with ⟨q,_,rfl⟩ | ⟨t,ht,rfl⟩
  ·simp [thr] at u7;rw [u7]
  ·simp [thr,cM] at u7 uJ xq;rw [u7] at uJ;exact absurd uJ.1 xq.2
  ·simp [thr,cM] at u7 uJ xq;rw [u7] at uJ;exact absurd xq.1 uJ.2
  ·simp [cM] at u7 uJ xq;have:=jm tU (vv s hs uJ.1 uJ.2).1 (vv t ht xq.1 xq.2).1 u7;rw [this]
 ·unfold gY;rw [uk];have:=zm (l₁:=(through pts L).filter (cK R)) (l₂:=(ws.flatMap am).filter (cK R)) (cS (jx hp hL)) (by
   intro x hx;rw [Af] at hx ⊢;have uJ:x.1∈R/\x.2.1∉R:=by simpa [cK] using hx.2
   exact ⟨vM x hx.1 uJ.1 uJ.2,hx.2⟩)
  omega
 ·intro p hp2;unfold gY at hp2;obtain ⟨x,hx,rfl⟩:=zH.1 hp2;rw [Af] at hx;have uJ:x.1∈R/\x.2.1∉R:=by simpa [cK] using hx.2
  rcases bq.1 hx.1 with ⟨p,hp3,rfl⟩ | ⟨s,hs,rfl⟩
  ·simp [thr] at uJ ⊢;refine ⟨hp3,fun e=>uJ.2 (e▸hR.ha),fun e=>xJ (e▸uJ.1)⟩
  ·simp [cM] at uJ ⊢;exact ⟨(xb s hs).2,(vv s hs uJ.1 uJ.2).2,vj s hs uJ.1 uJ.2⟩
 ·refine ⟨fun p=>(p,false)∈R\/p=b,.inr rfl,?_,?_⟩
  ·rintro (h | h)
   ·exact xJ h
   ·exact tY h.symm
  ·intro s hs h1 h2 h3;left;have hw:∀ c∈through pts L,c.1∈R->c.2.1∉R->c.2.1.1∈gY pts L R:=by
    intro c hc c1 c2;exact List.mem_map_of_mem (Af.2 ⟨hc,by simp [cK,c1,c2]⟩)
   have ho:(s.1,true)∈R:=by
    rcases h3 with h3 | h3
    ·apply Classical.byContradiction;intro hn;exact h1 (hw (thr s.1) (bq.2 (.inl ⟨s.1,(xb s hs).1,rfl⟩)) h3 hn)
    ·rw [h3];exact hR.ha
   apply Classical.byContradiction;intro hn;exact h2 (hw (cM s) (bq.2 (.inr ⟨s,hs,rfl⟩)) ho hn)
end
end Mx
end
section
namespace Ew
open PySem PySem.Spec L2
theorem _root_.L2.Un.slots {fs:List Addr} {H H':Hp} {h h1 h2 B:Heap} (u:Un fs [] H H' h h1) (k:B.StaysIn h1) (hB:B.StaysIn h2) (up:h1.UpToSlots h2)
  (old:∀ b o,h.get? b=some o->b∉fs->∃ o',B.get? b=some o') (nf:∀ b∈fs,∀ o,h1.get? b=some o->∀ vs,o.data≠.fields vs):Un fs [] H H' h h2 where
 keep:=fun b o q n hb hx=>by
  obtain ⟨o',z⟩:=old b o q hb;have e:=k b o' z;rw [u.keep b o q n hb hx] at e;cases e;exact hB b o z
 slot:=fun b o q n hb hx=>by
  obtain ⟨sl,e⟩:=u.slot b o q n hb hx;obtain ⟨ve,e'⟩:=up b _ e (nf b hb _ e);exact ⟨ve,e'⟩
 free:=u.free
 there:=fun b o q hx=>by
  by_cases hb:b∈fs
  ·obtain ⟨o',e⟩:=u.there b o q hx;obtain ⟨sl,e'⟩:=up b _ e (nf b hb _ e);exact ⟨_,e'⟩
  ·obtain ⟨o',z⟩:=old b o q hb;exact ⟨o',hB b o' z⟩
 tups:=u.tups
 frzs:=u.frzs
 tbls:=u.tbls
theorem _root_.L2.HOk.slots {P:Program} {w:World} {H:Hp} {h1 h2 B:Heap} (x:HOk P w H h1) (k:B.StaysIn h1) (hB:B.StaysIn h2) (tr:∀ b u,H b=some u->∃ o',B.get? b=some o'):HOk P w H h2:=fun a o e=>
 (x a o e).stay (fun b u hb q=>by
  obtain ⟨o',z⟩ : ∃ o',B.get? b=some o':=by
   rcases hb with rfl | hb
   ·exact tr _ _ e
   ·exact tr _ _ hb
  have e':=k b o' z;rw [q] at e';cases e';exact hB b u z) (fun _ q=>q) fun _ _ q=>q
theorem _root_.L2.HOk.there {P:Program} {w:World} {H:Hp} {h:Heap} {a:Addr} {o:HO} (x:HOk P w H h) (e:H a=some o):∃ u,h.get? a=some u:=by
 have lt:=x.lt e;cases q:h.get? a with
 | some u=>exact ⟨u,rfl⟩
 | none=>
  have k:∀ o:HO,cI P w H h a o->∃ u,h.get? a=some u:=by
   intro o
   induction o with
   | lst xs=>rintro ⟨_,_,_,_,e⟩;exact ⟨_,e⟩
   | tup xs=>rintro ⟨_,_,_,ob,e,_⟩;exact ⟨_,e⟩
   | dK uD=>rintro ⟨_,_,_,_,ob,es,ep,e,_⟩;exact ⟨_,e⟩
   | dT uD=>rintro ⟨_,_,_,_,ob,es,ep,e,_⟩;exact ⟨_,e⟩
   | set S n=>rintro ⟨ob,es,ep,t,e,_⟩;exact ⟨_,e⟩
   | ins C dx fs=>rintro ⟨_,_,_,e,_⟩;exact ⟨_,e⟩
   | own _=>rintro ⟨ob,e⟩;exact ⟨_,e⟩
   | xd fs=>rintro ⟨_,⟨_,_,_,e,_⟩,_⟩;exact ⟨_,e⟩
   | rng lo hi=>rintro ⟨_,_,_,e⟩;exact ⟨_,e⟩
   | frz o u ih=>rintro ⟨e,_⟩;exact ⟨_,e⟩
   | tbl ps=>intro e;exact ⟨_,e⟩
   | met f x=>intro e;exact ⟨_,e⟩
   | ext φ=>rintro ⟨_,e,_⟩;exact e
  obtain ⟨u,hu⟩:=k o (x a o e);rw [q] at hu;cases hu
section
variable {M:Model} {A:Around} {E:Value->Shared->Prop} {s:Shared} {base:Heap} {env:Env} {outer l:List Env} {L e:Addr} {cls fl:Value} {Q:Unit->Shared->Prop}
noncomputable def jv (base:Heap) (l:List Env) (e:Addr) (cls fl:Value) (h:Heap):Prop:=base.StaysIn h/\base.get? e=none/\h.FunFrames base l/\
 ∃ oe vs T oT ts,h.get? e=some oe/\oe.cls=cls/\vs[2]?=some .none/\oe.data=.fields vs/\vs[1]?=some (.ref T)/\base.get? T=none/\T≠e/\h.get? T=some oT/\oT.data=.fields ts/\ts[3]?=some fl
theorem jv.ex {h:Heap} (x:jv base l e cls fl h):∃ oe vs,h.get? e=some oe/\oe.cls=cls/\vs[2]?=some .none/\oe.data=.fields vs:=
 let ⟨_,_,_,oe,vs,_,_,_,h1,h2,h3,h4,_⟩:=x
 ⟨oe,vs,h1,h2,h3,h4⟩
theorem jv.out {h:Heap} (x:jv base (env::l) e cls fl h):jv base l e cls fl h:=
 let ⟨a,b,⟨_,_,c⟩,d⟩:=x
 ⟨a,b,c,d⟩
theorem entry2 {oe:Obj} {vs:Array Value} {head:Value} {wO:Bool}
  (vx:A.frames=some (env::outer)) (hl:s.heap.FunFrames base (env::outer)) (hf:env.frame=some L)
  (he:s.heap.get? e=some oe) (xf:base.StaysIn s.heap) (xg:base.get? e=none) (hd:oe.data=.fields vs) (h2:vs[2]?=some .none)
  (h:∀ h',jv base (env::outer) e oe.cls (rawInt L) h'->s.heap.UpToSlots h'->Q () { s with heap:=h' }) :
  wpAny M A (do let a <-frameOf env;let pl <-entryPlaceOf L wO;let b <-EntryCells.newEntry head a .none (rawInt L) .none pl;setField (.ref e) 1 b) Q E s:=by
 have z2:2<vs.size:=(Array.getElem?_eq_some_iff.mp h2).1;have nr:∀ b o,s.heap.get? b=some o->(∀ vs,o.data≠.fields vs)->b≠e:=fun b o hb n q=>by
  rw [q,he] at hb;cases hb;exact n vs hd
 refine ub (wpAny_frameOf_fun vx hl hf fun ua vF=>ub (wpAny_entryPlaceOf fun pl hpl=>?_));unfold EntryCells.newEntry newFields;refine ub (wpAny_newObj_type ?_ (hpl.sizeOk5 _ _ _ _ _));have e1:ua.get? e=some oe:=(vF.2.1 e fun hm=>by
  obtain ⟨_,o,ho,n⟩:=hl.mem hm;exact nr e o ho n rfl).trans he
 have e2:=yV (h:=ua) { cls:=.type "traceback",dict:=none,data:=.fields ([head,.ref L,.none,rawInt L,.none]++(if pl.isEmpty then List.replicate 6 Value.none else pl)).toArray } e1;refine Am e2 hd (Nat.lt_of_succ_lt z2) (h _ ?_ ?_)
 all_goals
  have d3:=Obj.data_mapFields hd (·.setIfInBounds 1 (Value.ref ua.objs.size));have te:ua.objs.size≠e:=Nat.ne_of_gt (yZ e1);have kp:∀ b o,b≠e->ua.get? b=some o->((ua.push { cls:=.type "traceback",dict:=none,data:=.fields ([head,.ref L,.none,rawInt L,.none]++(if pl.isEmpty then List.replicate 6 Value.none else pl)).toArray }).update e (Obj.mapFields (·.setIfInBounds 1 (Value.ref ua.objs.size)))).get? b=some o:=fun b o tY hb=>by
   rw [zW _ _ (Ne.symm tY)];exact yV _ hb
 ·have kb:base.StaysIn ua:=fun b o vA=>(vF.2.1 b fun hm=>by rw [(hl.mem hm).1] at vA;cases vA).trans (xf b o vA);refine ⟨fun b o vA=>kp b o (fun q=>by rw [q,xg] at vA;cases vA) (kb b o vA),xg,hl.of_keeps fun b o hb n=>?_,_,_,_,_,_,zF _ e2 (Obj.isFreed_of_fields d3),Obj.cls_mapFields _ _,?_,d3,?_,kb.fresh,te,(zW _ _ (Ne.symm te)).trans (zg ua rfl),rfl,?_⟩
  ·obtain ⟨sl,hs⟩:=vF.2.2 b o hb;exact ⟨_,kp b _ (nr b o hb n) hs,rfl⟩
  ·rw [Array.getElem?_setIfInBounds_ne (by decide)];exact h2
  ·simp [Nat.lt_of_succ_lt z2]
  ·rcases hpl with rfl | ⟨_,_,_,_,_,_,_,rfl⟩ <;> simp
 ·intro b o hb n;obtain ⟨sl,hs⟩:=vF.2.2 b o hb;exact ⟨sl,kp b _ (nr b o hb n) hs⟩
theorem note2 (vx:A.frames=some (env::outer)) (hf:env.frame=some L) (x:jv base (env::outer) e cls .none s.heap)
  (h:∀ h',jv base (env::outer) e cls (rawInt L) h'->s.heap.UpToSlots h'->Q () { s with heap:=h' }):wpAny M A (noteFrame (.ref e) env) Q E s:=by
 obtain ⟨xf,xg,hl,oe,vs,T,oT,ts,he,rfl,h2,hd,h1,hnT,hTe,hT,xh,h3⟩:=x;unfold noteFrame;simp only [hf];refine ub (Ak he hd h1 ?_);rw [if_pos (show (Value.ref T != Value.none)=true from by simp)];refine ub (Ak hT xh h3 ?_);rw [if_neg (show ¬((Value.none==rawInt L)=true) from by simp [rawInt])];refine ub (Am hT xh (Array.getElem?_eq_some_iff.mp h3).1 ?_);have ot:∀ b,b≠T->(s.heap.update T (Obj.mapFields (·.setIfInBounds 3 Value.none))).get? b=s.heap.get? b:=fun b hb=>zW _ _ (Ne.symm hb);have nr:∀ b o,s.heap.get? b=some o->(∀ vs,o.data≠.fields vs)->b≠T:=fun b o hb n q=>by
  rw [q,hT] at hb;cases hb;exact n ts xh
 exact entry2 vx (hl.of_keeps fun b o hb n=>⟨o,(ot b (nr b o hb n)).trans hb,rfl⟩) hf ((ot e (Ne.symm hTe)).trans he)
  (fun b o vA=>(ot b fun q=>by rw [q,hnT] at vA;cases vA).trans (xf b o vA)) xg hd h2 fun h' x k=>h h' x fun b o hb n=>k b o ((ot b (nr b o hb n)).trans hb) n
theorem land2 (x:jv base l e cls fl s.heap) (h:∀ h',jv base l e cls .none h'->s.heap.UpToSlots h'->Q () { s with heap:=h' }):wpAny M A (setFlight (.ref e) none) Q E s:=by
 obtain ⟨xf,xg,hl,oe,vs,T,oT,ts,he,hc,h2,hd,h1,hnT,hTe,hT,xh,h3⟩:=x;have z3:3<ts.size:=(Array.getElem?_eq_some_iff.mp h3).1;unfold setFlight;refine ub (Ak he hd h1 ?_);rw [if_pos (show (Value.ref T != Value.none)=true from by simp)];have ot:∀ b,b≠T->(s.heap.update T (Obj.mapFields (·.setIfInBounds 3 ((none:Option Addr).elim Value.none fun f=>rawInt f)))).get? b=s.heap.get? b:=fun b hb=>zW _ _ (Ne.symm hb);have nr:∀ b o,s.heap.get? b=some o->(∀ vs,o.data≠.fields vs)->b≠T:=fun b o hb n q=>by
  rw [q,hT] at hb;cases hb;exact n ts xh
 exact Am hT xh z3 (h _ ⟨fun b o vA=>(ot b fun q=>by rw [q,hnT] at vA;cases vA).trans (xf b o vA),xg,hl.of_keeps fun b o hb n=>⟨o,(ot b (nr b o hb n)).trans hb,rfl⟩,
  oe,vs,T,_,_,(ot e (Ne.symm hTe)).trans he,hc,h2,hd,h1,hnT,hTe,zF _ hT (Obj.isFreed_of_fields (Obj.data_mapFields xh _)),Obj.data_mapFields xh _,by simp [z3]⟩
  fun b o hb n=>⟨o.slots,(ot b (nr b o hb n)).trans hb⟩)
theorem leave2 (vx:A.frames=some (env::outer)) (hf:env.frame=some L) (x:jv base (env::outer) e cls .none s.heap)
  (h:∀ h',jv base outer e cls .none h'->s.heap.UpToSlots h'->Q () { s with heap:=h' }):wpAny M A (leaving env (.ref e)) Q E s:=
 ub (note2 vx hf x fun h1 x1 u1=>land2 x1 fun h2 x2 u2=>h h2 x2.out (u1.trans u2))
theorem made2 {h0:Heap} {vs:List Value} (vx:A.frames=some (env::outer)) (hf:env.frame=some L) (xf:base.StaysIn h0) (hl:h0.FunFrames base (env::outer)) (hx:Heap.MadeExcOf h0 s.heap e cls vs)
  (h:∀ h',jv base outer e cls .none h'->s.heap.UpToSlots h'->Q () { s with heap:=h' }):wpAny M A (leaving env (.ref e)) Q E s:=by
 obtain ⟨t,he,_,_⟩:=hx.there;have xg:base.get? e=none:=by
  cases hq:base.get? e with
  | none=>rfl
  | some o=>have:=xf e o hq;rw [hx.new] at this;cases this
 unfold leaving noteFrame;simp only [hf];refine ub (ub (Ak he rfl (x:=.none) rfl ?_));rw [if_neg (by decide)];exact entry2 vx (hl.of_keeps fun b o hb _=>⟨o,hx.keeps b o hb,rfl⟩) hf he (fun b o hb=>hx.keeps b o (xf b o hb)) xg rfl rfl fun h1 x1 u1=>land2 x1 fun h2 x2 u2=>h h2 x2.out (u1.trans u2)
end
section
variable {prog:Program} {w:World} {A:Around} {E:Value->Shared->Prop} {s:Shared}
theorem oi:entryFor table "proto.unchain" = some Builtin.«proto.unchain»:=entryFor_of_fast (by kernel_rfl)
theorem list_end2 {it l ex:Addr} {i:Nat} {items} {ox:Obj} {vs:Array Value} {Q:Option Value->Shared->Prop} (hh:A.handled=some (.ref ex)) (hx:s.heap.get? ex=some ox) (hf:ox.data=.fields vs) (h2:vs[2]?=some .none) (vj:ex≠it)
  (hit:s.heap.IsListIter it l i) (hl:s.heap.IsList l items) (hxx:items[i]?=none)
  (hQ:∀ h',Heap.ExtBut it s.heap h'->Q none { s with heap:=h' }):wpAny (model prog w) A (pyNext (.ref it)) Q E s:=by
 obtain ⟨o,ho,hc,hd⟩:=id hit;obtain ⟨ol,hol,_,nl,hdl⟩:=hl;unfold pyNext;refine ub (wpAny_attempt (wpAny_callSpecial?_slot (name:=Str.ofString "__next__") hit.typeIs slot_listiter_next
  (wpAny_call_entry slot_listiter_next hit.typeIs entry_listiter_next ?_ (args_listiter_next _))))
 show wpAny _ _ (field (.ref it) 0 >>= _) _ _ s;refine ub (Ak ho hd (x:=.ref l) rfl ?_);show wpAny _ _ (if (Value.ref l==Value.none)=true then _ else _) _ _ s;rw [if_neg (show ¬((Value.ref l==Value.none)=true) from zK)];show wpAny _ _ (field (.ref it) 1 >>= _) _ _ s;refine ub (Ak ho hd (x:=.int i 0) rfl ?_);show wpAny _ _ (seqItems? (.ref l) >>= _) _ _ s;refine ub (wpAny_seqItems hol hdl ?_);simp only [Int.toNat_natCast,hxx];refine ub (wpAny_rule (ub (Am ho hd (by simp) ?_)));show wpAny _ _ (newExc (.type "StopIteration") [] >>= _) _ _ _;refine ub ?_;simp only [newExc,newTuple];refine ub (wpAny_newObj_type ?_ (by size_fits));refine ub (m:=firstArgMember _ _) (wpAny_of_eq (a:=Value.none) (by first | rfl | (simp only [firstArgMember];rfl)) ?_);refine wpAny_newObj_type ?_ (by size_fits);simp only [raiseNew];refine ub (wpAny_handled ?_);rw [show A.in1.handled=some (.ref ex) from hh];generalize hg:s.heap.update it _=h1;have x1:h1.get? ex=some ox:=by rw [<-hg];exact (zW _ _ (Ne.symm vj)).trans hx
 have eb:Heap.ExtBut it s.heap h1:=by rw [<-hg];exact (Heap.SameBut.update ..).extBut
 have x3:∀ o1 o2,((h1.push o1).push o2).get? ex=some ox:=fun o1 o2=>yV _ (yV _ x1);have ne3:ex≠h1.objs.size+1:=zJ (Nat.lt_succ_of_lt (yZ x1));dsimp only;rw [if_pos (by simpa using ne3)];refine ub (wpAny_holding (wpAny_runValue (codeAny_builtin oi ?_)));refine ub (Ak (x3 _ _) hf h2 ?_);refine (show wpAny _ _ (ret .none) _ _ _ from uc ?_);have g3:=zg (h1.push { cls:=.type "tuple",data:=.seq #[] }) (o:={ cls:=.type "StopIteration",data:=.fields (#[.ref h1.objs.size,.none,.none,.none,.bool false,.none]++ownMembersOf (.type "StopIteration") []) }) rfl;refine ub (show wpAny _ _ (setField (.ref _) 2 (.ref ex)) _ _ _ from Am g3 rfl (show 2<6 by decide) (wpAny_throw ?_));refine ub (wpAny_isInstance (T:="StopIteration") (b:=true) ⟨_,zF _ g3 rfl,rfl⟩ isSubtype_stop ?_);refine uc (hQ _ fun b o hb q=>?_);have q1:=eb b o hb q;rw [zW _ _ (Ne.symm (zJ (yZ (yV _ q1))))];exact yV _ (yV _ q1)
theorem walk2 (ex:Addr) (hh:A.handled=some (.ref ex)) (ox:Obj) (vs:Array Value) (hf:ox.data=.fields vs) (h2:vs[2]?=some .none) (I ax:Addr) (vj:ax≠I) (hxe:ex≠I) (items:Array Value) :
  Walks prog w A I [I,ax,ex] [I] items.size (fun i v=>items[i]?=some v) (fun i h=>(h.IsListIter I ax i/\h.IsList ax items)/\h.get? ex=some ox) where
 sub:=fun b hb=>by simp at hb;simp [hb]
 frame:=fun _ _ _ st hk=>⟨⟨st.1.1.at fun o e=>hk I (by simp) o e,st.1.2.at fun o e=>hk ax (by simp) o e⟩,hk ex (by simp) _ st.2⟩
 item:=fun i s Q E hi st hQ=>by
  refine wpAny_pyNext_list_item st.1.1 st.1.2 (x:=items[i]) (by simp [hi]) fun h' hit' xy=>?_;exact hQ _ h' s.toks (by simp [hi]) ⟨⟨hit',st.1.2.extBut xy.extBut vj⟩,xy.extBut ex _ hxe st.2⟩ fun b o hb e=>xy.extBut b o (fun h=>hb (by simp [h])) e
 done:=fun s Q E st hQ=>list_end2 hh st.2 hf h2 hxe st.1.1 st.1.2 (by simp) fun h' xK=>hQ h' s.toks fun b o hb e=>xK b o (fun h=>hb (by simp [h])) e
 self:=fun _ _ _ _ st hQ=>wpAny_pyIter_listiter st.1.1 hQ
end
structure Flies (P:Program) (w:World) (outer:List Env) (H:Hp) (s:Shared) (H':Hp) (ea C:Addr) (s':Shared):Prop where
 os:s'.os=s.os
 bare:AllBare s'.gens
 un:Un (frs outer) [] H H' s.heap s'.heap
 hok:HOk P w H' s'.heap
 fly:∃ B,jv B outer ea (.ref C) .none s'.heap/\(∀ b o,s.heap.get? b=some o->b∉frs outer->∃ o',B.get? b=some o')/\∀ b u,H' b=some u->∃ o',B.get? b=some o'
noncomputable def CXr (P:Program) (w:World):CXT:=fun outer H s E e s'=>∃ ea C H',e=.ref ea/\Flies P w outer H s H' ea C s'/\E (.ref C) none H'
structure XR (X:Cx) (E:XK):Prop where
 made:∀ (pins:List (Addr×Obj)) (σ:St) (H:Hp) (s:Shared) (e C:Addr) (vs:List Value) (h':Heap),Inv X pins σ H s->Heap.MadeExcOf s.heap h' e (.ref C) vs->E (.ref C) none H->X.xe (.ref e) { s with heap:=h' }
 pass:iE (CXr X.prog X.w) X E
theorem hid {X:Cx} {pins:List (Addr×Obj)} {σ:St} {H:Hp} {s:Shared} (I:Inv X pins σ H s):∃ B:Heap,B.StaysIn s.heap/\s.heap.FunFrames B X.stack/\∀ b o,s.heap.get? b=some o->b∉frs X.stack->B.get? b=some o:=
 ⟨hideAll s.heap (frs X.stack),fun b o q=>of_hideAll _ q,PySem.W.funFrames_hide I.stack fun env he b hb=>List.mem_filterMap.mpr ⟨env,he,hb⟩,fun b o q n=>hideAll_get _ q n⟩
theorem young {X:Cx} {pins:List (Addr×Obj)} {σ:St} {H:Hp} {s:Shared} (I:Inv X pins σ H s) {b:Addr} {o:Obj} (q:X.s₀.heap.get? b=some o) (hb:b∉X.fs):b∉frs X.stack:=fun hm=>by
 rcases zj.mp (I.stkSub b hm) with z | z
 ·have h:=zz (yZ q) I.ok.above;rw [z] at h;exact absurd h (zP _)
 ·exact hb z
section
variable {P:Program} {w:World} {K:Frag} {mg:Str->Option Value} {base:Heap} {N:List Str} {qual:Str} {scope:Scope} {f:Addr} {cd:Value} {A:Around} {outer:List Env} {s0:Shared} {H0:Hp} {E:XK}
theorem xr_of:XR (ju (CXr P w) P w K mg base N qual scope f cd A outer s0 H0 E) E where
 made:=fun pins σ H s e C vs h' I hx hE=>by
  obtain ⟨B,hB,FF,gB⟩:=hid I;refine made2 I.ok.frames rfl hB FF hx fun vZ fl up=>?_;have vE:Un (frs outer) [] H0 H s0.heap s.heap:=I.base;have old:∀ b o,s0.heap.get? b=some o->b∉frs outer->∃ o',B.get? b=some o':=fun b o q hb=>by
   obtain ⟨o1,e1⟩:=vE.there b o q (by simp);exact ⟨o1,gB b o1 e1 (young I q hb)⟩
  have tr:∀ b u,H b=some u->∃ o',B.get? b=some o':=fun b u q=>by
   obtain ⟨o1,e1⟩:=I.hok.there q;exact ⟨o1,gB b o1 e1 fun hm=>by have:=I.stkFree b hm;rw [q] at this;cases this⟩
  refine ⟨e,C,H,rfl,⟨I.os,I.bare,vE.slots hB fl.1 ((Heap.UpToSlots.of_keeps hx.keeps).trans up) old fun b hb o q=>?_,I.hok.slots hB fl.1 tr,B,fl,old,tr⟩,hE⟩;obtain ⟨_,o',uC,hd⟩:=I.funs.mem hb;rw [q] at uC;cases uC;exact hd
 pass:=fun pins σ H s e s' I h=>by
  obtain ⟨ea,C,H',rfl,⟨os,bare,un,hok,B,fl,old,tr⟩,hE⟩:=h;refine leave2 I.ok.frames rfl fl fun vZ yL up=>?_;have vE:Un (frs outer) [] H0 H s0.heap s.heap:=I.base;have ye:∀ b o,s0.heap.get? b=some o->b∉frs outer->∃ o',B.get? b=some o':=fun b o q hb=>by
   obtain ⟨o1,e1⟩:=vE.there b o q (by simp);exact old b o1 e1 (young I q hb)
  have sub:∀ b∈frs outer,b∈frs (ju (CXr P w) P w K mg base N qual scope f cd A outer s0 H0 E).stack:=fun b hb=>by
   obtain ⟨env,he,hf⟩:=List.mem_filterMap.mp hb;exact List.mem_filterMap.mpr ⟨env,.tail _ he,hf⟩
  have un1:Un (frs outer) [] H0 H' s0.heap s'.heap:=by
   refine ⟨fun b o q n hb hx=>un.keep b o (vE.keep b o q n hb hx) (vE.free b o q n hx) (young I q hb) hx,fun b o q n hb hx=>?_,fun b o q n hx=>?_,fun b o q hx=>?_,fun b xs q=>un.tups b xs (vE.tups b xs q),fun b o u q=>un.frzs b o u (vE.frzs b o u q),fun b ps q=>?_⟩
   ·obtain ⟨sl,e1⟩:=vE.slot b o q n hb hx;obtain ⟨ve,e2⟩:=un.slot b _ e1 (vE.free b o q n hx) (sub b hb) hx;exact ⟨ve,e2⟩
   ·obtain ⟨o1,e1⟩:=vE.there b o q hx;exact un.free b o1 e1 (vE.free b o q n hx) hx
   ·obtain ⟨o1,e1⟩:=vE.there b o q hx;exact un.there b o1 e1 hx
   ·obtain ⟨m1,e1⟩:=vE.tbls b ps q;obtain ⟨m2,e2⟩:=un.tbls b _ e1;exact ⟨m1++m2,by rw [e2,Array.append_assoc]⟩
  refine ⟨ea,C,H',rfl,⟨os.trans I.os,bare,un1.slots fl.1 yL.1 up ye fun b hb o q=>?_,hok.slots fl.1 yL.1 tr,B,yL,ye,tr⟩,hE⟩;obtain ⟨_,o',uC,hd⟩:=fl.2.2.1.mem (sub b hb);rw [q] at uC;cases uC;exact hd
end
noncomputable def tX (E:XK) (H0 uw:Hp) (G:DSt->Option Addr):TS:=fun _ σ H=>∃ Hs δ C,Wd H0 uw Hs H/\StR H0 Hs H δ σ/\G δ=some C/\∀ Hs' H',Wd H0 uw Hs' H'->E (.ref C) none H'
structure DX (X:Cx) (E:XK) (st:Stmt) (G:DSt->Option Addr):Prop where
 go:∀ H0 uw,PS X st (tX E H0 uw G)
structure DXs (X:Cx) (E:XK) (st:List Stmt) (G:DSt->Option Addr):Prop where
 go:∀ H0 uw,PSs X st (tX E H0 uw G)
noncomputable def xthn (F:FS) (G:DSt->Option Addr):DSt->Option Addr:=fun δ=>(F δ).bind fun r=>match r with
 | .nx δ1=>G δ1
 | _=>none
noncomputable def xif (t:DSt->Option Bool) (G1 G2:DSt->Option Addr):DSt->Option Addr:=fun δ=>(t δ).bind fun b=>if b=true then G1 δ else G2 δ
def xno:DSt->Option Addr:=fun _=>none
section
variable {X:Cx} {E:XK} {st:Stmt} {rest:List Stmt} {F:FS} {G G1 G2:DSt->Option Addr} {pos:Pos}
theorem dxs_no:DXs X E rest xno:=.mk fun H0 uw=>fun pins s σ H D I ⟨_,_,_,_,_,e,_⟩=>by cases e
theorem nh (h:DX X E st G):DXs X E (st::rest) G:=.mk fun H0 uw=>fun pins s σ H D I q=>
 wpAny_execs_cons (thn ((h.go H0 uw) pins s σ H { nx:=fun _ _=>False,rt:=fun _ _=>False } I q) fun f s1 z=>by
  cases f with
  | next=>obtain ⟨_,_,_,q⟩:=z;exact q.elim
  | ret v=>obtain ⟨_,_,_,_,_,q⟩:=z;exact q.elim
  | brk=>obtain ⟨_,_,_,q⟩:=z;exact q.elim
  | cont=>obtain ⟨_,_,_,q⟩:=z;exact q.elim)
theorem dxs_next (h1:DS X st F) (h2:DXs X E rest G):DXs X E (st::rest) (xthn F G):=.mk fun H0 uw=>(qJ (h1.go H0 uw) (h2.go H0 uw)).weak fun D σ H ⟨Hs,δ,C,W,S,e,P⟩=>by
 unfold xthn at e;cases ef:F δ with
 | none=>rw [ef] at e;cases e
 | some r=>
  rw [ef] at e
  match r,e with
  | .nx δ1,e=>exact ⟨Hs,δ,.nx δ1,W,S,ef,fun uN uq H1 W1 S1=>⟨uq,δ1,C,W1,S1,e,P⟩⟩
theorem dx_if {c:Expr} {a b:List Stmt} {t:DSt->Option Bool} (hc:DT X c t) (ha:DXs X E a G1) (hb:DXs X E b G2):DX X E (.If c a b pos) (xif t G1 G2):=.mk fun H0 uw=>
 (ps_if hc.go (ha.go H0 uw) (hb.go H0 uw)).weak fun D σ H ⟨Hs,δ,C,W,S,e,P⟩=>by
  unfold xif at e;cases et:t δ with
  | none=>rw [et] at e;cases e
  | some k=>
   rw [et] at e;refine ⟨Hs,δ,k,W.sub,S.ent,et,fun uq H1 W1=>?_⟩;cases k with
   | true=>rw [if_pos rfl];exact ⟨uq,δ,C,W.trans W1,S.mono W1,e,P⟩
   | false=>rw [if_neg zK];exact ⟨uq,δ,C,W.trans W1,S.mono W1,e,P⟩
noncomputable def spX (n:Nat) (m:List D->Option Addr):Sp:=fun vs H _ E=>∃ Hs ds C,ds.length=n/\aQ Hs H/\aB Hs ds vs/\m ds=some C/\∀ Hs' H',Wd H Hs Hs' H'->E (.ref C) none H'
theorem spX_len {n:Nat} {m:List D->Option Addr} {vs:List V} {H:Hp} {Q:VK} {E:XK} (h:spX n m vs H Q E):vs.length=n:=by
 obtain ⟨Hs,ds,d,e,_,r,_⟩:=h;rw [r.length,e]
noncomputable def runX (k:Nat) (G:DSt->Option Addr) (ds:List D):Option Addr:=G (ds.map (fun d=>some (.sh d))++List.replicate (k-ds.length) none)
noncomputable def eZ (n:Nat) (m:List D->Option Addr) (fa:DSt->Option (List R)):DSt->Option Addr:=fun δ=>(fa δ).bind fun rs=>if rs.length=n/\cX rs=true then m (rs.map R.view) else none
end
section
variable {P:Program} {w:World} {K:Frag} {mg:Str->Option Value} {base:Heap}
theorem fn_X {x qual:Str} {st:Stmt} {f:Addr} {fd:FuncData} {N ps:List Str} {k:Nat} {G:DSt->Option Addr} (F0:Fun K x qual st f fd) (S:eB N ps (au st))
  (h:∀ (ux:Value) (A:Around) (outer:List Env) (s:Shared) (H:Hp) (E:XK),bx k (A.deeper (envOfC qual (au st) s.heap.objs.size f ux))->DXs (ju (CXr P w) P w K mg base N qual (au st) f ux A outer s H E) E (aY st) G) :
  dJ P w K mg base (CXr P w) (k+1) f fd ps (spX ps.length (runX N.length G)):=by
 obtain ⟨oc,od,kV,doc,pm,an,ux,ct,uP,rfl,lk,uX⟩:=F0.ex;refine fn_of lk uX S (fun vs H Q E hs=>spX_len hs) fun A outer s H vs Q E hr hs=>?_;obtain ⟨Hs,ds,C,hl,sub,r,em,post⟩:=hs;exact ⟨_,(h ux A outer s H E hr).go H Hs,Hs,_,C,.refl sub,mR r,em,post⟩
end
section
variable {X:Cx} {E:XK} {x q:Str} {st:Stmt} {ps:List Str} {f:Addr} {fd:FuncData} {k n:Nat} {m:List D->Option Addr} {e:Expr} {es:List Expr} {fr:DSt->Option (List R)} {p pos pos':Pos}
theorem dx_call (hX:XR X E) (d:Df X.K X.mg x q st ps f fd) (F:dJ X.prog X.w X.K X.mg X.base (CXr X.prog X.w) k f fd ps (spX n m)) (hr:bx k X.A) (ha:DA X (e::es) fr)
  (hg:Gl X x:=by rfl) (vm:(x==("__debug__" : Str))=false:=by decide) (he:starEach (e::es) X.env=(false,eval e X.env)::starEach es X.env:=by rfl) (hpl:(backTo pos (starEach es X.env)).any (·.1)=false:=by rfl)
  (hs:swapsWith (.Call (.Name x p) (e::es) [] pos) none pos'.line X.env=pure false:=by rfl) :
  DX X E (.Expr (.Call (.Name x p) (e::es) [] pos) pos') (eZ n m fr):=.mk fun H0 uw=>
 (ja (mw (E:=E) F hr hg d.mgx d.fn.kp d.bd .nil hX.pass ha.go vm he hpl) hs).weak fun D σ H ⟨Hs,δ,C,W,S,e,P⟩=>by
  unfold eZ at e;cases ea:fr δ with
  | none=>rw [ea] at e;cases e
  | some rs=>
   rw [ea] at e;replace e:(if rs.length=n/\cX rs=true then m (rs.map R.view) else none)=some C:=e;by_cases hc:rs.length=n/\cX rs=true
   ·rw [if_pos hc] at e;refine ⟨Hs,δ,rs,W.sub,S.ent,ea,fun vs uq H1 W1 R1=>?_⟩;show spX n m (vs++[]) H1 _ E;rw [List.append_nil];obtain ⟨uv,q1,q2,q3,q4⟩:=R1.freeze W1.sub;have W2:Wd H Hs uv H1:=⟨W1.keep,q2,W1.base.trans q3,fun a o e=>by
     rcases q4 (gP hc.2) a o e with z | z
     ·exact W1.new a o z
     ·exact .inr z⟩
    exact ⟨uv,_,C,by rw [uk];exact hc.1,q2,q1,e,fun tW H3 W3=>P tW H3 (W.trans (W2.trans W3))⟩
   ·rw [if_neg hc] at e;cases e
end
theorem excObj_of {K:Frag} {h:Heap} {C:Addr} {bmB:List Value} {newId:String} (X:K.In h) (q:excIn K C bmB newId=true) :
  ∃ bm N nm qn bs xM sn sub ab col dd k0 k1 k2 k3 k5 mN,h.get? C=some (excClassObj nm qn C N bs bm xM sn sub ab col dd k0 k1 k2 k3 k5 newId)/\h.Ns N mN/\mN "__init__" = none/\OwnTail h bmB bm:=by
 unfold excIn at q;split at q
 case h_2=>cases q
 case h_1 dd cd sl ho=>
  split at q
  case h_2=>cases q
  case h_1 C' bm k0 k1 k2 k3 n k5 hm hs=>
   simp only [um,beq_iff_eq,Bool.not_eq_true'] at q;obtain ⟨⟨⟨⟨⟨e1,e2⟩,e3⟩,e4⟩,e5⟩,e6⟩:=q;cases e1;cases e2;cases cd;cases sl;simp only at hm e3 e5 e6 hs;subst hm;subst e3;subst hs;exact ⟨_,_,_,_,_,_,_,_,_,_,_,_,_,_,_,_,_,X _ _ ho,.of_isNs (PySem.W.isNs_of_in X e5),PySem.W.nsMap_none_of_in X e5 e6,PySem.W.tail_of_in X e4⟩
section
variable {X:Cx} {E:XK} {x:Str} {C:Addr} {B newId wg:String} {bm:List Value} {t:Str} {j} {np cp tQ pos:Pos}
theorem dx_raise (hX:XR X E) (hm:X.mg x=some (.ref C)) (hO:excIn X.K C bm newId=true) (FB:ExcBaseFacts B newId wg bm) (hh:X.A.handled=none) (hg:Gl X x:=by rfl) (vm:(x==("__debug__" : Str))=false:=by decide) :
  DX X E (.Raise (some (.Call (.Name x np) [.Constant (.str t) j cp] [] tQ)) none pos) (fun _=>some C):=.mk fun H0 uw=>fun pins s σ H D I ⟨Hs,δ,C',W,S,e,P⟩=>by
 cases e;obtain ⟨tl,N,nm,q,bs,xM,sn,sub,ab,col,dd,k0,k1,k2,k3,k5,mN,hC,hN,hni,T⟩:=excObj_of I.mod.kin hO;refine @wpAny_Raise_call_subT X.prog X.w X.A X.xe s X.env nm q C N bs tl bm xM sn sub ab col dd k0 k1 k2 k3 k5 B newId wg FB mN x np tQ pos [.Constant (.str t) j cp] (SP X pins D) (T.hasType FB.hasBase) hh rfl hni (i9 I hg hm ⟨rfl,?_⟩ vm);refine Calls.evalArgs_plain ?_;have pa:PA X [.Constant (.str t) j cp] (tCons (tC (.str t)) tNil):=bO pe_str dl;refine thn (pa tQ pins s σ H (fun vs H1=>vs=[.str t]/\H1=H) I ⟨rfl,rfl⟩) fun us s1 ⟨vs,H1,I1,r,e1,e2⟩=>?_;subst e1;subst e2;have hl:=r.length;refine ⟨rfl,by rw [<-hl];show (1:Nat)<=sizeLine;decide,I1.bk _ _ hC,hN.keeps I1.bk,T.keeps I1.bk,fun h' e hx=>?_⟩;exact hX.made pins σ H1 s1 e C us h' I1 hx (P Hs H1 W)
end
abbrev jR (X:Cx) (e:Addr) (o:Obj):Cx:={ X with A:=X.A.mark (some (.ref e)),calm:=false,xe:=fun _ _=>False,H₀:=upd X.H₀ e (.frz o (.own 0)) }
theorem rC {X:Cx} {pins:List (Addr×Obj)} {σ:St} {H:Hp} {s:Shared} {e:Addr} {o:Obj} (I:Inv X pins σ H s) (e0:X.s₀.heap.get? e=none) (he:H e=some (.frz o (.own 0))):Inv (jR X e o) pins σ H s:=by
 have ne:∀ b u,X.s₀.heap.get? b=some u->b≠e:=fun b u q z=>by rw [z,e0] at q;cases q
 have ok:=I.ok;refine ⟨⟨ok.mod,ok.kind,ok.glob,ok.blt,ok.above,ok.inj,ok.has,ok.cab,(fun h=>by cases h),ok.frames,ok.stk,ok.exf,fun b u q=>⟨(ok.bs b u q).1,(av (ne b u (ok.bs b u q).1)).trans (ok.bs b u q).2⟩,ok.bsz,ok.noex,ok.exfs,ok.funs,fun b hb=>?_⟩,I.os,I.bare,⟨fun b u q n=>?_,fun b u q n=>?_,fun b u q n=>?_,I.base.there,fun b xs q=>?_,fun b u v q=>?_,fun b ps q=>?_⟩,I.loc,I.cell,I.free,I.freeC,I.pin,I.hok,I.len⟩
 ·obtain ⟨_,u,hu,_⟩:=ok.funs.mem hb;exact (av (ne b u hu)).trans (ok.frf b hb)
 ·exact I.base.keep b u q ((av (ne b u q)).symm.trans n)
 ·exact I.base.slot b u q ((av (ne b u q)).symm.trans n)
 ·exact I.base.free b u q ((av (ne b u q)).symm.trans n)
 all_goals by_cases hb:b=e
 ·subst hb;have z:some (HO.frz o (.own 0))=some (HO.tup xs):=aw.symm.trans q;cases z
 ·exact I.base.tups b xs ((av hb).symm.trans q)
 ·subst hb;have z:some (HO.frz o (.own 0))=some (HO.frz u v):=aw.symm.trans q;cases z;exact he
 ·exact I.base.frzs b u v ((av hb).symm.trans q)
 ·subst hb;have z:some (HO.frz o (.own 0))=some (HO.tbl ps):=aw.symm.trans q;cases z
 ·exact I.base.tbls b ps ((av hb).symm.trans q)
theorem sU {X:Cx} {pins p1:List (Addr×Obj)} {σ uN:St} {H H1:Hp} {s s1:Shared} {e:Addr} {o:Obj} (J:Inv X p1 uN H1 s1) (e0:X.s₀.heap.get? e=none) (he:H1 e=some (.frz o (.own 0))) (I:Inv (jR X e o) pins σ H s):Inv X pins σ H s:=by
 have ne:∀ b u,X.s₀.heap.get? b=some u->b≠e:=fun b u q z=>by rw [z,e0] at q;cases q
 refine ⟨J.ok,I.os,I.bare,⟨fun b u q n=>I.base.keep b u q ((av (ne b u q)).trans n),fun b u q n=>I.base.slot b u q ((av (ne b u q)).trans n),fun b u q n=>I.base.free b u q ((av (ne b u q)).trans n),I.base.there,fun b xs q=>?_,fun b u v q=>?_,fun b ps q=>?_⟩,I.loc,I.cell,I.free,I.freeC,I.pin,I.hok,I.len⟩
 all_goals by_cases hb:b=e
 ·subst hb;have z:=J.base.tups b xs q;rw [he] at z;cases z
 ·exact I.base.tups b xs ((av hb).trans q)
 ·subst hb;have z:=J.base.frzs b u v q;rw [he] at z;cases z;exact I.base.frzs b _ _ aw
 ·exact I.base.frzs b u v ((av hb).trans q)
 ·subst hb;obtain ⟨_,z⟩:=J.base.tbls b ps q;rw [he] at z;cases z
 ·exact I.base.tbls b ps ((av hb).trans q)
theorem c_anyX {X:Cx} {e:Addr} {o:Obj} {fs:Array Value} (hf:o.data=.fields fs) (h2:fs[2]?=some .none):cJ (jR X e o) (.builtin "any") (rC1 oAny):=by
 intro pins s σ H xs us Q I rv h;obtain ⟨x,rfl,Hs,d,r,S,vd,e',K⟩:=h
 match d,e',vd with
 | .lst ds,e',vd=>
  cases eb:bls ds with
  | none=>simp only [oAny,eb] at e';cases e'
  | some bs=>
   simp only [oAny,eb] at e';cases e';obtain ⟨a,vs,eq,h1,h3⟩:=vd.lst S;subst eq;obtain ⟨u,rfl,ru⟩:=rv.one;cases (show u=Value.ref a from ru);obtain ⟨its,u5,pl,hz⟩:=I.list (SqL.of (K:=X.K) h1);have hb:=pZ eb h3 u5;have hl:=pl.isList;have vk:a<s.heap.objs.size:=by obtain ⟨_,e,_⟩:=hl;exact yZ e
   obtain ⟨ge,_⟩:=(show cI X.prog X.w H s.heap e (.frz o (.own 0)) from I.hok e _ (I.base.frzs e _ _ aw));refine call_any_walk (wpAny_pyIter_list hl ?_);refine ⟨s.heap.objs.size,[s.heap.objs.size,a,e],[s.heap.objs.size],its.toArray.size,_,_,fun i=>(bs[i]?).getD false,rfl,walk2 (A:=(jR X e o).A.in1) e rfl o fs hf h2 _ a (zJ vk) (zJ (yZ ge)) its.toArray,
    ⟨⟨⟨_,zg _ rfl,rfl,rfl⟩,hl.push _⟩,yV _ ge⟩,fun i v s' Q' E' hP hQ=>?_,fun h' tk hk=>?_⟩
   ·obtain ⟨b,e,rfl⟩:=hb.get i v (by simpa using hP);simp only [e,Option.getD_some] at hQ;exact wpAny_truthy_bool hQ
   ·have e:((List.range its.toArray.size).any fun i=>(bs[i]?).getD false)=bs.any id:=by
     rw [zf,hb.length];exact PyProof.Rows.LSm.range_any bs
    rw [e];exact ⟨.bl _,H,I.kept (kept_it hk),rfl,K _ Hs H (.refl S) (shB _ _ _ _)⟩
theorem name_goes {X:Cx} {pins:List (Addr×Obj)} {σ:St} {H:Hp} {s:Shared} {n:Str} {pos:Pos} {E:Value->Shared->Prop} {Q:Unit->Shared->Prop} {A:Around} (I:Inv X pins σ H s) (hl:X.env.kindOf n=some .local)
  (h:∀ s',Inv X pins (List.replicate X.N.length none) H s'->Q () s'):wpAny (model X.prog X.w) A (do bindName X.env n .none;unbindBehindTheSuite X.env n pos) Q E s:=by
 obtain ⟨m,hn,_⟩:=id I.loc;refine wpAny_nameGoes hl hn (by rw [I.ok.kind];rfl) fun h' m' hn' sb=>?_;have young:∀ b o,X.s₀.heap.get? b=some o->b≠X.env.locals:=fun b o q z=>by
  have h1:=yZ q;have h2:=I.ok.above;rw [z] at h1;exact absurd (zz h1 h2) (zP _)
 have xP:∀ b,b≠X.env.locals->h'.get? b=s.heap.get? b:=fun b hb=>sb.2 b hb;refine h _ ⟨I.ok,I.os,I.bare,⟨fun b o q n hb hx=>?_,fun b o q n hb hx=>?_,I.base.free,fun b o q hx=>?_,I.base.tups,I.base.frzs,I.base.tbls⟩,⟨m',hn',fun i x v _ e=>?_⟩,fun x c e=>?_,I.free,I.freeC,fun p hp=>?_,fun a o e=>?_,by simp⟩
 ·rw [xP b (young b o q)];exact I.base.keep b o q n hb hx
 ·obtain ⟨sl,e⟩:=I.base.slot b o q n hb hx;exact ⟨sl,by rw [xP b (young b o q)];exact e⟩
 ·obtain ⟨o',e⟩:=I.base.there b o q hx;exact ⟨o',by rw [xP b (young b o q)];exact e⟩
 ·rw [List.getElem?_replicate] at e;split at e <;> cases e
 ·obtain ⟨v,o,ho,hd⟩:=I.cell x c e;exact ⟨v,o,by rw [xP c (I.cne x c e)];exact ho,hd⟩
 ·obtain ⟨h1,h2,h3,h4⟩:=I.pin p hp;exact ⟨by rw [xP p.1 h3];exact h1,h2,h3,h4⟩
 ·refine (I.hok a o e).stay (fun b u hb q=>?_) (fun _ q=>q) fun _ _ q=>q;rw [xP b ?_];exact q;rintro rfl;rcases hb with rfl | hb
  ·rw [I.free] at e;cases e
  ·rw [I.free] at hb;cases hb
noncomputable def stry (i:Nat) (ok:Addr->Option Bool) (G:DSt->Option Addr) (F:FS):FS:=fun δ=>(G δ).bind fun C=>if ok C=some true then (F (δ.set i (some (.exc C)))).bind fun r=>match r with
 | .rt r=>some (.rt r)
 | _=>none
 else none
section
variable {X:Cx} {x q y n:Str} {st:Stmt} {ps:List Str} {f Y:Addr} {fd:FuncData} {k m i:Nat} {mx:List D->Option Addr} {e:Expr} {es:List Expr} {fr:DSt->Option (List R)} {p tQ vC np xA pos:Pos} {b0:Stmt} {uZ:List Stmt} {ok:Addr->Option Bool} {F:FS}
theorem ds_try (d:Df X.K X.mg x q st ps f fd) (G:dJ X.prog X.w X.K X.mg X.base (CXr X.prog X.w) k f fd ps (spX m mx)) (hr:bx k X.A) (ha:DA X.nox (e::es) fr)
  (uh:X.stack=X.env::X.outer) (hfm:X.env.frame=some X.env.locals)
  (hY:X.mg y=some (.ref Y)) (hok:∀ C,ok C=some true->exmOne X.K (.ref C) (.ref Y)=some true)
  (hN:X.N.Nodup) (hi:X.N[i]?=some n) (hl:X.env.scope.names.lookup n=some .local) (hs:∀ ea o vs,o.data=.fields vs->vs[2]?=some .none->DSs (jR X ea o) (b0::uZ) F) (hex:X.ex=[]:=by rfl)
  (hgy:Gl X y:=by rfl) (hdy:(y==("__debug__" : Str))=false:=by decide)
  (hg:Gl X x:=by rfl) (vm:(x==("__debug__" : Str))=false:=by decide) (he:starEach (e::es) X.env=(false,eval e X.env)::starEach es X.env:=by rfl) (hpl:(backTo tQ (starEach es X.env)).any (·.1)=false:=by rfl)
  (uE:swapsWith (.Call (.Name x p) (e::es) [] tQ) none vC.line X.env=pure false:=by rfl) :
  DS X (.Try [.Expr (.Call (.Name x p) (e::es) [] tQ) vC] [.ExceptHandler (some (.Name y np)) (some n) (b0::uZ) xA] [] [] pos) (stry i ok (eZ m mx fr) F):=.mk fun H0 uw=>fun pins s σ H D I ⟨Hs,δ,res,W,S,eF,P⟩=>by
 unfold stry at eF;cases eG:eZ m mx fr δ with
 | none=>rw [eG] at eF;cases eF
 | some C=>
  rw [eG] at eF;simp only [ud] at eF;by_cases hC:ok C=some true
  case neg=>rw [if_neg hC] at eF;cases eF
  rw [if_pos hC] at eF;cases eS:F (δ.set i (some (.exc C))) with
  | none=>rw [eS] at eF;cases eF
  | some rs=>
   rw [eS] at eF
   match rs,eF,eS with
   | .rt r,eF,eS=>
    cases eF;unfold eZ at eG;cases ea:fr δ with
    | none=>rw [ea] at eG;cases eG
    | some rs=>
     rw [ea] at eG;replace eG:(if rs.length=m/\cX rs=true then mx (rs.map R.view) else none)=some C:=eG;by_cases hc:rs.length=m/\cX rs=true
     case neg=>rw [if_neg hc] at eG;cases eG
     rw [if_pos hc] at eG;refine wpAny_Try_except (wpAny_execs_cons (wpAny_Expr_any ?_ I.quiet uE));refine wpAny_Call_Name_kw (i9 I hg d.mgx ?_ vm);refine callWith_K (h₀:=X.base) I.ok.mod.kin d.fn.kp (Ap (ha.go tQ pins s σ H _ (I.wish _) ⟨Hs,δ,rs,W.sub,S.ent,ea,fun vs uq H1 W1 R1=>(⟨uq,W1,R1⟩ : ∃ uq,Wd H Hs uq H1/\dL H uq H1 rs vs)⟩) (fun us s1 ⟨vs,H1,I1',rv,uq,W1,R1⟩=>?_) fun _ _ z=>z.elim) he hpl;have I1:=I1'.unwish;refine ⟨I1.kIn,?_⟩;obtain ⟨uv,q1,q2,q3,q4⟩:=R1.freeze W1.sub;have W2:Wd H Hs uv H1:=⟨W1.keep,q2,W1.base.trans q3,fun a o e=>by
      rcases q4 (gP hc.2) a o e with z | z
      ·exact W1.new a o z
      ·exact .inr z⟩
     have vp:spX m mx (vs++[]) H1 (fun _ _=>False) (fun v _ H'=>v=.ref C/\∃ Hs',Wd H Hs Hs' H'):=by
      rw [List.append_nil];exact ⟨uv,_,C,by rw [uk];exact hc.1,q2,q1,eG,fun tW H3 W3=>⟨rfl,tW,W2.trans W3⟩⟩
     have r2:aT (vs++[]) (us++[]):=by rw [List.append_nil,List.append_nil];exact rv
     have hl2:(us++([]:List Value)).length=ps.length:=by rw [<-r2.length];exact G.len _ _ _ _ vp
     refine wpAny_call (codeAny_mono (G.run X.A X.stack s1 H1 ⟨us,[]⟩ (us++[]) (vs++[]) _ _ hr I1.env0 (d.bd s1 us I1.kIn hl2) r2 vp) fun rr s' hq=>?_);cases rr with
     | ok fl=>
      cases fl with
      | ret u=>obtain ⟨_,_,_,_,_,_,_,z⟩:=hq;exact z.elim
      | next=>exact False.elim hq
      | brk=>exact False.elim hq
      | cont=>exact False.elim hq
     | error ev=>
      obtain ⟨ex,C',H',rfl,⟨os,bare,un,hokk,B,fl,old,tr⟩,eC,Hs',W'⟩:=hq;cases eC;have vx:X.A.frames=some (X.env::X.outer):=by rw [I.ok.frames,uh]
      have yL:jv B (X.env::X.outer) ex (.ref C) .none s'.heap:=by rw [<-uh];exact fl
      have nfr:∀ b∈frs X.stack,∀ o,s'.heap.get? b=some o->∀ vs,o.data≠.fields vs:=fun b hb o qo=>by
       obtain ⟨_,o',uC,hd⟩:=fl.2.2.1.mem hb;rw [qo] at uC;cases uC;exact hd
      have yk:s1.heap.get? ex=none:=by
       cases z:s1.heap.get? ex with
       | none=>rfl
       | some o=>
        obtain ⟨ob,uH,h1,_,_,h3⟩:=fl.ex;have nf:ex∉frs X.stack:=fun hm=>nfr ex hm ob h1 uH h3;obtain ⟨_,z'⟩:=old ex o z nf;rw [fl.2.1] at z';cases z'
      have nH:H' ex=none:=by
       cases z:H' ex with
       | none=>rfl
       | some u=>
        obtain ⟨_,z'⟩:=tr ex u z;rw [fl.2.1] at z';cases z'
      have land:∀ h6 o6,jv B X.stack ex (.ref C) .none h6->s'.heap.UpToSlots h6->h6.get? ex=some o6->Inv X pins σ (upd H' ex (.frz o6 (.own 0))) { s' with heap:=h6 }:=fun h6 o6 f6 up g6=>by
       have xj:=un.slots fl.1 f6.1 up old nfr;have hok6:=hokk.slots fl.1 f6.1 tr;refine I1.call' os (ch:=[]) ⟨xj.keep,xj.slot,fun b o qo nb hx=>?_,xj.there,fun b xs qo=>?_,fun b o u qo=>?_,fun b ps qo=>?_⟩ (fun b u qo=>?_) bare (by simp)
       ·have:b≠ex:=fun z=>by rw [z,yk] at qo;cases qo
        rw [av this];exact xj.free b o qo nb hx
       ·have:=xj.tups b xs qo;rw [av (aK this nH)];exact this
       ·have:=xj.frzs b o u qo;rw [av (aK this nH)];exact this
       ·obtain ⟨more,this⟩:=xj.tbls b ps qo;exact ⟨more,by rw [av (aK this nH)];exact this⟩
       ·by_cases hb:b=ex
        ·subst hb;rw [aw] at qo;cases qo;exact ⟨g6,_,g6⟩
        ·rw [av hb] at qo;exact (hok6 b u qo).stay (fun c v _ z=>z) (fun c z=>by rw [av (aK z nH)];exact z) fun c xs z=>by rw [av (aK z nH)];exact z
      have e0:X.s₀.heap.get? ex=none:=by
       cases z:X.s₀.heap.get? ex with
       | none=>rfl
       | some o=>
        obtain ⟨_,z'⟩:=I1.base.there ex o z (by rw [hex];simp);rw [yk] at z';cases z'
      refine note2 vx hfm yL fun h4 yA up4=>?_;refine land2 yA fun h5 fl5 up5=>?_;obtain ⟨o5,_,g1,g2,_⟩:=fl5.ex;have I5:=rC (land h5 o5 (by rw [uh];exact fl5) (up4.trans up5) g1) e0 aw;refine wpAny_handleBy_cons (codeAny_handlers_test (i9 I5 hgy hY ?_ hdy)) (by intro z;cases z);have LT:Looks (model X.prog X.w) h5 (typeOf (.ref ex)) (.ref C):=g2▸(PySem.W.Looks.ld g1).andThen .now;refine (PySem.W.exm_one (K:=X.K) (h:=h5) I5.kIn LT (hok C hC)).at ?_;refine codeAny_handlers_suite_as ?_;refine land2 fl5 fun h6 fl6 up6=>?_;obtain ⟨o6,v6,k1,k2,k3,k4⟩:=fl6.ex;have J6:=land h6 o6 (by rw [uh];exact fl6) ((up4.trans up5).trans up6) k1;refine gj (X:=jR X ex o6) (v:=.ref ex) (rC J6 e0 aw) hN hi (.inl hl) rfl (fun s7 I7=>?_) (.inr hl);have W6:Wd H Hs (upd Hs' ex (.frz o6 (.own 0))) (upd H' ex (.frz o6 (.own 0))):=W'.trans (.lay W'.sub nH);have S6:StR H0 (upd Hs' ex (.frz o6 (.own 0))) (upd H' ex (.frz o6 (.own 0))) (δ.set i (some (.exc C))) (σ.set i (some (.ref ex))):=S.put W.keep W6 ⟨ex,rfl,o6,aw,k2⟩ (fun b z=>z.elim);refine Ap ((hs ex o6 v6 k4 k3).go H0 uw pins s7 _ _ { nx:=fun _ _=>False,rt:=D.rt } I7 ⟨_,_,_,W.trans W6,S6,eS,P⟩) (fun fl8 s8 z=>?_) fun _ _ z=>z.elim;cases fl8 with
      | next=>obtain ⟨_,_,_,z⟩:=z;exact z.elim
      | brk=>obtain ⟨_,_,_,z⟩:=z;exact z.elim
      | cont=>obtain ⟨_,_,_,z⟩:=z;exact z.elim
      | ret u=>
       obtain ⟨v,xZ,H8,I8,rv8,q8⟩:=z;exact name_goes (sU J6 e0 aw I8) hl fun s9 I9=>⟨v,_,H8,I9,rv8,q8⟩
end
end Ew
end
section
namespace Ew
open PySem PySem.Spec L2 PyProof.Rows
theorem rE {α:Type}:∀ l:List α,(List.range ((l.length+1) / 2)).filterMap (fun j=>l[2*j]?)=Mx.evens l
 | []=>by simp [Mx.evens]
 | [x]=>by simp [Mx.evens]
 | x::y::r=>by
  have e:((x::y::r).length+1) / 2=(r.length+1) / 2+1:=by simp only [zQ];omega
  have g:(fun j=>(x::y::r)[2*j]?)∘Nat.succ=fun j=>r[2*j]?:=by
   funext j;show (x::y::r)[2*(j+1)]?=_;rw [show 2*(j+1)=2*j+1+1 by omega,ug,ug]
  rw [e,List.range_succ_eq_map,List.filterMap_cons,List.filterMap_map,g,rE r];rfl
theorem fF {α:Type}:∀ l:List α,(Mx.evens l).length=(l.length+1) / 2
 | []=>by simp [Mx.evens]
 | [x]=>by simp [Mx.evens]
 | x::y::r=>by
  simp only [Mx.evens,zQ,fF r];omega
theorem qj {α β:Type} (f:α->β):∀ l:List α,Mx.evens (l.map f)=(Mx.evens l).map f
 | []=>rfl
 | [x]=>rfl
 | x::y::r=>by simp [Mx.evens,qj f r]
theorem rF:∀ {xs:List V} {us:List Value},aT xs us->aT (Mx.evens xs) (Mx.evens us)
 | _,_,.nil=>.nil
 | _,_,.cons r .nil=>.cons r .nil
 | _,_,.cons r (.cons _ t)=>.cons r (rF t)
theorem rG {H:Hp}:∀ {ds:List D} {vs:List V},aB H ds vs->aB H (Mx.evens ds) (Mx.evens vs)
 | [],_,h=>by unfold aB at h;rw [h];exact .nil
 | [d],_,h=>by
  unfold aB at h;obtain ⟨v,r,rfl,h1,h2⟩:=h;unfold aB at h2;rw [h2];exact .cons h1 .nil
 | d::d'::ds,_,h=>by
  unfold aB at h;obtain ⟨v,r,rfl,h1,h2⟩:=h;unfold aB at h2;obtain ⟨v',r',rfl,_,h3⟩:=h2;exact .cons h1 (rG h3)
noncomputable def loN (lo:Option Int):Option Nat:=match lo with
 | none=>some 0
 | some i=>if i=1 then some 1 else none
theorem pick2 (items:Array Value) {lo:Option Int} {a:Nat} (h:loN lo=some a):slicePick items lo none (some 2)=(Mx.evens (items.toList.drop a)).toArray:=by
 have hb:sliceBounds lo none (some 2) items.size=(((min a items.size:Nat):Int),(items.size:Int),2):=by
  unfold loN at h;cases lo with
  | none=>cases h;simp [sliceBounds]
  | some i=>
   simp only at h;split at h
   ·cases h;subst i;simp [sliceBounds];omega
   ·cases h
 unfold slicePick;rw [hb];simp only;have hr:sliceRange ((min a items.size:Nat):Int) (items.size:Int) 2=(List.range (((items.toList.drop a).length+1) / 2)).map fun j=>a+2*j:=by
  unfold sliceRange;simp only [List.length_drop,Array.length_toList];by_cases hl:a<items.size
  ·rw [if_pos (by decide),if_pos (by omega)];have:(((items.size:Int)-((min a items.size:Nat):Int)+2-1) / 2).toNat=(items.size-a+1) / 2:=by omega
   rw [this];refine List.map_congr_left fun k _=>?_;omega
  ·rw [if_pos (by decide),if_neg (by omega)];have:(items.size-a+1) / 2=0:=by omega
   rw [this];rfl
 rw [hr,List.filterMap_map,<-rE];congr 2;funext j;simp only [Function.comp,List.getElem?_drop,Array.getElem?_toList]
end Ew
namespace L2
open PySem PySem.Spec PyProof.Rows Ew
section
variable {X:Cx}
noncomputable def tSl2 (K:Frag) (te:TE) (tl:TO) (ts:TE):TE:=fun σ H Q=>te σ H fun x H1=>tl σ H1 fun lo H2=>ts σ H2 fun st H3=>st=.int 2/\∃ n a xs,loN lo=some n/\x=.ref a/\SqL K H3 a xs/\∀ p,H3 p=none->Q (.ref p) (upd H3 p (.lst (Mx.evens (xs.drop n))))
theorem pe_sl2 {e step:Expr} {lo:Option Expr} {te ts:TE} {tl:TO} {p2 pos:Pos} (he:PE X e te) (hl:PO X lo tl) (uh:PE X step ts):PE X (.Subscript e (.Slice lo none (some step) p2) pos) (tSl2 X.K te tl ts):=by
 intro pins s σ H Q I h;refine Subscript_ (thn (he pins s σ H _ I h) fun v s1 ⟨x,H1,I1,r1,q1⟩=>?_);refine wpAny_Slice (thn (hl pins s1 σ H1 _ I1 q1) fun vl s2 ⟨l,H2,I2,pl,q2⟩=>?_);rw [evalPart_none];refine uc ?_;rw [evalPart_some];refine thn (uh pins s2 σ H2 _ I2 q2) fun u s3 ⟨y,H3,I3,r3,e3,n,a,xs,hn,ex,hx,q3⟩=>?_;subst e3;subst ex;cases r1;obtain ⟨t,rfl⟩:=r3;have I4:Inv X pins σ H3 { s3 with heap:=s3.heap.push { cls:=.type "slice",data:=.fields #[vl,.none,.int 2 t] } }:=I3.kept (t':=s3.toks) fun b ob q=>yV _ q;obtain ⟨its,r,ht,hz⟩:=I4.list hx;have hlen:=r.length;show wpAny (model X.prog X.w) X.A (subscriptTail e (.Slice lo none (some step) p2) (.ref a) (.ref s3.heap.objs.size)) (EP X pins σ Q) X.xe { s3 with heap:=s3.heap.push { cls:=.type "slice",data:=.fields #[vl,.none,.int 2 t] } };refine tail_any (ops:=[.ref a,.ref s3.heap.objs.size]) ht.isList.typeIs slot_list_getitem.lookup ?_ (by with_unfolding_all rfl);refine wpAny_getItem_list_slice ht.isList (Heap.IsSliceOf.new ..) pl .none (.int 2 t) (by simp) ?_ (by rw [zf] <;> omega);rw [pick2 _ hn];refine ⟨.ref _,_,I4.laid (t':=s3.toks) (o:=.lst (Mx.evens (xs.drop n))) (fun b ob q=>yV _ q) (zp _) ?_,rfl,q3 _ (I4.hok.fresh (zp _))⟩;exact ⟨by rw [fF,List.length_drop];omega,Mx.evens (its.drop n),0,rF (r.drop n),zg _ rfl⟩
end
end L2
namespace Ew
open PySem PySem.Spec L2
section
variable {X:Cx}
noncomputable def dsl2 (f:FE) (fl:FO) (fs:FE):FE:=fun δ=>(f δ).bind fun r=>(fl δ).bind fun lo=>(fs δ).bind fun s=>match r.view,s with
 | .lst ds,.sh (.int k)=>if k=2 then (loN lo).map fun n=>.fr (Mx.evens (ds.drop n)) else none
 | _,_=>none
theorem de_sl2 {e step:Expr} {lo:Option Expr} {f fs:FE} {fl:FO} {p2 pos:Pos} (he:DE X e f) (hl:DO X lo fl) (uh:DE X step fs):DE X (.Subscript e (.Slice lo none (some step) p2) pos) (dsl2 f fl fs):=.mk <|
 (pe_sl2 he.go hl.go uh.go).weak fun σ H Q ⟨Hs,δ,r,S,En,e,K⟩=>by
  unfold dsl2 at e;cases ef:f δ with
  | none=>rw [ef] at e;cases e
  | some rf=>
   cases el:fl δ with
   | none=>rw [ef,el] at e;cases e
   | some lo=>
    cases es:fs δ with
    | none=>rw [ef,el,es] at e;cases e
    | some rs=>
     rw [ef,el,es] at e;refine ⟨Hs,δ,rf,S,En,ef,fun x uq H1 W1 R1=>⟨uq,δ,lo,W1.sub,En.mono W1,el,fun uv H2 W2=>⟨uv,δ,rs,W2.sub,En.mono (W1.trans W2),es,fun y tW H3 W3 R3=>?_⟩⟩⟩;have vw:=((R1.mono W2).mono W3).view;cases hv:rf.view with
     | lst ds=>
      rw [hv] at vw
      match rs,e,R3 with
      | .sh (.int k),e,R3=>
       simp only [ud,hv] at e;by_cases hk:k=2
       ·subst hk;rw [if_pos rfl] at e;have R3:Rep tW (.int 2) y:=R3;unfold Rep at R3;cases en:loN lo with
        | none=>rw [en] at e;cases e
        | some n=>
         rw [en] at e;cases e;obtain ⟨a,vs,rfl,h1,h2⟩:=vw.lst W3.sub;have W:=(W1.trans W2).trans W3;exact ⟨R3,n,a,vs,rfl,rfl,.of h1,fun p hp=>K _ tW _ (W.trans (.fresh W3.sub hp)) ⟨p,_,rfl,W.keep.free hp,W3.sub.free hp,aw,rG (h2.drop n)⟩⟩
       ·rw [if_neg hk] at e;cases e
      | .sh .non,e,_=>simp only [ud,hv] at e;cases e
      | .sh (.bl _),e,_=>simp only [ud,hv] at e;cases e
      | .sh (.str _),e,_=>simp only [ud,hv] at e;cases e
      | .sh (.lst _),e,_=>simp only [ud,hv] at e;cases e
      | .sh (.tup _),e,_=>simp only [ud,hv] at e;cases e
      | .sh (.obj _ _),e,_=>simp only [ud,hv] at e;cases e
      | .fr _,e,_=>simp only [ud,hv] at e;cases e
      | .bw _,e,_=>simp only [ud,hv] at e;cases e
     | _=>simp only [ud,hv] at e;cases e
end
end Ew
namespace L2
open PySem PySem.Spec PyProof.Rows
section
variable {prog:Program} {w:World} {A:Around} {E:Value->Shared->Prop} {s:Shared}
theorem ln {sl:Addr} {tk:Tok} {Q:Int×Int×Nat->Shared->Prop} (hs:s.heap.IsSliceOf sl .none .none (.int (-1) tk)) (h:Q ((1:Int),-1,2) s):wpAny (model prog w) A (Builtin.Slice.sliceApplied (.ref sl) (pure (2:Int))) Q E s:=by
 obtain ⟨os,yr,hcs,hds⟩:=id hs;unfold Builtin.Slice.sliceApplied Builtin.Slice.sliceFields;refine ub (ub (Ak yr hds (x:=Value.none) rfl (ub (Ak yr hds (x:=Value.none) rfl (ub (Ak yr hds (x:=.int (-1) tk) rfl (uc ?_)))))));refine ub (HT.slicePart_ (.int (-1) tk) ?_);show wpAny _ _ (if ((-1:Int)==0)=true then _ else _) _ _ s;rw [if_neg (by decide)];refine ub (HT.slicePart_ .none (ub (HT.slicePart_ .none (ub (uc ?_)))));exact uc h
theorem kE {t sl:Addr} {x y:Value} {tk:Tok} {Q:Value->Shared->Prop} (ht:IsTup s.heap t #[x,y]) (hs:s.heap.IsSliceOf sl .none .none (.int (-1) tk))
  (h:Q (.ref s.heap.objs.size) { s with heap:=s.heap.push { cls:=.type "tuple",data:=.seq #[y,x] } }):wpAny (model prog w) A (getItem (.ref t) (.ref sl)) Q E s:=by
 have uQ:sizeOk (.seq #[y,x]):=by show (2:Nat)<=sizeLine;decide
 obtain ⟨os,yr,hcs,hds⟩:=id hs;have hTs:s.TypeIs (.ref sl) "slice":=⟨os,yr,hcs⟩;unfold getItem
 try with_reducible refine wpAny_holding ?_
 first | refine ub (uc ?_) | skip
 refine ub (wpAny_sequenceKey ht.typeIs (by decide) ?_);refine ub (wpAny_callSpecial?_slot (name:=Str.ofString "__getitem__") ht.typeIs slot_tuple_getitem (wpAny_call_entry slot_tuple_getitem ht.typeIs PyProof.Rows.entry_tuple_getitem ?_ (PyProof.Rows.args_tuple_getitem _ _)));show wpAny _ _ (Builtin.Tuple.tupleItemsOf (.ref t) >>= _) _ _ s;refine ub (PyProof.Rows.tupleItemsOf_ ht ?_);refine ub (wpAny_typeOf hTs ?_);rw [if_pos (by decide)];refine ub (ln hs ?_);show wpAny _ _ (if ((1:Int)==0&&(-1:Int)==1&&(2:Nat)==2)=true then _ else _) _ _ s;rw [if_neg (by decide)];have e:((List.range 2).filterMap fun (k:Nat)=>(#[x,y]:Array Value)[((1:Int)+(k:Int)*-1).toNat]?).toArray=#[y,x]:=by rfl
 rw [e]
 first
  | exact ub (m:=Builtin.Tuple.tupleExact _) (wpAny_newObj_type (uc ⟨_,rfl,uc h⟩) uQ)
  | exact ub (m:=Builtin.Tuple.tupleExact _) (wpAny_newObj_type (ub (uc (uc ⟨_,rfl,uc h⟩))) uQ)
  | exact ub (ub (m:=Builtin.Tuple.tupleExact _) (wpAny_newObj_type (uc (uc ⟨_,rfl,uc h⟩)) uQ))
  | exact ub (ub (m:=Builtin.Tuple.tupleExact _) (wpAny_newObj_type (uc ⟨_,rfl,uc h⟩) uQ))
variable {X:Cx}
noncomputable def tRevT (K:Frag) (te ts:TE):TE:=fun σ H Q=>te σ H fun x H1=>ts σ H1 fun st H2=>st=.int (-1)/\∃ a v u,x=.ref a/\SqT K H2 a [v,u]/\∀ p,H2 p=none->Q (.ref p) (upd H2 p (.tup [u,v]))
set_option maxHeartbeats 2000000 in
theorem pe_revT {e step:Expr} {te ts:TE} {p2 pos:Pos} (he:PE X e te) (uh:PE X step ts):PE X (.Subscript e (.Slice none none (some step) p2) pos) (tRevT X.K te ts):=by
 intro pins s σ H Q I h;refine Subscript_ (thn (he pins s σ H _ I h) fun v s1 ⟨x,H1,I1,r1,q1⟩=>?_);refine wpAny_Slice ?_;rw [evalPart_none];refine uc (uc ?_);rw [evalPart_some];refine thn (uh pins s1 σ H1 _ I1 q1) fun u s2 ⟨y,H2,I2,r2,e2,a,v1,v2,ex,hx,q2⟩=>?_;subst e2;subst ex;cases r1;obtain ⟨t,rfl⟩:=r2;have I4:Inv X pins σ H2 { s2 with heap:=s2.heap.push { cls:=.type "slice",data:=.fields #[.none,.none,.int (-1) t] } }:=I2.kept (t':=s2.toks) fun b ob q=>yV _ q;obtain ⟨its,r,ht,hz⟩:=I4.tuple hx;obtain ⟨u1,u2,rfl,ra,rb⟩:=r.two;show wpAny (model X.prog X.w) X.A (subscriptTail e (.Slice none none (some step) p2) (.ref a) (.ref s2.heap.objs.size)) (EP X pins σ Q) X.xe { s2 with heap:=s2.heap.push { cls:=.type "slice",data:=.fields #[.none,.none,.int (-1) t] } };refine tail_any (ops:=[.ref a,.ref s2.heap.objs.size]) ht.typeIs PyProof.Rows.slot_tuple_getitem.lookup ?_ (by with_unfolding_all rfl);refine kE ht (Heap.IsSliceOf.new ..) ?_;refine ⟨.ref _,_,I4.laid (t':=s2.toks) (o:=.tup [v2,v1]) (fun b ob q=>yV _ q) (zp _) ?_,rfl,q2 _ (I4.hok.fresh (zp _))⟩;exact ⟨by show (2:Nat)<=sizeLine;decide,[u2,u1],.cons rb (.cons ra .nil),IsTup.new _ _⟩
end
end L2
namespace Ew
open PySem PySem.Spec L2
section
variable {X:Cx}
noncomputable def drevT (f fs:FE):FE:=fun δ=>(f δ).bind fun r=>(fs δ).bind fun s=>match r,s with
 | .sh (.tup [a,b]),.sh (.int k)=>if k=-1 then some (.sh (.tup [b,a])) else none
 | _,_=>none
theorem de_revT {e step:Expr} {f fs:FE} {p2 pos:Pos} (he:DE X e f) (uh:DE X step fs):DE X (.Subscript e (.Slice none none (some step) p2) pos) (drevT f fs):=.mk <|
 (pe_revT he.go uh.go).weak fun σ H Q ⟨Hs,δ,r,S,En,e,K⟩=>by
  unfold drevT at e;cases ef:f δ with
  | none=>rw [ef] at e;cases e
  | some rf=>
   cases es:fs δ with
   | none=>rw [ef,es] at e;cases e
   | some rs=>
    rw [ef,es] at e;simp only [ud] at e;split at e
    ·next a b k=>
     split at e
     ·next hk=>
      cases e;subst hk;refine ⟨Hs,δ,_,S,En,ef,fun x uq H1 W1 R1=>⟨uq,δ,_,W1.sub,En.mono W1,es,fun y uv H2 W2 R2=>?_⟩⟩;have R2:Rep uv (.int (-1)) y:=R2;unfold Rep at R2;have R1:Rep uv (.tup [a,b]) x:=R1.mono W2;unfold Rep at R1;obtain ⟨p0,vs,ex,h1,h2⟩:=R1;unfold aB at h2;obtain ⟨v,r1,rfl,ha,h3⟩:=h2;unfold aB at h3;obtain ⟨u,r2,rfl,hb,h4⟩:=h3;unfold aB at h4;subst h4;have W:=W1.trans W2;refine ⟨R2,p0,v,u,ex,.of (W2.sub _ _ h1),fun p hp=>K _ (upd uv p (.tup [u,v])) _ (W.trans (.lay W2.sub hp)) ?_⟩;have nS:=W2.sub.free hp;show Rep _ (.tup [b,a]) _;unfold Rep;exact ⟨p,_,rfl,aw,.cons (Rep.mono (.new nS) b hb) (.cons (Rep.mono (.new nS) a ha) .nil)⟩
     ·cases e
    ·cases e
end
end Ew
end
section
namespace Ew
open PySem PySem.Spec L2 PyProof.Rows PySem.W
def ExcAt (C a:Addr) (h:Heap):Prop:=∃ o,h.get? a=some o/\o.cls=.ref C
theorem ExcAt.ty {M:Model} {h:Heap} {C a:Addr} (x:ExcAt C a h):Looks M h (typeOf (.ref a)) (.ref C):=by
 obtain ⟨o,h1,h2⟩:=x;exact h2▸(Looks.ld h1).andThen .now
structure Xo (K:Frag) (C:Addr):Prop where
 cl:(clsIn K C).isSome=true
 ga:findIn K (.ref C) "__getattribute__" = some (some (.builtin "BaseException.__getattribute__"))
 hb:mroIn K C (.type "BaseException")=some true
 gh:findIn K (.ref C) "__getattr__" = some none
 ha:findIn K (.ref C) "__class__" = some (some (.builtin "object.__class__"))
 hn:specialIn K (.builtin "object.__class__") "__get__" = some (some (.builtin "getset_descriptor.__get__"))
 ht:takesIn K (.builtin "object.__class__")=some true
 hm:mroIn K C (.type "object")=some true
open Builtin Builtin.ObjectAttr in
theorem xfind {K:Frag} {M:Model} {h:Heap} (X:K.In h) {v:Value} {C:Addr} {n:Str} {a g:Value} (e1:findIn K (.ref C) n=some (some a)) (e2:specialIn K a "__get__" = some (some g)) (e3:takesIn K a=some true) :
  Looks M h (find v (.ref C) n) (.bind g a):=by
 have k1:=looks_findIn (M:=M) X e1;have k2:Looks M h (getOf (some a)) (some g):=looks_specialIn X e2;have k3:Looks M h (dataDescriptor? (some a) (some g)) (some (g,a)):=(looks_takesIn (M:=M) X e3).andThen .now;exact k1.andThen (k2.andThen (k3.andThen (Looks.tag .now)))
section
variable {prog:Program} {w:World} {A:Around} {E:Value->Shared->Prop} {s:Shared} {K:Frag} {x C:Addr}
open Builtin Builtin.ObjectAttr Builtin.Getset_descriptor in
theorem sV {R:Result->Shared->Prop} {tp:Value} (X:K.In s.heap) (I:ExcAt C x s.heap) (hm:mroIn K C (.type "object")=some true) (h:R (.ok (.ret (.ref C))) s) :
  codeAny (model prog w) A (.call (.builtin "getset_descriptor.__get__") ⟨[.builtin "object.__class__",.ref x,tp],[]⟩) R s:=by
 obtain ⟨h0,g0,d0,t0,o0⟩:=s;have k0:=I.ty (M:=model prog w);have k1:=looks_mroIn (M:=model prog w) X hm;refine codeAny_call_builtin KF.slot_gs.plain KF.entry_gs (KF.slot_gs.check _ _ _ _ _ _ _ _ KF.type_class (KF.args_gs _ _ _) ?_);unfold Builtin.«getset_descriptor.__get__» descrGet;rw [dga_obj];refine ub (uc ?_);unfold descrGetter descrCheckInstance descrNameAndClass isInstance;simp only [KF.owner_class]
 repeat lk
 refine ⟨Code.quiet_builtin _ (by decide +kernel),codeAny_builtin KF.entry_class ?_⟩;unfold Builtin.«object.__class__» shownTypeOf;repeat lk
 exact h
theorem xca (o:Xo K C) {Q:Option Value->Shared->Prop} (X:K.In s.heap) (I:ExcAt C x s.heap) (h:Q (some (.ref C)) { s with toks:=s.toks+1 }):wpAny (model prog w) A (getAttr? (.ref x) "__class__") Q E s:=by
 obtain ⟨h0,g0,d0,t0,o0⟩:=s;have k0:=I.ty (M:=model prog w);have k1:=looks_findIn (M:=model prog w) X o.ga;have k2:=looks_findIn (M:=model prog w) X o.gh;have k3:=xfind (M:=model prog w) (v:=.ref x) X o.ha o.hn o.ht;have k4:=looks_mroIn (M:=model prog w) X o.hb;have hk:builtinKind "BaseException.__getattribute__" = some .slot:=by decide +kernel
 have hp:splitId "BaseException.__getattribute__" = some ("BaseException", "__getattribute__"):=by decide +kernel
 unfold getAttr? getAttrBy?;unfold getAttrBy;refine ub (wpAny_mkText (ub (wpAny_attempt (wpAny_holding (ub (k0.at (ub (k1.at ?_))))))));have hx:(onTheHeap (Value.ref C)&&Value.builtin "BaseException.__getattribute__"==Value.builtin "object.__getattribute__")=false:=by
  rw [show (Value.builtin "BaseException.__getattribute__"==Value.builtin "object.__getattribute__")=false by decide +kernel];rfl
 dsimp only;rw [hx,if_neg (by decide)];unfold getAttrByItsOwn hookBefore callGetattribute boundAndCalled;refine ub (k2.at (ub (wpAny_attempt (wpAny_holding ?_))));rw [if_neg (by decide),F.excAttr_ValueError.ga.bind];refine ub (uc (wpAny_call (codeAny_call_builtin F.excAttr_ValueError.ga.plain F.entry_bexc_ga ?_)));have ha:=F.args_bexc_ga (.ref x) (.str (Str.ofString "__class__") t0);simp only [checkBuiltinCall,hk,hp];refine ub ?_;unfold isInstance;refine ub (k0.at (k4.at ?_));rw [if_neg (by decide)];refine wpAny_of_eq (a:=()) ha ?_;unfold Builtin.«object.__getattribute__»;refine ub (uc (ub (uc (ub (k0.at (ub (k3.at ?_)))))));show wpAny _ _ (holding [.builtin "object.__class__"] (call (.builtin "getset_descriptor.__get__") [.builtin "object.__class__",.ref x,.ref C]) >>= fun v=>ret v) _ _ _;refine ub (wpAny_holding (wpAny_call (sV (s:=⟨h0,g0,d0,t0+1,o0⟩) X I o.hm (uc ?_))));show wpAny _ _ (handedOut (.ref C)) _ _ _;rw [handedOut_of rfl];exact uc (uc h)
end
theorem Xo.kit {K:Frag} {C x:Addr} (o:Xo K C):KitX K (.ref x) (.ref C) (ExcAt C x) where
 ty:=fun _ _ _ I=>I.ty
 it:=fun _ _ X _=>by
  obtain ⟨cd,e⟩:=Option.isSome_iff_exists.mp o.cl;unfold clsIn at e;split at e
  ·next ho=>
   intro A' Q' E' s' k q;exact ub (wpAny_loadPart (k _ _ (X _ _ ho)) (uc q))
  ·cases e
 ne:=fun h tp dd its n sl X htp=>by
  obtain ⟨cd,e⟩:=Option.isSome_iff_exists.mp o.cl;refine Bool.eq_false_iff.mpr fun q=>?_;cases Value.ref.inj (beq_iff_eq.mp q);unfold clsIn at e;split at e
  ·next ho=>
   have z:=(X _ _ ho).symm.trans htp;cases z
  ·cases e
 ca:=fun X I k=>xca o X I k
theorem xo_mk {K:Frag} {C:Addr} {oc:Value} {od:Option Addr} {cd:ClassData} {sl:Array (Option Value)} (h1:K.lookup C=some ⟨oc,od,.cls cd,sl⟩) (ga:findIn K (.ref C) "__getattribute__" = some (some (.builtin "BaseException.__getattribute__"))) (hb:mroIn K C (.type "BaseException")=some true)
  (gh:findIn K (.ref C) "__getattr__" = some none) (ha:findIn K (.ref C) "__class__" = some (some (.builtin "object.__class__"))) (hn:specialIn K (.builtin "object.__class__") "__get__" = some (some (.builtin "getset_descriptor.__get__"))) (ht:takesIn K (.builtin "object.__class__")=some true) (hm:mroIn K C (.type "object")=some true):Xo K C:=
 ⟨by unfold clsIn;rw [show List.lookup C K=_ from h1];rfl,ga,hb,gh,ha,hn,ht,hm⟩
theorem kit_subT {K:Frag} {C:Addr} {b:Bool} (h:subIn K (.ref C) (.type "ValueError")=some b):kitOne K (.ref C) (.type "ValueError")=some b:=by
 unfold kitOne;rw [if_neg (by simp)];show (if kitMeta "ValueError" = true then _ else none)=_;rw [if_pos (by decide +kernel)];exact h
theorem exm_mk {K:Frag} {C Y:Addr} {oc:Value} {od:Option Addr} {cd:ClassData} {sl:Array (Option Value)} (h1:K.lookup Y=some ⟨oc,od,.cls cd,sl⟩) (h2:typeIn K (.ref Y)=some (.type "type")) (h3:subIn K (.ref C) (.ref Y)=some true) (h4:subIn K (.ref Y) (.type "BaseException")=some true):exmOne K (.ref C) (.ref Y)=some true:=by
 unfold exmOne;rw [h4,if_pos (by decide)];show (if ((clsIn K Y).isSome&&typeIn K (.ref Y)==some (.type "type"))=true then _ else none)=_;have hc:clsIn K Y=some cd:=by
  unfold clsIn;rw [show List.lookup Y K=_ from h1]
 rw [hc,h2];simpa using h3
def isA (l:List (Addr×Bool)) (C:Addr):Option Bool:=l.lookup C
noncomputable def Xa (K:Frag) (uA:Addr->Option Bool) (cu:Value):Prop:=∀ C b,uA C=some b->Xo K C/\kitOne K (.ref C) cu=some b
theorem jS {K:Frag} {cu:Value}:Xa K (isA []) cu:=fun _ _ h=>by cases h
theorem gZ {K:Frag} {cu:Value} {C:Addr} {b:Bool} {l:List (Addr×Bool)} (o:Xo K C) (k:kitOne K (.ref C) cu=some b) (t:Xa K (isA l) cu):Xa K (isA ((C,b)::l)) cu:=fun D d h=>by
 unfold isA at h;rw [List.lookup_cons] at h;cases e:D==C with
 | true=>
  rw [e] at h;cases h;cases beq_iff_eq.mp e;exact ⟨o,k⟩
 | false=>rw [e] at h;exact t D d h
noncomputable def Xm (K:Frag) (uA:Addr->Option Bool) (Y:Addr):Prop:=∀ C,uA C=some true->exmOne K (.ref C) (.ref Y)=some true
theorem xm_nil {K:Frag} {Y:Addr}:Xm K (isA []) Y:=fun _ h=>by cases h
theorem xm_cons {K:Frag} {Y C:Addr} {b:Bool} {l:List (Addr×Bool)} (k:exmOne K (.ref C) (.ref Y)=some true) (t:Xm K (isA l) Y):Xm K (isA ((C,b)::l)) Y:=fun D h=>by
 unfold isA at h;rw [List.lookup_cons] at h;cases e:D==C with
 | true=>cases beq_iff_eq.mp e;exact k
 | false=>rw [e] at h;exact t D h
structure Xd (K:Frag) (mg:Str->Option Value) (C:Addr) (n:Str):Prop where
 g:mg n=some (.ref C)
 x:excIn K C [.type "ValueError",.type "Exception",.type "BaseException",.type "object"] "ValueError.__new__" = true
theorem xd_mk {K:Frag} {mg:Str->Option Value} {h:Heap} (KX:K.In h) (G:h.Ns mainGlobals mg) {C:Addr} {n:Str} (e1:nsIn K mainGlobals n=some (some (.ref C))) (e2:excIn K C [.type "ValueError",.type "Exception",.type "BaseException",.type "object"] "ValueError.__new__" = true):Xd K mg C n:=
 ⟨mg_of KX G e1,e2⟩
noncomputable def me (i:Nat) (uA:Addr->Option Bool):FE:=fun δ=>match δ[i]? with
 | some (some (.exc C))=>(uA C).map fun b=>.sh (.bl b)
 | _=>none
section
variable {X:Cx} {x y:Str} {i:Nat} {uA:Addr->Option Bool} {cv:V} {cu:Value} {ce:Expr} {p p1 pos:Pos}
theorem c_isx:cJ X (.builtin "isinstance") (fun xs H Q=>∃ a C cu cv b o,xs=[.ref a,cv]/\((∃ n,cv=.ty n)\/∃ a,cv=.ref a)/\RelV cv cu/\H a=some (.frz o (.own 0))/\o.cls=.ref C/\Xo X.K C/\kitOne X.K (.ref C) cu=some b/\Q (.bl b) H):=by
 intro pins s σ H xs us Q I rv h;obtain ⟨a,C,cu,cv,b,o,rfl,hc,rc,ha,yC,xo,hk,q⟩:=h;obtain ⟨u,u2,rfl,ru,ru2⟩:=rv.two;cases RelV.fn hc rc ru2;cases (show u=Value.ref a from ru);obtain ⟨g1,_⟩:=(show cI X.prog X.w H s.heap a (.frz o (.own 0)) from I.hok a _ ha);exact kia_one (xo.kit (x:=a)) I.kIn ⟨o,g1,yC⟩ hk (fun z=>nomatch z) fun tk=>⟨.bl b,H,I.tok tk,rfl,q⟩
theorem de_isx (hv:PE X (.Name x p) (kX i)) (hc:PE X ce (tC cv)) (hcv:(∃ n,cv=.ty n)\/∃ a,cv=.ref a) (rc:RelV cv cu) (hk:Xa X.K uA cu) (hg:Gl X "isinstance") (hm:X.mg "isinstance" = none)
  (hs:starEach [.Name x p,ce] X.env=(false,eval (.Name x p) X.env)::starEach [ce] X.env:=by rfl) (uF:starEach [ce] X.env=(false,eval ce X.env)::starEach [] X.env:=by rfl) (hpl:(backTo pos (starEach [ce] X.env)).any (·.1)=false:=by rfl) :
  DE X (.Call (.Name "isinstance" p1) [.Name x p,ce] [] pos) (me i uA):=.mk <|
 (gk c_isx hg hm boot_isinstance (bO hv (bO hc dl uF) hs) (he:=hs) (hpl:=hpl)).weak fun σ H Q ⟨Hs,δ,r,S,En,e,K⟩=>by
  unfold me at e;split at e
  ·next C q=>
   cases ea:uA C with
   | none=>rw [ea] at e;cases e
   | some b=>
    rw [ea] at e;cases e;obtain ⟨v,hv,a,rfl,o,h1,yC⟩:=En i _ q;obtain ⟨xo,hkk⟩:=hk C b ea;exact ⟨_,hv,a,C,cu,cv,b,o,rfl,hcv,rc,S _ _ h1,yC,xo,hkk,K _ Hs H (.refl S) (shB _ _ _ _)⟩
  ·cases e
theorem ixc {n:Str} {C:Addr} (d:Xd X.K X.mg C n) (hk:Xa X.K uA (.ref C)) (hm:X.mg "isinstance" = none) (hg:Gl X "isinstance":=by rfl) (hgn:Gl X n:=by rfl) (vm:(n==("__debug__" : Str))=false:=by decide)
 (hN:X.N[i]?=some x:=by rfl) (hv:Vis X.env.scope x:=by first | exact Or.inl rfl | exact Or.inr (Or.inl rfl) | exact Or.inr (Or.inr rfl)) (hd:(x==("__debug__" : Str))=false:=by decide) (uX:(x==("__classdict__" : Str))=false:=by decide)
 (hs:starEach [.Name x p,.Name n p1] X.env=(false,eval (.Name x p) X.env)::starEach [.Name n p1] X.env:=by exact bu rfl) (uF:starEach [.Name n p1] X.env=(false,eval (.Name n p1) X.env)::starEach [] X.env:=by exact bu rfl) (hpl:(backTo pos (starEach [.Name n p1] X.env)).any (·.1)=false:=by rfl) {p2:Pos} :
 DE X (.Call (.Name "isinstance" p2) [.Name x p,.Name n p1] [] pos) (me i uA):=de_isx (pv i hN hv hd uX) (pI (v:=.ref C) hgn d.g rfl vm) (.inr ⟨_,rfl⟩) rfl hk hg hm hs uF hpl
theorem ixt (hn:X.mg "ValueError" = none) (hk:Xa X.K uA (.type "ValueError")) (hm:X.mg "isinstance" = none) (hg:Gl X "isinstance":=by rfl) (hgn:Gl X "ValueError":=by rfl)
 (hN:X.N[i]?=some x:=by rfl) (hv:Vis X.env.scope x:=by first | exact Or.inl rfl | exact Or.inr (Or.inl rfl) | exact Or.inr (Or.inr rfl)) (hd:(x==("__debug__" : Str))=false:=by decide) (uX:(x==("__classdict__" : Str))=false:=by decide)
 (hs:starEach [.Name x p,.Name "ValueError" p1] X.env=(false,eval (.Name x p) X.env)::starEach [.Name "ValueError" p1] X.env:=by exact bu rfl) (uF:starEach [.Name "ValueError" p1] X.env=(false,eval (.Name "ValueError" p1) X.env)::starEach [] X.env:=by exact bu rfl) (hpl:(backTo pos (starEach [.Name "ValueError" p1] X.env)).any (·.1)=false:=by rfl) {p2:Pos} :
 DE X (.Call (.Name "isinstance" p2) [.Name x p,.Name "ValueError" p1] [] pos) (me i uA):=de_isx (pv i hN hv hd uX) (j8 (v:=.ty "ValueError") hgn hn (by kernel_rfl) rfl) (.inl ⟨_,rfl⟩) rfl hk hg hm hs uF hpl
end
abbrev OkX {K:Frag} {x q:Str} {st:Stmt} {ps:List Str} (P:Program) (w:World) (mg:Str->Option Value) (base:Heap) (k:Nat) (F:Fb K x q st ps) (sp:Sp):Prop:=dJ P w K mg base (CXr P w) k F.f F.fd ps sp
section
variable {P:Program} {w:World} {K:Frag} {mg:Str->Option Value} {base:Heap} {x q:Str} {st:Stmt} {ps:List Str} {k:Nat} {G:DSt->Option Addr}
abbrev BodX (P:Program) (w:World) (mg:Str->Option Value) (base:Heap) (k:Nat) (F0:Fb K x q st ps) (L:List Str) (G:DSt->Option Addr):Prop:=
 ∀ (ux:Value) (A:Around) (outer:List Env) (s:Shared) (H:Hp) (E:XK),bx k (A.deeper (envOfC q (au st) s.heap.objs.size F0.f ux))->(ps++L).Nodup->DXs (ju (CXr P w) P w K mg base (ps++L) q (au st) F0.f ux A outer s H E) E (aY st) G
theorem fX {F0:Fb K x q st ps} (L:List Str) (h:BodX P w mg base k F0 L G) (S:gg (ps++L) ps (au st)=true:=by kernel_rfl):OkX P w mg base (k+1) F0 (spX ps.length (runX (ps++L).length G)):=
 fn_X F0.fn (gg.fs S) fun ux A o s H E hr=>h ux A o s H E hr (gg.fs S).nd
end
section
variable {X:Cx} {E:XK} {x n y:Str} {st:Stmt} {ps:List Str} {k j m i:Nat} {Y:Addr} {mx:List D->Option Addr} {e:Expr} {es:List Expr} {fr:DSt->Option (List R)} {p tQ vC np xA pos:Pos} {b0:Stmt} {uZ:List Stmt} {uA:Addr->Option Bool} {F:FS}
theorem xu {F:Fd X.K X.mg x st ps} (G:OkX X.prog X.w X.mg X.base k F.toFb (spX m mx)) (hX:XR X E) (hr:bx j X.A) (ha:DA X (e::es) fr) (hk:k<=j:=by decide)
  (hg:Gl X x:=by rfl) (vm:(x==("__debug__" : Str))=false:=by decide) (he:starEach (e::es) X.env=(false,eval e X.env)::starEach es X.env:=by exact bu rfl) (hpl:(backTo pos (starEach es X.env)).any (·.1)=false:=by rfl)
  (hs:swapsWith (.Call (.Name x p) (e::es) [] pos) none vC.line X.env=pure false:=by rfl):DX X E (.Expr (.Call (.Name x p) (e::es) [] pos) vC) (eZ m mx fr):=
 dx_call hX ⟨F.fn,F.mgx,F.bd⟩ G (hr.mono hk) ha hg vm he hpl hs
theorem sty {Fx:Fd X.K X.mg x st ps} (G:OkX X.prog X.w X.mg X.base k Fx.toFb (spX m mx)) (hr:bx j X.A) (ha:DA X.nox (e::es) fr) (d:Xd X.K X.mg Y y) (hok:Xm X.K uA Y) (hN:X.N.Nodup) (hs:∀ ea o vs,o.data=.fields vs->vs[2]?=some .none->DSs (jR X ea o) (b0::uZ) F) (hk:k<=j:=by decide) (hex:X.ex=[]:=by rfl)
  (hi:X.N[i]?=some n:=by rfl) (hl:X.env.scope.names.lookup n=some .local:=by rfl) (uh:X.stack=X.env::X.outer:=by rfl) (hfm:X.env.frame=some X.env.locals:=by rfl)
  (hgy:Gl X y:=by rfl) (hdy:(y==("__debug__" : Str))=false:=by decide) (hg:Gl X x:=by rfl) (vm:(x==("__debug__" : Str))=false:=by decide)
  (he:starEach (e::es) X.env=(false,eval e X.env)::starEach es X.env:=by exact bu rfl) (hpl:(backTo tQ (starEach es X.env)).any (·.1)=false:=by rfl)
  (uE:swapsWith (.Call (.Name x p) (e::es) [] tQ) none vC.line X.env=pure false:=by rfl) :
  DS X (.Try [.Expr (.Call (.Name x p) (e::es) [] tQ) vC] [.ExceptHandler (some (.Name y np)) (some n) (b0::uZ) xA] [] [] pos) (stry i uA (eZ m mx fr) F):=
 ds_try ⟨Fx.fn,Fx.mgx,Fx.bd⟩ G (hr.mono hk) ha uh hfm d.g hok hN hi hl hs hex hgy hdy hg vm he hpl uE
end
end Ew
end
section
namespace Ew
open PySem PySem.Spec L2
structure Enc (α:Type) [DecidableEq α] where
 e:α->D
 k:Nat
 ok:∀ a,(e a).plain=true/\(e a).py.canLay0=true/\(e a).py.depth<=k
 eq:∀ a b,eqP (e a) (e b)=decide (a=b)
noncomputable def Enc.int:Enc Int:=⟨.int,1,fun i=>by
 obtain ⟨a,b,c⟩:=b6 (fU i);exact ⟨a,b,by unfold D.py PyData.depth;omega⟩,mB⟩
section
variable {α β:Type} [DecidableEq α] [DecidableEq β]
theorem eqP_tup3 (a b c a' b' c':D):eqP (.tup [a,b,c]) (.tup [a',b',c'])=(eqP a a'&&(eqP b b'&&eqP c c')):=by
 simp only [eqP,D.py,pys,PyData.eqv,PyData.eqvAll,Bool.and_true]
theorem eqP_tup2 (a b a' b':D):eqP (.tup [a,b]) (.tup [a',b'])=(eqP a a'&&eqP b b'):=by
 simp only [eqP,D.py,pys,PyData.eqv,PyData.eqvAll,Bool.and_true]
theorem rH {k:Nat} {ds:List D} (h:∀ d∈ds,d.py.depth<=k):PyData.depthAll (pys ds)<=k:=iL fun d hd=>by
 rw [gR] at hd;obtain ⟨e,he,rfl⟩:=zH.mp hd;exact h e he
theorem ok_tup {k:Nat} {ds:List D} (h:∀ d∈ds,d.plain=true/\d.py.canLay0=true/\d.py.depth<=k):(D.tup ds).plain=true/\(D.tup ds).py.canLay0=true/\(D.tup ds).py.depth<=k+1:=by
 refine ⟨?_,?_,?_⟩
 ·unfold D.plain;rw [jO];exact Ag.mpr fun d hd=>(h d hd).1
 ·unfold D.py PyData.canLay0;rw [gf,gR];exact Ag.mpr fun d hd=>by
   obtain ⟨e,he,rfl⟩:=zH.mp hd;exact (h e he).2.1
 ·unfold D.py PyData.depth;have:=rH (k:=k) fun d hd=>(h d hd).2.2;omega
noncomputable def Enc.tri (A:Enc α) (B:Enc β):Enc (α×α×β):=⟨fun s=>.tup [A.e s.1,A.e s.2.1,B.e s.2.2],max A.k B.k+1,fun s=>ok_tup fun d hd=>by
 simp at hd;rcases hd with rfl | rfl | rfl
 ·have:=A.ok s.1;exact ⟨this.1,this.2.1,by omega⟩
 ·have:=A.ok s.2.1;exact ⟨this.1,this.2.1,by omega⟩
 ·have:=B.ok s.2.2;exact ⟨this.1,this.2.1,by omega⟩,fun a b=>by
 rw [eqP_tup3,A.eq,A.eq,B.eq];rcases a with ⟨a1,a2,a3⟩
 rcases b with ⟨b1,b2,b3⟩
 simp⟩
noncomputable def Enc.par (A:Enc α) (B:Enc β):Enc (α×β):=⟨fun s=>.tup [A.e s.1,B.e s.2],max A.k B.k+1,fun s=>ok_tup fun d hd=>by
 simp at hd;rcases hd with rfl | rfl
 ·have:=A.ok s.1;exact ⟨this.1,this.2.1,by omega⟩
 ·have:=B.ok s.2;exact ⟨this.1,this.2.1,by omega⟩,fun a b=>by
 rw [eqP_tup2,A.eq,B.eq];rcases a with ⟨a1,a2⟩
 rcases b with ⟨b1,b2⟩
 simp⟩
variable (A:Enc α)
theorem Enc.okD (h:A.k<=16) (a:α):Ew.okD (A.e a)=true:=by
 obtain ⟨p,q,r⟩:=A.ok a;unfold Ew.okD;rw [p,q];simp;omega
theorem Enc.okL (h:A.k<=15) (as:List α):Ew.okD (.lst (as.map A.e))=true:=qZ fun d hd=>by
 obtain ⟨a,_,rfl⟩:=zH.mp hd;obtain ⟨p,q,r⟩:=A.ok a;exact ⟨p,q,by omega⟩
theorem Enc.oEq (h:A.k<=15) (a b:α):Ew.oEq (A.e a) (A.e b)=some (.sh (.bl (decide (a=b)))):=by
 unfold Ew.oEq;rw [if_pos ⟨A.okD (by omega) a,A.okD (by omega) b⟩,A.eq]
theorem Enc.oNe (h:A.k<=15) (a b:α):Ew.oNe (A.e a) (A.e b)=some (.sh (.bl (!decide (a=b)))):=by
 unfold Ew.oNe;rw [if_pos ⟨A.okD (by omega) a,A.okD (by omega) b⟩,A.eq]
theorem Enc.any (a:α) (as:List α):((as.map A.e).any fun y=>eqP y (A.e a))=decide (a∈as):=by
 induction as with
 | nil=>rfl
 | cons b as ih=>
  simp only [zb,List.any_cons,ih,A.eq];by_cases h:b=a
  ·subst h;simp
  ·have h2:¬a=b:=fun e=>h e.symm;simp [h,h2]
theorem Enc.oIn (h:A.k<=15) (a:α) (as:List α):Ew.oIn (A.e a) (.lst (as.map A.e))=some (.sh (.bl (decide (a∈as)))):=by
 show (if Ew.okD (A.e a)=true/\Ew.okD (D.lst (List.map A.e as))=true then some (R.sh (D.bl ((as.map A.e).any fun y=>eqP y (A.e a)))) else none)=_;rw [if_pos ⟨A.okD (by omega) a,A.okL h as⟩,A.any]
theorem Enc.oNotIn (h:A.k<=15) (a:α) (as:List α):Ew.oNotIn (A.e a) (.lst (as.map A.e))=some (.sh (.bl (!decide (a∈as)))):=by
 show (if Ew.okD (A.e a)=true/\Ew.okD (D.lst (List.map A.e as))=true then some (R.sh (D.bl (!(as.map A.e).any fun y=>eqP y (A.e a)))) else none)=_;rw [if_pos ⟨A.okD (by omega) a,A.okL h as⟩,A.any]
theorem Enc.oEqL (h:A.k<=15) (as bs:List α):Ew.oEq (.lst (as.map A.e)) (.lst (bs.map A.e))=some (.sh (.bl (decide (as=bs)))):=by
 unfold Ew.oEq;rw [if_pos ⟨A.okL h as,A.okL h bs⟩];congr 3;have key:∀ as bs:List α,PyData.eqvAll (pys (as.map A.e)) (pys (bs.map A.e))=decide (as=bs):=by
  intro as
  induction as with
  | nil=>intro bs;cases bs <;> simp [pys,PyData.eqvAll]
  | cons a as ih=>
   intro bs;cases bs with
   | nil=>simp [pys,PyData.eqvAll]
   | cons b bs=>
    simp only [zb,pys,PyData.eqvAll,ih];have:=A.eq a b;unfold eqP at this;rw [this];simp
 unfold eqP D.py PyData.eqv;exact key as bs
end
theorem qk {α:Type} (xs:List α):atI xs (-1)=xs.getLast?:=by
 unfold atI ixN;cases xs with
 | nil=>simp
 | cons x xs=>
  have h1:¬((0:Int)<=-1):=by omega
  have h2:-((x::xs).length:Int)<=-1:=by simp;omega
  rw [if_neg h1,if_pos h2];have e:((-1:Int)+((x::xs).length:Nat)).toNat=(x::xs).length-1:=by simp;omega
  show (x::xs)[_]?=_;rw [e,List.getLast?_eq_getElem?]
theorem jT {α:Type} (xs:List α) (i:Nat):atI xs (i:Int)=xs[i]?:=by
 unfold atI ixN;rw [if_pos (by omega)];by_cases h:i<xs.length
 ·rw [if_pos (by omega)];rfl
 ·rw [if_neg (by omega),List.getElem?_eq_none (by omega)];rfl
theorem dN {α:Type} (xs:List α):atI xs 0=xs[0]?:=jT xs 0
theorem dB {α:Type} (xs:List α):atI xs 1=xs[1]?:=jT xs 1
theorem atI_2 {α:Type} (xs:List α):atI xs 2=xs[2]?:=jT xs 2
theorem getLast?_map' {α β:Type} (f:α->β) (xs:List α):(xs.map f).getLast?=xs.getLast?.map f:=by
 rw [List.getLast?_eq_getElem?,List.getLast?_eq_getElem?,zc,uk]
end Ew
end
section
set_option maxHeartbeats 4000000
namespace Pg
open PySem PySem.Spec L2 Ew
noncomputable def top (i:Nat):Stmt:=PySem.Challenge.pw_earworks_k05_whole_ways.main.body.getD i (.Pass ⟨0,0,0,0⟩)
structure CA where
 Answer:Addr
 BadCount:Addr
 BadPoint:Addr
 BadText:Addr
 BadWeb:Addr
 Bar:Addr
 Part:Addr
 Tied:Addr
 TooFew:Addr
 Wall:Addr
 Ways:Addr
 Web:Addr
 WebError:Addr
noncomputable def dY (c:CA):D->Option Bool:=isT [(c.Bar,true),(c.Part,true),(c.Wall,true),(c.Ways,true),(c.Web,false)]
noncomputable def jU (c:CA):D->Option Bool:=isT [(c.Bar,true),(c.Part,false),(c.Wall,false),(c.Ways,false),(c.Web,false)]
noncomputable def g9 (c:CA):D->Option Bool:=isT [(c.Bar,false),(c.Part,true),(c.Wall,false),(c.Ways,false),(c.Web,false)]
noncomputable def fV (c:CA):D->Option Bool:=isT [(c.Bar,false),(c.Part,false),(c.Wall,true),(c.Ways,false),(c.Web,false)]
noncomputable def hJ (c:CA):D->Option Bool:=isT [(c.Bar,false),(c.Part,false),(c.Wall,false),(c.Ways,true),(c.Web,false)]
noncomputable def ql (c:CA):D->Option Bool:=isT [(c.Bar,false),(c.Part,false),(c.Wall,false),(c.Ways,false),(c.Web,true)]
def fW (c:CA):Addr->Option Bool:=isA [(c.Tied,true)]
def fY (c:CA):Addr->Option Bool:=isA [(c.Tied,false)]
def fZ (c:CA):Addr->Option Bool:=isA [(c.Tied,false)]
def hU (c:CA):Addr->Option Bool:=isA [(c.Tied,false)]
def mH (c:CA):Addr->Option Bool:=isA [(c.Tied,true)]
def jn (c:CA):Addr->Option Bool:=isA [(c.Tied,false)]
def jo (c:CA):Addr->Option Bool:=isA [(c.Tied,false)]
def eJ (c:CA):Addr->Option Bool:=isA [(c.Tied,true)]
structure Txt (K:Frag) (mg:Str->Option Value) (c:CA) where
 j1_:Xd K mg c.BadCount "BadCount"
 i1_:Xd K mg c.BadPoint "BadPoint"
 h1_:Xd K mg c.BadText "BadText"
 m1_:Xd K mg c.BadWeb "BadWeb"
 o1_:Xd K mg c.Tied "Tied"
 l1_:Xd K mg c.TooFew "TooFew"
 p1_:Xd K mg c.WebError "WebError"
 q1_:Xo K c.Tied
 r1_:kitOne K (.ref c.Tied) (.ref c.WebError)=some true
 s1_:exmOne K (.ref c.Tied) (.ref c.WebError)=some true
 t1_:kitOne K (.ref c.Tied) (.ref c.BadCount)=some false
 u1_:kitOne K (.ref c.Tied) (.ref c.BadPoint)=some false
 v1_:kitOne K (.ref c.Tied) (.ref c.BadText)=some false
 w1_:kitOne K (.ref c.Tied) (.ref c.BadWeb)=some false
 x1_:kitOne K (.ref c.Tied) (.ref c.TooFew)=some false
 y1_:kitOne K (.ref c.Tied) (.type "ValueError")=some true
 b1_:Cd K mg c.Answer "Answer"
 d1_:Cd K mg c.Bar "Bar"
 f1_:Cd K mg c.Part "Part"
 q_:Cd K mg c.Wall "Wall"
 o_:Cd K mg c.Ways "Ways"
 f_:Cd K mg c.Web "Web"
 r_:NoAttr K c.Wall "points"
 p_:NoAttr K c.Ways "ways"
 l_:NoAttr K c.Web "pairs"
 g_:NoAttr K c.Web "points"
 k1_:mg "ValueError" = none
 m_:mg "all" = none
 n1_:mg "any" = none
 a_:mg "bool" = none
 n_:mg "enumerate" = none
 c_:mg "int" = none
 b_:mg "isinstance" = none
 d_:mg "len" = none
 h_:mg "list" = none
 j_:mg "max" = none
 k_:mg "min" = none
 i_:mg "range" = none
 e_:mg "set" = none
 x_:mg "sorted" = none
 t_:mg "tuple" = none
 s_:mg "zip" = none
 u_:∃ t,mg "MOST_POINTS" = some (.int 8 t)
 v_:∃ t,mg "MOST_TIES" = some (.int 14 t)
 y_:∃ t,mg "MOST_WAYS" = some (.int 8 t)
 z1_:∀ fs,TyD K (.obj c.Bar fs) (.ref c.Bar)
 a2_:∀ fs,TyD K (.obj c.Part fs) (.ref c.Part)
 b2_:∀ fs,TyD K (.obj c.Wall fs) (.ref c.Wall)
 c2_:∀ fs,TyD K (.obj c.Ways fs) (.ref c.Ways)
 d2_:∀ fs,TyD K (.obj c.Web fs) (.ref c.Web)
 e2_:kitOne K (.ref c.Bar) (.ref c.Answer)=some true
 f2_:kitOne K (.ref c.Part) (.ref c.Answer)=some true
 g2_:kitOne K (.ref c.Wall) (.ref c.Answer)=some true
 h2_:kitOne K (.ref c.Ways) (.ref c.Answer)=some true
 i2_:kitOne K (.ref c.Web) (.ref c.Answer)=some false
 j2_:kitOne K (.ref c.Part) (.ref c.Bar)=some false
 k2_:kitOne K (.ref c.Wall) (.ref c.Bar)=some false
 l2_:kitOne K (.ref c.Ways) (.ref c.Bar)=some false
 m2_:kitOne K (.ref c.Web) (.ref c.Bar)=some false
 n2_:kitOne K (.ref c.Bar) (.ref c.Part)=some false
 o2_:kitOne K (.ref c.Wall) (.ref c.Part)=some false
 p2_:kitOne K (.ref c.Ways) (.ref c.Part)=some false
 q2_:kitOne K (.ref c.Web) (.ref c.Part)=some false
 r2_:kitOne K (.ref c.Bar) (.ref c.Wall)=some false
 s2_:kitOne K (.ref c.Part) (.ref c.Wall)=some false
 t2_:kitOne K (.ref c.Ways) (.ref c.Wall)=some false
 u2_:kitOne K (.ref c.Web) (.ref c.Wall)=some false
 v2_:kitOne K (.ref c.Bar) (.ref c.Ways)=some false
 w2_:kitOne K (.ref c.Part) (.ref c.Ways)=some false
 x2_:kitOne K (.ref c.Wall) (.ref c.Ways)=some false
 y2_:kitOne K (.ref c.Web) (.ref c.Ways)=some false
 z2_:kitOne K (.ref c.Bar) (.ref c.Web)=some false
 a3_:kitOne K (.ref c.Part) (.ref c.Web)=some false
 b3_:kitOne K (.ref c.Wall) (.ref c.Web)=some false
 c3_:kitOne K (.ref c.Ways) (.ref c.Web)=some false
 ne:c.Bar≠c.Part/\c.Bar≠c.Wall/\c.Bar≠c.Ways/\c.Bar≠c.Web/\c.Part≠c.Wall/\c.Part≠c.Ways/\c.Part≠c.Web/\c.Wall≠c.Ways/\c.Wall≠c.Web/\c.Ways≠c.Web
 e3_:Fd K mg "is_number" (top 2) ["value"]
 f3_:Fd K mg "all_differ" (top 3) ["numbers"]
 g3_:Fd K mg "has_point" (top 4) ["web", "point"]
 h3_:Fd K mg "are_two_points" (top 5) ["web", "one", "other"]
 i3_:Fd K mg "all_points" (top 6) ["web"]
 j3_:Fd K mg "is_point_set" (top 7) ["web", "points"]
 k3_:Fd K mg "tie_between" (top 8) ["one", "other"]
 l3_:Md K c.Web "ties" "Web.ties" (inClass (top 46) 1) ["self"]
 m3_:Fd K mg "is_tied" (top 9) ["web", "one", "other"]
 n3_:Fd K mg "backwards" (top 11) ["steps"]
 o3_:Fd K mg "reached" (top 12) ["begin", "steps"]
 p3_:Fd K mg "is_walk" (top 13) ["web", "walk"]
 q3_:Fd K mg "is_way" (top 14) ["web", "walk"]
 r3_:Fd K mg "copied_walks" (top 16) ["walks"]
 s3_:Fd K mg "are_ways" (top 17) ["web", "ways", "one", "other", "many"]
 t3_:Ni K c.Ways "Ways.__init__" (inClass (top 20) 0) ["self", "ways"]
 u3_:Md K c.Ways "shows" "Ways.shows" (inClass (top 20) 1) ["self", "web", "one", "other", "many"]
 v3_:Ni K c.Wall "Wall.__init__" (inClass (top 21) 0) ["self", "points"]
 w3_:Md K c.Wall "shows" "Wall.shows" (inClass (top 21) 1) ["self", "web", "one", "other", "many"]
 x3_:Fd K mg "steps_of" (top 32) ["web"]
 y3_:Fd K mg "steps_but" (top 33) ["steps", "names"]
 z3_:Fd K mg "shortest_walk" (top 34) ["steps", "begin", "ends"]
 a4_:Fd K mg "turned_back" (top 35) ["step"]
 b4_:Fd K mg "steps_in" (top 36) ["walk"]
 c4_:Fd K mg "free_steps" (top 37) ["steps", "gone"]
 d4_:Fd K mg "gone_too" (top 38) ["gone", "walk"]
 e4_:Fd K mg "most_gone" (top 39) ["steps", "begin", "end", "many"]
 f4_:Fd K mg "walks_apart" (top 40) ["steps", "begin", "end", "many"]
 g4_:Fd K mg "side_of" (top 41) ["steps", "walks", "begin"]
 h4_:Fd K mg "is_tie" (top 45) ["value", "points"]
 i4_:Ni K c.Web "Web.__init__" (inClass (top 46) 0) ["self", "points", "ties"]
 j4_:Fd K mg "are_points_of" (top 49) ["web", "one", "other"]
 k4_:Fd K mg "refuse_points" (top 50) ["web", "one", "other"]
 l4_:Fd K mg "refuse_tied" (top 51) ["web", "one", "other"]
 m4_:Fd K mg "refuse_count" (top 52) ["many", "most"]
 n4_:Fd K mg "steps_through" (top 53) ["web"]
 o4_:Fd K mg "way_along" (top 54) ["walk"]
 p4_:Fd K mg "wall_along" (top 55) ["steps", "side"]
 q4_:Fd K mg "ways" (top 56) ["web", "one", "other", "many"]
 r4_:Fd K mg "_law_cell_at" (top 58) ["_law_script", "_law_k"]
 s4_:Fd K mg "_law_draw" (top 59) ["_law_cell", "_law_k", "_law_many"]
 t4_:Fd K mg "_law_told" (top 60) ["_law_cell", "_law_least"]
 u4_:Fd K mg "_law_rising" (top 62) ["_law_some", "_law_points"]
 v4_:Fd K mg "_law_is_walk" (top 63) ["_law_told_here", "_law_walk"]
 w4_:Fd K mg "_law_is_way" (top 64) ["_law_told_here", "_law_walk"]
 x4_:Fd K mg "_law_ways" (top 66) ["_law_told_here", "_law_one", "_law_other", "_law_many", "_law_found"]
 y4_:Fd K mg "_law_barred" (top 67) ["_law_told_here", "_law_one", "_law_other", "_law_many", "_law_some"]
 z4_:Fd K mg "_law_right" (top 68) ["_law_told_here", "_law_web", "_law_one", "_law_other", "_law_many"]
 a5_:Fd K mg "_law_tied" (top 69) ["_law_web", "_law_one", "_law_other", "_law_many"]
 law:Fl' K mg (top 70)
theorem Txt.go {K:Frag} {mg:Str->Option Value} {wW vX vW wy wV aBar yR yQ wU yP yO aWeb vV:Addr} (T:Txt K mg ⟨wW,vX,vW,wy,wV,aBar,yR,yQ,wU,yP,yO,aWeb,vV⟩):∃ c,Nonempty (Txt K mg c):=⟨_,⟨T⟩⟩
noncomputable section
variable {P:Program} {w:World} {K:Frag} {mg:Str->Option Value} {base:Heap} {c:CA} (T:Txt K mg c)
theorem K_Answer (T:Txt K mg c):Ka K (dY c) c.Answer:=aZ T.z1_ T.e2_ (aZ T.a2_ T.f2_ (aZ T.b2_ T.g2_ (aZ T.c2_ T.h2_ (aZ T.d2_ T.i2_ lj))))
theorem K_Bar (T:Txt K mg c):Ka K (jU c) c.Bar:=aZ T.z1_ gC (aZ T.a2_ T.j2_ (aZ T.b2_ T.k2_ (aZ T.c2_ T.l2_ (aZ T.d2_ T.m2_ lj))))
theorem K_Part (T:Txt K mg c):Ka K (g9 c) c.Part:=aZ T.z1_ T.n2_ (aZ T.a2_ gC (aZ T.b2_ T.o2_ (aZ T.c2_ T.p2_ (aZ T.d2_ T.q2_ lj))))
theorem K_Wall (T:Txt K mg c):Ka K (fV c) c.Wall:=aZ T.z1_ T.r2_ (aZ T.a2_ T.s2_ (aZ T.b2_ gC (aZ T.c2_ T.t2_ (aZ T.d2_ T.u2_ lj))))
theorem K_Ways (T:Txt K mg c):Ka K (hJ c) c.Ways:=aZ T.z1_ T.v2_ (aZ T.a2_ T.w2_ (aZ T.b2_ T.x2_ (aZ T.c2_ gC (aZ T.d2_ T.y2_ lj))))
theorem K_Web (T:Txt K mg c):Ka K (ql c) c.Web:=aZ T.z1_ T.z2_ (aZ T.a2_ T.a3_ (aZ T.b2_ T.b3_ (aZ T.c2_ T.c3_ (aZ T.d2_ gC lj))))
theorem rJ (T:Txt K mg c):Xm K (fW c) c.WebError:=xm_cons T.s1_ xm_nil
theorem rK (T:Txt K mg c):Xa K (fY c) (.ref c.BadCount):=gZ T.q1_ T.t1_ jS
theorem rL (T:Txt K mg c):Xa K (fZ c) (.ref c.BadPoint):=gZ T.q1_ T.u1_ jS
theorem sX (T:Txt K mg c):Xa K (hU c) (.ref c.BadText):=gZ T.q1_ T.v1_ jS
theorem KX_Tied (T:Txt K mg c):Xa K (mH c) (.ref c.Tied):=gZ T.q1_ gC jS
theorem KX_BadWeb (T:Txt K mg c):Xa K (jn c) (.ref c.BadWeb):=gZ T.q1_ T.w1_ jS
theorem KX_TooFew (T:Txt K mg c):Xa K (jo c) (.ref c.TooFew):=gZ T.q1_ T.x1_ jS
theorem oj (T:Txt K mg c):Xa K (eJ c) (.type "ValueError"):=gZ T.q1_ T.y1_ jS
def lP (c:CA):FS:=(aL ((gN (aF eW (ac 0)) (dnot (aF is_bool (ac 0))))))
def bX (c:CA):List D->Option D:=run 1 (lP c)
theorem cT:Ok P w mg base 1 T.e3_.toFb (spD 1 (bX c)):=fD [] fun _ _ _ _ _ _ hr nd=>
 (ak (az ((dR (ii_int dv T.c_ T.b_) (iI (de_not (qc dv T.a_ T.b_)))))))
def kF (c:CA):FS:=(aL (af oEq (eD (ac 0)) (aD cc (aa (ac 0) ai))))
def dC (c:CA):List D->Option D:=run 1 (kF c)
theorem jy:Ok P w mg base 1 T.f3_.toFb (spD 1 (dC c)):=fD [] fun _ _ _ _ _ _ hr nd=>
 (ak (az (c_eq (je rfl dv rfl T.d_ rfl T.e_) (c6 T.d_ dv) hr)))
def lQ (c:CA):FS:=(aL (dQ oLe oLt (ae (.int 0)) (ac 1) (eU (isC c.Web) "points" (ac 0))))
def cO (c:CA):List D->Option D:=run 2 (lQ c)
theorem hV:Ok P w mg base 1 T.g3_.toFb (spD 2 (cO c)):=fD [] fun _ _ _ _ _ _ hr nd=>
 (ak (az (qO jM eV ah dv (df dv T.f_.cls T.g_))))
noncomputable def gE (c:CA):FS:=(aL ((gN (ao 2 (cO c) (aa (ac 0) (aa (ac 1) ai))) (gN (ao 2 (cO c) (aa (ac 0) (aa (ac 2) ai))) (af oNe (ac 1) (ac 2))))))
def bL (c:CA):List D->Option D:=run 3 (gE c)
theorem dD:Ok P w mg base 2 T.h3_.toFb (spD 3 (bL c)):=fD [] fun _ _ _ _ _ _ hr nd=>
 (ak (az ((dR (du (hV T) hr (ad dv (d1 dv))) (dR (du (hV T) hr (ad dv (d1 dv))) (iI (c_ne dv dv hr)))))))
def kG (c:CA):FS:=(aL (ko (aa (eU (isC c.Web) "points" (ac 0)) ai)))
def cA (c:CA):List D->Option D:=run 1 (kG c)
theorem jz:Ok P w mg base 1 T.i3_.toFb (spD 1 (cA c)):=fD [] fun _ _ _ _ _ _ hr nd=>
 (ak (az (qW rfl (d1 (df dv T.f_.cls T.g_)) rfl T.h_ rfl T.i_)))
noncomputable def ni (c:CA):FS:=(aL (af oEq (ac 1) (bC (aH (ao 1 (cA c) (aa (ac 0) ai))) (ap 0) (al (af oIn (ac 0) (ac 1))) (ac 0) 1 [1])))
def fG (c:CA):List D->Option D:=run 2 (ni c)
theorem mf:Ok P w mg base 2 T.j3_.toFb (spD 2 (fG c)):=fD [] fun _ _ _ _ _ _ hr nd=>
 (ak (az (c_eq dv (dc ["point", "points"] (aS (du (jz T) hr (d1 dv))) (fun nd _ _ _ _ _=>⟨(gn nd),(gq (t_in dv dv hr)),dv⟩)) hr)))
noncomputable def jA (c:CA):FS:=(aL (bf (aa (a0 dg (aa (ac 0) (aa (ac 1) ai))) (aa (a0 eN (aa (ac 0) (aa (ac 1) ai))) ai))))
def c7 (c:CA):List D->Option D:=run 2 (jA c)
theorem iS:Ok P w mg base 1 T.k3_.toFb (spD 2 (c7 c)):=fD [] fun _ _ _ _ _ _ hr nd=>
 (ak (az (bo (ad (gu (jN rfl) boot_min T.k_ (ad dv (d1 dv))) (d1 (gu (la rfl) boot_max T.j_ (ad dv (d1 dv))))))))
def nj (c:CA):FS:=(aL (aD ki (aa (eU (isC c.Web) "pairs" (ac 0)) ai)))
def bv (c:CA):List D->Option D:=run 1 (nj c)
theorem eQ:Ok P w mg base 1 T.l3_.toFb (spD 1 (bv c)):=fD [] fun _ _ _ _ _ _ hr nd=>
 (ak (az (de_t1 pY boot_list T.h_ (d1 (df dv T.f_.cls T.l_)))))
noncomputable def F_is_tied (c:CA):FS:=(aL (af oIn (ao 2 (c7 c) (aa (ac 1) (aa (ac 2) ai))) ((bW c.Web "ties" 1 (bv c) (ac 0) ai))))
def gF (c:CA):List D->Option D:=run 3 (F_is_tied c)
theorem jV:Ok P w mg base 2 T.m3_.toFb (spD 3 (gF c)):=fD [] fun _ _ _ _ _ _ hr nd=>
 (ak (az (c_in (du (iS T) hr (ad dv (d1 dv))) ((dm0 T.f_.cls (eQ T) hr dv)) hr)))
noncomputable def rM (c:CA):FS:=(aL (bC (aH (ac 0)) (ap 0) cN (bf (aa (af oIx (ac 0) (ae (.int 1))) (aa (af oIx (ac 0) (ae (.int 0))) ai))) 1 []))
def iT (c:CA):List D->Option D:=run 1 (rM c)
theorem qm:Ok P w mg base 1 T.n3_.toFb (spD 1 (iT c)):=fD [] fun _ _ _ _ _ _ hr nd=>
 (ak (az (dc ["step"] (aS dv) (fun nd _ _ _ _ _=>⟨(gn nd),bB,(bo (ad (dx dv ah) (d1 (dx dv ah))))⟩))))
noncomputable def pi (c:CA):FS:=(aq (sset 2 (bV (aa (ac 0) ai))) (aq (sset 3 (ae (.int 0))) (aq (dn (al (af oLt (ac 3) (aD cc (aa (ac 2) ai)))) (aq (bg (aH (ac 1)) (ap 4) (sif ((bQ (al (af oEq (af oIx (ac 4) (ae (.int 0))) (af oIx (ac 2) (ac 3)))) (al (af oNotIn (af oIx (ac 4) (ae (.int 1))) (ac 2))))) (cR 2 (af oIx (ac 4) (ae (.int 1)))) aE)) (ma (·+·) 3 (ae (.int 1)))) 100) (gp 2))))
def gG (c:CA):List D->Option D:=run 5 (pi c)
theorem nv:Ok P w mg base 1 T.o3_.toFb (spD 2 (gG c)):=fD ["found", "place", "step"] fun _ _ _ _ _ _ hr nd=>
 (aj (sA nd (bN (d1 dv))) (aj (sA nd ah) (aj (sw (tc2 eV dv (c6 T.d_ dv)) (aj (sf (aS dv) (gn nd) (ak (i0 (m7 (t_eq (dx dv ah) (dx dv dv) hr) (t_ni (dx dv ah) dv hr)) (ak (cE (pv 2) (dx dv ah)))))) (ak (sg nd ah ip_add)))) (ak (jc (pv 2))))))
noncomputable def F_is_walk (c:CA):FS:=(aq (sset 2 (af oIx (ac 1) (ae (.int 0)))) (aq (sset 3 (af oIx (ac 1) (ae (.int 1)))) (aq (sset 4 ((bW c.Web "ties" 1 (bv c) (ac 0) ai))) (aq (sif (al (af oNe (aD cc (aa (ac 2) ai)) (af aV (aD cc (aa (ac 3) ai)) (ae (.int 1))))) (aL (ae (.bl false))) aE) (aq (gQ 2 (sif (bb (al (aD iK (aa (bC (aH (ac 2)) (ap 0) cN (ao 2 (cO c) (aa (ac 1) (aa (ac 0) ai))) 1 [0]) ai)))) (aL (ae (.bl false))) aE)) (aq (gQ 3 (sif (bb (al (aD iK (aa (bC (aH (ac 3)) (ap 0) cN (dQ oLe oLt (ae (.int 0)) (ac 0) (aD cc (aa (ac 1) ai))) 1 [4]) ai)))) (aL (ae (.bl false))) aE)) (gQ 3 (aL (aD iK (aa (bC (mU (aa (ac 3) ai)) (gtup 2 (dM (ap 0) (dM (ap 1) gnil))) cN (af oEq (af oIx (ac 2) (ac 1)) (ao 2 (c7 c) (aa (af oIx (ac 3) (ac 0)) (aa (af oIx (ac 3) (af aV (ac 0) (ae (.int 1)))) ai)))) 2 [4,2]) ai))))))))))
def jp (c:CA):List D->Option D:=run 5 (F_is_walk c)
theorem sY:Ok P w mg base 2 T.p3_.toFb (spD 2 (jp c)):=fD ["points", "places", "ties"] fun _ _ _ _ _ _ hr nd=>
 (aj (sA nd (dx dv ah)) (aj (sA nd (dx dv ah)) (aj (sA nd ((dm0 T.f_.cls (eQ T) hr dv))) (aj (i0 (kB (c6 T.d_ dv) (aR aO (c6 T.d_ dv) ah) hr) (ak (az bF))) (aj (fB (i0 (bi (ba (pb T.m_ (dc ["point", "web"] (aS dv) (fun nd _ _ _ _ _=>⟨(gn nd),bB,(du (hV T) hr (ad dv (d1 dv)))⟩))))) (ak (az bF)))) (aj (fB (i0 (bi (ba (pb T.m_ (dc ["place", "ties"] (aS dv) (fun nd _ _ _ _ _=>⟨(gn nd),bB,(qO jM eV ah dv (c6 T.d_ dv))⟩))))) (ak (az bF)))) (ak (fB (az (pb T.m_ (dc ["k", "place", "ties", "points"] (di_enum rfl T.n_ (d1 dv)) (fun nd _ _ _ _ _=>⟨(g2 (gn nd) (gn nd)),bB,(c_eq (dx dv dv) (du (iS T) hr (ad (dx dv dv) (d1 (dx dv (aR aO dv ah))))) hr)⟩))))))))))))
noncomputable def F_is_way (c:CA):FS:=(aL ((gN (ao 2 (jp c) (aa (ac 0) (aa (ac 1) ai))) (ao 1 (dC c) (aa (af oIx (ac 1) (ae (.int 0))) ai)))))
def ny (c:CA):List D->Option D:=run 2 (F_is_way c)
theorem ok_is_way:Ok P w mg base 3 T.q3_.toFb (spD 2 (ny c)):=fD [] fun _ _ _ _ _ _ hr nd=>
 (ak (az ((dR (du (sY T) hr (ad dv (d1 dv))) (iI (du (jy T) hr (d1 (dx dv ah))))))))
noncomputable def iU (c:CA):FS:=(mX (mZ (aH (ac 0)) (ap 0) cN (ntup (fC (gw (aD ki (aa (af oIx (ac 0) (ae (.int 0))) ai))) (fC (gw (aD ki (aa (af oIx (ac 0) (ae (.int 1))) ai))) o8))) 1 []))
def dF (c:CA):List D->Option D:=runN 1 (iU c)
theorem mh:Ok P w mg base 1 T.r3_.toFb (spN 1 (dF c)):=fN [] fun _ _ _ _ _ _ hr nd=>
 (ak (mY (nc ["walk"] (aS dv) (fun nd _ _ _ _ _=>⟨(gn nd),bB,(dn_tup (kx (ji (de_t1 pY boot_list T.h_ (d1 (dx dv ah)))) (kx (ji (de_t1 pY boot_list T.h_ (d1 (dx dv ah)))) dna_nil)))⟩))))
noncomputable def sZ (c:CA):FS:=(aq (sif ((bP (bb (al (ao 3 (bL c) (aa (ac 0) (aa (ac 2) (aa (ac 3) ai)))))) (al (af oNe (aD cc (aa (ac 1) ai)) (ac 4))))) (aL (ae (.bl false))) aE) (aL (aD iK (aa (bC (aH (ac 1)) (ap 0) cN ((gN (ao 2 (ny c) (aa (ac 1) (aa (ac 0) ai))) (gN (af oEq (af oIx (af oIx (ac 0) (ae (.int 0))) (ae (.int 0))) (ac 2)) (af oEq (af oIx (af oIx (ac 0) (ae (.int 0))) (dun eO (ae (.int 1)))) (ac 3))))) 1 [0,2,3]) ai))))
def jW (c:CA):List D->Option D:=run 5 (sZ c)
theorem rN:Ok P w mg base 4 T.s3_.toFb (spD 5 (jW c)):=fD [] fun _ _ _ _ _ _ hr nd=>
 (aj (i0 (t_or (bi (ba (du (dD T) hr (ad dv (ad dv (d1 dv)))))) (kB (c6 T.d_ dv) dv hr)) (ak (az bF))) (ak (az (pb T.m_ (dc ["way", "web", "one", "other"] (aS dv) (fun nd _ _ _ _ _=>⟨(gn nd),bB,((dR (du (ok_is_way T) hr (ad dv (d1 dv))) (dR (c_eq (dx (dx dv ah) ah) dv hr) (iI (c_eq (dx (dx dv ah) (gT ah)) dv hr)))))⟩))))))
def im (c:CA):FS:=(o9 c.Ways "ways" (lL 1 (dF c) (aa (ac 1) ai)))
def ff (c:CA):List D->Option (List (Str×D)):=fun ds=>unif fun p=>ky 2 c.Ways (im c) ds p
theorem lq:Ok P w mg base 2 T.t3_.toFb (spIN c.Ways 1 (ff c)):=fI [] fun _ _ _ _ _ _ hr nd=>
 (ak (mC (C:=c.Ways) (pv 0) (nu (mh T) hr (d1 dv)) ⟨T.o_.cls,T.p_⟩))
noncomputable def qp (c:CA):FS:=(aq (sif ((bP (bb (al (ao 5 (jW c) (aa (ac 1) (aa (eU (isC c.Ways) "ways" (ac 0)) (aa (ac 2) (aa (ac 3) (aa (ac 4) ai)))))))) (al (ao 3 (gF c) (aa (ac 1) (aa (ac 2) (aa (ac 3) ai))))))) (aL (ae (.bl false))) aE) (aq (sset 5 (bV ai)) (aq (bg (aH (eU (isC c.Ways) "ways" (ac 0))) (ap 6) (sext 5 (cn (af oIx (ac 6) (ae (.int 0))) (b9 (ae (.int 1))) (b9 (dun eO (ae (.int 1))))))) (aL (ao 1 (dC c) (aa (ac 5) ai))))))
def bY (c:CA):List D->Option D:=run 7 (qp c)
theorem eK:Ok P w mg base 5 T.u3_.toFb (spD 5 (bY c)):=fD ["inner", "way"] fun _ _ _ _ _ _ hr nd=>
 (aj (i0 (t_or (bi (ba (du (rN T) hr (ad dv (ad (df dv T.o_.cls T.p_) (ad dv (ad dv (d1 dv)))))))) (ba (du (jV T) hr (ad dv (ad dv (d1 dv)))))) (ak (az bF))) (aj (sA nd (bN gO)) (aj (sf (aS (df dv T.o_.cls T.p_)) (gn nd) (ak (o3 (pv 5) (gr (dx dv ah) (fu ah) (fu (gT ah)))))) (ak (az (du (jy T) hr (d1 dv)))))))
def ip (c:CA):FS:=(o9 c.Wall "points" (gw (aD ki (aa (ac 1) ai))))
def fg (c:CA):List D->Option (List (Str×D)):=fun ds=>unif fun p=>ky 2 c.Wall (ip c) ds p
theorem lr:Ok P w mg base 1 T.v3_.toFb (spIN c.Wall 1 (fg c)):=fI [] fun _ _ _ _ _ _ hr nd=>
 (ak (mC (C:=c.Wall) (pv 0) (ji (de_t1 pY boot_list T.h_ (d1 dv))) ⟨T.q_.cls,T.r_⟩))
noncomputable def qq (c:CA):FS:=(aq (sif ((bP (bb (al (ao 3 (bL c) (aa (ac 1) (aa (ac 2) (aa (ac 3) ai)))))) (bb (al (ao 2 (fG c) (aa (ac 1) (aa (eU (isC c.Wall) "points" (ac 0)) ai))))))) (aL (ae (.bl false))) aE) (aq (sif ((bP (al (af oGe (aD cc (aa (eU (isC c.Wall) "points" (ac 0)) ai)) (ac 4))) (bP (al (af oIn (ac 2) (eU (isC c.Wall) "points" (ac 0)))) (al (af oIn (ac 3) (eU (isC c.Wall) "points" (ac 0))))))) (aL (ae (.bl false))) aE) (aq (sset 5 (bC (aH ((bW c.Web "ties" 1 (bv c) (ac 1) ai))) (ap 0) ((bQ (al (af oNotIn (af oIx (ac 0) (ae (.int 0))) (eU (isC c.Wall) "points" (ac 1)))) (al (af oNotIn (af oIx (ac 0) (ae (.int 1))) (eU (isC c.Wall) "points" (ac 1)))))) (ac 0) 1 [0])) (gQ 5 (aL (af oNotIn (ac 3) (ao 2 (gG c) (aa (ac 2) (aa (af aV (ac 5) (ao 1 (iT c) (aa (ac 5) ai))) ai)))))))))
def bI (c:CA):List D->Option D:=run 6 (qq c)
theorem eL:Ok P w mg base 3 T.w3_.toFb (spD 5 (bI c)):=fD ["kept"] fun _ _ _ _ _ _ hr nd=>
 (aj (i0 (t_or (bi (ba (du (dD T) hr (ad dv (ad dv (d1 dv)))))) (bi (ba (du (mf T) hr (ad dv (d1 (df dv T.q_.cls T.r_))))))) (ak (az bF))) (aj (i0 (t_or3 (tc2 op_oGe (c6 T.d_ (df dv T.q_.cls T.r_)) dv) (t_in dv (df dv T.q_.cls T.r_) hr) (t_in dv (df dv T.q_.cls T.r_) hr)) (ak (az bF))) (aj (sc ["tie", "self"] nd (aS ((dm0 T.f_.cls (eQ T) hr dv))) (fun nd _ _ _ _ _=>⟨(gn nd),(gq (m7 (t_ni (dx dv ah) (df dv T.q_.cls T.r_) hr) (t_ni (dx dv ah) (df dv T.q_.cls T.r_) hr))),dv⟩)) (ak (fB (az (c_ni dv (du (nv T) hr (ad dv (d1 (aR aO dv (du (qm T) hr (d1 dv)))))) hr)))))))
noncomputable def tj (c:CA):FS:=(aq (sset 1 (bV ai)) (aq (bg (mU (aa ((bW c.Web "ties" 1 (bv c) (ac 0) ai)) ai)) (gtup 2 (dM (ap 2) (dM (ap 3) gnil))) (aq (cR 1 (bf (aa (af oIx (ac 3) (ae (.int 0))) (aa (af oIx (ac 3) (ae (.int 1))) (aa (ac 2) ai))))) (cR 1 (bf (aa (af oIx (ac 3) (ae (.int 1))) (aa (af oIx (ac 3) (ae (.int 0))) (aa (ac 2) ai))))))) (gp 1)))
def jX (c:CA):List D->Option D:=run 4 (tj c)
theorem rO:Ok P w mg base 2 T.x3_.toFb (spD 1 (jX c)):=fD ["steps", "place", "tie"] fun _ _ _ _ _ _ hr nd=>
 (aj (sA nd (bN gO)) (aj (sf (di_enum rfl T.n_ (d1 ((dm0 T.f_.cls (eQ T) hr dv)))) (g2 (gn nd) (gn nd)) (aj (cE (pv 1) (bo (ad (dx dv ah) (ad (dx dv ah) (d1 dv))))) (ak (cE (pv 1) (bo (ad (dx dv ah) (ad (dx dv ah) (d1 dv)))))))) (ak (jc (pv 1)))))
noncomputable def rP (c:CA):FS:=(aL (bC (aH (ac 0)) (ap 0) (al (af oNotIn (af oIx (ac 0) (ae (.int 2))) (ac 1))) (ac 0) 1 [1]))
def di (c:CA):List D->Option D:=run 2 (rP c)
theorem kI:Ok P w mg base 1 T.y3_.toFb (spD 2 (di c)):=fD [] fun _ _ _ _ _ _ hr nd=>
 (ak (az (dc ["step", "names"] (aS dv) (fun nd _ _ _ _ _=>⟨(gn nd),(gq (t_ni (dx dv ah) dv hr)),dv⟩))))
noncomputable def fj (c:CA):FS:=(aq (sset 3 (bV (aa (bf (aa (bV (aa (ac 1) ai)) (aa (bV ai) ai))) ai))) (aq (sset 4 (bV (aa (ac 1) ai))) (aq (sset 5 (ae (.int 0))) (aq (dn (al (af oLt (ac 5) (aD cc (aa (ac 3) ai)))) (aq (sset 6 (af oIx (af oIx (ac 3) (ac 5)) (ae (.int 0)))) (aq (sif (al (af oIn (af oIx (ac 6) (dun eO (ae (.int 1)))) (ac 2))) (aL (af oIx (ac 3) (ac 5))) aE) (aq (bg (aH (ac 0)) (ap 7) (sif ((bQ (al (af oEq (af oIx (ac 7) (ae (.int 0))) (af oIx (ac 6) (dun eO (ae (.int 1)))))) (al (af oNotIn (af oIx (ac 7) (ae (.int 1))) (ac 4))))) (aq (cR 4 (af oIx (ac 7) (ae (.int 1)))) (cR 3 (bf (aa (af aV (ac 6) (bV (aa (af oIx (ac 7) (ae (.int 1))) ai))) (aa (af aV (af oIx (af oIx (ac 3) (ac 5)) (ae (.int 1))) (bV (aa (af oIx (ac 7) (ae (.int 2))) ai))) ai))))) aE)) (ma (·+·) 5 (ae (.int 1)))))) 100) (aL (ae .non))))))
def bh (c:CA):List D->Option D:=run 8 (fj c)
theorem dZ:Ok P w mg base 1 T.z3_.toFb (spD 3 (bh c)):=fD ["walks", "met", "place", "points", "step"] fun _ _ _ _ _ _ hr nd=>
 (aj (sA nd (bN (d1 (bo (ad (bN (d1 dv)) (d1 (bN gO))))))) (aj (sA nd (bN (d1 dv))) (aj (sA nd ah) (aj (sw (tc2 eV dv (c6 T.d_ dv)) (aj (sA nd (dx (dx dv dv) ah)) (aj (i0 (t_in (dx dv (gT ah)) dv hr) (ak (az (dx dv dv)))) (aj (sf (aS dv) (gn nd) (ak (i0 (m7 (t_eq (dx dv ah) (dx dv (gT ah)) hr) (t_ni (dx dv ah) dv hr)) (aj (cE (pv 4) (dx dv ah)) (ak (cE (pv 3) (bo (ad (aR aO dv (bN (d1 (dx dv ah)))) (d1 (aR aO (dx (dx dv dv) ah) (bN (d1 (dx dv ah))))))))))))) (ak (sg nd ah ip_add)))))) (ak (az de_non))))))
noncomputable def jB (c:CA):FS:=(aL (bf (aa (af oIx (ac 0) (ae (.int 1))) (aa (af oIx (ac 0) (ae (.int 0))) (aa (af oIx (ac 0) (ae (.int 2))) ai)))))
def bA (c:CA):List D->Option D:=run 1 (jB c)
theorem fH:Ok P w mg base 1 T.a4_.toFb (spD 1 (bA c)):=fD [] fun _ _ _ _ _ _ hr nd=>
 (ak (az (bo (ad (dx dv ah) (ad (dx dv ah) (d1 (dx dv ah)))))))
noncomputable def nz (c:CA):FS:=(aL (jj (aa (af oIx (ac 0) (ae (.int 0))) (aa (cn (af oIx (ac 0) (ae (.int 0))) (b9 (ae (.int 1))) fq) (aa (af oIx (ac 0) (ae (.int 1))) ai)))))
def cB (c:CA):List D->Option D:=run 1 (nz c)
theorem lR:Ok P w mg base 1 T.b4_.toFb (spD 1 (cB c)):=fD [] fun _ _ _ _ _ _ hr nd=>
 (ak (az (rl rfl (ad (dx dv ah) (ad (gr (dx dv ah) (fu ah) km) (d1 (dx dv ah)))) rfl T.h_ rfl T.s_)))
noncomputable def qr (c:CA):FS:=(aL (af aV (ao 2 (di c) (aa (ac 0) (aa (bC (aH (ac 1)) (ap 0) cN (af oIx (ac 0) (ae (.int 2))) 1 []) ai))) (bC (aH (ac 1)) (ap 0) cN (ao 1 (bA c) (aa (ac 0) ai)) 1 [])))
def cU (c:CA):List D->Option D:=run 2 (qr c)
theorem jC:Ok P w mg base 2 T.c4_.toFb (spD 2 (cU c)):=fD [] fun _ _ _ _ _ _ hr nd=>
 (ak (az (aR aO (du (kI T) hr (ad dv (d1 (dc ["step"] (aS dv) (fun nd _ _ _ _ _=>⟨(gn nd),bB,(dx dv ah)⟩))))) (dc ["step"] (aS dv) (fun nd _ _ _ _ _=>⟨(gn nd),bB,(du (fH T) hr (d1 dv))⟩)))))
noncomputable def tm (c:CA):FS:=(aq (sset 2 (ao 1 (cB c) (aa (ac 1) ai))) (aq (sset 3 (bC (aH (ac 0)) (ap 0) (al (af oNotIn (ao 1 (bA c) (aa (ac 0) ai)) (ac 1))) (ac 0) 1 [2])) (aL (af aV (ac 3) (bC (aH (ac 2)) (ap 0) (al (af oNotIn (ao 1 (bA c) (aa (ac 0) ai)) (ac 1))) (ac 0) 1 [0])))))
def hZ (c:CA):List D->Option D:=run 4 (tm c)
theorem rQ:Ok P w mg base 2 T.d4_.toFb (spD 2 (hZ c)):=fD ["added", "kept"] fun _ _ _ _ _ _ hr nd=>
 (aj (sA nd (du (lR T) hr (d1 dv))) (aj (sc ["step", "added"] nd (aS dv) (fun nd _ _ _ _ _=>⟨(gn nd),(gq (t_ni (du (fH T) hr (d1 dv)) dv hr)),dv⟩)) (ak (az (aR aO dv (dc ["step", "gone"] (aS dv) (fun nd _ _ _ _ _=>⟨(gn nd),(gq (t_ni (du (fH T) hr (d1 dv)) dv hr)),dv⟩)))))))
noncomputable def rR (c:CA):FS:=(aq (sset 4 (bV ai)) (aq (bg (cY (aa (ac 3) ai)) (ap 5) (aq (gQ 4 (sset 6 (ao 3 (bh c) (aa (ao 2 (cU c) (aa (ac 0) (aa (ac 4) ai))) (aa (ac 1) (aa (bV (aa (ac 2) ai)) ai)))))) (aq (sif (al (af oIs (ac 6) (ae .non))) (gp 4) aE) (gQ 4 (sset 4 (ao 2 (hZ c) (aa (ac 4) (aa (ac 6) ai)))))))) (gp 4)))
def iV (c:CA):List D->Option D:=run 7 (rR c)
theorem qt:Ok P w mg base 3 T.e4_.toFb (spD 4 (iV c)):=fD ["gone", "turn", "walk"] fun _ _ _ _ _ _ hr nd=>
 (aj (sA nd (bN gO)) (aj (sf (ir T.i_ dv) (gn nd) (aj (fB (sA nd (du (dZ T) hr (ad (du (jC T) hr (ad dv (d1 dv))) (ad dv (d1 (bN (d1 dv)))))))) (aj (i0 (tc2 op_oIs dv de_non) (ak (jc (pv 4)))) (ak (fB (sA nd (du (rQ T) hr (ad dv (d1 dv))))))))) (ak (jc (pv 4)))))
noncomputable def om (c:CA):FS:=(aq (sset 4 (ao 4 (iV c) (aa (ac 0) (aa (ac 1) (aa (ac 2) (aa (ac 3) ai)))))) (aq (sset 5 (bV ai)) (aq (sset 6 (ao 3 (bh c) (aa (ac 4) (aa (ac 1) (aa (bV (aa (ac 2) ai)) ai))))) (aq (dn (al (af gV (ac 6) (ae .non))) (aq (cR 5 (ac 6)) (aq (sset 4 (ao 2 (di c) (aa (ac 4) (aa (af oIx (ac 6) (ae (.int 1))) ai)))) (sset 6 (ao 3 (bh c) (aa (ac 4) (aa (ac 1) (aa (bV (aa (ac 2) ai)) ai))))))) 100) (gp 5)))))
def c8 (c:CA):List D->Option D:=run 7 (om c)
theorem nB:Ok P w mg base 4 T.f4_.toFb (spD 4 (c8 c)):=fD ["left", "walks", "walk"] fun _ _ _ _ _ _ hr nd=>
 (aj (sA nd (du (qt T) hr (ad dv (ad dv (ad dv (d1 dv)))))) (aj (sA nd (bN gO)) (aj (sA nd (du (dZ T) hr (ad dv (ad dv (d1 (bN (d1 dv))))))) (aj (sw (tc2 lh dv de_non) (aj (cE (pv 5) dv) (aj (sA nd (du (kI T) hr (ad dv (d1 (dx dv ah))))) (ak (sA nd (du (dZ T) hr (ad dv (ad dv (d1 (bN (d1 dv))))))))))) (ak (jc (pv 5)))))))
noncomputable def F_side_of (c:CA):FS:=(aq (sset 3 (bV ai)) (aq (bg (aH (ac 1)) (ap 4) (sext 3 (ao 1 (cB c) (aa (ac 4) ai)))) (gQ 3 (aL (ao 2 (gG c) (aa (ac 2) (aa (ao 2 (cU c) (aa (ac 0) (aa (ac 3) ai))) ai)))))))
def jq (c:CA):List D->Option D:=run 5 (F_side_of c)
theorem tq:Ok P w mg base 3 T.g4_.toFb (spD 3 (jq c)):=fD ["gone", "walk"] fun _ _ _ _ _ _ hr nd=>
 (aj (sA nd (bN gO)) (aj (sf (aS dv) (gn nd) (ak (o3 (pv 3) (du (lR T) hr (d1 dv))))) (ak (fB (az (du (nv T) hr (ad dv (d1 (du (jC T) hr (ad dv (d1 dv)))))))))))
noncomputable def rS (c:CA):FS:=(aq (sif ((bP (bb (al (aF gv (ac 0)))) (al (af oNe (aD cc (aa (ac 0) ai)) (ae (.int 2)))))) (aL (ae (.bl false))) aE) (aL ((gN (ao 1 (bX c) (aa (af oIx (ac 0) (ae (.int 0))) ai)) (gN (ao 1 (bX c) (aa (af oIx (ac 0) (ae (.int 1))) ai)) (kq oLe oLt oLt (ae (.int 0)) (af oIx (ac 0) (ae (.int 0))) (af oIx (ac 0) (ae (.int 1))) (ac 1)))))))
def gH (c:CA):List D->Option D:=run 2 (rS c)
theorem ok_is_tie:Ok P w mg base 2 T.h4_.toFb (spD 2 (gH c)):=fD [] fun _ _ _ _ _ _ hr nd=>
 (aj (i0 (t_or (bi (ba (rm dv T.t_ T.b_))) (kB (c6 T.d_ dv) ah hr)) (ak (az bF))) (ak (az ((dR (du (cT T) hr (d1 (dx dv ah))) (dR (du (cT T) hr (d1 (dx dv ah))) (iI (de_chain3 jM eV eV ah (dx dv ah) (dx dv ah) dv))))))))
noncomputable def dG (c:CA):FS:=(aq (sif ((bP (bb (al (ao 1 (bX c) (aa (ac 1) ai)))) (bb (al (dQ oLe oLe (ae (.int 1)) (ac 1) (ae (.int 8))))))) ((fun _=>none)) aE) (aq (sif ((bP (bb (al (aF dr (ac 2)))) (al (af oGt (aD cc (aa (ac 2) ai)) (ae (.int 14)))))) ((fun _=>none)) aE) (aq (sif (bb (al (aD iK (aa (bC (aH (ac 2)) (ap 0) cN (ao 2 (gH c) (aa (ac 0) (aa (ac 1) ai))) 1 [1]) ai)))) ((fun _=>none)) aE) (aq (o9 c.Web "points" (gw (ac 1))) (o9 c.Web "pairs" (mZ (aH (ac 2)) (ap 0) cN (ntup (fC (gw (af oIx (ac 0) (ae (.int 0)))) (fC (gw (af oIx (ac 0) (ae (.int 1)))) o8))) 1 []))))))
def aX (c:CA):List D->Option (List (Str×D)):=fun ds=>unif fun p=>ky 3 c.Web (dG c) ds p
theorem bR:Ok P w mg base 3 T.i4_.toFb (spIN c.Web 2 (aX c)):=fI [] fun _ _ _ _ _ _ hr nd=>
 (aj (i0 (t_or (bi (ba (du (cT T) hr (d1 dv)))) (bi (mP jM jM ah dv (dk T.u_)))) (ak (gm))) (aj (i0 (t_or (bi (ba (kA dv T.h_ T.b_))) (tc2 pX (c6 T.d_ dv) (dk T.v_))) (ak (gm))) (aj (i0 (bi (ba (pb T.m_ (dc ["tie", "points"] (aS dv) (fun nd _ _ _ _ _=>⟨(gn nd),bB,(du (ok_is_tie T) hr (ad dv (d1 dv)))⟩))))) (ak (gm))) (aj (mC (C:=c.Web) (pv 0) (ji dv) ⟨T.f_.cls,T.g_⟩) (ak (mC (C:=c.Web) (pv 0) (nc ["tie"] (aS dv) (fun nd _ _ _ _ _=>⟨(gn nd),bB,(dn_tup (kx (ji (dx dv ah)) (kx (ji (dx dv ah)) dna_nil)))⟩)) ⟨T.f_.cls,T.l_⟩))))))
noncomputable def iq (c:CA):FS:=(aL ((gN (aF (ql c) (ac 0)) (gN (ao 1 (bX c) (aa (ac 1) ai)) (gN (ao 1 (bX c) (aa (ac 2) ai)) (ao 3 (bL c) (aa (ac 0) (aa (ac 1) (aa (ac 2) ai)))))))))
def db (c:CA):List D->Option D:=run 3 (iq c)
theorem lu:Ok P w mg base 3 T.j4_.toFb (spD 3 (db c)):=fD [] fun _ _ _ _ _ _ hr nd=>
 (ak (az ((dR (ii_c dv T.f_ (K_Web T) T.b_) (dR (du (cT T) hr (d1 dv)) (dR (du (cT T) hr (d1 dv)) (iI (du (dD T) hr (ad dv (ad dv (d1 dv)))))))))))
noncomputable def iu (c:CA):FS:=(sif (bb (al (ao 3 (db c) (aa (ac 0) (aa (ac 1) (aa (ac 2) ai)))))) ((fun _=>none)) aE)
def bT (c:CA):List D->Option D:=run 3 (iu c)
theorem gI:Ok P w mg base 4 T.k4_.toFb (spD 3 (bT c)):=fD [] fun _ _ _ _ _ _ hr nd=>
 (ak (i0 (bi (ba (du (lu T) hr (ad dv (ad dv (d1 dv)))))) (ak (gm))))
noncomputable def dH (c:CA):List D->Option Addr:=runX 3 (xif (al (ao 3 (gF c) (aa (ac 0) (aa (ac 1) (aa (ac 2) ai))))) (fun _=>some c.Tied) xno)
theorem mi:OkX P w mg base 3 T.l4_.toFb (spX 3 (dH c)):=fX [] fun _ _ _ _ _ _ hr nd=>
 (nh (dx_if (ba (du (jV T) hr (ad dv (ad dv (d1 dv))))) (nh (dx_raise xr_of T.o1_.g T.o1_.x PySem.F.excBase_ValueError hr.hd)) dxs_no))
noncomputable def jD (c:CA):FS:=(sif (al (ao 3 (gF c) (aa (ac 0) (aa (ac 1) (aa (ac 2) ai))))) ((fun _=>none)) aE)
def c9 (c:CA):List D->Option D:=run 3 (jD c)
theorem nC:Ok P w mg base 3 T.l4_.toFb (spD 3 (c9 c)):=fD [] fun _ _ _ _ _ _ hr nd=>
 (ak (i0 (ba (du (jV T) hr (ad dv (ad dv (d1 dv))))) (ak (gm))))
noncomputable def iW (c:CA):FS:=(sif ((bP (bb (al (ao 1 (bX c) (aa (ac 0) ai)))) (bb (al (dQ oLe oLe (ae (.int 1)) (ac 0) (ac 1)))))) ((fun _=>none)) aE)
def cP (c:CA):List D->Option D:=run 2 (iW c)
theorem mj:Ok P w mg base 2 T.m4_.toFb (spD 2 (cP c)):=fD [] fun _ _ _ _ _ _ hr nd=>
 (ak (i0 (t_or (bi (ba (du (cT T) hr (d1 dv)))) (bi (mP jM jM ah dv dv))) (ak (gm))))
noncomputable def ml (c:CA):FS:=(aq (sset 1 (bC (aH (ao 1 (cA c) (aa (ac 0) ai))) (ap 0) cN (bf (aa (bf (aa (ac 0) (aa (ae (.str "in")) ai))) (aa (bf (aa (ac 0) (aa (ae (.str "out")) ai))) (aa (ac 0) ai)))) 1 [])) (aq (bg (aH (ao 1 (jX c) (aa (ac 0) ai))) (ap 2) (cR 1 (bf (aa (bf (aa (af oIx (ac 2) (ae (.int 0))) (aa (ae (.str "out")) ai))) (aa (bf (aa (af oIx (ac 2) (ae (.int 1))) (aa (ae (.str "in")) ai))) (aa (ac 2) ai)))))) (gp 1)))
def de (c:CA):List D->Option D:=run 3 (ml c)
theorem lv:Ok P w mg base 3 T.n4_.toFb (spD 1 (de c)):=fD ["steps", "step"] fun _ _ _ _ _ _ hr nd=>
 (aj (sc ["point"] nd (aS (du (jz T) hr (d1 dv))) (fun nd _ _ _ _ _=>⟨(gn nd),bB,(bo (ad (bo (ad dv (d1 lc))) (ad (bo (ad dv (d1 lc))) (d1 dv))))⟩)) (aj (sf (aS (du (rO T) hr (d1 dv))) (gn nd) (ak (cE (pv 1) (bo (ad (bo (ad (dx dv ah) (d1 lc))) (ad (bo (ad (dx dv ah) (d1 lc))) (d1 dv))))))) (ak (jc (pv 1)))))
noncomputable def rT (c:CA):FS:=(aq (sset 1 (bC (aH (af aV (cn (af oIx (ac 0) (ae (.int 0))) fq (b9 (ae (.int 1)))) (dsl2 (af oIx (ac 0) (ae (.int 0))) (b9 (ae (.int 1))) (ae (.int 2))))) (ap 0) cN (af oIx (ac 0) (ae (.int 0))) 1 [])) (gQ 1 (aL (bf (aa (ac 1) (aa (bC (aH (dsl2 (af oIx (ac 0) (ae (.int 1))) fq (ae (.int 2)))) (ap 0) cN (af oIx (ac 0) (ae (.int 2))) 1 []) ai))))))
def eR (c:CA):List D->Option D:=run 2 (rT c)
theorem qu:Ok P w mg base 1 T.o4_.toFb (spD 1 (eR c)):=fD ["points"] fun _ _ _ _ _ _ hr nd=>
 (aj (sc ["node"] nd (aS (aR aO (gr (dx dv ah) km (fu ah)) (de_sl2 (dx dv ah) (fu ah) ah))) (fun nd _ _ _ _ _=>⟨(gn nd),bB,(dx dv ah)⟩)) (ak (fB (az (bo (ad dv (d1 (dc ["step"] (aS (de_sl2 (dx dv ah) km ah)) (fun nd _ _ _ _ _=>⟨(gn nd),bB,(dx dv ah)⟩)))))))))
noncomputable def qw (c:CA):FS:=(aL (aD jf (aa (bC (aH (ac 0)) (ap 0) ((bQ (al (af oIn (af oIx (ac 0) (ae (.int 0))) (ac 1))) (al (af oNotIn (af oIx (ac 0) (ae (.int 1))) (ac 1))))) (af oIx (af oIx (ac 0) (ae (.int 1))) (ae (.int 0))) 1 [1]) ai)))
def ia (c:CA):List D->Option D:=run 2 (qw c)
theorem oo:Ok P w mg base 1 T.p4_.toFb (spD 2 (ia c)):=fD [] fun _ _ _ _ _ _ hr nd=>
 (ak (az (de_b1 c_sorted boot_sorted T.x_ (d1 (dc ["step", "side"] (aS dv) (fun nd _ _ _ _ _=>⟨(gn nd),(gq (m7 (t_in (dx dv ah) dv hr) (t_ni (dx dv ah) dv hr))),(dx (dx dv ah) ah)⟩))))))
noncomputable def mI (c:CA):List D->Option Addr:=runX 7 (xthn (gA (ao 3 (bT c) (aa (ac 0) (aa (ac 1) (aa (ac 2) ai))))) (eZ 3 (dH c) (aa (ac 0) (aa (ac 1) (aa (ac 2) ai)))))
theorem okx_ways:OkX P w mg base 5 T.q4_.toFb (spX 4 (mI c)):=fX ["steps", "begin", "walks"] fun _ _ _ _ _ _ hr nd=>
 (dxs_next (mE (du (gI T) hr (ad dv (ad dv (d1 dv))))) (nh (xu (mi T) xr_of hr (ad dv (ad dv (d1 dv))))))
noncomputable def F_ways (c:CA):FS:=(aq (gA (ao 3 (bT c) (aa (ac 0) (aa (ac 1) (aa (ac 2) ai))))) (aq (gA (ao 3 (c9 c) (aa (ac 0) (aa (ac 1) (aa (ac 2) ai))))) (aq (gA (ao 2 (cP c) (aa (ac 3) (aa (ae (.int 8)) ai)))) (aq (sset 4 (ao 1 (de c) (aa (ac 0) ai))) (aq (sset 5 (bf (aa (ac 1) (aa (ae (.str "out")) ai)))) (aq (sset 6 (ao 4 (c8 c) (aa (ac 4) (aa (ac 5) (aa (bf (aa (ac 2) (aa (ae (.str "in")) ai))) (aa (ac 3) ai)))))) (aq (sif (al (af oEq (aD cc (aa (ac 6) ai)) (ac 3))) (mX (eP c.Ways 1 (ff c) (aa (bC (aH (ac 6)) (ap 0) cN (ao 1 (eR c) (aa (ac 0) ai)) 1 []) ai))) aE) (mX (eP c.Wall 1 (fg c) (aa (ao 2 (ia c) (aa (ac 4) (aa (ao 3 (jq c) (aa (ac 4) (aa (ac 6) (aa (ac 5) ai)))) ai))) ai))))))))))
def lw (c:CA):List D->Option D:=runN 7 (F_ways c)
theorem ok_ways:Ok P w mg base 5 T.q4_.toFb (spN 4 (lw c)):=fN ["steps", "begin", "walks"] fun _ _ _ _ _ _ hr nd=>
 (aj (mE (du (gI T) hr (ad dv (ad dv (d1 dv))))) (aj (mE (du (nC T) hr (ad dv (ad dv (d1 dv))))) (aj (mE (du (mj T) hr (ad dv (d1 (dk T.y_))))) (aj (sA nd (du (lv T) hr (d1 dv))) (aj (sA nd (bo (ad dv (d1 lc)))) (aj (sA nd (du (nB T) hr (ad dv (ad dv (ad (bo (ad dv (d1 lc))) (d1 dv)))))) (aj (i0 (t_eq (c6 T.d_ dv) dv hr) (ak (mY (nk T.o_ (lq T) hr (d1 (dc ["walk"] (aS dv) (fun nd _ _ _ _ _=>⟨(gn nd),bB,(du (qu T) hr (d1 dv))⟩))))))) (ak (mY (nk T.q_ (lr T) hr (d1 (du (oo T) hr (ad dv (d1 (du (tq T) hr (ad dv (ad dv (d1 dv))))))))))))))))))
noncomputable def cG (c:CA) (K:Frag):FS:=(aq (sif (al (af oLt (ac 1) (dlenS K 0))) (aL (dixS K 0 (ac 1))) aE) (aL (ae (.int 0))))
noncomputable def bK (c:CA) (K:Frag):List Int->Int->Option Int:=runS 2 K (cG c K)
theorem fJ:Ok P w mg base 1 T.r4_.toFb (spS K (bK c K)):=fS [] fun _ _ _ _ _ _ hr nd=>
 (aj (i0 (tc2 eV dv (de_lenS (pv 0) (by rfl) T.d_)) (ak (az (de_ixS (pv 0) dv (fun _ _=>rfl))))) (ak (az ah)))
noncomputable def tu (c:CA):FS:=(aq (sset 3 (bf (aa (ae (.int 1000003)) (aa (ae (.int 1000033)) (aa (ae (.int 1000037)) (aa (ae (.int 1000039)) (aa (ae (.int 1000081)) (aa (ae (.int 1000099)) (aa (ae (.int 1000117)) (aa (ae (.int 1000121)) (aa (ae (.int 1000133)) (aa (ae (.int 1000151)) (aa (ae (.int 1000159)) (aa (ae (.int 1000171)) (aa (ae (.int 1000183)) (aa (ae (.int 1000187)) (aa (ae (.int 1000193)) (aa (ae (.int 1000199)) ai)))))))))))))))))) (aL (af oMod (af oMod (af aV (af cb (ac 0) (ae (.int 48271))) (af cb (ac 1) (ae (.int 69621)))) (af oIx (ac 3) (af oMod (ac 1) (ae (.int 16))))) (ac 2))))
def aC (c:CA):List D->Option D:=run 4 (tu c)
theorem br:Ok P w mg base 1 T.s4_.toFb (spD 3 (aC c)):=fD ["_law_primes"] fun _ _ _ _ _ _ hr nd=>
 (aj (sA nd (bo (ad ah (ad ah (ad ah (ad ah (ad ah (ad ah (ad ah (ad ah (ad ah (ad ah (ad ah (ad ah (ad ah (ad ah (ad ah (d1 ah)))))))))))))))))) (ak (az (aR gS (aR gS (aR aO (aR dq dv ah) (aR dq dv ah)) (dx dv (aR gS dv ah))) dv))))
noncomputable def tw (c:CA):FS:=(aq (sset 2 (a0 eN (aa (ac 1) (aa (af oIx (bf (aa (ae (.int 4)) (aa (ae (.int 5)) (aa (ae (.int 3)) (aa (ae (.int 6)) (aa (ae (.int 2)) (aa (ae (.int 7)) (aa (ae (.int 1)) (aa (ae (.int 8)) ai))))))))) (ao 3 (aC c) (aa (ac 0) (aa (ae (.int 1)) (aa (ae (.int 8)) ai))))) ai)))) (aq (sset 3 (ao 3 (aC c) (aa (ac 0) (aa (ae (.int 2)) (aa (ae (.int 4)) ai))))) (aq (sset 4 (bV ai)) (aq (sset 5 (af oIx (bf (aa (ae (.int 1)) (aa (ae (.int 3)) (aa (ae (.int 5)) (aa (ae (.int 7)) ai))))) (ao 3 (aC c) (aa (ac 0) (aa (ae (.int 3)) (aa (ae (.int 4)) ai)))))) (aq (sif ((bQ (al (af oEq (af oMod (ac 2) (ac 5)) (ae (.int 0)))) (al (af oGt (ac 5) (ae (.int 1)))))) (sset 5 (ae (.int 1))) aE) (aq (sif ((bQ (al (af oGt (ac 3) (ae (.int 0)))) (al (af oGt (ac 2) (ae (.int 1)))))) (bg (cY (aa (af aV (af oSub (ac 2) (ae (.int 1))) (a0 dg (aa (af oSub (ac 3) (ae (.int 1))) (aa (ae (.int 1)) ai)))) ai)) (ap 6) (aq (lI 7 8 (af oMod (af cb (ac 6) (ac 5)) (ac 2)) (af oMod (af cb (af aV (ac 6) (ae (.int 1))) (ac 5)) (ac 2))) (cR 4 (bf (aa (a0 dg (aa (ac 7) (aa (ac 8) ai))) (aa (a0 eN (aa (ac 7) (aa (ac 8) ai))) ai)))))) aE) (aq (sset 9 (af oIx (bf (aa (ae (.int 9)) (aa (ae (.int 4)) ai))) (a0 dg (aa (ac 3) (aa (ae (.int 1)) ai))))) (aq (sif (al (af oEq (ao 3 (aC c) (aa (ac 0) (aa (ae (.int 8)) (aa (ae (.int 4)) ai)))) (ae (.int 0)))) (sset 9 (ae (.int 15))) aE) (aq (bg (cY (aa (ao 3 (aC c) (aa (ac 0) (aa (ae (.int 4)) (aa (ac 9) ai)))) ai)) (ap 6) (aq (sset 7 (ao 3 (aC c) (aa (af cb (af aV (ac 0) (af cb (ae (.int 977)) (ac 6))) (af aV (ac 6) (ae (.int 3)))) (aa (ae (.int 5)) (aa (ac 2) ai))))) (aq (sset 8 (ao 3 (aC c) (aa (af cb (af aV (ac 0) (af cb (ae (.int 31)) (ac 6))) (af aV (ac 6) (ae (.int 5)))) (aa (ae (.int 6)) (aa (ac 2) ai))))) (sif (al (af oNe (ac 7) (ac 8))) (cR 4 (bf (aa (a0 dg (aa (ac 7) (aa (ac 8) ai))) (aa (a0 eN (aa (ac 7) (aa (ac 8) ai))) ai)))) aE)))) (aq (sif (al (af oEq (ao 3 (aC c) (aa (ac 0) (aa (ae (.int 7)) (aa (ae (.int 2)) ai)))) (ae (.int 0)))) (sset 4 (drev (ac 4) (dun eO (ae (.int 1))))) aE) (aL (bf (aa (ac 2) (aa (cn (ac 4) fq (b9 (ae (.int 14)))) ai))))))))))))))
def jY (c:CA):List D->Option D:=run 10 (tw c)
theorem rV:Ok P w mg base 2 T.t4_.toFb (spD 2 (jY c)):=fD ["_law_points", "_law_kind", "_law_ties", "_law_turn", "_law_k", "_law_one", "_law_other", "_law_most"] fun _ _ _ _ _ _ hr nd=>
 (aj (sA nd (gu (la rfl) boot_max T.j_ (ad dv (d1 (dx (bo (ad ah (ad ah (ad ah (ad ah (ad ah (ad ah (ad ah (d1 ah))))))))) (du (br T) hr (ad dv (ad ah (d1 ah))))))))) (aj (sA nd (du (br T) hr (ad dv (ad ah (d1 ah))))) (aj (sA nd (bN gO)) (aj (sA nd (dx (bo (ad ah (ad ah (ad ah (d1 ah))))) (du (br T) hr (ad dv (ad ah (d1 ah)))))) (aj (i0 (m7 (t_eq (aR gS dv dv) ah hr) (tc2 pX dv ah)) (ak (sA nd ah))) (aj (i0 (m7 (tc2 pX dv ah) (tc2 pX dv ah)) (ak (sf (ir T.i_ (aR aO (aR op_oSub dv ah) (gu (jN rfl) boot_min T.k_ (ad (aR op_oSub dv ah) (d1 ah))))) (gn nd) (aj (ds_par rfl nd rfl rfl (by decide) rfl rfl (aR gS (aR dq dv dv) dv) (aR gS (aR dq (aR aO dv ah) dv) dv) rfl) (ak (cE (pv 4) (bo (ad (gu (jN rfl) boot_min T.k_ (ad dv (d1 dv))) (d1 (gu (la rfl) boot_max T.j_ (ad dv (d1 dv)))))))))))) (aj (sA nd (dx (bo (ad ah (d1 ah))) (gu (jN rfl) boot_min T.k_ (ad dv (d1 ah))))) (aj (i0 (t_eq (du (br T) hr (ad dv (ad ah (d1 ah)))) ah hr) (ak (sA nd ah))) (aj (sf (ir T.i_ (du (br T) hr (ad dv (ad ah (d1 dv))))) (gn nd) (aj (sA nd (du (br T) hr (ad (aR dq (aR aO dv (aR dq ah dv)) (aR aO dv ah)) (ad ah (d1 dv))))) (aj (sA nd (du (br T) hr (ad (aR dq (aR aO dv (aR dq ah dv)) (aR aO dv ah)) (ad ah (d1 dv))))) (ak (i0 (kB dv dv hr) (ak (cE (pv 4) (bo (ad (gu (jN rfl) boot_min T.k_ (ad dv (d1 dv))) (d1 (gu (la rfl) boot_max T.j_ (ad dv (d1 dv))))))))))))) (aj (i0 (t_eq (du (br T) hr (ad dv (ad ah (d1 ah)))) ah hr) (ak (sA nd (de_rev dv (gT ah))))) (ak (az (bo (ad dv (d1 (gr dv km (fu ah)))))))))))))))))
noncomputable def qx (c:CA):FS:=(aq (sif (bb (al (aF dr (ac 0)))) (aL (ae (.bl false))) aE) (aq (sset 2 (dun eO (ae (.int 1)))) (aq (bg (aH (ac 0)) (ap 3) (aq (sif ((bP (al (aF is_bool (ac 3))) (bP (bb (al (aF eW (ac 3)))) (bb (al (dQ oLt oLt (ac 2) (ac 3) (ac 1))))))) (aL (ae (.bl false))) aE) (sset 2 (ac 3)))) (aL (ae (.bl true))))))
def ib (c:CA):List D->Option D:=run 4 (qx c)
theorem oq:Ok P w mg base 1 T.u4_.toFb (spD 2 (ib c)):=fD ["_law_last", "_law_point"] fun _ _ _ _ _ _ hr nd=>
 (aj (i0 (bi (ba (kA dv T.h_ T.b_))) (ak (az bF))) (aj (sA nd (gT ah)) (aj (sf (aS dv) (gn nd) (aj (i0 (t_or3 (ba (qc dv T.a_ T.b_)) (bi (ba (ii_int dv T.c_ T.b_))) (bi (mP eV eV dv dv dv))) (ak (az bF))) (ak (sA nd dv)))) (ak (az bF)))))
noncomputable def ou (c:CA):FS:=(aq (sif ((bP (bb (al (aF gv (ac 1)))) (bP (al (af oNe (aD cc (aa (ac 1) ai)) (ae (.int 2)))) (bP (bb (al (aF dr (af oIx (ac 1) (ae (.int 0)))))) (bb (al (aF dr (af oIx (ac 1) (ae (.int 1)))))))))) (aL (ae (.bl false))) aE) (aq (sasg (ac 1) (gtup 2 (dM (ap 2) (dM (ap 3) gnil)))) (aq (sif ((bP (al (af oNe (aD cc (aa (ac 2) ai)) (af aV (aD cc (aa (ac 3) ai)) (ae (.int 1))))) (al (af oNe (eD (ac 3)) (aD cc (aa (ac 3) ai)))))) (aL (ae (.bl false))) aE) (aq (bg (aH (af aV (ac 2) (ac 3))) (ap 4) (sif ((bP (al (aF is_bool (ac 4))) (bP (bb (al (aF eW (ac 4)))) (al (af oLt (ac 4) (ae (.int 0))))))) (aL (ae (.bl false))) aE)) (aq (sif ((bP (al (af oGe (aD mT (aa (ac 2) ai)) (af oIx (ac 0) (ae (.int 0))))) (bb (al (aD iK (aa (bC (aH (ac 3)) (ap 0) cN (af oLt (ac 0) (aD cc (aa (af oIx (ac 1) (ae (.int 1))) ai))) 1 [0]) ai)))))) (aL (ae (.bl false))) aE) (aq (bg (cY (aa (aD cc (aa (ac 3) ai)) ai)) (ap 5) (sif (al (af oNe (af oIx (af oIx (ac 0) (ae (.int 1))) (af oIx (ac 3) (ac 5))) (bf (aa (a0 dg (aa (af oIx (ac 2) (ac 5)) (aa (af oIx (ac 2) (af aV (ac 5) (ae (.int 1)))) ai))) (aa (a0 eN (aa (af oIx (ac 2) (ac 5)) (aa (af oIx (ac 2) (af aV (ac 5) (ae (.int 1)))) ai))) ai))))) (aL (ae (.bl false))) aE)) (aL (ae (.bl true)))))))))
def gi (c:CA):List D->Option D:=run 6 (ou c)
theorem nD:Ok P w mg base 1 T.v4_.toFb (spD 2 (gi c)):=fD ["_law_points", "_law_places", "_law_number", "_law_k"] fun _ _ _ _ _ _ hr nd=>
 (aj (i0 (DW.dt (kf (bi (ba (rm dv T.t_ T.b_))) (kf (kB (c6 T.d_ dv) ah hr) (kf (bi (ba (kA (dx dv ah) T.h_ T.b_))) (pU (bi (ba (kA (dx dv ah) T.h_ T.b_)))))))) (ak (az bF))) (aj (ds_asg dv (g2 (gn nd) (gn nd))) (aj (i0 (t_or (kB (c6 T.d_ dv) (aR aO (c6 T.d_ dv) ah) hr) (kB (je rfl dv rfl T.d_ rfl T.e_) (c6 T.d_ dv) hr)) (ak (az bF))) (aj (sf (aS (aR aO dv dv)) (gn nd) (ak (i0 (t_or3 (ba (qc dv T.a_ T.b_)) (bi (ba (ii_int dv T.c_ T.b_))) (tc2 eV dv ah)) (ak (az bF))))) (aj (i0 (t_or (tc2 op_oGe (de_b1 (c_max1 rfl) boot_max T.j_ (d1 dv)) (dx dv ah)) (bi (ba (pb T.m_ (dc ["_law_place", "_law_told_here"] (aS dv) (fun nd _ _ _ _ _=>⟨(gn nd),bB,(dc2 eV dv (c6 T.d_ (dx dv ah)))⟩)))))) (ak (az bF))) (aj (sf (ir T.i_ (c6 T.d_ dv)) (gn nd) (ak (i0 (kB (dx (dx dv ah) (dx dv dv)) (bo (ad (gu (jN rfl) boot_min T.k_ (ad (dx dv dv) (d1 (dx dv (aR aO dv ah))))) (d1 (gu (la rfl) boot_max T.j_ (ad (dx dv dv) (d1 (dx dv (aR aO dv ah)))))))) hr) (ak (az bF))))) (ak (az bF))))))))
noncomputable def kJ (c:CA):FS:=(aL ((gN (ao 2 (gi c) (aa (ac 0) (aa (ac 1) ai))) (af oEq (eD (af oIx (ac 1) (ae (.int 0)))) (aD cc (aa (af oIx (ac 1) (ae (.int 0))) ai))))))
def fw (c:CA):List D->Option D:=run 2 (kJ c)
theorem oy:Ok P w mg base 2 T.w4_.toFb (spD 2 (fw c)):=fD [] fun _ _ _ _ _ _ hr nd=>
 (ak (az ((dR (du (nD T) hr (ad dv (d1 dv))) (iI (c_eq (je rfl (dx dv ah) rfl T.d_ rfl T.e_) (c6 T.d_ (dx dv ah)) hr))))))
noncomputable def tx (c:CA):FS:=(aq (sif ((bP (bb (al (aF dr (ac 4)))) (al (af oNe (aD cc (aa (ac 4) ai)) (ac 3))))) (aL (ae (.bl false))) aE) (aq (sset 5 (bV ai)) (aq (bg (aH (ac 4)) (ap 6) (aq (sif ((bP (bb (al (ao 2 (fw c) (aa (ac 0) (aa (ac 6) ai))))) (bP (al (af oNe (af oIx (af oIx (ac 6) (ae (.int 0))) (ae (.int 0))) (ac 1))) (al (af oNe (af oIx (af oIx (ac 6) (ae (.int 0))) (dun eO (ae (.int 1)))) (ac 2)))))) (aL (ae (.bl false))) aE) (sset 5 (af aV (ac 5) (cn (af oIx (ac 6) (ae (.int 0))) (b9 (ae (.int 1))) (b9 (dun eO (ae (.int 1))))))))) (aL (af oEq (eD (ac 5)) (aD cc (aa (ac 5) ai)))))))
def ej (c:CA):List D->Option D:=run 7 (tx c)
theorem lS:Ok P w mg base 3 T.x4_.toFb (spD 5 (ej c)):=fD ["_law_inner", "_law_way"] fun _ _ _ _ _ _ hr nd=>
 (aj (i0 (t_or (bi (ba (kA dv T.h_ T.b_))) (kB (c6 T.d_ dv) dv hr)) (ak (az bF))) (aj (sA nd (bN gO)) (aj (sf (aS dv) (gn nd) (aj (i0 (t_or3 (bi (ba (du (oy T) hr (ad dv (d1 dv))))) (kB (dx (dx dv ah) ah) dv hr) (kB (dx (dx dv ah) (gT ah)) dv hr)) (ak (az bF))) (ak (sA nd (aR aO dv (gr (dx dv ah) (fu ah) (fu (gT ah)))))))) (ak (az (c_eq (je rfl dv rfl T.d_ rfl T.e_) (c6 T.d_ dv) hr))))))
noncomputable def qy (c:CA):FS:=(aq (sif ((bP (bb (al (ao 2 (ib c) (aa (ac 4) (aa (af oIx (ac 0) (ae (.int 0))) ai))))) (bP (al (af oIn (ac 1) (ac 4))) (bP (al (af oIn (ac 2) (ac 4))) (al (af oGe (aD cc (aa (ac 4) ai)) (ac 3))))))) (aL (ae (.bl false))) aE) (aq (sset 5 (bV (aa (ac 1) ai))) (aq (bg (cY (aa (af oIx (ac 0) (ae (.int 0))) ai)) (ap 6) (bg (aH (af oIx (ac 0) (ae (.int 1)))) (ap 7) (bg (aH (bV (aa (ac 7) (aa (drevT (ac 7) (dun eO (ae (.int 1)))) ai)))) (gtup 2 (dM (ap 8) (dM (ap 9) gnil))) (sif ((bQ (al (af oIn (ac 8) (ac 5))) (bQ (al (af oNotIn (ac 9) (ac 5))) (al (af oNotIn (ac 9) (ac 4)))))) (cR 5 (ac 9)) aE)))) (aL (af oNotIn (ac 2) (ac 5))))))
def fx (c:CA):List D->Option D:=run 10 (qy c)
theorem oz:Ok P w mg base 2 T.y4_.toFb (spD 5 (fx c)):=fD ["_law_met", "_law_turn", "_law_tie", "_law_begin", "_law_end"] fun _ _ _ _ _ _ hr nd=>
 (aj (i0 (DW.dt (kf (bi (ba (du (oq T) hr (ad dv (d1 (dx dv ah)))))) (kf (t_in dv dv hr) (kf (t_in dv dv hr) (pU (tc2 op_oGe (c6 T.d_ dv) dv)))))) (ak (az bF))) (aj (sA nd (bN (d1 dv))) (aj (sf (ir T.i_ (dx dv ah)) (gn nd) (ak (sf (aS (dx dv ah)) (gn nd) (ak (sf (aS (bN (ad dv (d1 (de_revT dv (gT ah)))))) (g2 (gn nd) (gn nd)) (ak (i0 (DW.dt (mQ (t_in dv dv hr) (mQ (t_ni dv dv hr) (pT (t_ni dv dv hr))))) (ak (cE (pv 5) dv))))))))) (ak (az (c_ni dv dv hr))))))
noncomputable def rW (c:CA):FS:=(aq (mW 5 (lL 4 (lw c) (aa (ac 1) (aa (ac 2) (aa (ac 3) (aa (ac 4) ai)))))) (aq (iM 5 ((bP (bb (al (aF (dY c) (ac 5)))) (al (af oEq (aF (hJ c) (ac 5)) (aF (fV c) (ac 5)))))) (aL (ae (.bl false))) aE) (aq (iM 5 ((bP (al (aF (g9 c) (ac 5))) (bP (al (aF (jU c) (ac 5))) (al (af gV ((dalt (bW c.Ways "shows" 5 (bY c) (ac 5) (aa (ac 1) (aa (ac 2) (aa (ac 3) (aa (ac 4) ai))))) (bW c.Wall "shows" 5 (bI c) (ac 5) (aa (ac 1) (aa (ac 2) (aa (ac 3) (aa (ac 4) ai))))))) (ae (.bl true))))))) (aL (ae (.bl false))) aE) (aq (sset 6 (bf (aa (af oIx (ac 0) (ae (.int 0))) (aa (cn (af oIx (ac 0) (ae (.int 1))) (b9 (ae (.int 1))) fq) ai)))) (aq (iM 5 (al (aF (fV c) (ac 5))) (aq (iM 5 (bb (al (ao 5 (fx c) (aa (ac 0) (aa (ac 2) (aa (ac 3) (aa (ac 4) (aa (eU (isC c.Wall) "points" (ac 5)) ai)))))))) (aL (ae (.bl false))) aE) (aq (iM 5 (al (af gV ((dalt (bW c.Ways "shows" 5 (bY c) (ac 5) (aa (dnw (eP c.Web 2 (aX c) (aa (af oIx (ac 6) (ae (.int 0))) (aa (af oIx (ac 6) (ae (.int 1))) ai)))) (aa (ac 2) (aa (ac 3) (aa (ac 4) ai))))) (bW c.Wall "shows" 5 (bI c) (ac 5) (aa (dnw (eP c.Web 2 (aX c) (aa (af oIx (ac 6) (ae (.int 0))) (aa (af oIx (ac 6) (ae (.int 1))) ai)))) (aa (ac 2) (aa (ac 3) (aa (ac 4) ai))))))) (ae (.bl true)))) (aL (ae (.bl false))) aE) (smutA 5 ([]++[.f c.Wall "points"]) (ac 2)))) (aq (iM 5 (bb (al (ao 5 (ej c) (aa (ac 0) (aa (ac 2) (aa (ac 3) (aa (ac 4) (aa (eU (isC c.Ways) "ways" (ac 5)) ai)))))))) (aL (ae (.bl false))) aE) (aq (m5 5 7 (ao 5 (ej c) (aa (ac 6) (aa (ac 2) (aa (ac 3) (aa (ac 4) (aa (eU (isC c.Ways) "ways" (ac 5)) ai))))))) (aq (iM 5 (al (af oNe ((dalt (bW c.Ways "shows" 5 (bY c) (ac 5) (aa (dnw (eP c.Web 2 (aX c) (aa (af oIx (ac 6) (ae (.int 0))) (aa (af oIx (ac 6) (ae (.int 1))) ai)))) (aa (ac 2) (aa (ac 3) (aa (ac 4) ai))))) (bW c.Wall "shows" 5 (bI c) (ac 5) (aa (dnw (eP c.Web 2 (aX c) (aa (af oIx (ac 6) (ae (.int 0))) (aa (af oIx (ac 6) (ae (.int 1))) ai)))) (aa (ac 2) (aa (ac 3) (aa (ac 4) ai))))))) (ac 7))) (aL (ae (.bl false))) aE) (smut 5 ((([]++[.f c.Ways "ways"])++[.x 0])++[.x 0]) opRev))))) (sretB 5 (af oIs ((dalt (bW c.Ways "shows" 5 (bY c) (ac 5) (aa (ac 1) (aa (ac 2) (aa (ac 3) (aa (ac 4) ai))))) (bW c.Wall "shows" 5 (bI c) (ac 5) (aa (ac 1) (aa (ac 2) (aa (ac 3) (aa (ac 4) ai))))))) (ae (.bl false)))))))))
def bZ (c:CA):List D->Option D:=run 8 (rW c)
theorem kK:Ok P w mg base 6 T.z4_.toFb (spD 5 (bZ c)):=fD ["_law_found", "_law_less", "_law_due"] fun _ _ _ _ _ _ hr nd=>
 (aj (stN nd (nu (ok_ways T) hr (ad dv (ad dv (ad dv (d1 dv)))))) (aj (iB0 (t_or (bi (ba (ii_c dv T.b1_ (K_Answer T) T.b_))) (t_eq (ii_c dv T.o_ (K_Ways T) T.b_) (ii_c dv T.q_ (K_Wall T) T.b_) hr)) (ak (az bF))) (aj (iB0 (t_or3 (ba (ii_c dv T.f1_ (K_Part T) T.b_)) (ba (ii_c dv T.d1_ (K_Bar T) T.b_)) (tc2 lh ((pV (dm T.o_.cls (eK T) hr dv (ad dv (ad dv (ad dv (d1 dv))))) (dm T.q_.cls (eL T) hr dv (ad dv (ad dv (ad dv (d1 dv))))))) bF)) (ak (az bF))) (aj (sA nd (bo (ad (dx dv ah) (d1 (gr (dx dv ah) (fu ah) km))))) (aj (ds_ifB (ba (ii_c dv T.q_ (K_Wall T) T.b_)) (aj (iB0 (bi (ba (du (oz T) hr (ad dv (ad dv (ad dv (ad dv (d1 (df dv T.q_.cls T.r_))))))))) (ak (az bF))) (aj (iB0 (tc2 lh ((pV (dm T.o_.cls (eK T) hr dv (ad (o7 (nk T.f_ (bR T) hr (ad (dx dv ah) (d1 (dx dv ah))))) (ad dv (ad dv (d1 dv))))) (dm T.q_.cls (eL T) hr dv (ad (o7 (nk T.f_ (bR T) hr (ad (dx dv ah) (d1 (dx dv ah))))) (ad dv (ad dv (d1 dv))))))) bF) (ak (az bF))) (ak (sO (dp_fld (C:=c.Wall) (dp_var (pv 5)) ⟨T.q_.cls,T.r_⟩) dv)))) (aj (iB0 (bi (ba (du (lS T) hr (ad dv (ad dv (ad dv (ad dv (d1 (df dv T.o_.cls T.p_))))))))) (ak (az bF))) (aj (stB nd (du (lS T) hr (ad dv (ad dv (ad dv (ad dv (d1 (df dv T.o_.cls T.p_)))))))) (aj (iB0 (kB ((pV (dm T.o_.cls (eK T) hr dv (ad (o7 (nk T.f_ (bR T) hr (ad (dx dv ah) (d1 (dx dv ah))))) (ad dv (ad dv (d1 dv))))) (dm T.q_.cls (eL T) hr dv (ad (o7 (nk T.f_ (bR T) hr (ad (dx dv ah) (d1 (dx dv ah))))) (ad dv (ad dv (d1 dv))))))) dv hr) (ak (az bF))) (ak (re (dp_ix (n:=0) (dp_ix (n:=0) (dp_fld (C:=c.Ways) (dp_var (pv 5)) ⟨T.o_.cls,T.p_⟩) pe_int (fun _ _=>rfl)) pe_int (fun _ _=>rfl)))))))) (ak (ds_retB (dc2 op_oIs ((pV (dm T.o_.cls (eK T) hr dv (ad dv (ad dv (ad dv (d1 dv))))) (dm T.q_.cls (eL T) hr dv (ad dv (ad dv (ad dv (d1 dv))))))) bF))))))))
noncomputable def tz (c:CA):FS:=(aq (stry 4 (fW c) (eZ 4 (mI c) (aa (ac 0) (aa (ac 1) (aa (ac 2) (aa (ac 3) ai))))) (aq (sset 5 (bV (aa (me 4 (fY c)) (aa (me 4 (fZ c)) (aa (me 4 (hU c)) ai))))) (aq (sset 5 (af aV (ac 5) (bV (aa (me 4 (jn c)) (aa (me 4 (jo c)) (aa (dnot (me 4 (eJ c))) ai)))))) (aL ((gN (me 4 (mH c)) (dnot (aD oAny (aa (ac 5) ai))))))))) (aL (ae (.bl false))))
def ic (c:CA):List D->Option D:=run 6 (tz c)
theorem rX:Ok P w mg base 6 T.a5_.toFb (spD 4 (ic c)):=fD ["error", "_law_others"] fun _ _ _ _ _ _ hr nd=>
 (aj (sty (okx_ways T) hr (ad dv (ad dv (ad dv (d1 dv)))) T.p1_ (rJ T) nd fun _ _ _ hf h2=>(aj (sA nd (bN (ad (ixc T.j1_ (rK T) T.b_) (ad (ixc T.i1_ (rL T) T.b_) (d1 (ixc T.h1_ (sX T) T.b_)))))) (aj (sA nd (aR aO dv (bN (ad (ixc T.m1_ (KX_BadWeb T) T.b_) (ad (ixc T.l1_ (KX_TooFew T) T.b_) (d1 (de_not (ixt T.k1_ (oj T) T.b_)))))))) (ak (az ((dR (ixc T.o1_ (KX_Tied T) T.b_) (iI (de_not (de_b1 (c_anyX hf h2) boot_any T.n1_ (d1 dv))))))))))) (ak (az bF)))
noncomputable def F_law (c:CA) (K:Frag):FS:=(aq (sset 1 (ao 2 (jY c) (aa (af aV (iN K 0 (bK c K) (ae (.int 0))) (af cb (ae (.int 31)) (iN K 0 (bK c K) (ae (.int 1))))) (aa (ae (.int 2)) ai)))) (aq (sset 2 (dnw (eP c.Web 2 (aX c) (aa (af oIx (ac 1) (ae (.int 0))) (aa (af oIx (ac 1) (ae (.int 1))) ai))))) (aq (lI 3 4 (iN K 0 (bK c K) (ae (.int 2))) (ae (.int 0))) (aq (bg (cY (aa (af oIx (ac 1) (ae (.int 0))) ai)) (ap 5) (bg (cY (aa (af oIx (ac 1) (ae (.int 0))) ai)) (ap 6) (aq (sset 7 (af aV (ae (.int 1)) (ao 3 (aC c) (aa (af aV (af aV (ac 3) (ac 5)) (af cb (ae (.int 8)) (ac 6))) (aa (ae (.int 1)) (aa (af oIx (bf (aa (ae (.int 4)) (aa (ae (.int 8)) ai))) (af oDiv (ao 3 (aC c) (aa (ac 3) (aa (ae (.int 2)) (aa (ae (.int 4)) ai)))) (ae (.int 3)))) ai)))))) (sif ((bQ (al (af oNe (ac 5) (ac 6))) (al (af oIn (bf (aa (a0 dg (aa (ac 5) (aa (ac 6) ai))) (aa (a0 eN (aa (ac 5) (aa (ac 6) ai))) ai))) (af oIx (ac 1) (ae (.int 1))))))) (sif (bb (al (ao 4 (ic c) (aa (ac 2) (aa (ac 5) (aa (ac 6) (aa (ac 7) ai))))))) (aL (ae (.bl false))) aE) (sif ((bQ (al (af oNe (ac 5) (ac 6))) (bQ (al (af oLt (ac 4) (ae (.int 6)))) (al (af oEq (ao 3 (aC c) (aa (af aV (af aV (ac 3) (ac 5)) (af cb (ae (.int 8)) (ac 6))) (aa (ae (.int 3)) (aa (ae (.int 2)) ai)))) (ae (.int 0))))))) (aq (sset 4 (af aV (ac 4) (ae (.int 1)))) (gQ 7 (bg (aH (bV (aa (ac 7) (aa (af aV (ae (.int 1)) (af oMod (ac 7) (ae (.int 8)))) (aa (ac 7) ai))))) (ap 8) (sif (bb (al (ao 5 (bZ c) (aa (ac 1) (aa (ac 2) (aa (ac 5) (aa (ac 6) (aa (ac 8) ai)))))))) (aL (ae (.bl false))) aE)))) aE))))) (aq (sset 9 (af aV (ae (.int 4)) (ao 3 (aC c) (aa (ac 3) (aa (ae (.int 4)) (aa (ae (.int 3)) ai)))))) (aq (sset 10 (af aV (bC (cY (aa (ac 9) ai)) (ap 0) cN (bf (aa (ae (.int 0)) (aa (af aV (ac 0) (ae (.int 1))) ai))) 1 []) (bC (cY (aa (ac 9) ai)) (ap 0) cN (bf (aa (af aV (ac 0) (ae (.int 1))) (aa (ae (.int 7)) ai))) 1 []))) (aq (gQ 9 (bg (aH (bV (aa (ac 9) (aa (af aV (ac 9) (ae (.int 1))) ai)))) (ap 8) (gQ 10 (sif (bb (al (ao 5 (bZ c) (aa (bf (aa (ae (.int 8)) (aa (ac 10) ai))) (aa (dnw (eP c.Web 2 (aX c) (aa (ae (.int 8)) (aa (ac 10) ai)))) (aa (ae (.int 7)) (aa (ae (.int 0)) (aa (ac 8) ai)))))))) (aL (ae (.bl false))) aE)))) (aL (af oEq ((bW c.Web "ties" 1 (bv c) (ac 2) ai)) (af oIx (ac 1) (ae (.int 1))))))))))))
noncomputable def m_law (c:CA) (K:Frag):List Int->Option D:=runL 11 K (F_law c K)
theorem ok_law:Ok P w mg base 7 T.law.toFb (spL K (m_law c K)):=fL ["_law_told_here", "_law_web", "_law_cell", "_law_asked", "_law_one", "_law_other", "_law_many", "_law_count", "_law_wide", "_law_ties"] fun _ _ _ _ _ _ hr nd=>
 (aj (sA nd (du (rV T) hr (ad (aR aO (duS (fJ T) hr (pv 0) ah) (aR dq ah (duS (fJ T) hr (pv 0) ah))) (d1 ah)))) (aj (sA nd (o7 (nk T.f_ (bR T) hr (ad (dx dv ah) (d1 (dx dv ah)))))) (aj (ds_par rfl nd rfl rfl (by decide) rfl rfl (duS (fJ T) hr (pv 0) ah) ah rfl) (aj (sf (ir T.i_ (dx dv ah)) (gn nd) (ak (sf (ir T.i_ (dx dv ah)) (gn nd) (aj (sA nd (aR aO ah (du (br T) hr (ad (aR aO (aR aO dv dv) (aR dq ah dv)) (ad ah (d1 (dx (bo (ad ah (d1 ah))) (aR op_oDiv (du (br T) hr (ad dv (ad ah (d1 ah)))) ah)))))))) (ak (ds_if (m7 (kB dv dv hr) (t_in (bo (ad (gu (jN rfl) boot_min T.k_ (ad dv (d1 dv))) (d1 (gu (la rfl) boot_max T.j_ (ad dv (d1 dv)))))) (dx dv ah) hr)) (ak (i0 (bi (ba (du (rX T) hr (ad dv (ad dv (ad dv (d1 dv))))))) (ak (az bF)))) (ak (i0 (DW.dt (mQ (kB dv dv hr) (mQ (tc2 eV dv ah) (pT (t_eq (du (br T) hr (ad (aR aO (aR aO dv dv) (aR dq ah dv)) (ad ah (d1 ah)))) ah hr))))) (aj (sA nd (aR aO dv ah)) (ak (fB (sf (aS (bN (ad dv (ad (aR aO ah (aR gS dv ah)) (d1 dv))))) (gn nd) (ak (i0 (bi (ba (du (kK T) hr (ad dv (ad dv (ad dv (ad dv (d1 dv)))))))) (ak (az bF)))))))))))))))) (aj (sA nd (aR aO ah (du (br T) hr (ad dv (ad ah (d1 ah)))))) (aj (sA nd (aR aO (dc ["_law_k"] (ir T.i_ dv) (fun nd _ _ _ _ _=>⟨(gn nd),bB,(bo (ad ah (d1 (aR aO dv ah))))⟩)) (dc ["_law_k"] (ir T.i_ dv) (fun nd _ _ _ _ _=>⟨(gn nd),bB,(bo (ad (aR aO dv ah) (d1 ah)))⟩)))) (aj (fB (sf (aS (bN (ad dv (d1 (aR aO dv ah))))) (gn nd) (ak (fB (i0 (bi (ba (du (kK T) hr (ad (bo (ad ah (d1 dv))) (ad (o7 (nk T.f_ (bR T) hr (ad ah (d1 dv)))) (ad ah (ad ah (d1 dv)))))))) (ak (az bF))))))) (ak (az (c_eq ((dm0 T.f_.cls (eQ T) hr dv)) (dx dv ah) hr))))))))))
end
end Pg
end
section
namespace Pg
open PySem PySem.Spec L2 Ew Mx
abbrev sd (d:D):Option E:=some (.sh d)
abbrev si (i:Int):Option E:=some (.sh (.int i))
variable (c:CA)
theorem bJ:big=100000:=rfl
@[simp] theorem ci (k:DSt->Option Res) (δ:DSt):Res.loop k (.nx δ)=k δ:=rfl
@[simp] theorem loop_rt (k:DSt->Option Res) (r:R):Res.loop k (.rt r)=some (.rt r):=rfl
section
variable {P:Type} [DecidableEq P] (A:Enc P)
noncomputable def pj:FS:=sif ((bQ (al (af oEq (af oIx (ac 4) (ae (.int 0))) (af oIx (ac 2) (ac 3)))) (al (af oNotIn (af oIx (ac 4) (ae (.int 1))) (ac 2))))) (cR 2 (af oIx (ac 4) (ae (.int 1)))) aE
theorem nE (hA:A.k<=15) {σ:Type} (es:σ->D) (pr:σ->P×P) (xI:∀ s,∃ rest,es s=.tup (A.e (pr s).1::A.e (pr s).2::rest)) {e0 e1:Option E} {k:Nat} {p:P} :
  ∀ (L:List σ) (f:List P) (x:Option E),f[k]?=some p->f.length+L.length<=1000->
  ∃ x',aW (ap 4) pj (L.map es) [e0,e1,some (.ow (f.map A.e)),si k,x]=some (.nx [e0,e1,some (.ow ((iP (L.map pr) p f).map A.e)),si k,x'])
 | [],f,x,_,_=>⟨x,rfl⟩
 | s::L,f,x,hk,hl=>by
  obtain ⟨rest,er⟩:=xI s;have vt:(f.map A.e)[k]?=some (A.e p):=by rw [zc,hk];rfl
  have hb:pj [e0,e1,some (.ow (f.map A.e)),si k,sd (es s)]=some (.nx [e0,e1,some (.ow ((eY p f (pr s)).map A.e)),si k,sd (es s)]):=by
   unfold pj eY;rw [er];simp only [cq,p5,dw,lg,dS,lf,uj,ug,ud,bH,view_bw,oIx_t,lJ,dN,dB,jT,vt,Option.map_some,A.oEq hA,bool_bl,A.oNotIn hA];by_cases h1:(pr s).1=p
   ·by_cases h2:(pr s).2∈f
    ·simp [h1,h2]
    ·have:f.length<=big:=by rw [bJ];simp at hl;omega
     simp [h1,h2,cR,dB,this]
   ·simp [h1]
  obtain ⟨x',ih⟩:=nE hA es pr xI (e0:=e0) (e1:=e1) (k:=k) (p:=p) L (eY p f (pr s)) (some (.sh (es s))) (by
   unfold eY;split
   ·rw [zw]
    ·exact hk
    ·exact (yX.mp hk).1
   ·exact hk) (by
   unfold eY;simp at hl;split
   ·simp;omega
   ·omega)
  refine ⟨x',?_⟩;rw [zb];unfold aW;have hg:ap 4 (es s) [e0,e1,some (.ow (f.map A.e)),si k,x]=some [e0,e1,some (.ow (f.map A.e)),si k,sd (es s)]:=rfl;rw [hg];show (pj _).bind _=_;rw [hb];exact ih
noncomputable def whileR (n:Nat):FS:=dn (al (af oLt (ac 3) (aD cc (aa (ac 2) ai)))) (aq (bg (aH (ac 1)) (ap 4) pj) (ma (·+·) 3 (ae (.int 1)))) n
theorem jE (hA:A.k<=15) {σ:Type} (es:σ->D) (pr:σ->P×P) (xI:∀ s,∃ rest,es s=.tup (A.e (pr s).1::A.e (pr s).2::rest)) {e0:Option E} (L:List σ) (b:P) (hL:L.length<=100) :
  ∀ (n k:Nat) (f:List P) (x:Option E),RInv (L.map pr) b f->k<=f.length->L.length+2<=n+k->
  ∃ k' x',whileR n [e0,sd (.lst (L.map es)),some (.ow (f.map A.e)),si k,x]=some (.nx [e0,sd (.lst (L.map es)),some (.ow ((lO (L.map pr) n k f).map A.e)),k',x'])
 | 0,k,f,x,I,hk,hn=>by
  have h2:=zm (l₂:=b::(L.map pr).map (·.2)) I.nd (by
   intro p hp;rcases I.sub p hp with e | ⟨s,hs,e⟩
   ·simp [e]
   ·simp only [zj,zH];exact .inr ⟨s,zH.1 hs,e⟩)
  simp at h2;omega
 | n+1,k,f,x,I,hk,hn=>by
  have hfl:f.length<=L.length+1:=by
   have h2:=zm (l₂:=b::(L.map pr).map (·.2)) I.nd (by
    intro p hp;rcases I.sub p hp with e | ⟨s,hs,e⟩
    ·simp [e]
    ·simp only [zj,zH];exact .inr ⟨s,zH.1 hs,e⟩)
   simpa using h2
  unfold whileR dn;have ht:(al (af oLt (ac 3) (aD cc (aa (ac 2) ai)))) [e0,sd (.lst (L.map es)),some (.ow (f.map A.e)),si k,x]=some (decide (k<f.length)):=by
   simp
  rw [ht];simp only [ud];cases hp:f[k]? with
  | none=>
   have:¬k<f.length:=by rw [List.getElem?_eq_none_iff] at hp;omega
   refine ⟨some (.sh (.int k)),x,?_⟩;rw [if_neg (by simpa using this)];unfold lO;rw [hp]
  | some p=>
   have vt:k<f.length:=(yX.mp hp).1;rw [if_pos (by simpa using vt)];obtain ⟨x',tU⟩:=nE A hA es pr xI (e0:=e0) (e1:=some (.sh (.lst (L.map es)))) (k:=k) (p:=p) L f x hp (by omega);obtain ⟨i1,⟨e1,j1⟩,i3⟩:=lm (p:=p) (L.map pr) f (fun _ h=>h) I (List.mem_of_getElem? hp);have vf:(aq (bg (aH (ac 1)) (ap 4) pj) (ma (·+·) 3 (ae (.int 1)))) [e0,sd (.lst (L.map es)),some (.ow (f.map A.e)),si k,x] =
     some (.nx [e0,sd (.lst (L.map es)),some (.ow ((iP (L.map pr) p f).map A.e)),si ((k+1:Nat):Int),x']):=by
    simp only [dU,bg,cf,dS,uj,ug,ud,gU,bH];simp only [Bool.false_eq_true,if_false,ud];rw [tU];simp [ma]
   rw [vf];simp only [ud,ci];obtain ⟨k',x'',ih⟩:=jE hA es pr xI (e0:=e0) L b hL n (k+1) (iP (L.map pr) p f) x' i1 (by rw [j1];simp;omega) (by omega);refine ⟨k',x'',?_⟩;have e2:lO (L.map pr) (n+1) k f=lO (L.map pr) n (k+1) (iP (L.map pr) p f):=by
    show (match f[k]? with | none=>f | some p=>_)=_;rw [hp]
   rw [e2];exact ih
theorem nF (hA:A.k<=15) {σ:Type} (es:σ->D) (pr:σ->P×P) (xI:∀ s,∃ rest,es s=.tup (A.e (pr s).1::A.e (pr s).2::rest)) (L:List σ) (b:P) (hL:L.length<=90) :
  gG c [A.e b,.lst (L.map es)]=some (.lst ((reach 100 (L.map pr) b).map A.e)):=by
 obtain ⟨k',x',h⟩:=jE A hA es pr xI (e0:=some (.sh (A.e b))) L b (by omega) 100 0 [b] none ⟨by simp,by simp,by simp,by intro Q h _ p hp;simp at hp;rw [hp];exact h⟩ (by simp) (by omega);have hF:pi c=aq (sset 2 (bV (aa (ac 0) ai))) (aq (sset 3 (ae (.int 0))) (aq (whileR 100) (gp 2))):=rfl;have h0:[some (E.sh (A.e b)),sd (.lst (L.map es)),some (.ow ([b].map A.e)),si (0:Nat),none]=[some (E.sh (A.e b)),sd (.lst (L.map es)),some (.ow [A.e b]),si 0,none]:=rfl;rw [h0] at h;have h1:(1:Nat)<=big:=by rw [bJ];omega
 simp only [gG,run_e,hF,dU,sset_e,dlst_e,aP,eX,dS,lf,zb,List.map_nil,zQ,List.length_nil,List.cons_append,List.nil_append,List.replicate,uj,ug,ud,o4,qX,gU,bH,ent_fr,ent_sh,thn_nx];simp [h1];rw [h];simp [reach]
end
section
variable {P N:Type} [DecidableEq P] [DecidableEq N] (A:Enc P) (B:Enc N)
def ay (w:Wlk P N):D:=.tup [.lst (w.1.map A.e),.lst (w.2.map B.e)]
theorem tri_k (hA:A.k<=9) (hB:B.k<=9):(A.tri B).k<=10:=by show max A.k B.k+1<=10;omega
theorem lT (s:P×P×N):(A.tri B).e s=.tup [A.e s.1,A.e s.2.1,B.e s.2.2]:=rfl
theorem bj {k:Nat} {F:FS} {ds:List D} {δ:DSt} {r:R} (h0:ds.map (fun d=>some (E.sh d))++List.replicate (k-ds.length) none=δ) (h:F δ=some (.rt r)) (hb:r.isBw=false):Ew.run k F ds=some r.view:=by
 unfold Ew.run;rw [h0,h];simp [hb]
theorem cj {fi:DSt->Option (List D)} {g:GD} {t:DSt->Option Bool} {fe:FE} {m:Nat} {ix:List Nat} {δ:DSt} {items out:List D} (h1:fi δ=some items) (h2:items.length<=1000) (h3:cZ g t fe (dIn m ix δ) items=some out) :
  bC fi g t fe m ix δ=some (.fr out):=by
 unfold bC;rw [h1];show (if items.length<=big then _ else _)=_;rw [if_pos (by rw [bJ];omega),h3];rfl
theorem call1 {m:List D->Option D} {f1:FE} {δ:DSt} {r1:R} {d:D} (h1:f1 δ=some r1) (hm:m [r1.view]=some d) (hb:r1.isBw=false\/d.flat=true):ao 1 m (aa f1 ai) δ=some (.sh d):=by
 simp only [kr,aP,eX,h1,ud,jh,zb,List.map_nil,hm];rw [if_pos];exact ⟨rfl,hb.imp (fun h=>by simp [h]) id⟩
theorem kL {m:List D->Option D} {f1 f2:FE} {δ:DSt} {r1 r2:R} {d:D} (h1:f1 δ=some r1) (h2:f2 δ=some r2) (hm:m [r1.view,r2.view]=some d) (hb:(r1.isBw=false/\r2.isBw=false)\/d.flat=true):ao 2 m (aa f1 (aa f2 ai)) δ=some (.sh d):=by
 simp only [kr,aP,eX,h1,h2,ud,jh,zb,List.map_nil,hm];rw [if_pos];exact ⟨rfl,hb.imp (fun h=>by simp [h]) id⟩
theorem call3 {m:List D->Option D} {f1 f2 f3:FE} {δ:DSt} {r1 r2 r3:R} {d:D} (h1:f1 δ=some r1) (h2:f2 δ=some r2) (h3:f3 δ=some r3) (hm:m [r1.view,r2.view,r3.view]=some d) (hb:(r1.isBw=false/\r2.isBw=false/\r3.isBw=false)\/d.flat=true):ao 3 m (aa f1 (aa f2 (aa f3 ai))) δ=some (.sh d):=by
 simp only [kr,aP,eX,h1,h2,h3,ud,jh,zb,List.map_nil,hm];rw [if_pos];exact ⟨rfl,hb.imp (fun h=>by simp [h]) id⟩
theorem cs1 {m:List D->Option D} {f1:FE} {δ:DSt} {a d:D} (h1:f1 δ=some (.sh a)) (hm:m [a]=some d):ao 1 m (aa f1 ai) δ=some (.sh d):=call1 h1 hm (.inl rfl)
theorem cs2 {m:List D->Option D} {f1 f2:FE} {δ:DSt} {a b d:D} (h1:f1 δ=some (.sh a)) (h2:f2 δ=some (.sh b)) (hm:m [a,b]=some d):ao 2 m (aa f1 (aa f2 ai)) δ=some (.sh d):=kL h1 h2 hm (.inl ⟨rfl,rfl⟩)
theorem cs3 {m:List D->Option D} {f1 f2 f3:FE} {δ:DSt} {a b e d:D} (h1:f1 δ=some (.sh a)) (h2:f2 δ=some (.sh b)) (h3:f3 δ=some (.sh e)) (hm:m [a,b,e]=some d):ao 3 m (aa f1 (aa f2 (aa f3 ai))) δ=some (.sh d):=call3 h1 h2 h3 hm (.inl ⟨rfl,rfl,rfl⟩)
theorem call4 {m:List D->Option D} {f1 f2 f3 f4:FE} {δ:DSt} {r1 r2 r3 r4:R} {d:D} (h1:f1 δ=some r1) (h2:f2 δ=some r2) (h3:f3 δ=some r3) (h4:f4 δ=some r4) (hm:m [r1.view,r2.view,r3.view,r4.view]=some d) (hb:(r1.isBw=false/\r2.isBw=false/\r3.isBw=false/\r4.isBw=false)\/d.flat=true):ao 4 m (aa f1 (aa f2 (aa f3 (aa f4 ai)))) δ=some (.sh d):=by
 simp only [kr,aP,eX,h1,h2,h3,h4,ud,jh,zb,List.map_nil,hm];rw [if_pos];exact ⟨rfl,hb.imp (fun h=>by simp [h]) id⟩
theorem cs4 {m:List D->Option D} {f1 f2 f3 f4:FE} {δ:DSt} {a b e g d:D} (h1:f1 δ=some (.sh a)) (h2:f2 δ=some (.sh b)) (h3:f3 δ=some (.sh e)) (h4:f4 δ=some (.sh g)) (hm:m [a,b,e,g]=some d):ao 4 m (aa f1 (aa f2 (aa f3 (aa f4 ai)))) δ=some (.sh d):=call4 h1 h2 h3 h4 hm (.inl ⟨rfl,rfl,rfl,rfl⟩)
theorem cC {o:D->D->Option R} {fa fb:FE} {δ:DSt} {a b:R} {x:Option R} (h1:fa δ=some a) (h2:fb δ=some b) (h:o a.view b.view=x):af o fa fb δ=x:=by
 rw [lg,h1,h2];exact h
theorem bs {o:D->D->Option R} {fa fb:FE} {δ:DSt} {a b:D} {x:Option R} (h1:fa δ=some (.sh a)) (h2:fb δ=some (.sh b)) (h:o a b=x):af o fa fb δ=x:=cC h1 h2 h
theorem iD {f:FE} {δ:DSt} {r:R} (h:f δ=some r) (hb:r.isBw=false):aL f δ=some (.rt r):=by
 rw [sret_e,h];simp [hb]
theorem cH {i:Nat} {f:FE} {δ δ':DSt} {r:R} {en:E} (h:f δ=some r) (he:r.ent=some en) (hd:δ.set i (some en)=δ'):sset i f δ=some (.nx δ'):=by
 rw [sset_e,h,ud,he,ud,hd]
theorem seq1 {F G:FS} {δ δ1:DSt} {x:Option Res} (h:F δ=some (.nx δ1)) (h2:G δ1=x):aq F G δ=x:=by
 rw [dU,h,ud,thn_nx,h2]
theorem kM (hB:B.k<=9) (L:aI P N) (ns:List N) (hL:L.length<=1000) :
  di c [.lst (L.map (A.tri B).e),.lst (ns.map B.e)]=some (.lst ((bn L ns).map (A.tri B).e)):=by
 refine bj (r:=.fr _) rfl ?_ rfl;have:=cj (fi:=aH (ac 0)) (g:=ap 0) (t:=al (af oNotIn (af oIx (ac 0) (ae (.int 2))) (ac 1))) (fe:=ac 0) (m:=1) (ix:=[1]) (δ:=[sd (.lst (L.map (A.tri B).e)),sd (.lst (ns.map B.e))]) rfl (by simpa using hL) (cg _ _ _ _ (A.tri B).e (fun s=>decide (s.2.2∉ns)) (A.tri B).e L (fun s _=>by
  refine ⟨_,rfl,?_,fun _=>⟨.sh ((A.tri B).e s),rfl,rfl,rfl⟩⟩;simp [dIn,lT,atI_2,B.oNotIn (show B.k<=15 by omega)]))
 show aL _ _=_;rw [sret_e];erw [this];rfl
theorem fK (s:P×P×N):bA c [(A.tri B).e s]=some ((A.tri B).e (turned s)):=by
 have:(3:Nat)<=big:=by rw [bJ];omega
 simp [bA,jB,lT,dN,dB,atI_2,turned,this]
theorem cut1 (ds:List D):cutD ds (some 1) none=ds.tail:=by
 unfold cutD HT.sIx;cases ds with
 | nil=>simp
 | cons d ds=>
  simp
theorem lU:∀ (ps:List P) (ns:List N),lN (ps.map A.e) ((ps.map A.e).tail) (ns.map B.e)=(am (ps,ns)).map (A.tri B).e
 | [],ns=>rfl
 | [p],ns=>by cases ns <;> rfl
 | p::q::ps,[]=>by simp [lN,am]
 | p::q::ps,n::ns=>by
  rw [fv (q:=q) rfl];have ih:=lU (q::ps) ns;simp only [zb,<-ih];rfl
theorem lV (w:Wlk P N) (h:w.1.length=w.2.length+1):cB c [ay A B w]=some (.lst ((am w).map (A.tri B).e)):=by
 have hz:=lU A B w.1 w.2;simp [cB,nz,ay,dN,dB,cn,b9,fq,cut1,jj,h];simpa using hz
theorem eM (xs ys:List D) (h:xs.length+ys.length<=1000):aV (.lst xs) (.lst ys)=some (.fr (xs++ys)):=by
 show (if xs.length+ys.length<=big then _ else _)=_;rw [if_pos (by rw [bJ];omega)]
theorem jF (hB:B.k<=9) (L gone:aI P N) (hL:L.length<=100) (hG:gone.length<=100) :
  cU c [.lst (L.map (A.tri B).e),.lst (gone.map (A.tri B).e)]=some (.lst ((aG L gone).map (A.tri B).e)):=by
 refine bj (r:=.fr _) rfl ?_ rfl;have c1:=cj (fi:=aH (ac 1)) (g:=ap 0) (t:=cN) (fe:=af oIx (ac 0) (ae (.int 2))) (m:=1) (ix:=[]) (δ:=[sd (.lst (L.map (A.tri B).e)),sd (.lst (gone.map (A.tri B).e))]) rfl (by simp;omega) (cg _ _ _ _ (A.tri B).e (fun _=>true) (fun s=>B.e s.2.2) gone (fun s _=>by
  refine ⟨_,rfl,rfl,fun _=>⟨.sh (B.e s.2.2),?_,rfl,rfl⟩⟩;simp [dIn,lT,atI_2]))
 have c2:=cj (fi:=aH (ac 1)) (g:=ap 0) (t:=cN) (fe:=ao 1 (bA c) (aa (ac 0) ai)) (m:=1) (ix:=[]) (δ:=[sd (.lst (L.map (A.tri B).e)),sd (.lst (gone.map (A.tri B).e))]) rfl (by simp;omega) (cg _ _ _ _ (A.tri B).e (fun _=>true) (fun s=>(A.tri B).e (turned s)) gone (fun s _=>by
  refine ⟨_,rfl,rfl,fun _=>⟨.sh ((A.tri B).e (turned s)),?_,rfl,rfl⟩⟩;simp [dIn,fK]))
 have hs:=kM c A B hB L (gone.map cr) (by omega);have e1:(gone.filter fun _=>true)=gone:=by simp
 rw [e1] at c1 c2;have e2:gone.map (fun s=>B.e s.2.2)=(gone.map cr).map B.e:=by rw [zV];rfl
 rw [e2] at c1;have hlen:(bn L (gone.map cr)).length<=L.length:=mG;refine iD (cC (kL (r1:=.sh _) (r2:=.fr _) rfl c1 hs (.inl ⟨rfl,rfl⟩)) c2 ?_) rfl;have:=eM ((bn L (gone.map cr)).map (A.tri B).e) (gone.map (fun s=>(A.tri B).e (turned s))) (by simp;omega);refine this.trans ?_;unfold aG;rw [zT,zV];rfl
theorem rY (hA:A.k<=9) (hB:B.k<=9) (gone:aI P N) (w:Wlk P N) (hG:gone.length<=100) (hw:w.2.length<=100) (h:w.1.length=w.2.length+1) :
  hZ c [.lst (gone.map (A.tri B).e),ay A B w]=some (.lst ((eH gone w).map (A.tri B).e)):=by
 have hT:=tri_k A B hA hB;have hsl:(am w).length<=100:=by unfold am;simp;omega
 refine bj (r:=.fr _) rfl ?_ rfl;have c1:=cj (fi:=aH (ac 0)) (g:=ap 0) (t:=al (af oNotIn (ao 1 (bA c) (aa (ac 0) ai)) (ac 1))) (fe:=ac 0) (m:=1) (ix:=[2]) (δ:=[sd (.lst (gone.map (A.tri B).e)),sd (ay A B w),sd (.lst ((am w).map (A.tri B).e)),none]) rfl (by simp;omega) (cg _ _ _ _ (A.tri B).e (fun s=>decide (turned s∉am w)) (A.tri B).e gone (fun s _=>by
  refine ⟨_,rfl,?_,fun _=>⟨.sh ((A.tri B).e s),rfl,rfl,rfl⟩⟩;simp [dIn,fK,(A.tri B).oNotIn (show (A.tri B).k<=15 by omega)]))
 have c2:=fun K=>cj (fi:=aH (ac 2)) (g:=ap 0) (t:=al (af oNotIn (ao 1 (bA c) (aa (ac 0) ai)) (ac 1))) (fe:=ac 0) (m:=1) (ix:=[0]) (δ:=[sd (.lst (gone.map (A.tri B).e)),sd (ay A B w),sd (.lst ((am w).map (A.tri B).e)),K]) rfl (by simp;omega) (cg _ _ _ _ (A.tri B).e (fun s=>decide (turned s∉gone)) (A.tri B).e (am w) (fun s _=>by
  refine ⟨_,rfl,?_,fun _=>⟨.sh ((A.tri B).e s),rfl,rfl,rfl⟩⟩;simp [dIn,fK,(A.tri B).oNotIn (show (A.tri B).k<=15 by omega)]))
 have hs:=lV c A B w h;have l1:((gone.filter fun s=>decide (turned s∉am w))).length<=gone.length:=zM _ _;have l2:(((am w).filter fun s=>decide (turned s∉gone))).length<=(am w).length:=zM _ _;refine seq1 (cH (call1 (r1:=.sh _) rfl hs (.inl rfl)) rfl rfl) ?_;refine seq1 (cH c1 rfl rfl) ?_;refine iD (cC (a:=.bw _) rfl (c2 _) ?_) rfl;refine (eM _ _ (by simp only [uk];omega)).trans ?_;unfold eH;rw [zT]
end
section
variable {P N:Type} [DecidableEq P] [DecidableEq N] (A:Enc P) (B:Enc N)
noncomputable def nG:FS:=sif ((bQ (al (af oEq (af oIx (ac 7) (ae (.int 0))) (af oIx (ac 6) (dun eO (ae (.int 1)))))) (al (af oNotIn (af oIx (ac 7) (ae (.int 1))) (ac 4))))) (aq (cR 4 (af oIx (ac 7) (ae (.int 1)))) (cR 3 (bf (aa (af aV (ac 6) (bV (aa (af oIx (ac 7) (ae (.int 1))) ai))) (aa (af aV (af oIx (af oIx (ac 3) (ac 5)) (ae (.int 1))) (bV (aa (af oIx (ac 7) (ae (.int 2))) ai))) ai))))) aE
theorem nI (i:Int):eO (.int i)=some (.sh (.int (-i))):=rfl
theorem walk_body (hA:A.k<=9) (hB:B.k<=9) {e0 e1 e2:Option E} {k:Nat} {w:Wlk P N} {b:P} (hb:w.1.getLast?=some b) (s:P×P×N) (q:List (Wlk P N)×List P) (hk:q.1[k]?=some w)
  (l1:q.1.length<=900) (l2:q.2.length<=900) (l3:w.1.length<=900) (l4:w.2.length<=900) :
  nG [e0,e1,e2,some (.ow (q.1.map (ay A B))),some (.ow (q.2.map A.e)),si k,sd (.lst (w.1.map A.e)),sd ((A.tri B).e s)] =
   some (.nx [e0,e1,e2,some (.ow ((scan1 w q s).1.map (ay A B))),some (.ow ((scan1 w q s).2.map A.e)),si k,sd (.lst (w.1.map A.e)),sd ((A.tri B).e s)]):=by
 have vt:(q.1.map (ay A B))[k]?=some (ay A B w):=by rw [zc,hk];rfl
 have uT:(w.1.map A.e).getLast?=some (A.e b):=by rw [getLast?_map',hb];rfl
 have hA':A.k<=15:=by omega
 have b1:(1:Nat)<=big:=by rw [bJ];omega
 have b2:(2:Nat)<=big:=by rw [bJ];omega
 have b3:q.2.length<=big:=by rw [bJ];omega
 have b4:q.1.length<=big:=by rw [bJ];omega
 unfold nG scan1;rw [lT];simp only [cq,p5,dw,lg,dun_e,dS,lf,uj,ug,ud,bH,view_bw,oIx_t,lJ,dN,dB,jT,nI,qk,uT,Option.map_some,A.oEq hA',bool_bl,A.oNotIn hA'];by_cases h1:s.1=b
 ·by_cases h2:s.2.1∈q.2
  ·simp [h1,h2,hb]
  ·have a1:=eM (w.1.map A.e) [A.e s.2.1] (by simp;omega);have a2:=eM (w.2.map B.e) [B.e s.2.2] (by simp;omega);simp [h1,h2,hb,cR,dB,atI_2,jT,vt,b1,b2,b3,b4,ay,a1,a2]
 ·have h3:¬b=s.1:=fun e=>h1 e.symm;simp [h1,hb,h3]
theorem pk (w:Wlk P N) (q:List (Wlk P N)×List P) (s:P×P×N):(scan1 w q s).1.length<=q.1.length+1/\(scan1 w q s).2.length<=q.2.length+1:=by
 unfold scan1;split
 ·simp
 ·constructor <;> omega
theorem walk_in (hA:A.k<=9) (hB:B.k<=9) {e0 e1 e2:Option E} {k:Nat} {w:Wlk P N} {b:P} (hb:w.1.getLast?=some b) (l3:w.1.length<=900) (l4:w.2.length<=900) :
  ∀ (L:aI P N) (q:List (Wlk P N)×List P) (x:Option E),q.1[k]?=some w->q.1.length+L.length<=900->q.2.length+L.length<=900->
  ∃ x',aW (ap 7) nG (L.map (A.tri B).e) [e0,e1,e2,some (.ow (q.1.map (ay A B))),some (.ow (q.2.map A.e)),si k,sd (.lst (w.1.map A.e)),x] =
   some (.nx [e0,e1,e2,some (.ow ((scan L w q).1.map (ay A B))),some (.ow ((scan L w q).2.map A.e)),si k,sd (.lst (w.1.map A.e)),x'])
 | [],q,x,_,_,_=>⟨x,rfl⟩
 | s::L,q,x,hk,h1,h2=>by
  simp at h1 h2;have hbd:=walk_body A B hA hB (e0:=e0) (e1:=e1) (e2:=e2) hb s q hk (by omega) (by omega) l3 l4;obtain ⟨x',ih⟩:=walk_in hA hB (e0:=e0) (e1:=e1) (e2:=e2) hb l3 l4 L (scan1 w q s) (some (.sh ((A.tri B).e s))) (by
   unfold scan1;split
   ·rw [zw]
    ·exact hk
    ·exact (yX.mp hk).1
   ·exact hk) (by have:=pk w q s;omega) (by have:=pk w q s;omega)
  refine ⟨x',?_⟩;rw [zb];unfold aW;have hg:ap 7 ((A.tri B).e s) [e0,e1,e2,some (.ow (q.1.map (ay A B))),some (.ow (q.2.map A.e)),si k,sd (.lst (w.1.map A.e)),x]=some [e0,e1,e2,some (.ow (q.1.map (ay A B))),some (.ow (q.2.map A.e)),si k,sd (.lst (w.1.map A.e)),sd ((A.tri B).e s)]:=rfl;rw [hg];show (nG _).bind _=_;rw [hbd];exact ih
noncomputable def ie (n:Nat):FS:=dn (al (af oLt (ac 5) (aD cc (aa (ac 3) ai)))) (aq (sset 6 (af oIx (af oIx (ac 3) (ac 5)) (ae (.int 0)))) (aq (sif (al (af oIn (af oIx (ac 6) (dun eO (ae (.int 1)))) (ac 2))) (aL (af oIx (ac 3) (ac 5))) aE) (aq (bg (aH (ac 0)) (ap 7) nG) (ma (·+·) 5 (ae (.int 1)))))) n
def outW:Option (Wlk P N)->D
 | none=>.non
 | some w=>ay A B w
theorem nJ (hA:A.k<=9) (hB:B.k<=9) {e1:Option E} (L:aI P N) (a:P) (ends:List P) (hL:L.length<=300) :
  ∀ (n k:Nat) (q:List (Wlk P N)×List P) (x6 x7:Option E),Inv L L ends a q->k<=q.1.length->L.length+2<=n+k->
  match bfs L ends n k q with
  | some w=>ie n [sd (.lst (L.map (A.tri B).e)),e1,sd (.lst (ends.map A.e)),some (.ow (q.1.map (ay A B))),some (.ow (q.2.map A.e)),si k,x6,x7]=some (.rt (.sh (ay A B w)))
  | none=>∃ δ,ie n [sd (.lst (L.map (A.tri B).e)),e1,sd (.lst (ends.map A.e)),some (.ow (q.1.map (ay A B))),some (.ow (q.2.map A.e)),si k,x6,x7]=some (.nx δ)
 | 0,k,q,x6,x7,I,hk,hn=>by have:=qe I;omega
 | n+1,k,q,x6,x7,I,hk,hn=>by
  have hql:=qe I;have hq2:q.2.length=q.1.length:=by have:=congrArg List.length I.ls;simpa using this.symm
  have ht:(al (af oLt (ac 5) (aD cc (aa (ac 3) ai)))) [sd (.lst (L.map (A.tri B).e)),e1,sd (.lst (ends.map A.e)),some (.ow (q.1.map (ay A B))),some (.ow (q.2.map A.e)),si k,x6,x7]=some (decide (k<q.1.length)):=by
   simp
  unfold bfs;cases hp:q.1[k]? with
  | none=>
   have:¬k<q.1.length:=by rw [List.getElem?_eq_none_iff] at hp;omega
   refine ⟨[sd (.lst (L.map (A.tri B).e)),e1,sd (.lst (ends.map A.e)),some (.ow (q.1.map (ay A B))),some (.ow (q.2.map A.e)),si k,x6,x7],?_⟩;unfold ie dn;rw [ht];simp only [ud];rw [if_neg (by simpa using this)]
  | some w=>
   have vt:k<q.1.length:=(yX.mp hp).1;obtain ⟨b,sw,hm⟩:=I.ok w (List.mem_of_getElem? hp);have uT:=sw.last;have wB:w.1.length<=q.2.length:=zm sw.nodup hm;have hwl2:=sw.len;have hk3:(q.1.map (ay A B))[k]?=some (ay A B w):=by rw [zc,hp];rfl
   have hl3:(w.1.map A.e).getLast?=some (A.e b):=by rw [getLast?_map',uT];rfl
   have s1:sset 6 (af oIx (af oIx (ac 3) (ac 5)) (ae (.int 0))) [sd (.lst (L.map (A.tri B).e)),e1,sd (.lst (ends.map A.e)),some (.ow (q.1.map (ay A B))),some (.ow (q.2.map A.e)),si k,x6,x7] =
     some (.nx [sd (.lst (L.map (A.tri B).e)),e1,sd (.lst (ends.map A.e)),some (.ow (q.1.map (ay A B))),some (.ow (q.2.map A.e)),si k,sd (.lst (w.1.map A.e)),x7]):=by
    simp [jT,hk3,ay,dN]
   have t2:(al (af oIn (af oIx (ac 6) (dun eO (ae (.int 1)))) (ac 2))) [sd (.lst (L.map (A.tri B).e)),e1,sd (.lst (ends.map A.e)),some (.ow (q.1.map (ay A B))),some (.ow (q.2.map A.e)),si k,sd (.lst (w.1.map A.e)),x7]=some (decide (b∈ends)):=by
    simp [nI,qk,uT,A.oIn (show A.k<=15 by omega)]
   have hli:jQ ends w=decide (b∈ends):=by simp [jQ,uT]
   simp only [hli];by_cases tY:b∈ends
   ·rw [if_pos (by simpa using tY)];show ie (n+1) _=_;unfold ie dn;rw [ht];simp only [ud];rw [if_pos (by simpa using vt)];have:(aq (sset 6 (af oIx (af oIx (ac 3) (ac 5)) (ae (.int 0)))) (aq (sif (al (af oIn (af oIx (ac 6) (dun eO (ae (.int 1)))) (ac 2))) (aL (af oIx (ac 3) (ac 5))) aE) (aq (bg (aH (ac 0)) (ap 7) nG) (ma (·+·) 5 (ae (.int 1)))))) [sd (.lst (L.map (A.tri B).e)),e1,sd (.lst (ends.map A.e)),some (.ow (q.1.map (ay A B))),some (.ow (q.2.map A.e)),si k,x6,x7]=some (.rt (.sh (ay A B w))):=by
     refine seq1 s1 ?_;rw [dU,cq,t2];simp [tY,jT,hk3]
    rw [this];rfl
   ·rw [if_neg (by simpa using tY)];obtain ⟨i1,⟨e',j1⟩,⟨e'',j2⟩,i4⟩:=m8 sw tY L q (fun _ h=>h) I hm;obtain ⟨x',tU⟩:=walk_in A B hA hB (e0:=some (.sh (.lst (L.map (A.tri B).e)))) (e1:=e1) (e2:=some (.sh (.lst (ends.map A.e)))) uT (by omega) (by omega) L q x7 hp (by omega) (by omega);have vf:(aq (sset 6 (af oIx (af oIx (ac 3) (ac 5)) (ae (.int 0)))) (aq (sif (al (af oIn (af oIx (ac 6) (dun eO (ae (.int 1)))) (ac 2))) (aL (af oIx (ac 3) (ac 5))) aE) (aq (bg (aH (ac 0)) (ap 7) nG) (ma (·+·) 5 (ae (.int 1)))))) [sd (.lst (L.map (A.tri B).e)),e1,sd (.lst (ends.map A.e)),some (.ow (q.1.map (ay A B))),some (.ow (q.2.map A.e)),si k,x6,x7] =
      some (.nx [sd (.lst (L.map (A.tri B).e)),e1,sd (.lst (ends.map A.e)),some (.ow ((scan L w q).1.map (ay A B))),some (.ow ((scan L w q).2.map A.e)),si ((k+1:Nat):Int),sd (.lst (w.1.map A.e)),x']):=by
     refine seq1 s1 ?_;refine seq1 (δ1:=[sd (.lst (L.map (A.tri B).e)),e1,sd (.lst (ends.map A.e)),some (.ow (q.1.map (ay A B))),some (.ow (q.2.map A.e)),si k,sd (.lst (w.1.map A.e)),x7]) ?_ ?_
     ·rw [cq,t2];simp [tY]
     ·refine seq1 (δ1:=[sd (.lst (L.map (A.tri B).e)),e1,sd (.lst (ends.map A.e)),some (.ow ((scan L w q).1.map (ay A B))),some (.ow ((scan L w q).2.map A.e)),si k,sd (.lst (w.1.map A.e)),x']) ?_ ?_
      ·simp only [bg,cf,dS,uj,ug,ud,gU,bH];simp only [Bool.false_eq_true,if_false,ud];exact tU
      ·simp [ma]
    have ih:=nJ hA hB (e1:=e1) L a ends hL n (k+1) (scan L w q) (some (.sh (.lst (w.1.map A.e)))) x' i1 (by rw [j1];simp;omega) (by omega);have hw:ie (n+1) [sd (.lst (L.map (A.tri B).e)),e1,sd (.lst (ends.map A.e)),some (.ow (q.1.map (ay A B))),some (.ow (q.2.map A.e)),si k,x6,x7] =
      ie n [sd (.lst (L.map (A.tri B).e)),e1,sd (.lst (ends.map A.e)),some (.ow ((scan L w q).1.map (ay A B))),some (.ow ((scan L w q).2.map A.e)),si ((k+1:Nat):Int),sd (.lst (w.1.map A.e)),x']:=by
     show dn _ _ (n+1) _=_;unfold dn;rw [ht];simp only [ud];rw [if_pos (by simpa using vt),vf];rfl
    rw [hw];exact ih
theorem eA (hA:A.k<=9) (hB:B.k<=9) (L:aI P N) (a:P) (ends:List P) (hL:L.length<=90) :
  bh c [.lst (L.map (A.tri B).e),A.e a,.lst (ends.map A.e)]=some (outW A B (dz 100 L a ends)):=by
 have h:=nJ A B hA hB (e1:=some (.sh (A.e a))) L a ends (by omega) 100 0 ([([a],[])],[a]) none none ⟨by simp,by simp,by intro w hw;simp at hw;subst hw;exact ⟨a,.nil,by simp⟩,by simp,by simp⟩ (by simp) (by omega);have hF:fj c=aq (sset 3 (bV (aa (bf (aa (bV (aa (ac 1) ai)) (aa (bV ai) ai))) ai))) (aq (sset 4 (bV (aa (ac 1) ai))) (aq (sset 5 (ae (.int 0))) (aq (ie 100) (aL (ae .non))))):=rfl;have b0:(0:Nat)<=big:=by omega
 have b1:(1:Nat)<=big:=by rw [bJ];omega
 have b2:(2:Nat)<=big:=by rw [bJ];omega
 have uh:∀ x,(ie 100 [sd (.lst (L.map (A.tri B).e)),sd (A.e a),sd (.lst (ends.map A.e)),some (.ow [ay A B ([a],[])]),some (.ow [A.e a]),si 0,none,none])=x->
   fj c [sd (.lst (L.map (A.tri B).e)),sd (A.e a),sd (.lst (ends.map A.e)),none,none,none,none,none]=x.bind (Res.thn (aL (ae .non))):=by
  intro x hx;rw [hF];refine seq1 (δ1:=[sd (.lst (L.map (A.tri B).e)),sd (A.e a),sd (.lst (ends.map A.e)),some (.ow [ay A B ([a],[])]),none,none,none,none]) (by simp [b1,b2,ay]) ?_;refine seq1 (δ1:=[sd (.lst (L.map (A.tri B).e)),sd (A.e a),sd (.lst (ends.map A.e)),some (.ow [ay A B ([a],[])]),some (.ow [A.e a]),none,none,none]) (by simp [b1]) ?_;refine seq1 (δ1:=[sd (.lst (L.map (A.tri B).e)),sd (A.e a),sd (.lst (ends.map A.e)),some (.ow [ay A B ([a],[])]),some (.ow [A.e a]),si 0,none,none]) (by simp) ?_;rw [dU,hx]
 unfold dz;cases hb:bfs L ends 100 0 ([([a],[])],[a]) with
 | some w=>
  rw [hb] at h;have:=uh _ h;exact bj (r:=.sh (ay A B w)) rfl this rfl
 | none=>
  rw [hb] at h;obtain ⟨δ,h⟩:=h;have:=uh _ h;exact bj (r:=.sh .non) rfl this rfl
end
section
variable {P N:Type} [DecidableEq P] [DecidableEq N] (A:Enc P) (B:Enc N)
theorem rng1_eq {i:Nat} {δ:DSt} {j:Int} (h:δ[i]?=some (some (.sh (.int j)))) (h1:0<=j) (h2:j<=1000000):(cY (aa (ac i) ai)) δ=some ((List.range j.toNat).map fun k=>D.int (0+((k:Nat):Int))):=by
 have hc:-(2 ^ 62:Int)<=j/\j<2 ^ 62:=⟨Int.le_trans (by decide) h1,Int.lt_of_le_of_lt h2 (by decide)⟩;unfold cY;simp only [aP,eX,dS,h,ud];rw [if_pos hc]
noncomputable def bodyM:FS:=aq (gQ 4 (sset 6 (ao 3 (bh c) (aa (ao 2 (cU c) (aa (ac 0) (aa (ac 4) ai))) (aa (ac 1) (aa (bV (aa (ac 2) ai)) ai)))))) (aq (sif (al (af oIs (ac 6) (ae .non))) (gp 4) aE) (gQ 4 (sset 4 (ao 2 (hZ c) (aa (ac 4) (aa (ac 6) ai))))))
theorem lst1 {f:FE} {δ:DSt} {r:R} (h:f δ=some r) (hb:r.isBw=false):bV (aa f ai) δ=some (.fr [r.view]):=by
 have b1:(1:Nat)<=big:=by rw [bJ];omega
 simp [h,hb,b1]
theorem pq (hA:A.k<=9) (hB:B.k<=9) {L:aI P N} {b e:P} {e3:Option E} (U:ll L) (hL:L.length<=40):∀ (ds:List D) (k:Nat) (G:aI P N) (x4 x5 x6:Option E),Flow L b e k G->
  (x4=some (.ow (G.map (A.tri B).e))\/x4=some (.sh (.lst (G.map (A.tri B).e))))->
  ∃ r:R,r.isBw=false/\r.view=.lst ((bp 100 L b e ds.length G).map (A.tri B).e)/\
   (aW (ap 5) (bodyM c) ds [sd (.lst (L.map (A.tri B).e)),sd (A.e b),sd (A.e e),e3,x4,x5,x6]).bind (Res.thn (gp 4))=some (.rt r)
 | [],k,G,x4,x5,x6,F,h4=>by
  rcases h4 with rfl | rfl
  ·exact ⟨.fr (G.map (A.tri B).e),rfl,rfl,rfl⟩
  ·exact ⟨.sh (.lst (G.map (A.tri B).e)),rfl,rfl,rfl⟩
 | d::ds,k,G,x4,x5,x6,F,h4=>by
  have hGL:=iO U F;have hfl:=rp hGL;have hb:=jk (L:=aG L G) (a:=b) (ends:=[e]) (n:=100) (by omega);have vx:∀ x5 x6,frz 4 [some (E.sh (.lst (L.map (A.tri B).e))),sd (A.e b),sd (A.e e),e3,x4,x5,x6]=[sd (.lst (L.map (A.tri B).e)),sd (A.e b),sd (A.e e),e3,sd (.lst (G.map (A.tri B).e)),x5,x6]:=by
   intro x5 x6;rcases h4 with rfl | rfl <;> rfl
  have hfs:=jF c A B hB L G (by omega) (by omega);have uE:=eA c A B hA hB (aG L G) b [e] (by omega);have s1:gQ 4 (sset 6 (ao 3 (bh c) (aa (ao 2 (cU c) (aa (ac 0) (aa (ac 4) ai))) (aa (ac 1) (aa (bV (aa (ac 2) ai)) ai))))) [sd (.lst (L.map (A.tri B).e)),sd (A.e b),sd (A.e e),e3,x4,sd d,x6] =
    some (.nx [sd (.lst (L.map (A.tri B).e)),sd (A.e b),sd (A.e e),e3,sd (.lst (G.map (A.tri B).e)),sd d,sd (outW A B (dz 100 (aG L G) b [e]))]):=by
   rw [dW,vx];refine cH (call3 (r1:=.sh _) (r2:=.sh (A.e b)) (r3:=.fr [A.e e]) (kL (r1:=.sh _) (r2:=.sh _) rfl rfl hfs (.inl ⟨rfl,rfl⟩)) rfl (lst1 (r:=.sh (A.e e)) rfl rfl) uE (.inl ⟨rfl,rfl,rfl⟩)) rfl rfl
  have hg:ap 5 d [some (E.sh (.lst (L.map (A.tri B).e))),sd (A.e b),sd (A.e e),e3,x4,x5,x6]=some [sd (.lst (L.map (A.tri B).e)),sd (A.e b),sd (A.e e),e3,x4,sd d,x6]:=rfl;show ∃ r:R,r.isBw=false/\r.view=.lst ((bp 100 L b e (ds.length+1) G).map (A.tri B).e)/\_;unfold bp aW;rw [hg];simp only [ud];cases hq:dz 100 (aG L G) b [e] with
  | none=>
   rw [hq] at s1;refine ⟨.sh (.lst (G.map (A.tri B).e)),rfl,rfl,?_⟩;have:bodyM c [sd (.lst (L.map (A.tri B).e)),sd (A.e b),sd (A.e e),e3,x4,sd d,x6]=some (.rt (.sh (.lst (G.map (A.tri B).e)))):=by
    refine seq1 s1 ?_;rfl
   rw [this];rfl
  | some w=>
   rw [hq] at s1 hb;obtain ⟨e',xK,sw⟩:=hb;simp at xK;subst xK;have xD:=sw.namesNodup (pf U F.sub);have wB:w.2.length<=100:=by
    have h1:=zm sw.stepsNodup (l₂:=aG L G) (fun s hs=>(sw.step s hs).1);have h2:=congrArg List.length sw.names;simp at h2;omega
   have hgt:=rY c A B hA hB G w (by omega) wB sw.len;have vf:bodyM c [sd (.lst (L.map (A.tri B).e)),sd (A.e b),sd (A.e e'),e3,x4,sd d,x6] =
     some (.nx [sd (.lst (L.map (A.tri B).e)),sd (A.e b),sd (A.e e'),e3,sd (.lst ((eH G w).map (A.tri B).e)),sd d,sd (ay A B w)]):=by
    refine seq1 s1 ?_;refine seq1 (δ1:=[sd (.lst (L.map (A.tri B).e)),sd (A.e b),sd (A.e e'),e3,sd (.lst (G.map (A.tri B).e)),sd d,sd (ay A B w)]) rfl ?_;rw [dW];refine cH (kL (r1:=.sh _) (r2:=.sh (ay A B w)) rfl rfl hgt (.inl ⟨rfl,rfl⟩)) rfl rfl
   rw [vf];simp only [ud,ci];exact pq hA hB U hL ds (k+1) (eH G w) _ _ _ (F.step U sw) (.inr rfl)
theorem qz (hA:A.k<=9) (hB:B.k<=9) {L:aI P N} {b e:P} (U:ll L) (hL:L.length<=40) (many:Nat) (hm:many<=1000) :
  iV c [.lst (L.map (A.tri B).e),A.e b,A.e e,.int many]=some (.lst ((bp 100 L b e many []).map (A.tri B).e)):=by
 obtain ⟨r,r1,r2,h⟩:=pq c A B hA hB (L:=L) (b:=b) (e:=e) (e3:=some (.sh (.int many))) U hL ((List.range many).map fun k=>D.int (0+(k:Nat))) 0 [] (some (.ow [])) none none .zero (.inl rfl);have hl:((List.range many).map fun k=>D.int (0+((k:Nat):Int))).length=many:=by simp
 rw [hl] at r2;rw [<-r2];refine bj rfl ?_ r1;show (aq _ (aq (bg _ _ (bodyM c)) (gp 4))) _=_;refine seq1 (δ1:=[sd (.lst (L.map (A.tri B).e)),sd (A.e b),sd (A.e e),si many,some (.ow []),none,none]) (by simp) ?_;rw [dU];have hi:=rng1_eq (i:=3) (δ:=[sd (.lst (L.map (A.tri B).e)),sd (A.e b),sd (A.e e),si many,some (.ow []),none,none]) (j:=many) rfl (by omega) (by omega);have hj:((many:Int)).toNat=many:=by simp
 rw [hj] at hi;unfold bg;rw [hi];exact h
theorem drain_eq (hA:A.k<=9) (hB:B.k<=9) {L:aI P N} {b e:P} {e0 e3:Option E} (tY:b≠e) (U:ll L) (hL:L.length<=40):∀ (f k:Nat) (G:aI P N) (ws:List (Wlk P N)),Flow L b e k G->k<f->ws.length+k<=500->
  ∃ x4 x6,dn (al (af gV (ac 6) (ae .non))) (aq (cR 5 (ac 6)) (aq (sset 4 (ao 2 (di c) (aa (ac 4) (aa (af oIx (ac 6) (ae (.int 1))) ai)))) (sset 6 (ao 3 (bh c) (aa (ac 4) (aa (ac 1) (aa (bV (aa (ac 2) ai)) ai))))))) f
   [e0,sd (A.e b),sd (A.e e),e3,sd (.lst (G.map (A.tri B).e)),some (.ow (ws.map (ay A B))),sd (outW A B (dz 100 G b [e]))] =
   some (.nx [e0,sd (A.e b),sd (A.e e),e3,x4,some (.ow ((drain 100 b e f G (dz 100 G b [e]) ws).map (ay A B))),x6])
 | 0,k,G,ws,_,hk,_=>by omega
 | f+1,k,G,ws,F,hk,hw=>by
  have hGL:=iO U F;have hb:=jk (L:=G) (a:=b) (ends:=[e]) (n:=100) (by omega);cases hq:dz 100 G b [e] with
  | none=>exact ⟨_,_,rfl⟩
  | some w=>
   rw [hq] at hb;obtain ⟨e',xK,sw⟩:=hb;simp at xK;subst xK;have:=F.pos tY sw;cases k with
   | zero=>omega
   | succ k=>
    obtain ⟨F',vq⟩:=F.take sw;have hbut:=kM c A B hB G w.2 (by omega);have hlen:(bn G w.2).length<=G.length:=mG;have uE:=eA c A B hA hB (bn G w.2) b [e'] (by omega);obtain ⟨x4,x6,ih⟩:=drain_eq hA hB (e0:=e0) (e3:=e3) tY U hL f k (bn G w.2) (ws++[w]) F' (by omega) (by simp;omega);refine ⟨x4,x6,?_⟩;unfold dn;have ht:(al (af gV (ac 6) (ae .non))) [e0,sd (A.e b),sd (A.e e'),e3,sd (.lst (G.map (A.tri B).e)),some (.ow (ws.map (ay A B))),sd (outW A B (some w))]=some true:=rfl;rw [ht];simp only [ud];rw [if_pos trivial];have uY:ws.length<=big:=by rw [bJ];omega
    have vf:(aq (cR 5 (ac 6)) (aq (sset 4 (ao 2 (di c) (aa (ac 4) (aa (af oIx (ac 6) (ae (.int 1))) ai)))) (sset 6 (ao 3 (bh c) (aa (ac 4) (aa (ac 1) (aa (bV (aa (ac 2) ai)) ai)))))))
      [e0,sd (A.e b),sd (A.e e'),e3,sd (.lst (G.map (A.tri B).e)),some (.ow (ws.map (ay A B))),sd (outW A B (some w))] =
      some (.nx [e0,sd (A.e b),sd (A.e e'),e3,sd (.lst ((bn G w.2).map (A.tri B).e)),some (.ow ((ws++[w]).map (ay A B))),sd (outW A B (dz 100 (bn G w.2) b [e']))]):=by
     refine seq1 (δ1:=[e0,sd (A.e b),sd (A.e e'),e3,sd (.lst (G.map (A.tri B).e)),some (.ow ((ws++[w]).map (ay A B))),sd (outW A B (some w))]) ?_ ?_
     ·simp [cR,uY,outW]
     ·refine seq1 (cH (kL (r1:=.sh _) (r2:=.sh (.lst (w.2.map B.e))) rfl (cC (a:=.sh (ay A B w)) (b:=.sh (.int 1)) rfl rfl (by simp [ay,dB])) hbut (.inl ⟨rfl,rfl⟩)) rfl rfl) ?_;exact cH (call3 (r1:=.sh _) (r2:=.sh (A.e b)) (r3:=.fr [A.e e']) rfl rfl (lst1 (r:=.sh (A.e e')) rfl rfl) uE (.inl ⟨rfl,rfl,rfl⟩)) rfl rfl
    rw [vf];simp only [ud,ci];exact ih
theorem nK (hA:A.k<=9) (hB:B.k<=9) {L:aI P N} {b e:P} (tY:b≠e) (U:ll L) (hL:L.length<=40) (many:Nat) (hm:many<100) :
  c8 c [.lst (L.map (A.tri B).e),A.e b,A.e e,.int many]=some (.lst ((cy 100 100 L b e many).map (ay A B))):=by
 obtain ⟨k,F,k1,k2⟩:=qf (n:=100) U (by omega) many 0 [] (Flow.zero (L:=L) (b:=b) (e:=e));have hGL:=iO U F;have xE:=qz c A B hA hB (L:=L) (b:=b) (e:=e) U hL many (by omega);have uE:=eA c A B hA hB (bp 100 L b e many []) b [e] (by omega);obtain ⟨x4,x6,hd⟩:=drain_eq c A B hA hB (L:=L) (b:=b) (e:=e) (e0:=some (.sh (.lst (L.map (A.tri B).e)))) (e3:=some (.sh (.int many))) tY U hL 100 k (bp 100 L b e many []) [] F (by omega) (by simp;omega);refine bj (r:=.fr _) rfl ?_ rfl;refine seq1 (cH (call4 (r1:=.sh _) (r2:=.sh (A.e b)) (r3:=.sh (A.e e)) (r4:=.sh (.int many)) rfl rfl rfl rfl xE (.inl ⟨rfl,rfl,rfl,rfl⟩)) rfl rfl) ?_;refine seq1 (δ1:=[sd (.lst (L.map (A.tri B).e)),sd (A.e b),sd (A.e e),si many,sd (.lst ((bp 100 L b e many []).map (A.tri B).e)),some (.ow []),none]) (by simp) ?_;refine seq1 (cH (call3 (r1:=.sh _) (r2:=.sh (A.e b)) (r3:=.fr [A.e e]) rfl rfl (lst1 (r:=.sh (A.e e)) rfl rfl) uE (.inl ⟨rfl,rfl,rfl⟩)) rfl rfl) ?_;exact seq1 hd rfl
theorem pw (hA:A.k<=9) {L:aI P N} {e0 e1 e2:Option E}:∀ (ws:List (Wlk P N)) (G:aI P N) (x4:Option E),(∀ w∈ws,w.1.length=w.2.length+1)->G.length+(ws.flatMap am).length<=1000->
  ∃ x,aW (ap 4) (sext 3 (ao 1 (cB c) (aa (ac 4) ai))) (ws.map (ay A B)) [e0,e1,e2,some (.ow (G.map (A.tri B).e)),x4]=some (.nx [e0,e1,e2,some (.ow ((G++ws.flatMap am).map (A.tri B).e)),x])
 | [],G,x4,_,_=>⟨x4,by simp [aW]⟩
 | w::ws,G,x4,h,hl=>by
  have hs:=lV c A B w (h w (by simp));simp only [List.flatMap_cons,zy] at hl;obtain ⟨x,ih⟩:=pw hA (L:=L) (e0:=e0) (e1:=e1) (e2:=e2) ws (G++am w) (some (.sh (ay A B w))) (fun w' ui=>h w' (by simp [ui])) (by simp only [zy];omega);refine ⟨x,?_⟩;rw [zb];unfold aW;have hg:ap 4 (ay A B w) [e0,e1,e2,some (.ow (G.map (A.tri B).e)),x4]=some [e0,e1,e2,some (.ow (G.map (A.tri B).e)),sd (ay A B w)]:=rfl;rw [hg];have hc:ao 1 (cB c) (aa (ac 4) ai) [e0,e1,e2,some (.ow (G.map (A.tri B).e)),sd (ay A B w)]=some (.sh (.lst ((am w).map (A.tri B).e))):=call1 (r1:=.sh (ay A B w)) rfl hs (.inl rfl);have hb:sext 3 (ao 1 (cB c) (aa (ac 4) ai)) [e0,e1,e2,some (.ow (G.map (A.tri B).e)),sd (ay A B w)]=some (.nx [e0,e1,e2,some (.ow ((G++am w).map (A.tri B).e)),sd (ay A B w)]):=by
   unfold sext;show (ao 1 (cB c) (aa (ac 4) ai) _).bind _=_;rw [hc];show (if (G.map (A.tri B).e).length+((am w).map (A.tri B).e).length<=big then _ else _)=_;rw [if_pos (by rw [bJ];simp only [uk];omega)];simp
  show (sext 3 _ _).bind _=_;rw [hb];simp only [ud,ci];rw [ih];simp
theorem tE (hA:A.k<=9) (hB:B.k<=9) (L:aI P N) (ws:List (Wlk P N)) (b:P) (h:∀ w∈ws,w.1.length=w.2.length+1) (hL:L.length<=40) (hG:(ws.flatMap am).length<=40) :
  jq c [.lst (L.map (A.tri B).e),.lst (ws.map (ay A B)),A.e b]=some (.lst ((reach 100 ((aG L (ws.flatMap am)).map fun s=>(s.1,s.2.1)) b).map A.e)):=by
 obtain ⟨x,hl⟩:=pw c A B hA (L:=L) (e0:=some (.sh (.lst (L.map (A.tri B).e)))) (e1:=some (.sh (.lst (ws.map (ay A B))))) (e2:=some (.sh (A.e b))) ws [] none h (by simp only [List.length_nil];omega);have hfs:=jF c A B hB L (ws.flatMap am) (by omega) (by omega);have hlen:(aG L (ws.flatMap am)).length<=90:=by
  unfold aG;have:=mG (L:=L) (ns:=(ws.flatMap am).map cr);simp only [zy,uk];omega
 have hr:=nF c A (by omega) (σ:=P×P×N) (A.tri B).e (fun s=>(s.1,s.2.1)) (fun s=>⟨[B.e s.2.2],rfl⟩) (aG L (ws.flatMap am)) b hlen;refine bj (r:=.sh _) rfl ?_ rfl;refine seq1 (δ1:=[sd (.lst (L.map (A.tri B).e)),sd (.lst (ws.map (ay A B))),sd (A.e b),some (.ow []),none]) (by simp) ?_;refine seq1 (δ1:=[sd (.lst (L.map (A.tri B).e)),sd (.lst (ws.map (ay A B))),sd (A.e b),some (.ow (([]++ws.flatMap am).map (A.tri B).e)),x]) (by
  simp only [bg,cf,dS,uj,ug,ud,gU,bH];simp only [Bool.false_eq_true,if_false,ud];exact hl) ?_
 rw [dW];refine iD (kL (r1:=.sh (A.e b)) (r2:=.sh _) rfl (kL (r1:=.sh _) (r2:=.sh (.lst ((ws.flatMap am).map (A.tri B).e))) rfl rfl hfs (.inl ⟨rfl,rfl⟩)) hr (.inl ⟨rfl,rfl⟩)) rfl
end
abbrev Tie:=Int×Int
abbrev ET:Enc Tie:=Enc.int.par Enc.int
abbrev aA (t:Tie):D:=.tup [.int t.1,.int t.2]
abbrev aU (ns:List Int):D:=.lst (ns.map .int)
abbrev sI (ps:List Int):Option E:=some (.sh (aU ps))
abbrev eWk (w:Wlk Int Int):D:=ay Enc.int Enc.int w
def bG (n:Int) (T:List Tie):D:=.obj c.Web [("points",.int n),("pairs",.lst (T.map aA))]
abbrev sW (n:Int) (T:List Tie):Option E:=some (.sh (bG c n T))
theorem pz {A:Type} {a b:A}:List.lookup ("points" : Str) [("points",a),("pairs",b)]=some a:=rfl
theorem lk_pairs {A:Type} {a b:A}:List.lookup ("pairs" : Str) [("points",a),("pairs",b)]=some b:=rfl
theorem lk_ties {A:Type} {a b:A}:List.lookup ("ties" : Str) [("points",a),("pairs",b)]=none:=rfl
def da (n:Int) (T:List Tie):Prop:=1<=n/\n<=8/\T.length<=14/\∀ t∈T,0<=t.1/\t.1<t.2/\t.2<n
theorem cV (i:Int):bX c [.int i]=some (.bl true):=by
 simp [bX,lP,aF,eW,is_bool]
def fM (n p:Int):Bool:=decide (0<=p)&&decide (p<n)
theorem ig (n p:Int) (T:List Tie):cO c [bG c n T,.int p]=some (.bl (fM n p)):=by
 unfold fM;by_cases h:0<=p <;> simp [cO,lQ,bG,h,pz]
theorem ties_eq (n:Int) (T:List Tie):bv c [bG c n T]=some (.lst (T.map aA)):=by
 simp [bv,nj,bG,lk_pairs]
theorem fz {f:FE} {δ:DSt} {n:Int} {T:List Tie} (h:f δ=some (.sh (bG c n T))):bW c.Web "ties" 1 (bv c) f ai δ=some (.sh (.lst (T.map aA))):=by
 have:=ties_eq c n T;unfold bG at this h;simp [h,lk_ties,this]
def b7 (n p q:Int):Bool:=fM n p&&(fM n q&&!decide (p=q))
theorem ii (n p q:Int) (T:List Tie):bL c [bG c n T,.int p,.int q]=some (.bl (b7 n p q)):=by
 have h1:=ig c n p T;have h2:=ig c n q T;unfold b7;cases e1:fM n p <;> cases e2:fM n q <;> rw [e1] at h1 <;> rw [e2] at h2 <;> simp [bL,gE,h1,h2]
theorem jr (p q:Int):(if q<p then q else p)=min p q:=by split <;> omega
theorem kN (p q:Int):(if q>p then q else p)=max p q:=by split <;> omega
def cw (p q:Int):Tie:=(min p q,max p q)
theorem iX (p q:Int):c7 c [.int p,.int q]=some (aA (cw p q)):=by
 have:(2:Nat)<=big:=by decide
 simp only [c7,jA,aA,cw,<-jr,<-kN];simp [this]
def pts (n:Int):List Int:=(List.range n.toNat).map fun (k:Nat)=>(k:Int)
theorem jG (n:Int) (T:List Tie) (h:0<=n) (h2:n<=1000):cA c [bG c n T]=some (aU (pts n)):=by
 have e:(-1000000:Int)<=0/\(0:Int)<=1000000/\-1000000<=n/\n<=1000000:=by omega
 simp only [cA,kG,run_e,sret_e,ko,aP,eX,dfld_e,dS,bG];simp [pz,rngD,e,aU,pts]
def isSet (n:Int) (ps:List Int):Bool:=decide (ps=(pts n).filter ps.contains)
theorem kO (n:Int):(pts n).length=n.toNat:=by unfold pts;simp
theorem jt {n p:Int}:p∈pts n↔0<=p/\p<n:=by
 unfold pts;rw [zH];constructor
 ·rintro ⟨k,hk,rfl⟩;rw [List.mem_range] at hk;omega
 ·rintro ⟨h1,h2⟩;exact ⟨p.toNat,by rw [List.mem_range];omega,by omega⟩
theorem pA (n:Int):(pts n).Nodup:=cF List.nodup_range (fun x _ y _ e=>by omega)
theorem iv (n:Int) (T:List Tie) (ps:List Int) (h:0<=n) (h2:n<=100):fG c [bG c n T,aU ps]=some (.bl (isSet n ps)):=by
 have a:=jG c n T h (by omega);have hb:(pts n).length<=1000:=by rw [kO];omega
 have cm:=cj (fi:=aH (ao 1 (cA c) (aa (ac 0) ai))) (g:=ap 0) (t:=al (af oIn (ac 0) (ac 1))) (fe:=ac 0) (m:=1) (ix:=[1]) (δ:=[sW c n T,sI ps]) (items:=(pts n).map .int) (by
   rw [cf,call1 (r1:=.sh (bG c n T)) rfl a (.inl rfl)];rfl) (by simpa using hb) (cg _ _ _ _ D.int ps.contains D.int (pts n) (fun x _=>by
  refine ⟨_,rfl,?_,fun _=>⟨.sh (.int x),rfl,rfl,rfl⟩⟩;simp [dIn,aU]))
 refine bj (r:=.sh (.bl (isSet n ps))) rfl (iD (cC (a:=.sh (aU ps)) rfl cm ?_) rfl) rfl;show oEq (.lst (ps.map .int)) (.lst (((pts n).filter ps.contains).map .int))=_;rw [oEq_ints];rfl
theorem oNe_bb (a b:Bool):oNe (.bl a) (.bl b)=some (.sh (.bl (a != b))):=by
 cases a <;> cases b <;> rfl
theorem fA:∀ ns:List Int,nums (ns.map .int)=some ns
 | []=>rfl
 | n::ns=>by simp only [zb,nums,fA ns];rfl
theorem lA:∀ bs:List Bool,bls (bs.map .bl)=some bs
 | []=>rfl
 | b::bs=>by simp only [zb,bls,lA bs];rfl
theorem nN:∀ (ns acc:List Int),acc.Nodup->(ns.foldl step_dedup acc).Nodup/\(ns.foldl step_dedup acc).length<=acc.length+ns.length/\
  ((ns.foldl step_dedup acc).length=acc.length+ns.length↔(acc++ns).Nodup)/\∀ x,x∈ns.foldl step_dedup acc↔x∈acc\/x∈ns
 | [],acc,h=>by simp [h]
 | n::ns,acc,h=>by
  rw [List.foldl_cons];by_cases hm:n∈acc
  ·have e:step_dedup acc n=acc:=by
    unfold step_dedup;rw [if_pos];rw [List.any_eq_true];exact ⟨n,hm,by simp⟩
   rw [e];obtain ⟨i1,i2,i3,i4⟩:=nN ns acc h;refine ⟨i1,by simp;omega,?_,?_⟩
   ·constructor
    ·intro he;simp at he;omega
    ·intro hn;rw [List.nodup_append] at hn;exact absurd rfl (hn.2.2 n hm n (by simp))
   ·intro x;rw [i4];constructor
    ·rintro (h | h)
     ·exact .inl h
     ·exact .inr (by simp [h])
    ·rintro (h | h)
     ·exact .inl h
     ·simp at h;rcases h with rfl | h
      ·exact .inl hm
      ·exact .inr h
  ·have e:step_dedup acc n=acc++[n]:=by
    unfold step_dedup;rw [if_neg];intro ha;rw [List.any_eq_true] at ha;obtain ⟨x,hx,ex⟩:=ha;simp at ex;subst ex;exact hm hx
   rw [e];obtain ⟨i1,i2,i3,i4⟩:=nN ns (acc++[n]) (by
    rw [List.nodup_append];refine ⟨h,by simp,?_⟩;intro a ha b hb eab;simp at hb;subst hb;subst eab;exact hm ha)
   refine ⟨i1,by simp at i2 ⊢;omega,?_,?_⟩
   ·simp only [zy,zQ,List.length_nil,List.append_assoc,List.cons_append,List.nil_append] at i3;rw [<-i3];simp only [zQ];omega
   ·intro x;rw [i4];simp [or_assoc]
theorem nO (ns:List Int):((kn ns).length=ns.length)↔ns.Nodup:=by
 have:=(nN ns [] (by simp)).2.2.1;simpa [kn] using this
theorem jH (ns:List Int) (h:ns.length<=1000):dC c [aU ns]=some (.bl (decide ns.Nodup)):=by
 have e:decide (((kn ns).length:Int)=(ns.length:Int))=decide ns.Nodup:=by
  rw [decide_eq_decide,<-nO];omega
 simp [dC,kF,eD,aU,fA,h,e]
noncomputable def aN (T:List Tie):aI Int Int:=(T.zipIdx).flatMap fun p=>[(p.1.1,p.1.2,(p.2:Int)),(p.1.2,p.1.1,(p.2:Int))]
theorem cx {T:List Tie} {s:Int×Int×Int}:s∈aN T↔∃ (i:Nat) (t:Tie),T[i]?=some t/\s.2.2=(i:Int)/\((s.1=t.1/\s.2.1=t.2)\/(s.1=t.2/\s.2.1=t.1)):=by
 unfold aN;rw [zX];constructor
 ·rintro ⟨p,hp,hs⟩;obtain ⟨t,i⟩:=p;have:=List.mem_zipIdx_iff_getElem?.1 hp;simp at this hs;refine ⟨i,t,this,?_⟩;rcases hs with rfl | rfl
  ·exact ⟨rfl,.inl ⟨rfl,rfl⟩⟩
  ·exact ⟨rfl,.inr ⟨rfl,rfl⟩⟩
 ·rintro ⟨i,t,h1,h2,h3⟩;refine ⟨(t,i),List.mem_zipIdx_iff_getElem?.2 h1,?_⟩;rcases s with ⟨x,y,z⟩
  simp at h2 h3 ⊢;subst h2;rcases h3 with ⟨rfl,rfl⟩ | ⟨rfl,rfl⟩
  ·exact .inl ⟨rfl,rfl,rfl⟩
  ·exact .inr ⟨rfl,rfl,rfl⟩
theorem iY (T:List Tie):(aN T).length=2*T.length:=by
 unfold aN;have:∀ (T:List Tie) (k:Nat),((T.zipIdx k).flatMap fun p=>[(p.1.1,p.1.2,(p.2:Int)),(p.1.2,p.1.1,(p.2:Int))]).length=2*T.length:=by
  intro T
  induction T with
  | nil=>intro k;rfl
  | cons t T ih=>intro k;simp only [List.zipIdx_cons,List.flatMap_cons,zy,ih,zQ,List.length_nil];omega
 exact this T 0
theorem qA (T:List Tie):ll (aN T):=by
 intro s hs t ht e;obtain ⟨i,x,h1,h2,h3⟩:=cx.1 hs;obtain ⟨j,y,k1,k2,k3⟩:=cx.1 ht;have:i=j:=by rw [h2,k2] at e;omega
 subst this;rw [h1] at k1;cases k1;rcases s with ⟨a,b,n⟩
 rcases t with ⟨a',b',n'⟩
 simp at *;subst h2;subst k2;rcases h3 with ⟨rfl,rfl⟩ | ⟨rfl,rfl⟩ <;> rcases k3 with ⟨rfl,rfl⟩ | ⟨rfl,rfl⟩ <;> simp
theorem nP {n:Int} {T:List Tie} (W:da n T):∀ s∈aN T,0<=s.1/\s.1<n/\0<=s.2.1/\s.2.1<n:=by
 intro s hs;obtain ⟨i,x,h1,h2,h3⟩:=cx.1 hs;have:=W.2.2.2 x (List.mem_of_getElem? h1);omega
abbrev eSt (s:Int×Int×Int):D:=(Enc.int.tri Enc.int).e s
theorem jI {e0:Option E}:∀ (T:List Tie) (k:Nat) (acc:aI Int Int) (x2 x3:Option E),acc.length+2*T.length<=1000->
  ∃ y2 y3,aW (gtup 2 (dM (ap 2) (dM (ap 3) gnil))) (aq (cR 1 (bf (aa (af oIx (ac 3) (ae (.int 0))) (aa (af oIx (ac 3) (ae (.int 1))) (aa (ac 2) ai))))) (cR 1 (bf (aa (af oIx (ac 3) (ae (.int 1))) (aa (af oIx (ac 3) (ae (.int 0))) (aa (ac 2) ai))))))
   ((T.zipIdx k).map fun p=>D.tup [.int (p.2:Int),aA p.1]) [e0,some (.ow (acc.map eSt)),x2,x3] =
   some (.nx [e0,some (.ow ((acc++(T.zipIdx k).flatMap fun p=>[(p.1.1,p.1.2,(p.2:Int)),(p.1.2,p.1.1,(p.2:Int))]).map eSt)),y2,y3])
 | [],k,acc,x2,x3,_=>⟨x2,x3,by simp [aW]⟩
 | t::T,k,acc,x2,x3,hl=>by
  simp only [zQ] at hl;obtain ⟨y2,y3,ih⟩:=jI (e0:=e0) T (k+1) (acc++[(t.1,t.2,(k:Int)),(t.2,t.1,(k:Int))]) (some (.sh (.int k))) (some (.sh (aA t))) (by simp;omega);refine ⟨y2,y3,?_⟩;have b3:(3:Nat)<=big:=by rw [bJ];omega
  have b4:acc.length<=big:=by rw [bJ];omega
  have b5:acc.length+1<=big:=by rw [bJ];omega
  rw [List.zipIdx_cons,zb];unfold aW;have hg:gtup 2 (dM (ap 2) (dM (ap 3) gnil)) (D.tup [.int (k:Int),aA t]) [e0,some (.ow (acc.map eSt)),x2,x3]=some [e0,some (.ow (acc.map eSt)),si k,sd (aA t)]:=rfl;rw [hg];simp only [ud];have hb:(aq (cR 1 (bf (aa (af oIx (ac 3) (ae (.int 0))) (aa (af oIx (ac 3) (ae (.int 1))) (aa (ac 2) ai))))) (cR 1 (bf (aa (af oIx (ac 3) (ae (.int 1))) (aa (af oIx (ac 3) (ae (.int 0))) (aa (ac 2) ai))))))
    [e0,some (.ow (acc.map eSt)),si k,sd (aA t)]=some (.nx [e0,some (.ow ((acc++[(t.1,t.2,(k:Int)),(t.2,t.1,(k:Int))]).map eSt)),si k,sd (aA t)]):=by
   simp [cR,dN,dB,b3,b4,b5,lT,Enc.int]
  rw [hb];simp only [ud,ci];rw [ih];simp
theorem rZ (n:Int) (T:List Tie) (hT:T.length<=400):jX c [bG c n T]=some (.lst ((aN T).map eSt)):=by
 obtain ⟨y2,y3,h⟩:=jI (e0:=some (.sh (bG c n T))) T 0 [] none none (by simp;omega);refine bj (r:=.fr _) rfl ?_ rfl;refine seq1 (δ1:=[sW c n T,some (.ow []),none,none]) (by simp) ?_;refine seq1 (δ1:=[sW c n T,some (.ow ((aN T).map eSt)),y2,y3]) ?_ rfl;have hi:(mU (aa ((bW c.Web "ties" 1 (bv c) (ac 0) ai)) ai)) [sW c n T,some (.ow []),none,none]=some ((T.zipIdx 0).map fun p=>D.tup [.int (p.2:Int),aA p.1]):=by
  unfold mU;rw [aP,fz c (f:=ac 0) rfl];simp only [ud,eX,gU,bH,Bool.false_eq_true,if_false,uk];congr 1;refine List.ext_getElem? fun i=>?_;rw [List.getElem?_zipWith,zc,zc,List.getElem?_zipIdx];by_cases hi:i<T.length
  ·rw [List.getElem?_range hi,yW hi];simp
  ·rw [List.getElem?_eq_none (show (List.range T.length).length<=i by simp;omega),List.getElem?_eq_none (show T.length<=i by omega)];rfl
 unfold bg;rw [hi];exact h
theorem r9 {P N:Type} {w:Wlk P N} (h:w.1.length=w.2.length+1) {k:Nat} (hk:k<w.2.length) :
  (w.1[k]'(by omega),w.1[k+1]'(by omega),w.2[k])∈am w:=by
 unfold am;have:(w.1.zip (w.1.tail.zip w.2))[k]?=some (w.1[k]'(by omega),w.1[k+1]'(by omega),w.2[k]):=by
  rw [List.getElem?_zip_eq_some];refine ⟨yW (by omega),?_⟩;rw [List.getElem?_zip_eq_some];refine ⟨?_,yW hk⟩;rw [List.getElem?_tail];exact yW (by omega)
 exact List.mem_of_getElem? this
structure lB (n:Int) (T:List Tie) (w:Wlk Int Int):Prop where
 len:w.1.length=w.2.length+1
 pt:∀ p∈w.1,0<=p/\p<n
 st:∀ s∈am w,s∈aN T
 sm:w.2.length<=100
theorem lB.tie {n:Int} {T:List Tie} (W:da n T) {w:Wlk Int Int} (h:lB n T w) {k:Nat} (hk:k<w.2.length) :
  0<=w.2[k]/\w.2[k]<(T.length:Int)/\T[(w.2[k]).toNat]?=some (cw (w.1[k]'(by have:=h.len;omega)) (w.1[k+1]'(by have:=h.len;omega))):=by
 obtain ⟨i,t,h1,h2,h3⟩:=cx.1 (h.st _ (r9 h.len hk));have hb:=W.2.2.2 t (List.mem_of_getElem? h1);have hi:=(yX.mp h1).1;simp only at h2 h3;refine ⟨by omega,by omega,?_⟩;rw [h2];have e:((i:Int).toNat)=i:=by simp
 rw [e,h1];unfold cw;rcases t with ⟨a,b⟩
 simp only at hb h3;congr 1;rcases h3 with ⟨e1,e2⟩ | ⟨e1,e2⟩
 ·rw [e1,e2];exact Prod.ext (by simp;omega) (by simp;omega)
 ·rw [e1,e2];exact Prod.ext (by simp;omega) (by simp;omega)
theorem all_true {f:DSt->Option (List R)} {δ:DSt} {α:Type} {xs:List α} (h:f δ=some [.fr (xs.map fun _=>D.bl true)]):aD iK f δ=some (.sh (.bl true)):=by
 rw [ku,h];simp only [ud,view_fr];unfold iK;have e:(xs.map fun _=>D.bl true)=(xs.map fun _=>true).map D.bl:=by rw [zV];rfl
 rw [e];show (bls ((xs.map fun _=>true).map D.bl)).map _=_;rw [lA];simp
theorem kP {α:Type} {xs:List α} {i:Int} (h0:0<=i):atI xs i=xs[i.toNat]?:=by
 obtain ⟨k,rfl⟩ : ∃ k:Nat,i=k:=⟨i.toNat,by omega⟩;rw [jT];rfl
theorem oEq_tie (s t:Tie):oEq (aA s) (aA t)=some (.sh (.bl (decide (s=t)))):=ET.oEq (show max 1 1+1<=15 by decide) s t
theorem oNe_tie (s t:Tie):oNe (aA s) (aA t)=some (.sh (.bl (!decide (s=t)))):=ET.oNe (show max 1 1+1<=15 by decide) s t
theorem call5 {m:List D->Option D} {f1 f2 f3 f4 f5:FE} {δ:DSt} {r1 r2 r3 r4 r5:R} {d:D} (h1:f1 δ=some r1) (h2:f2 δ=some r2) (h3:f3 δ=some r3) (h4:f4 δ=some r4) (h5:f5 δ=some r5) (hm:m [r1.view,r2.view,r3.view,r4.view,r5.view]=some d) (hb:(r1.isBw=false/\r2.isBw=false/\r3.isBw=false/\r4.isBw=false/\r5.isBw=false)\/d.flat=true):ao 5 m (aa f1 (aa f2 (aa f3 (aa f4 (aa f5 ai))))) δ=some (.sh d):=by
 simp only [kr,aP,eX,h1,h2,h3,h4,h5,ud,jh,zb,List.map_nil,hm];rw [if_pos];exact ⟨rfl,hb.imp (fun h=>by simp [h]) id⟩
theorem cs5 {m:List D->Option D} {f1 f2 f3 f4 f5:FE} {δ:DSt} {a b e g i d:D} (h1:f1 δ=some (.sh a)) (h2:f2 δ=some (.sh b)) (h3:f3 δ=some (.sh e)) (h4:f4 δ=some (.sh g)) (h5:f5 δ=some (.sh i)) (hm:m [a,b,e,g,i]=some d):ao 5 m (aa f1 (aa f2 (aa f3 (aa f4 (aa f5 ai))))) δ=some (.sh d):=call5 h1 h2 h3 h4 h5 hm (.inl ⟨rfl,rfl,rfl,rfl,rfl⟩)
theorem iZ {f:FE} {δ:DSt} {w:Wlk Int Int} (h:f δ=some (.sh (eWk w))):af oIx f (ae (.int 0)) δ=some (.sh (aU w.1)):=cC h rfl (by simp [eWk,ay,dN,aU,Enc.int])
theorem eWk_1 {f:FE} {δ:DSt} {w:Wlk Int Int} (h:f δ=some (.sh (eWk w))):af oIx f (ae (.int 1)) δ=some (.sh (aU w.2)):=cC h rfl (by simp [eWk,ay,dB,aU,Enc.int])
theorem and_tt {fa fb:FE} {δ:DSt} {x:Option R} (h1:fa δ=some (.sh (.bl true))) (h2:fb δ=x):gN fa fb δ=x:=by rw [dand_e,h1];exact h2
def cW (ws:List (Wlk Int Int)):D:=.obj c.Ways [("ways",.lst (ws.map eWk))]
theorem lk_ways {A:Type} {a:A}:List.lookup ("ways" : Str) [("ways",a)]=some a:=rfl
theorem lC (ns:List Int):(ns.map D.int).all D.flat=true:=by
 rw [List.all_map];simp [Function.comp_def]
theorem mn (ws:List (Wlk Int Int)) (h:ws.length<=1000):dF c [.lst (ws.map eWk)]=some (.lst (ws.map eWk)):=by
 have b2:(2:Nat)<=big:=by decide
 have hb:ws.length<=big:=by rw [bJ];omega
 have cm:=rg (ap 0) cN (ntup (fC (gw (aD ki (aa (af oIx (ac 0) (ae (.int 0))) ai))) (fC (gw (aD ki (aa (af oIx (ac 0) (ae (.int 1))) ai))) o8))) (dIn 1 [] [sd (.lst (ws.map eWk))]) eWk (fun _=>true) eWk ws (fun w _=>by
  refine ⟨_,rfl,rfl,fun _=>?_⟩;have f1:=lC w.1;have f2:=lC w.2;simp only [List.all_map] at f1 f2;simp [dIn,eWk,ay,dN,dB,Enc.int,b2] at f1 f2 ⊢)
 rw [zL.2 (fun _ _=>rfl)] at cm;simp [dF,iU,hb];erw [cm];rfl
theorem qB (ws:List (Wlk Int Int)) (h:ws.length<=1000):ff c [.lst (ws.map eWk)]=some [(("ways" : Str),D.lst (ws.map eWk))]:=by
 have:=mn c ws h;refine qb fun p=>?_;simp [ky,im,this]
theorem sj {n:Int} {t:Tie} (h:0<=t.1/\t.1<t.2/\t.2<n):gH c [aA t,.int n]=some (.bl true):=by
 have h1:=cV c t.1;have h2:=cV c t.2;have e1:(0:Int)<=t.1:=h.1;have e2:t.1<t.2:=h.2.1;have e3:t.2<n:=h.2.2;simp [gH,rS,aF,gv,cc,dN,dB,h1,h2,e1,e2,e3]
theorem sk {n:Int} {T:List Tie} (W:da n T):aX c [.int n,.lst (T.map aA)]=some [((("points" : Str)),D.int n),(("pairs" : Str),D.lst (T.map aA))]:=by
 obtain ⟨w1,w2,w3,w4⟩:=W;refine qb fun p=>?_;have b2:(2:Nat)<=big:=by decide
 have hb:T.length<=big:=by rw [bJ];omega
 have hn:=cV c n;have cm:=rg (ap 0) cN (ntup (fC (gw (af oIx (ac 0) (ae (.int 0)))) (fC (gw (af oIx (ac 0) (ae (.int 1)))) o8))) (dIn 1 [] [some (.on p (.obj c.Web [(("points" : Str),D.int n)])),si n,sd (.lst (T.map aA))]) aA (fun _=>true) aA T (fun t _=>by
  refine ⟨_,rfl,rfl,fun _=>?_⟩;simp [dIn,dN,dB,b2])
 rw [zL.2 (fun _ _=>rfl)] at cm;have c1:=cj (fi:=aH (ac 2)) (g:=ap 0) (t:=cN) (fe:=ao 2 (gH c) (aa (ac 0) (aa (ac 1) ai))) (m:=1) (ix:=[1]) (δ:=[some (.on p (.obj c.Web [])),si n,sd (.lst (T.map aA))]) (items:=T.map aA) rfl (by simp;omega) (cg _ _ _ _ aA (fun _=>true) (fun _=>D.bl true) T (fun t ht=>by
  refine ⟨_,rfl,rfl,fun _=>⟨.sh (.bl true),?_,rfl,rfl⟩⟩;exact kL (r1:=.sh (aA t)) (r2:=.sh (.int n)) rfl rfl (sj c (w4 t ht)) (.inl ⟨rfl,rfl⟩)))
 rw [zL.2 (fun _ _=>rfl)] at c1;have a1:=all_true (f:=aa (bC (aH (ac 2)) (ap 0) cN (ao 2 (gH c) (aa (ac 0) (aa (ac 1) ai))) 1 [1]) ai) (δ:=[some (.on p (.obj c.Web [])),si n,sd (.lst (T.map aA))]) (xs:=T) (by rw [aP,c1];rfl);have hF:dG c [some (.on p (.obj c.Web [])),si n,sd (.lst (T.map aA))]=some (.nx [some (.on p (.obj c.Web [(("points" : Str),D.int n),(("pairs" : Str),D.lst (T.map aA))])),si n,sd (.lst (T.map aA))]):=by
  refine seq1 (δ1:=[some (.on p (.obj c.Web [])),si n,sd (.lst (T.map aA))]) ?_ (seq1 (δ1:=[some (.on p (.obj c.Web [])),si n,sd (.lst (T.map aA))]) ?_ (seq1 (δ1:=[some (.on p (.obj c.Web [])),si n,sd (.lst (T.map aA))]) ?_ (seq1 (δ1:=[some (.on p (.obj c.Web [(("points" : Str),D.int n)])),si n,sd (.lst (T.map aA))]) ?_ ?_)))
  ·simp [hn,w1,w2]
  ·have:¬((14:Int)<(T.length:Int)):=by omega
   simp [aF,dr,this]
  ·rw [cq,jg,dw,a1];rfl
  ·simp
  ·have hlk:List.lookup ("pairs" : Str) [(("points" : Str),D.int n)]=none:=rfl;simp [hlk,hb];erw [cm];rfl
 have e:ky 3 c.Web (dG c) [.int n,.lst (T.map aA)] p=(match dG c [some (.on p (.obj c.Web [])),si n,sd (.lst (T.map aA))] with
  | some (.nx (some (.on a (.obj C' fs))::_))=>if a=p/\C'=c.Web then some fs else none
  | _=>none):=rfl
 rw [e,hF];simp
theorem nQ {n:Int} {T:List Tie} (W:da n T) {fr:DSt->Option (List R)} {δ:DSt} {r1 r2:R} (h:fr δ=some [r1,r2]) (h1:r1.view=.int n) (h2:r2.view=.lst (T.map aA)) (b1:r1.isBw=false) (b2:r2.isBw=false) :
  eP c.Web 2 (aX c) fr δ=some (bG c n T):=by
 simp only [p7,h,ud,zb,List.map_nil,h1,h2,sk c W,o4,qX,b1,b2];simp [bG]
noncomputable def CNe:Prop:=c.Bar≠c.Part/\c.Bar≠c.Wall/\c.Bar≠c.Ways/\c.Bar≠c.Web/\c.Part≠c.Wall/\c.Part≠c.Ways/\c.Part≠c.Web/\c.Wall≠c.Ways/\c.Wall≠c.Web/\c.Ways≠c.Web
theorem nR (hc:CNe c) {n:Int} {T:List Tie} {one other:Int} (h:b7 n one other=true):db c [bG c n T,.int one,.int other]=some (.bl true):=by
 have a1:=ii c n one other T;rw [h] at a1;have h1:=cV c one;have h2:=cV c other;have h3:ql c (bG c n T)=some true:=by
  obtain ⟨_,_,_,h4,_,_,h7,_,h9,yK⟩:=hc;unfold bG ql;simp [Ne.symm h4,Ne.symm h7,Ne.symm h9,Ne.symm yK]
 simp [db,iq,aF,h3,h1,h2,a1]
theorem gJ (hc:CNe c) {n:Int} {T:List Tie} {one other:Int} (h:b7 n one other=true):bT c [bG c n T,.int one,.int other]=some .non:=by
 have:=nR c hc (T:=T) h;simp [bT,iu,this]
theorem mo {many most:Int} (h1:1<=many) (h2:many<=most):cP c [.int many,.int most]=some .non:=by
 have:=cV c many;simp [cP,iW,this,h1,h2]
theorem qC (ns:List Int) (h:ns.length<64):jf (.lst (ns.map .int))=some (.fr ((srt ns).map .int)):=by
 show (nums (ns.map .int)).bind _=_;rw [fA];simp [h]
theorem fO {P N:Type}:∀ {ws:List (Wlk P N)},(∀ w∈ws,w.1.length=w.2.length+1)->(ws.flatMap am).length=(ws.flatMap (·.2)).length
 | [],_=>rfl
 | w::ws,h=>by
  simp only [List.flatMap_cons,zy];rw [fO (ws:=ws) fun w' ui=>h w' (by simp [ui])];have:=h w (by simp);unfold am;simp;omega
theorem mulR {i j:Int} (h0:0<=j) (h1:j<=1000000):cb (.int i) (.int j)=some (.sh (.int (i*j))):=by
 unfold cb;simp only;rw [if_pos (.inr ⟨Int.lt_of_lt_of_le (by decide) h0,Int.lt_of_le_of_lt h1 (by decide)⟩)]
theorem mulL {i j:Int} (h0:0<=i) (h1:i<=1000000):cb (.int i) (.int j)=some (.sh (.int (i*j))):=by
 unfold cb;simp only;rw [if_pos (.inl ⟨Int.lt_of_lt_of_le (by decide) h0,Int.lt_of_le_of_lt h1 (by decide)⟩)]
theorem modP {i j:Int} (h:0<j):oMod (.int i) (.int j)=some (.sh (.int (i % j))):=by
 unfold oMod;simp only;rw [if_pos h]
theorem divP {i j:Int} (h:0<j) (h1:j<=1000000):oDiv (.int i) (.int j)=some (.sh (.int (i / j))):=by
 unfold oDiv;simp only;rw [if_pos ⟨h,by omega⟩]
noncomputable def i7:List Int:=[1000003,1000033,1000037,1000039,1000081,1000099,1000117,1000121,1000133,1000151,1000159,1000171,1000183,1000187,1000193,1000199]
theorem kQ (cell:Int) (k:Nat) (hk:k<16) {many:Int} (hm:0<many):∃ r,aC c [.int cell,.int k,.int many]=some (.int r)/\0<=r/\r<many:=by
 obtain ⟨p,hp,hp0⟩ : ∃ p,i7[k]?=some p/\0<p:=by
  have:∀ p∈i7,0<p:=by decide
  exact ⟨i7[k]'(by simpa [i7] using hk),by simp [i7] at hk ⊢,this _ (List.getElem_mem _)⟩
 refine ⟨(cell*48271+(k:Int)*69621) % p % many,?_,Int.emod_nonneg _ (by omega),Int.emod_lt_of_pos _ hm⟩;have b16:(16:Nat)<=big:=by decide
 have hs:sset 3 (bf (aa (ae (.int 1000003)) (aa (ae (.int 1000033)) (aa (ae (.int 1000037)) (aa (ae (.int 1000039)) (aa (ae (.int 1000081)) (aa (ae (.int 1000099)) (aa (ae (.int 1000117)) (aa (ae (.int 1000121)) (aa (ae (.int 1000133)) (aa (ae (.int 1000151)) (aa (ae (.int 1000159)) (aa (ae (.int 1000171)) (aa (ae (.int 1000183)) (aa (ae (.int 1000187)) (aa (ae (.int 1000193)) (aa (ae (.int 1000199)) ai))))))))))))))))) [si cell,si k,si many,none] =
   some (.nx [si cell,si k,si many,sd (.tup (i7.map .int))]):=by
  simp [b16,i7]
 refine bj (r:=.sh (.int _)) rfl (seq1 hs (iD ?_ rfl)) rfl;refine cC (a:=.sh (.int ((cell*48271+(k:Int)*69621) % p))) (b:=.sh (.int many)) ?_ rfl (modP hm);refine cC (a:=.sh (.int (cell*48271+(k:Int)*69621))) (b:=.sh (.int p)) ?_ ?_ (modP hp0)
 ·refine cC (a:=.sh (.int (cell*48271))) (b:=.sh (.int ((k:Int)*69621))) ?_ ?_ rfl
  ·exact cC (a:=.sh (.int cell)) (b:=.sh (.int 48271)) rfl rfl (mulR (by omega) (by omega))
  ·exact cC (a:=.sh (.int k)) (b:=.sh (.int 69621)) rfl rfl (mulR (by omega) (by omega))
 ·refine cC (a:=.sh (.tup (i7.map .int))) (b:=.sh (.int (k:Int))) rfl ?_ ?_
  ·refine cC (a:=.sh (.int k)) (b:=.sh (.int 16)) rfl rfl ?_;rw [show oMod (R.sh (D.int (k:Int))).view (R.sh (D.int 16)).view=_ from modP (by omega)];congr 3;omega
  ·simp only [bH,oIx_t];rw [jT,zc,hp];rfl
def Good (n:Int) (T:List Tie):Prop:=∀ t∈T,0<=t.1/\t.1<t.2/\t.2<n
theorem so {n p q:Int} (h1:0<=p) (h2:p<n) (h3:0<=q) (h4:q<n) (h5:p≠q):0<=(cw p q).1/\(cw p q).1<(cw p q).2/\(cw p q).2<n:=by
 unfold cw;simp only;omega
theorem pB {n:Int} {T:List Tie} {t:Tie} (h:Good n T) (ht:0<=t.1/\t.1<t.2/\t.2<n):Good n (T++[t]):=by
 intro u hu;simp at hu;rcases hu with hu | rfl
 ·exact h u hu
 ·exact ht
theorem nT {n:Int} {B:FS} {e0 e1 e2 e3 e5 e9:Option E} (ok:D->Prop)
  (hB:∀ d (T:List Tie) (x7 x8:Option E),ok d->Good n T->T.length<=900->∃ (T':List Tie) (y7 y8:Option E),B [e0,e1,e2,e3,some (.ow (T.map aA)),e5,sd d,x7,x8,e9]=some (.nx [e0,e1,e2,e3,some (.ow (T'.map aA)),e5,sd d,y7,y8,e9])/\Good n T'/\T'.length<=T.length+1) :
  ∀ (ds:List D) (T:List Tie) (x6 x7 x8:Option E),(∀ d∈ds,ok d)->Good n T->T.length+ds.length<=900->
  ∃ (T':List Tie) (y6 y7 y8:Option E),aW (ap 6) B ds [e0,e1,e2,e3,some (.ow (T.map aA)),e5,x6,x7,x8,e9]=some (.nx [e0,e1,e2,e3,some (.ow (T'.map aA)),e5,y6,y7,y8,e9])/\Good n T'/\T'.length<=T.length+ds.length
 | [],T,x6,x7,x8,_,hT,_=>⟨T,x6,x7,x8,rfl,hT,by simp⟩
 | d::ds,T,x6,x7,x8,hd,hT,hl=>by
  simp at hl;obtain ⟨T1,y7,y8,h1,h2,h3⟩:=hB d T x7 x8 (hd d (by simp)) hT (by omega);obtain ⟨T',z6,z7,z8,i1,i2,i3⟩:=nT ok hB ds T1 (some (.sh d)) y7 y8 (fun d' h=>hd d' (by simp [h])) h2 (by omega);refine ⟨T',z6,z7,z8,?_,i2,by simp;omega⟩;unfold aW;have hg:ap 6 d [e0,e1,e2,e3,some (.ow (T.map aA)),e5,x6,x7,x8,e9]=some [e0,e1,e2,e3,some (.ow (T.map aA)),e5,sd d,x7,x8,e9]:=rfl;rw [hg];simp only [ud];rw [h1];simp only [ud,ci];exact i1
theorem turn_ne {n t k:Int} (h1:2<=n) (h2:n<=8) (ht:t=1\/((t=3\/t=5\/t=7)/\n % t≠0)):k*t % n≠(k+1)*t % n:=by
 have hn:n=2\/n=3\/n=4\/n=5\/n=6\/n=7\/n=8:=by omega
 rcases ht with rfl | ⟨rfl | rfl | rfl,hm⟩ <;> rcases hn with rfl | rfl | rfl | rfl | rfl | rfl | rfl <;> omega
theorem app_tie {n p q:Int} {T:List Tie} {e0 e1 e2 e3 e5 e6 e9:Option E} (hl:T.length<=900) :
  cR 4 (bf (aa (a0 dg (aa (ac 7) (aa (ac 8) ai))) (aa (a0 eN (aa (ac 7) (aa (ac 8) ai))) ai))) [e0,e1,e2,e3,some (.ow (T.map aA)),e5,e6,si p,si q,e9] =
   some (.nx [e0,e1,e2,e3,some (.ow ((T++[cw p q]).map aA)),e5,e6,si p,si q,e9]):=by
 have b2:(2:Nat)<=big:=by decide
 have b:T.length<=big:=by rw [bJ];omega
 simp [cR,b2,b,cw,<-jr,<-kN]
theorem rngE {f:FE} {δ:DSt} {j:Int} (h:f δ=some (.sh (.int j))) (h2:j<=1000000) (h1:-1000000<=j):(cY (aa f ai)) δ=some ((List.range j.toNat).map fun k=>D.int (0+((k:Nat):Int))):=by
 have hc:-(2 ^ 62:Int)<=j/\j<2 ^ 62:=⟨Int.le_trans (by decide) h1,Int.lt_of_le_of_lt h2 (by decide)⟩;unfold cY;simp only [aP,eX,h,ud];rw [if_pos hc]
theorem cut14 (ds:List D):cutD ds none (some 14)=ds.take 14:=by
 unfold cutD HT.sIx;simp
def cD (n:Int) (T:List Tie):D:=.tup [.int n,.lst (T.map aA)]
abbrev sT (n:Int) (T:List Tie):Option E:=some (.sh (cD n T))
theorem kR {ks:List Int} {r:Int} (h0:0<=r) (h1:r<(ks.length:Int)) (p:Int->Prop) (hp:∀ k∈ks,p k):∃ v,oIx (.tup (ks.map .int)) (.int r)=some (.sh (.int v))/\p v:=by
 have hr:r.toNat<ks.length:=by omega
 refine ⟨ks[r.toNat],?_,hp _ (List.getElem_mem _)⟩;rw [oIx_t,kP h0,zc,yW hr];rfl
theorem lW {fa fm:FE} {δ:DSt} {cell many:Int} (k:Int) (hk:0<=k/\k<16) (h1:fa δ=some (.sh (.int cell))) (h2:fm δ=some (.sh (.int many))) (hm:0<many) :
  ∃ r,ao 3 (aC c) (aa fa (aa (ae (.int k)) (aa fm ai))) δ=some (.sh (.int r))/\0<=r/\r<many:=by
 obtain ⟨r,e,r0,r1⟩:=kQ c cell k.toNat (by omega) hm;rw [show ((k.toNat:Nat):Int)=k by omega] at e;exact ⟨r,call3 (r1:=.sh (.int cell)) (r2:=.sh (.int k)) (r3:=.sh (.int many)) h1 rfl h2 e (.inl ⟨rfl,rfl,rfl⟩),r0,r1⟩
theorem told_eq (z y:Int) (hl:1<=y) (hl2:y<=8):∃ n T,jY c [.int z,.int y]=some (cD n T)/\da n T/\y<=n:=by
 have b8:(8:Nat)<=big:=by decide
 have b4:(4:Nat)<=big:=by decide
 have b2:(2:Nat)<=big:=by decide
 obtain ⟨r1,d1,p1,q1⟩:=lW c (fa:=ac 0) (fm:=ae (.int 8)) (δ:=[si z,si y,none,none,none,none,none,none,none,none]) (cell:=z) (many:=8) 1 (by omega) rfl rfl (by omega);obtain ⟨v1,x1,y1⟩:=kR (ks:=[4,5,3,6,2,7,1,8]) p1 (by simpa using q1) (fun v=>1<=v/\v<=8) (by decide);have s1:sset 2 (a0 eN (aa (ac 1) (aa (af oIx (bf (aa (ae (.int 4)) (aa (ae (.int 5)) (aa (ae (.int 3)) (aa (ae (.int 6)) (aa (ae (.int 2)) (aa (ae (.int 7)) (aa (ae (.int 1)) (aa (ae (.int 8)) ai))))))))) (ao 3 (aC c) (aa (ac 0) (aa (ae (.int 1)) (aa (ae (.int 8)) ai))))) ai))) [si z,si y,none,none,none,none,none,none,none,none] =
   some (.nx [si z,si y,si (max y v1),none,none,none,none,none,none,none]):=by
  have hx:af oIx (bf (aa (ae (.int 4)) (aa (ae (.int 5)) (aa (ae (.int 3)) (aa (ae (.int 6)) (aa (ae (.int 2)) (aa (ae (.int 7)) (aa (ae (.int 1)) (aa (ae (.int 8)) ai))))))))) (ao 3 (aC c) (aa (ac 0) (aa (ae (.int 1)) (aa (ae (.int 8)) ai)))) [si z,si y,none,none,none,none,none,none,none,none]=some (.sh (.int v1)):=cC (a:=.sh (.tup [.int 4,.int 5,.int 3,.int 6,.int 2,.int 7,.int 1,.int 8])) (by simp [b8]) d1 x1;refine cH (r:=.sh (.int (max y v1))) ?_ rfl rfl;rw [mV,aP,aP,hx];simp [<-kN]
 generalize hn:max y v1=n at s1;have n1:1<=n:=by omega
 have n8:n<=8:=by omega
 obtain ⟨x,d2,k0,k4⟩:=lW c (fa:=ac 0) (fm:=ae (.int 4)) (δ:=[si z,si y,si n,none,none,none,none,none,none,none]) (cell:=z) (many:=4) 2 (by omega) rfl rfl (by omega);have s2:=cH (i:=3) d2 rfl (δ':=[si z,si y,si n,si x,none,none,none,none,none,none]) rfl;have s3:sset 4 (bV ai) [si z,si y,si n,si x,none,none,none,none,none,none]=some (.nx [si z,si y,si n,si x,some (.ow []),none,none,none,none,none]):=by simp
 obtain ⟨r3,d3,p3,q3⟩:=lW c (fa:=ac 0) (fm:=ae (.int 4)) (δ:=[si z,si y,si n,si x,some (.ow []),none,none,none,none,none]) (cell:=z) (many:=4) 3 (by omega) rfl rfl (by omega);obtain ⟨t0,x3,y3⟩:=kR (ks:=[1,3,5,7]) p3 (by simpa using q3) (fun v=>v=1\/v=3\/v=5\/v=7) (by decide);have s4:sset 5 (af oIx (bf (aa (ae (.int 1)) (aa (ae (.int 3)) (aa (ae (.int 5)) (aa (ae (.int 7)) ai))))) (ao 3 (aC c) (aa (ac 0) (aa (ae (.int 3)) (aa (ae (.int 4)) ai))))) [si z,si y,si n,si x,some (.ow []),none,none,none,none,none] =
   some (.nx [si z,si y,si n,si x,some (.ow []),si t0,none,none,none,none]):=cH (cC (a:=.sh (.tup [.int 1,.int 3,.int 5,.int 7])) (by simp [b4]) d3 x3) rfl rfl
 have t0p:0<t0:=by omega
 obtain ⟨t,s5,ht⟩ : ∃ t,sif ((bQ (al (af oEq (af oMod (ac 2) (ac 5)) (ae (.int 0)))) (al (af oGt (ac 5) (ae (.int 1)))))) (sset 5 (ae (.int 1))) aE [si z,si y,si n,si x,some (.ow []),si t0,none,none,none,none] =
   some (.nx [si z,si y,si n,si x,some (.ow []),si t,none,none,none,none])/\(t=1\/((t=3\/t=5\/t=7)/\n % t≠0)):=by
  by_cases h1:n % t0=0
  ·by_cases h2:1<t0
   ·exact ⟨1,by simp [modP t0p,h1,h2],.inl rfl⟩
   ·exact ⟨t0,by simp [modP t0p,h1,h2],.inl (by omega)⟩
  ·refine ⟨t0,by simp [modP t0p,h1],?_⟩;rcases y3 with rfl | h
   ·exact .inl rfl
   ·exact .inr ⟨h,h1⟩
 have tp:0<t/\t<=7:=by omega
 obtain ⟨T1,a6,a7,a8,s6,g1,l1⟩ : ∃ (T1:List Tie) (a6 a7 a8:Option E),sif ((bQ (al (af oGt (ac 3) (ae (.int 0)))) (al (af oGt (ac 2) (ae (.int 1)))))) (bg (cY (aa (af aV (af oSub (ac 2) (ae (.int 1))) (a0 dg (aa (af oSub (ac 3) (ae (.int 1))) (aa (ae (.int 1)) ai)))) ai)) (ap 6) (aq (lI 7 8 (af oMod (af cb (ac 6) (ac 5)) (ac 2)) (af oMod (af cb (af aV (ac 6) (ae (.int 1))) (ac 5)) (ac 2))) (cR 4 (bf (aa (a0 dg (aa (ac 7) (aa (ac 8) ai))) (aa (a0 eN (aa (ac 7) (aa (ac 8) ai))) ai)))))) aE
   [si z,si y,si n,si x,some (.ow []),si t,none,none,none,none] =
   some (.nx [si z,si y,si n,si x,some (.ow (T1.map aA)),si t,a6,a7,a8,none])/\Good n T1/\T1.length<=100:=by
  by_cases h1:0<x
  ·by_cases h2:1<n
   ·have hf:(af aV (af oSub (ac 2) (ae (.int 1))) (a0 dg (aa (af oSub (ac 3) (ae (.int 1))) (aa (ae (.int 1)) ai)))) [si z,si y,si n,si x,some (.ow []),si t,none,none,none,none]=some (.sh (.int (n-1+min (x-1) 1))):=by
     simp [<-jr]
    have hr:=rngE hf (by omega) (by omega);obtain ⟨T',y6,y7,y8,i1,i2,i3⟩:=nT (n:=n) (e0:=si z) (e1:=si y) (e2:=si n) (e3:=si x) (e5:=si t) (e9:=none)
     (B:=aq (lI 7 8 (af oMod (af cb (ac 6) (ac 5)) (ac 2)) (af oMod (af cb (af aV (ac 6) (ae (.int 1))) (ac 5)) (ac 2))) (cR 4 (bf (aa (a0 dg (aa (ac 7) (aa (ac 8) ai))) (aa (a0 eN (aa (ac 7) (aa (ac 8) ai))) ai)))))
     (fun d=>∃ k:Int,d=.int k) (by
      rintro d T x7 x8 ⟨k,rfl⟩ hT hTl;refine ⟨T++[cw (k*t % n) ((k+1)*t % n)],_,_,seq1 (δ1:=[si z,si y,si n,si x,some (.ow (T.map aA)),si t,si k,si (k*t % n),si ((k+1)*t % n),none]) ?_ (app_tie (n:=n) hTl),?_,by simp⟩
      ·have m1:cb (.int k) (.int t)=some (.sh (.int (k*t))):=mulR (by omega) (by omega);have m2:cb (.int (k+1)) (.int t)=some (.sh (.int ((k+1)*t))):=mulR (by omega) (by omega);have m3:∀ i:Int,oMod (.int i) (.int n)=some (.sh (.int (i % n))):=fun i=>modP (by omega);simp [lI,m1,m2,m3]
      ·refine pB hT (so (Int.emod_nonneg _ (by omega)) (Int.emod_lt_of_pos _ (by omega)) (Int.emod_nonneg _ (by omega)) (Int.emod_lt_of_pos _ (by omega)) (turn_ne (by omega) n8 ht)))
     ((List.range (n-1+min (x-1) 1).toNat).map fun k=>D.int (0+((k:Nat):Int))) [] none none none (by
      intro d hd;obtain ⟨k,_,rfl⟩:=zH.1 hd;exact ⟨_,rfl⟩) (by intro u hu;simp at hu) (by simp;omega)
    refine ⟨T',y6,y7,y8,?_,i2,by simp at i3;omega⟩;rw [cq];have ht:(bQ (al (af oGt (ac 3) (ae (.int 0)))) (al (af oGt (ac 2) (ae (.int 1))))) [si z,si y,si n,si x,some (.ow []),si t,none,none,none,none]=some true:=by simp [h1,h2]
    rw [ht];simp only [ud];rw [if_pos trivial];unfold bg;rw [hr];exact i1
   ·exact ⟨[],none,none,none,by simp [h1,h2],by intro u hu;simp at hu,by simp⟩
  ·exact ⟨[],none,none,none,by simp [h1],by intro u hu;simp at hu,by simp⟩
 obtain ⟨v9,x9,y9⟩:=kR (ks:=[9,4]) (r:=min x 1) (by omega) (by simp;omega) (fun v=>0<v/\v<=15) (by decide);have s7:sset 9 (af oIx (bf (aa (ae (.int 9)) (aa (ae (.int 4)) ai))) (a0 dg (aa (ac 3) (aa (ae (.int 1)) ai)))) [si z,si y,si n,si x,some (.ow (T1.map aA)),si t,a6,a7,a8,none] =
   some (.nx [si z,si y,si n,si x,some (.ow (T1.map aA)),si t,a6,a7,a8,si v9]):=cH (cC (a:=.sh (.tup [.int 9,.int 4])) (b:=.sh (.int (min x 1))) (by simp [b2]) (by simp [<-jr]) x9) rfl rfl
 obtain ⟨r8,d8,p8,q8⟩:=lW c (fa:=ac 0) (fm:=ae (.int 4)) (δ:=[si z,si y,si n,si x,some (.ow (T1.map aA)),si t,a6,a7,a8,si v9]) (cell:=z) (many:=4) 8 (by omega) rfl rfl (by omega);obtain ⟨most,s8,hmost⟩ : ∃ most,sif (al (af oEq (ao 3 (aC c) (aa (ac 0) (aa (ae (.int 8)) (aa (ae (.int 4)) ai)))) (ae (.int 0)))) (sset 9 (ae (.int 15))) aE [si z,si y,si n,si x,some (.ow (T1.map aA)),si t,a6,a7,a8,si v9] =
   some (.nx [si z,si y,si n,si x,some (.ow (T1.map aA)),si t,a6,a7,a8,si most])/\0<most/\most<=15:=by
  have ht:(al (af oEq (ao 3 (aC c) (aa (ac 0) (aa (ae (.int 8)) (aa (ae (.int 4)) ai)))) (ae (.int 0)))) [si z,si y,si n,si x,some (.ow (T1.map aA)),si t,a6,a7,a8,si v9]=some (decide (r8=0)):=by
   rw [dw,cC (a:=.sh (.int r8)) (b:=.sh (.int 0)) d8 rfl rfl];simp
  rw [cq,ht];by_cases h0:r8=0
  ·exact ⟨15,by simp [h0],by omega,by omega⟩
  ·exact ⟨v9,by simp [h0],y9.1,y9.2⟩
 obtain ⟨cnt,d9,c0,c15⟩:=lW c (fa:=ac 0) (fm:=ac 9) (δ:=[si z,si y,si n,si x,some (.ow (T1.map aA)),si t,a6,a7,a8,si most]) (cell:=z) (many:=most) 4 (by omega) rfl rfl (by omega);have hr2:=rngE d9 (by omega) (by omega);obtain ⟨T2,y6,y7,y8,i1,g2,i3⟩:=nT (n:=n) (e0:=si z) (e1:=si y) (e2:=si n) (e3:=si x) (e5:=si t) (e9:=si most)
  (B:=aq (sset 7 (ao 3 (aC c) (aa (af cb (af aV (ac 0) (af cb (ae (.int 977)) (ac 6))) (af aV (ac 6) (ae (.int 3)))) (aa (ae (.int 5)) (aa (ac 2) ai))))) (aq (sset 8 (ao 3 (aC c) (aa (af cb (af aV (ac 0) (af cb (ae (.int 31)) (ac 6))) (af aV (ac 6) (ae (.int 5)))) (aa (ae (.int 6)) (aa (ac 2) ai))))) (sif (al (af oNe (ac 7) (ac 8))) (cR 4 (bf (aa (a0 dg (aa (ac 7) (aa (ac 8) ai))) (aa (a0 eN (aa (ac 7) (aa (ac 8) ai))) ai)))) aE)))
  (fun d=>∃ k:Int,d=.int k/\0<=k/\k<=100) (by
   rintro d T x7 x8 ⟨k,rfl,kk0,kk1⟩ hT hTl;have m1:cb (.int 977) (.int k)=some (.sh (.int (977*k))):=mulL (by omega) (by omega);have m2:cb (.int 31) (.int k)=some (.sh (.int (31*k))):=mulL (by omega) (by omega);have m3:∀ i:Int,cb (.int i) (.int (k+3))=some (.sh (.int (i*(k+3)))):=fun i=>mulR (by omega) (by omega);have m4:∀ i:Int,cb (.int i) (.int (k+5))=some (.sh (.int (i*(k+5)))):=fun i=>mulR (by omega) (by omega);obtain ⟨u,du,u0,u1⟩:=lW c (fa:=af cb (af aV (ac 0) (af cb (ae (.int 977)) (ac 6))) (af aV (ac 6) (ae (.int 3)))) (fm:=ac 2) (δ:=[si z,si y,si n,si x,some (.ow (T.map aA)),si t,si k,x7,x8,si most]) (cell:=(z+977*k)*(k+3)) (many:=n) 5 (by omega) (by simp [m1,m3]) rfl (by omega);obtain ⟨v,dv,v0,v1⟩:=lW c (fa:=af cb (af aV (ac 0) (af cb (ae (.int 31)) (ac 6))) (af aV (ac 6) (ae (.int 5)))) (fm:=ac 2) (δ:=[si z,si y,si n,si x,some (.ow (T.map aA)),si t,si k,si u,x8,si most]) (cell:=(z+31*k)*(k+5)) (many:=n) 6 (by omega) (by simp [m2,m4]) rfl (by omega);by_cases huv:u=v
   ·refine ⟨T,si u,si v,seq1 (cH du rfl rfl) (seq1 (cH dv rfl rfl) ?_),hT,by omega⟩;show sif _ _ _ [si z,si y,si n,si x,some (.ow (T.map aA)),si t,si k,si u,si v,si most]=_;simp [huv]
   ·refine ⟨T++[cw u v],si u,si v,seq1 (cH du rfl rfl) (seq1 (cH dv rfl rfl) ?_),pB hT (so u0 u1 v0 v1 huv),by simp⟩;show sif _ _ _ [si z,si y,si n,si x,some (.ow (T.map aA)),si t,si k,si u,si v,si most]=_;rw [cq];have ht:(al (af oNe (ac 7) (ac 8))) [si z,si y,si n,si x,some (.ow (T.map aA)),si t,si k,si u,si v,si most]=some true:=by simp [huv]
    rw [ht];exact app_tie (n:=n) hTl)
  ((List.range cnt.toNat).map fun k=>D.int (0+((k:Nat):Int))) T1 a6 a7 a8 (by
   intro d hd;obtain ⟨k,hk,rfl⟩:=zH.1 hd;rw [List.mem_range] at hk;exact ⟨_,rfl,by omega,by omega⟩) g1 (by simp;omega)
 obtain ⟨r7,d7,_,_⟩:=lW c (fa:=ac 0) (fm:=ae (.int 2)) (δ:=[si z,si y,si n,si x,some (.ow (T2.map aA)),si t,y6,y7,y8,si most]) (cell:=z) (many:=2) 7 (by omega) rfl rfl (by omega);obtain ⟨T3,s10,g3⟩ : ∃ T3:List Tie,sif (al (af oEq (ao 3 (aC c) (aa (ac 0) (aa (ae (.int 7)) (aa (ae (.int 2)) ai)))) (ae (.int 0)))) (sset 4 (drev (ac 4) (dun eO (ae (.int 1))))) aE [si z,si y,si n,si x,some (.ow (T2.map aA)),si t,y6,y7,y8,si most] =
   some (.nx [si z,si y,si n,si x,some (.ow (T3.map aA)),si t,y6,y7,y8,si most])/\Good n T3:=by
  have ht:(al (af oEq (ao 3 (aC c) (aa (ac 0) (aa (ae (.int 7)) (aa (ae (.int 2)) ai)))) (ae (.int 0)))) [si z,si y,si n,si x,some (.ow (T2.map aA)),si t,y6,y7,y8,si most]=some (decide (r7=0)):=by
   rw [dw,cC (a:=.sh (.int r7)) (b:=.sh (.int 0)) d7 rfl rfl];simp
  rw [cq,ht];by_cases h0:r7=0
  ·refine ⟨T2.reverse,?_,fun u hu=>g2 u (by simpa using hu)⟩;simp [h0,drev,nI]
  ·exact ⟨T2,by simp [h0],g2⟩
 refine ⟨n,T3.take 14,?_,⟨n1,n8,by simp;omega,fun u hu=>g3 u (List.mem_of_mem_take hu)⟩,by omega⟩;refine bj (r:=.sh (cD n (T3.take 14))) rfl (seq1 s1 (seq1 s2 (seq1 s3 (seq1 s4 (seq1 s5 (seq1 s6 (seq1 s7 (seq1 s8 (seq1 (δ1:=[si z,si y,si n,si x,some (.ow (T2.map aA)),si t,y6,y7,y8,si most]) ?_ (seq1 s10 ?_)))))))))) rfl
 ·show bg _ _ _ [si z,si y,si n,si x,some (.ow (T1.map aA)),si t,a6,a7,a8,si most]=_;unfold bg;rw [hr2];exact i1
 ·simp [cn,b9,fq,cut14,b2,cD]
theorem scr_0 (K:Frag) (ns:List Int) (r:DSt):ij K 0 (some (.scr K ns)::r)=some ns:=by
 unfold ij;simp
theorem jZ (K:Frag) (ns:List Int) {k:Int} (hk:0<=k):∃ v,bK c K ns k=some v:=by
 unfold bK runS;show ∃ v,(match cG c K [some (.scr K ns),si k] with | some (.rt (.sh (.int j)))=>some j | _=>none)=some v;by_cases h:k<(ns.length:Int)
 ·have vt:k.toNat<ns.length:=by omega
  refine ⟨ns[k.toNat],?_⟩;have:cG c K [some (.scr K ns),si k]=some (.rt (.sh (.int (ns[k.toNat])))):=by
   simp [cG,dlenS,dixS,scr_0,h,kP hk,yW vt]
  rw [this]
 ·refine ⟨0,?_⟩;have:cG c K [some (.scr K ns),si k]=some (.rt (.sh (.int 0))):=by
   simp [cG,dlenS,scr_0,h]
  rw [this]
theorem j0 {K:Frag} {ns:List Int} {r:DSt} {f:FE} {k v:Int} (h:f (some (.scr K ns)::r)=some (.sh (.int k))) (hv:bK c K ns k=some v):iN K 0 (bK c K) f (some (.scr K ns)::r)=some (.sh (.int v)):=by
 unfold iN;rw [h];simp [scr_0,hv]
theorem lX {n:Int} {e0:Option E}:∀ (ps:List Int) (last:Int) (x:Option E),(∀ p∈ps,last<p/\p<n)->ps.Pairwise (·<·)->
  ∃ y z,aW (ap 3) (aq (sif ((bP (al (aF is_bool (ac 3))) (bP (bb (al (aF eW (ac 3)))) (bb (al (dQ oLt oLt (ac 2) (ac 3) (ac 1))))))) (aL (ae (.bl false))) aE) (sset 2 (ac 3))) (ps.map .int) [e0,si n,si last,x]=some (.nx [e0,si n,y,z])
 | [],last,x,_,_=>⟨_,_,rfl⟩
 | p::ps,last,x,h,hp=>by
  rw [List.pairwise_cons] at hp;obtain ⟨y,z,ih⟩:=lX (n:=n) (e0:=e0) ps p (some (.sh (.int p))) (fun q hq=>⟨hp.1 q hq,(h q (by simp [hq])).2⟩) hp.2;refine ⟨y,z,?_⟩;rw [zb];unfold aW;have hg:ap 3 (.int p) [e0,si n,si last,x]=some [e0,si n,si last,si p]:=rfl;rw [hg];have h1:=h p (by simp);have hb:(aq (sif ((bP (al (aF is_bool (ac 3))) (bP (bb (al (aF eW (ac 3)))) (bb (al (dQ oLt oLt (ac 2) (ac 3) (ac 1))))))) (aL (ae (.bl false))) aE) (sset 2 (ac 3))) [e0,si n,si last,si p]=some (.nx [e0,si n,si p,si p]):=by
   simp [aF,is_bool,eW,h1]
  simp only [ud];rw [hb];simp only [ud,ci];exact ih
theorem su {n:Int} {ps:List Int} (h:∀ p∈ps,0<=p/\p<n) (hp:ps.Pairwise (·<·)):ib c [aU ps,.int n]=some (.bl true):=by
 obtain ⟨y,z,hl⟩:=lX (n:=n) (e0:=some (.sh (aU ps))) ps (-1) none (fun p hp=>⟨by have:=h p hp;omega,(h p hp).2⟩) hp;refine bj (r:=.sh (.bl true)) rfl (seq1 (δ1:=[sI ps,si n,none,none]) (by simp [aF,dr,aU]) (seq1 (δ1:=[sI ps,si n,si (-1),none]) (by simp [nI]) (seq1 (δ1:=[sI ps,si n,y,z]) ?_ rfl))) rfl;simp only [bg,cf,dS,uj,ug,ud,gU,bH,aU];simp only [Bool.false_eq_true,if_false,ud];exact hl
theorem pC {e0 e1 e2 e3 e5:Option E}:∀ (ns:List Int) (x:Option E),(∀ p∈ns,0<=p)->
  ∃ y,aW (ap 4) (sif ((bP (al (aF is_bool (ac 4))) (bP (bb (al (aF eW (ac 4)))) (al (af oLt (ac 4) (ae (.int 0))))))) (aL (ae (.bl false))) aE) (ns.map .int) [e0,e1,e2,e3,x,e5]=some (.nx [e0,e1,e2,e3,y,e5])
 | [],x,_=>⟨x,rfl⟩
 | p::ns,x,h=>by
  obtain ⟨y,ih⟩:=pC (e0:=e0) (e1:=e1) (e2:=e2) (e3:=e3) (e5:=e5) ns (some (.sh (.int p))) (fun q hq=>h q (by simp [hq]));refine ⟨y,?_⟩;rw [zb];unfold aW;have hg:ap 4 (.int p) [e0,e1,e2,e3,x,e5]=some [e0,e1,e2,e3,si p,e5]:=rfl;rw [hg];have h1:¬p<0:=by have:=h p (by simp);omega
  have hb:(sif ((bP (al (aF is_bool (ac 4))) (bP (bb (al (aF eW (ac 4)))) (al (af oLt (ac 4) (ae (.int 0))))))) (aL (ae (.bl false))) aE) [e0,e1,e2,e3,si p,e5]=some (.nx [e0,e1,e2,e3,si p,e5]):=by
   simp [aF,is_bool,eW,h1]
  simp only [ud];rw [hb];simp only [ud,ci];exact ih
theorem best_lt {ns:List Int} {n:Int} (h0:ns≠[]) (h:∀ p∈ns,p<n):∃ m,best (fun x m=>decide (m<x)) ns=some m/\m<n:=by
 cases ns with
 | nil=>exact absurd rfl h0
 | cons a r=>
  have go:∀ (r:List Int) (a:Int),a<n->(∀ x∈r,x<n)->r.foldl (fun m x=>if decide (m<x) then x else m) a<n:=by
   intro r
   induction r with
   | nil=>intro a ha _;exact ha
   | cons x r ih=>
    intro a ha hr;rw [List.foldl_cons];refine ih _ ?_ (fun y hy=>hr y (by simp [hy]));have:=hr x (by simp);split <;> omega
  exact ⟨_,rfl,go r a (h a (by simp)) (fun x hx=>h x (by simp [hx]))⟩
theorem pD {f:FE} {δ:DSt} {r:R} {ns:List Int} (h:f δ=some r) (hv:r.view=aU ns) (hl:ns.length<=1000) (nd:ns.Nodup):eD f δ=some (.sh (.int ns.length)):=by
 unfold eD;rw [h];simp only [ud,hv,aU];rw [fA];simp [hl,(nO ns).2 nd]
theorem kS (ns:List Int):(srt ns).Perm ns:=List.mergeSort_perm _ _
theorem srt_le (ns:List Int):(srt ns).Pairwise (·<=·):=by
 have:=List.pairwise_mergeSort (le:=fun (a b:Int)=>decide (a<=b)) (fun a b c h1 h2=>by simp at *;omega) (fun a b=>by simp;omega) ns;exact this.imp (fun h=>by simpa using h)
theorem srt_lt {ns:List Int} (nd:ns.Nodup):(srt ns).Pairwise (·<·):=by
 have h1:=srt_le ns;have h2:(srt ns).Nodup:=(List.Perm.nodup_iff (kS ns)).2 nd;exact (List.Pairwise.and h1 h2).imp (fun ⟨a,b⟩=>by omega)
theorem pts_lt (n:Int):(pts n).Pairwise (·<·):=by
 unfold pts;rw [List.pairwise_map];exact (List.pairwise_lt_range).imp (fun h=>by omega)
theorem isSet_srt {n:Int} {ns:List Int} (nd:ns.Nodup) (h:∀ p∈ns,0<=p/\p<n):isSet n (srt ns)=true:=by
 unfold isSet;rw [decide_eq_true_eq];have hp:((pts n).filter (srt ns).contains).Perm ns:=by
  rw [List.perm_ext_iff_of_nodup (cS (pA n)) nd];intro a;rw [Af,jt];simp only [List.contains_iff_mem,(kS ns).mem_iff];constructor
  ·exact fun h=>h.2
  ·exact fun ha=>⟨h a ha,ha⟩
 exact (srt_eq hp ((pts_lt n).filter _ |>.imp (fun h=>by omega))).symm
theorem setN1 {i:Nat} {g:FN} {δ δ':DSt} {d:D} (h:g δ=some d) (hd:δ.set i (some (.nw d))=δ'):mW i g δ=some (.nx δ'):=by rw [ssetN_e,h,ud,hd]
theorem nU {i:Nat} {t:DSt->Option Bool} {F G:FS} {δ:DSt} {x:Option Res} (h:t (frz i δ)=some false) (h2:G δ=x):iM i t F G δ=x:=by rw [sifB_e,h];simpa using h2
theorem ifB_t {i:Nat} {t:DSt->Option Bool} {F G:FS} {δ:DSt} {x:Option Res} (h:t (frz i δ)=some true) (h2:F δ=x):iM i t F G δ=x:=by rw [sifB_e,h];simpa using h2
theorem iw {t u:DSt->Option Bool} {δ:DSt} {x:Option Bool} (h:t δ=some false) (h2:u δ=x):bP t u δ=x:=by rw [dtOr_e,h];simpa using h2
theorem fP {t:DSt->Option Bool} {δ:DSt} {b:Bool} (h:t δ=some b):bb t δ=some (!b):=by rw [jg,h];rfl
theorem a9 {f:FE} {δ:DSt} {b:Bool} (h:f δ=some (.sh (.bl b))):al f δ=some b:=by rw [dw,h];rfl
theorem nV {uA:D->Option Bool} {f:FE} {δ:DSt} {d:D} {b:Bool} (h:f δ=some (.sh d)) (ha:uA d=some b):aF uA f δ=some (.sh (.bl b)):=by
 unfold aF;rw [h];simp [ha]
theorem isnot1 {f:FE} {δ:DSt} {a b:Bool} (h:f δ=some (.sh (.bl a))):al (af gV f (ae (.bl b))) δ=some (!decide (a=b)):=by
 rw [dw,cC (a:=.sh (.bl a)) (b:=.sh (.bl b)) h rfl rfl];cases a <;> cases b <;> rfl
theorem meth4 {C:Addr} {name:Str} {m:List D->Option D} {fo f1 f2 f3 f4:FE} {δ:DSt} {fs:List (Str×D)} {r1 r2 r3 r4:R} {d:D} (h:fo δ=some (.sh (.obj C fs))) (hl:fs.lookup name=none) (h1:f1 δ=some r1) (h2:f2 δ=some r2) (h3:f3 δ=some r3) (h4:f4 δ=some r4)
  (hm:m [.obj C fs,r1.view,r2.view,r3.view,r4.view]=some d) (hb:(r1.isBw=false/\r2.isBw=false/\r3.isBw=false/\r4.isBw=false)\/d.flat=true) :
  bW C name 5 m fo (aa f1 (aa f2 (aa f3 (aa f4 ai)))) δ=some (.sh d):=by
 simp only [dmeth_e,h,ud,bH,hl,aP,eX,h1,h2,h3,h4,and_self,if_true,jh,zb,List.map_nil,hm];rw [if_pos];exact ⟨rfl,hb.imp (fun h=>by simp [h]) id⟩
theorem j4 {f:FE} {δ:DSt} {n:Int} {T:List Tie} (h:f δ=some (.sh (cD n T))):af oIx f (ae (.int 0)) δ=some (.sh (.int n)):=cC h rfl (by simp [cD,dN])
theorem lD {f:FE} {δ:DSt} {n:Int} {T:List Tie} (h:f δ=some (.sh (cD n T))):af oIx f (ae (.int 1)) δ=some (.sh (.lst (T.map aA))):=cC h rfl (by simp [cD,dB])
theorem told_1s {f:FE} {δ:DSt} {n:Int} {T:List Tie} (h:f δ=some (.sh (cD n T))):cn (af oIx f (ae (.int 1))) (b9 (ae (.int 1))) fq δ=some (.fr (T.tail.map aA)):=by
 unfold cn;rw [lD h];simp [b9,fq,cut1,List.map_tail]
theorem tail_ok {n:Int} {T:List Tie} (W:da n T):da n T.tail:=⟨W.1,W.2.1,by have:=W.2.2.1;simp;omega,fun t ht=>W.2.2.2 t (Aq ht)⟩
def cL (ps:List Int):D:=.obj c.Wall [("points",aU ps)]
theorem ansW {ws:List (Wlk Int Int)} (hc:CNe c):dY c (cW c ws)=some true/\hJ c (cW c ws)=some true/\g9 c (cW c ws)=some false/\fV c (cW c ws)=some false/\jU c (cW c ws)=some false:=by
 obtain ⟨h1,h2,h3,h4,h5,h6,h7,h8,h9,yK⟩:=hc;simp [dY,hJ,g9,fV,jU,cW,Ne.symm h3,Ne.symm h6,Ne.symm h8]
theorem ansP {ps:List Int} (hc:CNe c):dY c (cL c ps)=some true/\hJ c (cL c ps)=some false/\g9 c (cL c ps)=some false/\fV c (cL c ps)=some true/\jU c (cL c ps)=some false:=by
 obtain ⟨h1,h2,h3,h4,h5,h6,h7,h8,h9,yK⟩:=hc;simp [dY,hJ,g9,fV,jU,cL,Ne.symm h2,Ne.symm h5]
theorem lkp {A:Type} {a:A}:List.lookup ("points" : Str) [("points",a)]=some a:=rfl
theorem lkp2 {A:Type} {a:A}:List.lookup ("shows" : Str) [(("points" : Str),a)]=none:=rfl
theorem lkw2 {A:Type} {a:A}:List.lookup ("shows" : Str) [(("ways" : Str),a)]=none:=rfl
theorem fldP {f:FE} {δ:DSt} {ps:List Int} (h:f δ=some (.sh (cL c ps))):eU (isC c.Wall) "points" f δ=some (.sh (aU ps)):=by
 rw [dfld_e,h];simp [cL,lkp]
theorem fldW {f:FE} {δ:DSt} {ws:List (Wlk Int Int)} (h:f δ=some (.sh (cW c ws))):eU (isC c.Ways) "ways" f δ=some (.sh (.lst (ws.map eWk))):=by
 rw [dfld_e,h];simp [cW,lk_ways]
theorem j6 {t u:DSt->Option Bool} {δ:DSt} {a b:Bool} (h1:t δ=some a) (h2:u δ=some b):bQ t u δ=some (a&&b):=by
 rw [p5,h1];cases a
 ·rfl
 ·exact h2
theorem or_bb {t u:DSt->Option Bool} {δ:DSt} {a b:Bool} (h1:t δ=some a) (h2:u δ=some b):bP t u δ=some (a||b):=by
 rw [dtOr_e,h1];cases a
 ·exact h2
 ·rfl
theorem skp {t:DSt->Option Bool} {F G:FS} {δ:DSt} {x:Option Res} (h:t δ=some false) (h2:G δ=x):aq (sif t F aE) G δ=x:=seq1 (δ1:=δ) (by rw [cq,h];rfl) h2
theorem stp {t:DSt->Option Bool} {d:D} {G:FS} {δ:DSt} (h:t δ=some true):aq (sif t (aL (ae d)) aE) G δ=some (.rt (.sh d)):=by rw [dU,cq,h];rfl
def io (b:Bool):Str:=if b then "out" else "in"
noncomputable def Ebs:Enc Bool:=⟨fun b=>.str (io b),1,fun b=>⟨by unfold D.plain;rfl,by unfold D.py PyData.canLay0;cases b <;> decide +kernel,by unfold D.py PyData.depth;omega⟩,fun a b=>by cases a <;> cases b <;> rfl⟩
abbrev ENd:Enc (Nd Int):=Enc.int.par Ebs
def nmE:Nm Int Int->D
 | .inl p=>.int p
 | .inr s=>eSt s
noncomputable def ENm:Enc (Nm Int Int):=⟨nmE,2,fun x=>by
 cases x with
 | inl p=>have:=Enc.int.ok p;exact ⟨this.1,this.2.1,zN this.2.2 (by decide)⟩
 | inr s=>exact (Enc.int.tri Enc.int).ok s,fun a b=>by
 cases a with
 | inl p=>cases b with
  | inl q=>exact (Enc.int.eq p q).trans (by simp)
  | inr s=>simp [nmE,lT,eqP,D.py,PyData.eqv]
 | inr s=>cases b with
  | inl q=>simp [nmE,lT,eqP,D.py,PyData.eqv]
  | inr t=>exact ((Enc.int.tri Enc.int).eq s t).trans (by simp)⟩
abbrev ES:Enc (Nd Int×Nd Int×Nm Int Int):=ENd.tri ENm
theorem es_thr (p:Int):ES.e (thr p)=.tup [.tup [.int p,.str "in"],.tup [.int p,.str "out"],.int p]:=rfl
theorem es_tie (s:Int×Int×Int):ES.e (cM s)=.tup [.tup [.int s.1,.str "out"],.tup [.int s.2.1,.str "in"],eSt s]:=rfl
noncomputable def bodyT:FS:=cR 1 (bf (aa (bf (aa (af oIx (ac 2) (ae (.int 0))) (aa (ae (.str "out")) ai))) (aa (bf (aa (af oIx (ac 2) (ae (.int 1))) (aa (ae (.str "in")) ai))) (aa (ac 2) ai))))
theorem kT {e0:Option E}:∀ (L:aI Int Int) (acc:aI (Nd Int) (Nm Int Int)) (x:Option E),acc.length+L.length<=1000->
  ∃ y,aW (ap 2) bodyT (L.map eSt) [e0,some (.ow (acc.map ES.e)),x]=some (.nx [e0,some (.ow ((acc++L.map cM).map ES.e)),y])
 | [],acc,x,_=>⟨x,by simp [aW]⟩
 | s::L,acc,x,hl=>by
  simp only [zQ] at hl;obtain ⟨y,ih⟩:=kT (e0:=e0) L (acc++[cM s]) (some (.sh (eSt s))) (by simp;omega);refine ⟨y,?_⟩;have b3:(3:Nat)<=big:=by decide
  have b2:(2:Nat)<=big:=by decide
  have b4:acc.length<=big:=by rw [bJ];omega
  have hb:bodyT [e0,some (.ow (acc.map ES.e)),sd (eSt s)]=some (.nx [e0,some (.ow ((acc++[cM s]).map ES.e)),sd (eSt s)]):=by
   rw [zT,List.map_singleton,es_tie];unfold bodyT;simp [cR,dN,dB,b2,b3,b4,lT,Enc.int]
  rw [zb];unfold aW;show (bodyT [e0,some (.ow (acc.map ES.e)),sd (eSt s)]).bind _=_;rw [hb];simp only [ud,ci];rw [ih];simp
theorem lE {n:Int} {T:List Tie} (W:da n T):de c [bG c n T]=some (.lst ((through (pts n) (aN T)).map ES.e)):=by
 have hT:=W.2.2.1;have yt:=W.1;have xc:=W.2.1;have hl:=iY T;have hp:=kO n;have b3:(3:Nat)<=big:=by decide
 have b2:(2:Nat)<=big:=by decide
 have d1:=jG c n T (by omega) (by omega);have d2:=rZ c n T (by omega);have c1:=cj (fi:=aH (ao 1 (cA c) (aa (ac 0) ai))) (g:=ap 0) (t:=cN) (fe:=bf (aa (bf (aa (ac 0) (aa (ae (.str "in")) ai))) (aa (bf (aa (ac 0) (aa (ae (.str "out")) ai))) (aa (ac 0) ai)))) (m:=1) (ix:=[]) (δ:=[sW c n T,none,none]) (items:=(pts n).map .int) (by rw [cf,cs1 rfl d1];rfl) (by rw [uk,hp];omega) (cg _ _ _ _ D.int (fun _=>true) (fun p=>ES.e (thr p)) (pts n) (fun p _=>by
  refine ⟨_,rfl,rfl,fun _=>⟨.sh (ES.e (thr p)),?_,rfl,rfl⟩⟩;rw [es_thr];simp [dIn,b2,b3]))
 rw [zL.2 (fun _ _=>rfl)] at c1;obtain ⟨y,lp⟩:=kT (e0:=sW c n T) (aN T) ((pts n).map thr) none (by rw [uk,hp];omega);refine bj (r:=.fr _) rfl (seq1 (δ1:=[sW c n T,some (.ow (((pts n).map thr).map ES.e)),none]) (cH c1 rfl (by rw [zV];rfl)) (seq1 (δ1:=[sW c n T,some (.ow ((through (pts n) (aN T)).map ES.e)),y]) ?_ rfl)) rfl;unfold bg;rw [cf,cs1 (f1:=ac 0) rfl d2];exact lp
def nmN:Nm Int Int->Int
 | .inl _=>0
 | .inr s=>s.2.2
noncomputable def fy (w:Wlk (Nd Int) (Nm Int Int)):Wlk Int Int:=((w.1.take 1++evens w.1.tail).map (·.1),(evens w.2).map nmN)
theorem cutT1 (ds:List D):cutD ds none (some 1)=ds.take 1:=by
 unfold cutD HT.sIx;cases ds with
 | nil=>simp
 | cons d ds=>simp
theorem qD {w:Wlk (Nd Int) (Nm Int Int)} (l1:w.1.length<=500) (l2:w.2.length<=500) (hr:∀ x∈evens w.2,∃ s,x=.inr s):eR c [ay ENd ENm w]=some (eWk (fy w)):=by
 have b2:(2:Nat)<=big:=by decide
 have hi1:aH (af aV (cn (af oIx (ac 0) (ae (.int 0))) fq (b9 (ae (.int 1)))) (dsl2 (af oIx (ac 0) (ae (.int 0))) (b9 (ae (.int 1))) (ae (.int 2)))) [sd (ay ENd ENm w),none]=some ((w.1.take 1++evens w.1.tail).map ENd.e):=by
  have e1:cn (af oIx (ac 0) (ae (.int 0))) fq (b9 (ae (.int 1))) [sd (ay ENd ENm w),none]=some (.fr ((w.1.take 1).map ENd.e)):=by
   simp [cn,ay,dN,fq,b9,cutT1]
  have e2:dsl2 (af oIx (ac 0) (ae (.int 0))) (b9 (ae (.int 1))) (ae (.int 2)) [sd (ay ENd ENm w),none]=some (.fr ((evens w.1.tail).map ENd.e)):=by
   simp [dsl2,ay,dN,b9,loN,qj,<-List.map_tail]
  rw [cf,cC e1 e2 (eM _ _ (by have:=fF w.1.tail;simp at this ⊢;omega)),<-zT];rfl
 have hi2:∀ e1:Option E,aH (dsl2 (af oIx (ac 0) (ae (.int 1))) fq (ae (.int 2))) [sd (ay ENd ENm w),e1]=some ((evens w.2).map ENm.e):=fun e1=>by
  have e2:dsl2 (af oIx (ac 0) (ae (.int 1))) fq (ae (.int 2)) [sd (ay ENd ENm w),e1]=some (.fr ((evens w.2).map ENm.e)):=by
   simp [dsl2,ay,dB,fq,loN,qj]
  rw [cf,e2];rfl
 have c1:=cj (g:=ap 0) (t:=cN) (fe:=af oIx (ac 0) (ae (.int 0))) (m:=1) (ix:=[]) hi1 (by have:=fF w.1.tail;simp at this ⊢;omega) (cg _ _ _ _ ENd.e (fun _=>true) (fun x:Nd Int=>D.int x.1) (w.1.take 1++evens w.1.tail) (fun x _=>⟨_,rfl,rfl,fun _=>⟨.sh (.int x.1),bs rfl rfl rfl,rfl,rfl⟩⟩));have c2:=cj (g:=ap 0) (t:=cN) (fe:=af oIx (ac 0) (ae (.int 2))) (m:=1) (ix:=[]) (hi2 (sI (fy w).1)) (by have:=fF w.2;simp at this ⊢;omega) (cg _ _ _ _ ENm.e (fun _=>true) (fun x=>D.int (nmN x)) (evens w.2) (fun x hx=>by
  obtain ⟨s,rfl⟩:=hr x hx;exact ⟨_,rfl,rfl,fun _=>⟨.sh (.int s.2.2),bs rfl rfl rfl,rfl,rfl⟩⟩))
 rw [zL.2 (fun _ _=>rfl)] at c1 c2;refine bj (r:=.sh (eWk (fy w))) rfl (seq1 (δ1:=[sd (ay ENd ENm w),some (.ow ((fy w).1.map .int))]) (cH c1 rfl (by simp [fy,Function.comp_def])) ?_) rfl;rw [dW];show aL _ [sd (ay ENd ENm w),sI (fy w).1]=_;refine iD ?_ rfl;rw [dtup_e,aP,aP,c2];simp [b2,eWk,ay,fy,Enc.int]
theorem oA {L:aI (Nd Int) (Nm Int Int)} {R:List (Nd Int)} (hL:L.length<64):ia c [.lst (L.map ES.e),.lst (R.map ENd.e)]=some (aU (srt ((L.filter (cK R)).map fun s=>s.2.1.1))):=by
 have k:ENd.k<=15:=by decide
 have c1:=cj (fi:=aH (ac 0)) (g:=ap 0) (t:=bQ (al (af oIn (af oIx (ac 0) (ae (.int 0))) (ac 1))) (al (af oNotIn (af oIx (ac 0) (ae (.int 1))) (ac 1)))) (fe:=af oIx (af oIx (ac 0) (ae (.int 1))) (ae (.int 0))) (m:=1) (ix:=[1]) (δ:=[sd (.lst (L.map ES.e)),sd (.lst (R.map ENd.e))]) rfl (by simp;omega) (cg _ _ _ _ ES.e (cK R) (fun s=>D.int s.2.1.1) L (fun s _=>
  ⟨_,rfl,(j6 (a9 (bs (bs rfl rfl rfl) rfl (ENd.oIn k s.1 R))) (a9 (bs (bs rfl rfl rfl) rfl (ENd.oNotIn k s.2.1 R)))).trans (congrArg some (Bool.eq_iff_iff.2 (by simp [cK]))),fun _=>⟨.sh (.int s.2.1.1),bs (bs rfl rfl rfl) rfl rfl,rfl,rfl⟩⟩))
 refine bj (r:=.fr ((srt ((L.filter (cK R)).map fun s=>s.2.1.1)).map .int)) rfl (iD ?_ rfl) rfl;rw [ku,aP];erw [c1];have:=qC ((L.filter (cK R)).map fun s=>s.2.1.1) (by have:=zM (cK R) L;simp;omega);rw [zV] at this;exact this
theorem j7 (n:Int) (T:List Tie) (p q:Int):gF c [bG c n T,.int p,.int q]=some (.bl (decide (cw p q∈T))):=
 bj (r:=.sh (.bl _)) rfl (iD (bs (cs2 rfl rfl (iX c p q)) (fz c (f:=ac 0) rfl) ((ET.oIn (show max 1 1+1<=15 by decide) (cw p q) T).trans (by congr))) rfl) rfl
theorem nW {n:Int} {T:List Tie} {p q:Int} (h:cw p q∉T):c9 c [bG c n T,.int p,.int q]=some .non:=by
 have a1:=j7 c n T p q;rw [Aw h] at a1;simp [c9,jD,a1]
theorem oI {n:Int} {T:List Tie} {p q:Int} (h:cw p q∈T):dH c [bG c n T,.int p,.int q]=some c.Tied:=by
 have a1:=j7 c n T p q;rw [Av h] at a1;unfold dH runX xif;show ((al _ [sW c n T,si p,si q]).bind _)=_;rw [a9 (cs3 rfl rfl rfl a1)];rfl
theorem ways_x (hc:CNe c) {n:Int} {T:List Tie} {p q m:Int} (h2:b7 n p q=true) (h:cw p q∈T):mI c [bG c n T,.int p,.int q,.int m]=some c.Tied:=by
 have d1:=gJ c hc (T:=T) h2;have d2:=oI c (n:=n) h;show xthn _ _ [sW c n T,si p,si q,si m,none,none,none]=_;unfold xthn gA;rw [cs3 rfl rfl rfl d1];simp only [ud];unfold eZ;simp [aP,d2]
theorem sv (hc:CNe c) {n:Int} {T:List Tie} {p q m:Int} (h2:b7 n p q=true) (h:cw p q∈T):ic c [bG c n T,.int p,.int q,.int m]=some (.bl true):=by
 have d1:=ways_x c hc (m:=m) h2 h;have b3:(3:Nat)<=big:=by decide
 refine bj (δ:=[sW c n T,si p,si q,si m,none,none]) (r:=.sh (.bl true)) rfl ?_ rfl;show aq (stry _ _ _ _) _ _=_;rw [dU];unfold stry;have e1:eZ 4 (mI c) (aa (ac 0) (aa (ac 1) (aa (ac 2) (aa (ac 3) ai)))) [sW c n T,si p,si q,si m,none,none]=some c.Tied:=by
  unfold eZ;simp [aP,d1]
 rw [e1];have x1:fW c c.Tied=some true:=by simp [fW,isA]
 have x2:fY c c.Tied=some false:=by simp [fY,isA]
 have x3:fZ c c.Tied=some false:=by simp [fZ,isA]
 have x4:hU c c.Tied=some false:=by simp [hU,isA]
 have x5:jn c c.Tied=some false:=by simp [jn,isA]
 have x6:jo c c.Tied=some false:=by simp [jo,isA]
 have x7:eJ c c.Tied=some true:=by simp [eJ,isA]
 have x8:mH c c.Tied=some true:=by simp [mH,isA]
 simp [x1,me,x2,x3,x4,x5,x6,x7,x8,b3,oAny,eM,bls]
noncomputable def fQ (n:Int) (T:List Tie) (p q:Int) (m:Nat):List (Wlk (Nd Int) (Nm Int Int)):=cy 100 100 (through (pts n) (aN T)) (p,true) (q,false) m
noncomputable def nX (n:Int) (T:List Tie) (ws:List (Wlk (Nd Int) (Nm Int Int))) (p:Int):List (Nd Int):=reach 100 ((aG (through (pts n) (aN T)) (ws.flatMap am)).map fun s=>(s.1,s.2.1)) (p,true)
noncomputable def wallL (n:Int) (T:List Tie) (ws:List (Wlk (Nd Int) (Nm Int Int))) (p:Int):List Int:=srt (gY (pts n) (aN T) (nX n T ws p))
abbrev WA (n:Int) (T:List Tie) (p q:Int) (m:Nat) (ws:List (Wlk (Nd Int) (Nm Int Int))):Prop:=qg (through (pts n) (aN T)) (p,true) (q,false) m ws
section
variable {n:Int} {T:List Tie} (W:da n T)
include W
theorem gb:(through (pts n) (aN T)).length<=36:=by
 have:=W.2.1;have:=W.2.2.1;have:=iY T;have:=kO n;unfold through;simp only [zy,uk];omega
theorem pE (p q:Int) {m:Nat} (hm:m<=50):WA n T p q m (fQ n T p q m):=by
 have:=gb W;exact apart_ok kD (by simp) (by omega) (by omega)
variable {p q:Int} {m:Nat} {ws:List (Wlk (Nd Int) (Nm Int Int))} (A:WA n T p q m ws)
include A
theorem lF:(ws.flatMap (·.2)).length<=36:=by
 have h1:=gX A.ok;have h2:(ws.flatMap am).Nodup:=cz (by rw [h1];exact A.nd);have h3:=zm h2 (l₂:=through (pts n) (aN T)) (by
  intro s hs;obtain ⟨w,hw,uE⟩:=zX.1 hs;exact ((A.ok w hw).step s uE).1)
 rw [<-h1,uk];have:=gb W;omega
theorem wlen_le:∀ w∈ws,w.2.length<=36/\w.1.length=w.2.length+1:=by
 intro w hw;refine ⟨?_,(A.ok w hw).len⟩;have h:=lF W A;obtain ⟨l,r,rfl⟩:=List.append_of_mem hw;simp only [List.flatMap_append,List.flatMap_cons,zy] at h;omega
theorem wfree_len:(aG (through (pts n) (aN T)) (ws.flatMap am)).length<=80:=by
 have h1:=lF W A;have h2:(ws.flatMap am).length=(ws.flatMap (·.2)).length:=fO (fun w hw=>(A.ok w hw).len);have h3:=gb W;unfold aG;have:=mG (L:=through (pts n) (aN T)) (ns:=(ws.flatMap am).map cr);simp only [zy,uk];omega
end
theorem qE (ps:List Int):fg c [aU ps]=some [(("points" : Str),aU ps)]:=by
 refine qb fun p=>?_;have f1:=lC ps;simp only [List.all_map] at f1;simp [ky,ip,aU] at f1 ⊢
theorem run_rn {k:Nat} {F:FS} {ds:List D} {δ:DSt} {d:D} (h0:ds.map (fun d=>some (E.sh d))++List.replicate (k-ds.length) none=δ) (h:F δ=some (.rn d)):Ew.runN k F ds=some d:=by
 unfold Ew.runN;rw [h0,h]
theorem ways_eq (hc:CNe c) {n:Int} {T:List Tie} (W:da n T) {p q:Int} (h:b7 n p q=true) (ht:cw p q∉T) (m:Nat) (h1:1<=m) (hm:m<=8) :
  lw c [bG c n T,.int p,.int q,.int m]=some (if (fQ n T p q m).length=m then cW c ((fQ n T p q m).map fy) else cL c (wallL n T (fQ n T p q m) p)):=by
 have A:=pE W p q (m:=m) (by omega);have hl:=gb W;have wM:p≠q:=by unfold b7 at h;simp at h;exact h.2.2
 have d1:=gJ c hc (T:=T) h;have d2:=nW c (n:=n) ht;have d3:=mo c (many:=m) (most:=8) (by omega) (by omega);have d4:=lE c W;have d5:c8 c [.lst ((through (pts n) (aN T)).map ES.e),ENd.e (p,true),ENd.e (q,false),.int m]=some (.lst ((fQ n T p q m).map (ay ENd ENm))):=nK c ENd ENm (by decide) (by decide) (by simp) kD (by omega) m (by omega);have wB:=wlen_le W A;have d6:jq c [.lst ((through (pts n) (aN T)).map ES.e),.lst ((fQ n T p q m).map (ay ENd ENm)),ENd.e (p,true)]=some (.lst ((nX n T (fQ n T p q m) p).map ENd.e)):=tE c ENd ENm (by decide) (by decide) _ _ (p,true) (fun w hw=>(wB w hw).2) (by omega) (by
  rw [fO (fun w hw=>(wB w hw).2)];have:=lF W A;omega)
 have d7:=oA c (L:=through (pts n) (aN T)) (R:=nX n T (fQ n T p q m) p) (by omega);obtain ⟨r,hr⟩:=qh wM A.ok;have d8:∀ w∈fQ n T p q m,eR c [ay ENd ENm w]=some (eWk (fy w)):=fun w hw=>by
  have:=wB w hw;refine qD c (by omega) (by omega) fun x hx=>?_;obtain ⟨k,_,hy⟩:=hr.mem hw;rw [hy.ns,ng] at hx;simp at hx;rcases hx with ⟨a,b,e,_,rfl⟩ | rfl
  ·exact ⟨_,rfl⟩
  ·exact ⟨_,rfl⟩
 have hle:=A.le;have b2:(2:Nat)<=big:=by decide
 generalize fQ n T p q m=ws at *;have wm:∀ x5 x6:Option E,∀ G:FS,∀ x,G [sW c n T,si p,si q,si m,sd (.lst ((through (pts n) (aN T)).map ES.e)),sd (ENd.e (p,true)),sd (.lst (ws.map (ay ENd ENm)))]=x->
   aq (gA (ao 3 (bT c) (aa (ac 0) (aa (ac 1) (aa (ac 2) ai))))) (aq (gA (ao 3 (c9 c) (aa (ac 0) (aa (ac 1) (aa (ac 2) ai))))) (aq (gA (ao 2 (cP c) (aa (ac 3) (aa (ae (.int 8)) ai)))) (aq (sset 4 (ao 1 (de c) (aa (ac 0) ai))) (aq (sset 5 (bf (aa (ac 1) (aa (ae (.str "out")) ai)))) (aq (sset 6 (ao 4 (c8 c) (aa (ac 4) (aa (ac 5) (aa (bf (aa (ac 2) (aa (ae (.str "in")) ai))) (aa (ac 3) ai)))))) G))))) [sW c n T,si p,si q,si m,none,none,none]=x:=fun _ _ G x hx=>by
  refine seq1 (δ1:=[sW c n T,si p,si q,si m,none,none,none]) (by unfold gA;rw [cs3 rfl rfl rfl d1];rfl) ?_;refine seq1 (δ1:=[sW c n T,si p,si q,si m,none,none,none]) (by unfold gA;rw [cs3 rfl rfl rfl d2];rfl) ?_;refine seq1 (δ1:=[sW c n T,si p,si q,si m,none,none,none]) (by unfold gA;rw [cs2 rfl rfl d3];rfl) ?_;refine seq1 (cH (cs1 rfl d4) rfl rfl) (seq1 (cH (r:=.sh (ENd.e (p,true))) (by simp [b2];rfl) rfl rfl) (seq1 (cH (cs4 (e:=ENd.e (q,false)) rfl rfl (by simp [b2];rfl) rfl d5) rfl rfl) hx))
 refine run_rn rfl (wm none none _ _ ?_);by_cases vz:ws.length=m
 ·rw [if_pos vz];have w1:=qB c (ws.map fy) (by simp;omega);have c1:=cj (fi:=aH (ac 6)) (g:=ap 0) (t:=cN) (fe:=ao 1 (eR c) (aa (ac 0) ai)) (m:=1) (ix:=[]) (δ:=[sW c n T,si p,si q,si m,sd (.lst ((through (pts n) (aN T)).map ES.e)),sd (ENd.e (p,true)),sd (.lst (ws.map (ay ENd ENm)))]) rfl (by simp;omega) (cg _ _ _ _ (ay ENd ENm) (fun _=>true) (fun w=>eWk (fy w)) ws (fun w hw=>⟨_,rfl,rfl,fun _=>⟨.sh (eWk (fy w)),cs1 rfl (d8 w hw),rfl,rfl⟩⟩));rw [zL.2 (fun _ _=>rfl)] at c1;have t1:(al (af oEq (aD cc (aa (ac 6) ai)) (ac 3))) [sW c n T,si p,si q,si m,sd (.lst ((through (pts n) (aN T)).map ES.e)),sd (ENd.e (p,true)),sd (.lst (ws.map (ay ENd ENm)))]=some true:=by simp [vz]
  rw [dU,cq];erw [t1];show (mX _ _).bind _=_;rw [sretN_e,p7,aP];erw [c1];rw [zV] at w1;simp [Function.comp_def] at w1 ⊢;simp [w1,cW]
 ·rw [if_neg vz];have w1:=qE c (wallL n T ws p);refine skp (by simp;omega) ?_;rw [sretN_e,p7,aP];erw [cs2 (f1:=ac 4) rfl (cs3 (f1:=ac 4) (f2:=ac 6) (f3:=ac 5) rfl rfl rfl d6) d7];simp [cL] at w1 ⊢;erw [w1];simp
end Pg
end
section
namespace Pg
open PySem PySem.Spec L2 Ew Mx
abbrev sK (w:Wlk Int Int):Option E:=some (.sh (eWk w))
variable (c:CA)
theorem cut_in (ds:List D):cutD ds (some 1) (some (-1))=ds.tail.dropLast:=by
 unfold cutD HT.sIx;cases ds with
 | nil=>rfl
 | cons d ds=>
  have e1:(if (1:Int)<0 then ((1:Int)+((d::ds).length:Nat)).toNat else min (1:Int).toNat (d::ds).length)=1:=by simp
  have e2:(if (-1:Int)<0 then ((-1:Int)+((d::ds).length:Nat)).toNat else min (-1:Int).toNat (d::ds).length)=ds.length:=by simp;omega
  show List.take ((if (-1:Int)<0 then ((-1:Int)+((d::ds).length:Nat)).toNat else min (-1:Int).toNat (d::ds).length)-(if (1:Int)<0 then ((1:Int)+((d::ds).length:Nat)).toNat else min (1:Int).toNat (d::ds).length)) (List.drop (if (1:Int)<0 then ((1:Int)+((d::ds).length:Nat)).toNat else min (1:Int).toNat (d::ds).length) (d::ds))=_;rw [e1,e2,List.dropLast_eq_take];rfl
theorem sx {f:FE} {δ:DSt} {ps:List Int} {a:Int} (h:f δ=some (.sh (aU ps))) (h1:ps.head?=some a):af oIx f (ae (.int 0)) δ=some (.sh (.int a)):=by
 refine cC h rfl ?_;cases ps with
 | nil=>cases h1
 | cons p ps=>cases h1;simp [aU,dN]
theorem ix_last {f:FE} {δ:DSt} {ps:List Int} {b:Int} (h:f δ=some (.sh (aU ps))) (h1:ps.getLast?=some b):af oIx f (dun eO (ae (.int 1))) δ=some (.sh (.int b)):=by
 refine cC (b:=.sh (.int (-1))) h rfl ?_;simp [aU,qk,getLast?_map',h1]
theorem sy {f:FE} {δ:DSt} {ps:List Int} (h:f δ=some (.sh (aU ps))):cn f (b9 (ae (.int 1))) (b9 (dun eO (ae (.int 1)))) δ=some (.fr ((ps.tail.dropLast).map .int)):=by
 unfold cn b9;have e:dun eO (ae (.int 1)) δ=some (.sh (.int (-1))):=rfl;simp only [h,e,lf,ud,bH,aU,cut_in];rw [<-List.map_tail,List.map_dropLast]
theorem all_eq {f:DSt->Option (List R)} {δ:DSt} {bs:List Bool} (h:f δ=some [.fr (bs.map .bl)]):aD iK f δ=some (.sh (.bl (bs.all id))):=by
 rw [ku,h];show iK (.lst (bs.map .bl))=_;simp [iK,lA]
theorem kU {f:FE} {δ:DSt} {r:R} {ps:List Int} (h:f δ=some r) (hv:r.view=aU ps):aD cc (aa f ai) δ=some (.sh (.int ps.length)):=by
 rw [ku,aP,h];show cc r.view=_;rw [hv];simp [aU,cc]
theorem and_ff {fa fb:FE} {δ:DSt} (h1:fa δ=some (.sh (.bl false))):gN fa fb δ=some (.sh (.bl false)):=by rw [dand_e,h1];rfl
theorem qF {fa fb:FE} {δ:DSt} {a b:Bool} (h1:fa δ=some (.sh (.bl a))) (h2:fb δ=some (.sh (.bl b))):gN fa fb δ=some (.sh (.bl (a&&b))):=by
 cases a
 ·exact and_ff h1
 ·exact and_tt h1 h2
theorem oJ {n:Int} {T:List Tie} {w:Wlk Int Int} (h:w.1.length≠w.2.length+1):jp c [bG c n T,eWk w]=some (.bl false):=by
 refine bj (r:=.sh (.bl false)) rfl ?_ rfl;have e1:sset 2 (af oIx (ac 1) (ae (.int 0))) [sW c n T,sK w,none,none,none]=some (.nx [sW c n T,sK w,sI w.1,none,none]):=cH (iZ (f:=ac 1) rfl) rfl rfl;have e2:sset 3 (af oIx (ac 1) (ae (.int 1))) [sW c n T,sK w,sI w.1,none,none]=some (.nx [sW c n T,sK w,sI w.1,sI w.2,none]):=cH (eWk_1 (f:=ac 1) rfl) rfl rfl;have e3:sset 4 ((bW c.Web "ties" 1 (bv c) (ac 0) ai)) [sW c n T,sK w,sI w.1,sI w.2,none]=some (.nx [sW c n T,sK w,sI w.1,sI w.2,sd (.lst (T.map aA))]):=cH (fz c (f:=ac 0) rfl) rfl rfl;refine seq1 e1 (seq1 e2 (seq1 e3 ?_));have vj:¬((w.1.length:Int)=(w.2.length:Int)+1):=by omega
 exact stp (a9 (b:=true) (cC (a:=.sh (.int w.1.length)) (b:=.sh (.int (w.2.length+1))) (kU (r:=.sh (aU w.1)) rfl rfl) (cC (a:=.sh (.int w.2.length)) (b:=.sh (.int 1)) (kU (r:=.sh (aU w.2)) rfl rfl) rfl (by simp)) (by simp [vj])))
noncomputable def cQ (n:Int) (T:List Tie) (w:Wlk Int Int):Bool:=decide (w.1.length=w.2.length+1)&&(w.1.all (fM n)&&(w.2.all (fun p=>decide (0<=p)&&decide (p<T.length))&&w.2.zipIdx.all fun p=>decide (T.getD p.1.toNat (0,0)=cw (w.1.getD p.2 0) (w.1.getD (p.2+1) 0))))
theorem nY {fi:DSt->Option (List D)} {g:GD} {fe:FE} {m:Nat} {ix:List Nat} {δ:DSt} {α:Type} {e:α->D} {xs:List α} {b:α->Bool} (h1:fi δ=some (xs.map e)) (hl:xs.length<=1000)
  (h2:∀ x∈xs,∃ δ1,g (e x) (dIn m ix δ)=some δ1/\fe δ1=some (.sh (.bl (b x)))):aD iK (aa (bC fi g cN fe m ix) ai) δ=some (.sh (.bl (xs.all b))):=by
 have c1:=cj (fi:=fi) (g:=g) (t:=cN) (fe:=fe) (m:=m) (ix:=ix) (δ:=δ) h1 (by simpa using hl) (cg _ _ _ _ e (fun _=>true) (fun x=>D.bl (b x)) xs (fun x hx=>by
  obtain ⟨δ1,q1,q2⟩:=h2 x hx;exact ⟨δ1,q1,rfl,fun _=>⟨.sh (.bl (b x)),q2,rfl,rfl⟩⟩))
 rw [zL.2 (fun _ _=>rfl)] at c1;rw [all_eq (bs:=xs.map b) (by rw [aP,c1];simp [Function.comp_def])];simp [Function.comp_def]
theorem tF {n:Int} {T:List Tie} {w:Wlk Int Int} (l1:w.1.length<=1000) (l2:w.2.length<=1000):jp c [bG c n T,eWk w]=some (.bl (cQ n T w)):=by
 by_cases hl:w.1.length=w.2.length+1
 case neg=>rw [oJ c hl];simp [cQ,hl]
 have e1:sset 2 (af oIx (ac 1) (ae (.int 0))) [sW c n T,sK w,none,none,none]=some (.nx [sW c n T,sK w,sI w.1,none,none]):=cH (iZ (f:=ac 1) rfl) rfl rfl;have e2:sset 3 (af oIx (ac 1) (ae (.int 1))) [sW c n T,sK w,sI w.1,none,none]=some (.nx [sW c n T,sK w,sI w.1,sI w.2,none]):=cH (eWk_1 (f:=ac 1) rfl) rfl rfl;have e3:sset 4 ((bW c.Web "ties" 1 (bv c) (ac 0) ai)) [sW c n T,sK w,sI w.1,sI w.2,none]=some (.nx [sW c n T,sK w,sI w.1,sI w.2,sd (.lst (T.map aA))]):=cH (fz c (f:=ac 0) rfl) rfl rfl;generalize wm:[sW c n T,sK w,sI w.1,sI w.2,sd (.lst (T.map aA))]=δ at e3;have fz2:frz 2 δ=δ:=by rw [<-wm];rfl
 have fz3:frz 3 δ=δ:=by rw [<-wm];rfl
 have c1:=nY (fi:=aH (ac 2)) (g:=ap 0) (fe:=ao 2 (cO c) (aa (ac 1) (aa (ac 0) ai))) (m:=1) (ix:=[0]) (δ:=δ) (e:=D.int) (xs:=w.1) (b:=fM n) (by rw [<-wm];rfl) l1 (fun p _=>⟨_,rfl,by rw [<-wm];exact cs2 rfl rfl (ig c n p T)⟩);have c2:=nY (fi:=aH (ac 3)) (g:=ap 0) (fe:=dQ oLe oLt (ae (.int 0)) (ac 0) (aD cc (aa (ac 1) ai))) (m:=1) (ix:=[4]) (δ:=δ) (e:=D.int) (xs:=w.2) (b:=fun p=>decide (0<=p)&&decide (p<T.length)) (by rw [<-wm];rfl) l2 (fun p _=>⟨_,rfl,by
  rw [<-wm];by_cases h0:0<=p <;> simp [dIn,h0]⟩)
 have tl:∀ G:FS,aq (sif (al (af oNe (aD cc (aa (ac 2) ai)) (af aV (aD cc (aa (ac 3) ai)) (ae (.int 1))))) (aL (ae (.bl false))) aE) G δ=G δ:=fun G=>skp (by rw [<-wm];exact a9 (b:=false) (cC (a:=.sh (.int w.1.length)) (b:=.sh (.int (w.2.length+1))) (kU (r:=.sh (aU w.1)) rfl rfl) (cC (a:=.sh (.int w.2.length)) (b:=.sh (.int 1)) (kU (r:=.sh (aU w.2)) rfl rfl) rfl (by simp)) (by simp [hl]))) rfl;refine bj (r:=.sh (.bl _)) rfl (seq1 e1 (seq1 e2 (seq1 e3 ((tl _).trans ?_)))) rfl;unfold cQ;rw [Av hl,Bool.true_and];by_cases b1:w.1.all (fM n)=true
 case neg=>
  have b1':w.1.all (fM n)=false:=by simpa using b1
  rw [b1'] at c1 ⊢;rw [dU,dW,fz2,cq,jg,dw,c1];rfl
 rw [b1] at c1 ⊢;rw [Bool.true_and];refine seq1 (δ1:=δ) (by rw [dW,fz2,cq,jg,dw,c1];rfl) ?_;by_cases b2:w.2.all (fun p=>decide (0<=p)&&decide (p<T.length))=true
 case neg=>
  have b2':w.2.all (fun p=>decide (0<=p)&&decide (p<T.length))=false:=by simpa using b2
  rw [b2'] at c2 ⊢;rw [dU,dW,fz3,cq,jg,dw,c2];rfl
 rw [b2] at c2 ⊢;rw [Bool.true_and];refine seq1 (δ1:=δ) (by rw [dW,fz3,cq,jg,dw,c2];rfl) ?_;rw [dW,fz3];refine iD (nY (e:=fun p:Int×Nat=>D.tup [.int (p.2:Int),.int p.1]) ?_ (by simpa using l2) (fun p hp=>?_)) rfl
 ·rw [<-wm];unfold mU;simp only [aP,eX,dS,uj,ug,ud,gU,bH,Bool.false_eq_true,if_false,uk,aU];congr 1;refine List.ext_getElem? fun i=>?_;rw [List.getElem?_zipWith,zc,zc,List.getElem?_zipIdx];by_cases hi:i<w.2.length
  ·rw [List.getElem?_range hi,yW hi];simp
  ·rw [List.getElem?_eq_none (show (List.range w.2.length).length<=i by simp;omega),List.getElem?_eq_none (show w.2.length<=i by omega)];rfl
 ·obtain ⟨pl,k⟩:=p;have vO:=List.mem_zipIdx_iff_getElem?.1 hp;simp only at vO;have hk:=(yX.mp vO).1;have hpl:=Ag.1 b2 pl (List.mem_of_getElem? vO);simp only [um,decide_eq_true_eq] at hpl;refine ⟨_,rfl,?_⟩;have xb:pl.toNat<T.length:=by omega
  have g1:atI (T.map aA) pl=some (aA (T.getD pl.toNat (0,0))):=by
   rw [kP hpl.1,zc,yW xb];simp [List.getD,xb]
  have hk1:k<w.1.length:=by omega
  have vt:k+1<w.1.length:=by omega
  have g2:atI (w.1.map D.int) (k:Int)=some (.int (w.1.getD k 0)):=by rw [jT,zc,yW hk1];simp [List.getD,hk1]
  have g3:atI (w.1.map D.int) ((k:Int)+1)=some (.int (w.1.getD (k+1) 0)):=by
   rw [show (k:Int)+1=((k+1:Nat):Int) by omega,jT,zc,yW vt];simp [List.getD,vt]
  rw [<-wm];refine cC (a:=.sh (aA (T.getD pl.toNat (0,0)))) (b:=.sh (aA (cw (w.1.getD k 0) (w.1.getD (k+1) 0)))) ?_ ?_ (oEq_tie _ _)
  ·exact cC (a:=.sh (.lst (T.map aA))) (b:=.sh (.int pl)) rfl rfl (by simp only [bH,lJ,g1];rfl)
  ·refine cs2 ?_ ?_ (iX c _ _)
   ·exact cC (a:=.sh (aU w.1)) (b:=.sh (.int k)) rfl rfl (by simp only [bH,aU,lJ,g2];rfl)
   ·exact cC (a:=.sh (aU w.1)) (b:=.sh (.int ((k:Int)+1))) rfl rfl (by simp only [bH,aU,lJ,g3];rfl)
theorem tH {n:Int} {T:List Tie} (W:da n T) {w:Wlk Int Int} (h:lB n T w):cQ n T w=true:=by
 have hl:=h.len;unfold cQ;simp only [um,decide_eq_true_eq,Ag];refine ⟨hl,fun p hp=>?_,fun p hp=>?_,fun p hp=>?_⟩
 ·have:=h.pt p hp;unfold fM;simp [this]
 ·obtain ⟨k,hk,rfl⟩:=List.mem_iff_getElem.1 hp;have:=h.tie W hk;exact ⟨this.1,this.2.1⟩
 ·obtain ⟨pl,k⟩:=p;have vO:=List.mem_zipIdx_iff_getElem?.1 hp;simp only at vO;obtain ⟨hk,hkv⟩:=yX.mp vO;have ht:=h.tie W hk;rw [hkv] at ht;have g1:k<w.1.length:=by omega
  have g2:k+1<w.1.length:=by omega
  simp [List.getD,ht.2.2,g1,g2]
theorem walkB_len {n:Int} {T:List Tie} {w:Wlk Int Int} (h:cQ n T w=true):w.1.length=w.2.length+1:=by
 unfold cQ at h;simp only [um,decide_eq_true_eq] at h;exact h.1
theorem ends_of {w:Wlk Int Int} (h:w.1.length=w.2.length+1):∃ a b,w.1.head?=some a/\w.1.getLast?=some b:=by
 cases e:w.1 with
 | nil=>rw [e] at h;simp at h
 | cons p ps=>exact ⟨p,_,rfl,List.getLast?_eq_some_getLast (by simp)⟩
theorem tJ {n:Int} {T:List Tie} {w:Wlk Int Int} (l1:w.1.length<=1000) (l2:w.2.length<=1000):ny c [bG c n T,eWk w]=some (.bl (cQ n T w&&decide w.1.Nodup)):=
 bj (r:=.sh (.bl _)) rfl (iD (qF (cs2 rfl rfl (tF c l1 l2)) (cs1 (iZ rfl) (jH c w.1 l1))) rfl) rfl
noncomputable def mq (n:Int) (T:List Tie) (p q:Int) (w:Wlk Int Int):Bool:=(cQ n T w&&decide w.1.Nodup)&&(decide (w.1.headD 0=p)&&decide (w.1.getLastD 0=q))
theorem qG {n:Int} {T:List Tie} {p q:Int} (h2:b7 n p q=true) {ws:List (Wlk Int Int)} (hs:ws.length<=100) (hl:∀ w∈ws,w.1.length<=1000/\w.2.length<=1000) :
  jW c [bG c n T,.lst (ws.map eWk),.int p,.int q,.int ws.length]=some (.bl (ws.all (mq n T p q))):=by
 have a1:=ii c n p q T;rw [h2] at a1;refine bj (δ:=[sW c n T,sd (.lst (ws.map eWk)),si p,si q,si ws.length]) (r:=.sh (.bl _)) rfl (skp ?_ (iD (nY (e:=eWk) (b:=mq n T p q) rfl (by omega) (fun w hw=>⟨_,rfl,?_⟩)) rfl)) rfl
 ·exact iw (fP (a9 (cs3 rfl rfl rfl a1))) (by simp)
 ·have h:=tJ c (n:=n) (T:=T) (hl w hw).1 (hl w hw).2;unfold mq;cases e:cQ n T w&&decide w.1.Nodup with
  | false=>
   rw [e] at h;exact and_ff (cs2 rfl rfl h)
  | true=>
   rw [e] at h;obtain ⟨a,b,ha,hb⟩:=ends_of (walkB_len (by simp at e;exact e.1));rw [List.headD_eq_head?_getD,List.getLastD_eq_getLast?,ha,hb];exact qF (cs2 rfl rfl h) (qF (bs (sx (iZ (f:=ac 0) rfl) ha) rfl (by simp)) (bs (ix_last (iZ (f:=ac 0) rfl) hb) rfl (by simp)))
noncomputable def bodyI:FS:=sext 5 (cn (af oIx (ac 6) (ae (.int 0))) (b9 (ae (.int 1))) (b9 (dun eO (ae (.int 1)))))
def inn (w:Wlk Int Int):List Int:=w.1.tail.dropLast
theorem nZ {e0 e1 e2 e3 e4:Option E}:∀ (ws:List (Wlk Int Int)) (acc:List Int) (x:Option E),acc.length+(ws.flatMap inn).length<=1000->
  ∃ y,aW (ap 6) bodyI (ws.map eWk) [e0,e1,e2,e3,e4,some (.ow (acc.map .int)),x]=some (.nx [e0,e1,e2,e3,e4,some (.ow ((acc++ws.flatMap inn).map .int)),y])
 | [],acc,x,_=>⟨x,by simp [aW]⟩
 | w::ws,acc,x,hl=>by
  simp only [List.flatMap_cons,zy] at hl;obtain ⟨y,ih⟩:=nZ (e0:=e0) (e1:=e1) (e2:=e2) (e3:=e3) (e4:=e4) ws (acc++inn w) (sK w) (by simp only [zy];omega);refine ⟨y,?_⟩;have hb:bodyI [e0,e1,e2,e3,e4,some (.ow (acc.map .int)),sK w]=some (.nx [e0,e1,e2,e3,e4,some (.ow ((acc++inn w).map .int)),sK w]):=by
   unfold bodyI sext;show (cn _ _ _ _).bind _=_;rw [sy (iZ (f:=ac 6) (w:=w) rfl)];show (if (acc.map D.int).length+((inn w).map D.int).length<=big then _ else _)=_;rw [if_pos (by rw [bJ];simp only [uk];omega)];simp [inn]
  rw [zb];unfold aW;show (bodyI [e0,e1,e2,e3,e4,some (.ow (acc.map .int)),sK w]).bind _=_;rw [hb];simp only [ud,ci];rw [ih];simp
theorem fR {n:Int} {T:List Tie} {p q:Int} (h2:b7 n p q=true) (ht:cw p q∉T) {ws:List (Wlk Int Int)} (hs:ws.length<=100) (hl:∀ w∈ws,w.1.length<=1000/\w.2.length<=1000) (hi:(ws.flatMap inn).length<=1000) :
  bY c [cW c ws,bG c n T,.int p,.int q,.int ws.length]=some (.bl (ws.all (mq n T p q)&&decide (ws.flatMap inn).Nodup)):=by
 have a1:=qG c (T:=T) h2 hs hl;have a2:=j7 c n T p q;rw [Aw ht] at a2;have a3:=jH c (ws.flatMap inn) hi;have t:=or_bb (fP (a9 (cs5 (f1:=ac 1) (f3:=ac 2) (f4:=ac 3) (f5:=ac 4) (δ:=[sd (cW c ws),sW c n T,si p,si q,si ws.length,none,none]) rfl (fldW c (f:=ac 0) rfl) rfl rfl rfl a1))) (a9 (cs3 (f1:=ac 1) (f2:=ac 2) (f3:=ac 3) rfl rfl rfl a2));refine bj (r:=.sh (.bl _)) rfl ?_ rfl;cases e:ws.all (mq n T p q) with
 | false=>
  rw [e] at t;exact stp t
 | true=>
  rw [e] at t;obtain ⟨y,lp⟩:=nZ (e0:=some (.sh (cW c ws))) (e1:=sW c n T) (e2:=si p) (e3:=si q) (e4:=si ws.length) ws [] none (by simpa using hi);refine skp t (seq1 (δ1:=[sd (cW c ws),sW c n T,si p,si q,si ws.length,some (.ow []),none]) (by simp) (seq1 (δ1:=[sd (cW c ws),sW c n T,si p,si q,si ws.length,some (.ow ((ws.flatMap inn).map .int)),y]) ?_ (iD (call1 (r1:=.bw ((ws.flatMap inn).map .int)) rfl a3 (.inr rfl)) rfl)));unfold bg;rw [cf,fldW c (f:=ac 0) rfl];exact lp
theorem pF {P N:Type} [DecidableEq P] [DecidableEq N] {L:aI P N} (U:ll L):∀ {ss:aI P N} {a b:P},Chn a ss b->(a::ss.map (·.2.1)).Nodup->(∀ t∈ss,t∈L)->(ss.map (·.2.2)).Nodup
 | [],_,_,_,_,_=>by simp
 | s::ss,a,b,⟨h1,h2⟩,nd,hL=>by
  simp only [zb] at nd ⊢;rw [List.nodup_cons] at nd;rw [List.nodup_cons];refine ⟨fun hm=>?_,pF U h2 nd.2 fun t ht=>hL t (by simp [ht])⟩;obtain ⟨t,ht,e⟩:=zH.1 hm;have htl:t.2.1∈ss.map (·.2.1):=List.mem_map_of_mem ht;rcases U s (hL s (by simp)) t (hL t (by simp [ht])) e.symm with z | z
  ·rw [z] at htl;exact (List.nodup_cons.1 nd.2).1 htl
  ·rw [z] at htl;apply nd.1;rw [<-h1];exact uf _ htl
structure Wn (n p q:Int) (w:Wlk Int Int):Prop where
 len:w.1.length=w.2.length+1
 pt:∀ x∈w.1,0<=x/\x<n
 pl:∀ x∈w.2,0<=x
 nd1:w.1.Nodup
 nd2:w.2.Nodup
 hd:w.1.head?=some p
 lt:w.1.getLast?=some q
 sm:w.2.length<=28
section
variable {n:Int} {T:List Tie} (W:da n T) {p q:Int} {w:Wlk (Nd Int) (Nm Int Int)} {ss:aI Int Int} {s:Int×Int×Int} (h:Wy (aN T) p q w ss s)
include h
theorem wayF_eq:fy w=(p::(ss++[s]).map (·.2.1),(ss++[s]).map (·.2.2)):=by
 unfold fy;rw [h.ps,h.ns,ng];simp only [List.take_succ_cons,List.take_zero,List.tail_cons,sS];simp [nmN,h.last,Function.comp_def]
theorem wayF_inn:inn (fy w)=ss.map (·.2.1):=by
 rw [wayF_eq h];simp [inn]
include W
theorem wayF_walk (hp:0<=p/\p<n):lB n T (fy w)/\Wn n p q (fy w):=by
 have e:=wayF_eq h;have uh:=ph h.ch;have nd2:=pF (qA T) h.ch h.nd h.sub;have hl:(ss++[s]).length<=28:=by
  have h1:=zm (cz (f:=fun t:Int×Int×Int=>t.2.2) nd2) (l₂:=aN T) h.sub;have:=iY T;have:=W.2.2.1;omega
 have hlen:(fy w).1.length=(fy w).2.length+1:=by rw [e];simp
 have xb:∀ x∈(fy w).1,0<=x/\x<n:=by
  rw [e];intro x hx;rcases zj.1 hx with rfl | hx
  ·exact hp
  ·obtain ⟨t,ht,rfl⟩:=zH.1 hx;exact (nP W t (h.sub t ht)).2.2
 have uF:(fy w).2.length<=28:=by rw [e];simpa using hl
 refine ⟨⟨hlen,xb,fun t ht=>?_,by omega⟩,⟨hlen,xb,fun x hx=>?_,by rw [e];exact h.nd,by rw [e];exact nd2,by rw [e];rfl,?_,uF⟩⟩
 ·rw [e] at ht;rw [uh] at ht;exact h.sub t ht
 ·rw [e] at hx;obtain ⟨t,ht,rfl⟩:=zH.1 hx;obtain ⟨i,_,_,hi,_⟩:=cx.1 (h.sub t ht);omega
 ·rw [e];simp only [zT,zb,List.map_nil,h.last];rw [<-List.cons_append,List.getLast?_append];rfl
end
structure WsOk (n:Int) (T:List Tie) (p q:Int) (vs:List (Wlk Int Int)):Prop where
 ok:∀ v∈vs,lB n T v/\Wn n p q v
 inn:(vs.flatMap inn).Nodup
 sm:vs.length<=8
 il:(vs.flatMap Pg.inn).length<=1000
theorem ws_ok {n:Int} {T:List Tie} (W:da n T) {p q:Int} (h2:b7 n p q=true) {m:Nat} (hm:m<=8) {ws:List (Wlk (Nd Int) (Nm Int Int))} (A:WA n T p q m ws):WsOk n T p q (ws.map fy):=by
 have h3:=h2;unfold b7 fM at h3;simp at h3;obtain ⟨r,hr⟩:=qh h3.2.2 A.ok;have tU:=hr.inner A.nd;have e:(ws.map fy).flatMap inn=(r.flatMap (·.1)).map (·.2.1):=by
  clear tU A
  induction hr with
  | nil=>rfl
  | @cons w ws ss s r hw _ ih=>
   simp only [zb,List.flatMap_cons,zT];rw [wayF_inn hw,ih]
 have ok:∀ v∈ws.map fy,lB n T v/\Wn n p q v:=fun v hv=>by
  obtain ⟨w,hw,rfl⟩:=zH.1 hv;obtain ⟨k,_,hy⟩:=hr.mem hw;exact wayF_walk W hy h3.1
 refine ⟨ok,by rw [e];exact tU,by have:=A.le;simp;omega,?_⟩;have h4:=zm (l₂:=pts n) (by rw [<-e] at tU;exact tU) (fun x hx=>by
  obtain ⟨v,hv,hx⟩:=zX.1 hx;exact jt.2 ((ok v hv).1.pt x (Aq (List.dropLast_subset _ hx))))
 rw [kO] at h4;have:=W.2.1;omega
section
variable {n:Int} {T:List Tie} (W:da n T) {p q:Int} {vs:List (Wlk Int Int)} (V:WsOk n T p q vs)
include W V
theorem WsOk.true:vs.all (mq n T p q)=true:=by
 rw [Ag];intro v hv;obtain ⟨h1,h2⟩:=V.ok v hv;unfold mq;rw [tH W h1,List.headD_eq_head?_getD,List.getLastD_eq_getLast?,h2.hd,h2.lt];simp [h2.nd1]
theorem WsOk.any (S:List Tie):vs.all (mq n S p q)=vs.all (cQ n S):=by
 rw [Bool.eq_iff_iff,Ag,Ag];refine ⟨fun h v hv=>?_,fun h v hv=>?_⟩
 ·have:=h v hv;unfold mq at this;simp at this;exact this.1.1
 ·obtain ⟨h1,h2⟩:=V.ok v hv;unfold mq;rw [h v hv,List.headD_eq_head?_getD,List.getLastD_eq_getLast?,h2.hd,h2.lt];simp [h2.nd1]
end
theorem walkB_of {n p q:Int} {T:List Tie} {w:Wlk Int Int} (h:Wn n p q w):cQ n T w=(w.2.all (fun x=>decide (x<T.length))&&(List.range w.2.length).all fun k=>decide (T.getD (w.2.getD k 0).toNat (0,0)=cw (w.1.getD k 0) (w.1.getD (k+1) 0))):=by
 rw [Bool.eq_iff_iff];unfold cQ;simp only [um,decide_eq_true_eq,Ag,List.mem_range];refine ⟨fun ⟨_,_,h3,h4⟩=>⟨fun x hx=>(h3 x hx).2,fun k hk=>?_⟩,fun ⟨h3,h4⟩=>⟨h.len,fun x hx=>by have:=h.pt x hx;simp [fM,this],fun x hx=>⟨h.pl x hx,h3 x hx⟩,fun y hy=>?_⟩⟩
 ·have:=h4 (w.2[k],k) (List.mem_zipIdx_iff_getElem?.2 (yW hk));simpa [List.getD,hk] using this
 ·obtain ⟨v,k⟩:=y;have e:=List.mem_zipIdx_iff_getElem?.1 hy;simp only at e;obtain ⟨hk,hv⟩:=yX.mp e;have:=h4 k hk;simpa [List.getD,hk,hv] using this
noncomputable def n4:FS:=sif (al (af oNe (af oIx (af oIx (ac 0) (ae (.int 1))) (af oIx (ac 3) (ac 5))) (bf (aa (a0 dg (aa (af oIx (ac 2) (ac 5)) (aa (af oIx (ac 2) (af aV (ac 5) (ae (.int 1)))) ai))) (aa (a0 eN (aa (af oIx (ac 2) (ac 5)) (aa (af oIx (ac 2) (af aV (ac 5) (ae (.int 1)))) ai))) ai))))) (aL (ae (.bl false))) aE
theorem pG {n p q:Int} {T:List Tie} {w:Wlk Int Int} (h:Wn n p q w) (hT:∀ x∈w.2,x<(T.length:Int)) {y4:Option E}:∀ (ks:List Nat) (x:Option E),(∀ k∈ks,k<w.2.length)->
  ∃ y,aW (ap 5) n4 (ks.map fun k=>D.int (0+((k:Nat):Int))) [sT n T,sK w,sI w.1,sI w.2,y4,x]=if (ks.all fun k=>decide (T.getD (w.2.getD k 0).toNat (0,0)=cw (w.1.getD k 0) (w.1.getD (k+1) 0)))=true then some (.nx [sT n T,sK w,sI w.1,sI w.2,y4,y]) else some (.rt (.sh (.bl false)))
 | [],x,_=>⟨x,rfl⟩
 | k::ks,x,hks=>by
  obtain ⟨y,hy⟩:=pG h hT (y4:=y4) ks (si (0+(k:Int))) (fun j hj=>hks j (by simp [hj]));refine ⟨y,?_⟩;have hl:=h.len;have hk:=hks k (by simp);have hm:w.2[k]∈w.2:=List.getElem_mem hk;have hp0:=h.pl _ hm;have hpT:=hT _ hm;have ht:(w.2[k]).toNat<T.length:=by omega
  have g1:atI (T.map aA) w.2[k]=some (aA (T.getD (w.2[k]).toNat (0,0))):=by
   rw [kP hp0,zc,yW ht];simp [List.getD,ht]
  have g0:atI (w.2.map D.int) (k:Int)=some (.int w.2[k]):=by rw [jT,zc,yW hk];rfl
  have k1:k<w.1.length:=by omega
  have k2:k+1<w.1.length:=by omega
  have g2:atI (w.1.map D.int) (k:Int)=some (.int (w.1.getD k 0)):=by rw [jT,zc,yW k1];simp [List.getD,k1]
  have g3:atI (w.1.map D.int) ((k:Int)+1)=some (.int (w.1.getD (k+1) 0)):=by
   rw [show (k:Int)+1=((k+1:Nat):Int) by omega,jT,zc,yW k2];simp [List.getD,k2]
  have gd:w.2.getD k 0=w.2[k]:=by simp [List.getD,hk]
  have b2:(2:Nat)<=big:=by decide
  rw [zb,List.all_cons,gd];unfold aW;show (n4 [sT n T,sK w,sI w.1,sI w.2,y4,si (0+(k:Int))]).bind _=_;have e0:(0:Int)+(k:Int)=(k:Int):=by omega
  rw [e0] at hy ⊢;have hA:af oIx (af oIx (ac 0) (ae (.int 1))) (af oIx (ac 3) (ac 5)) [sT n T,sK w,sI w.1,sI w.2,y4,si k]=some (.sh (aA (T.getD (w.2[k]).toNat (0,0)))):=by
   simp only [lg,dS,lf,uj,ug,ud,bH,cD,oIx_t,lJ,dB,Option.map_some,aU,g0,g1]
  have hP:af oIx (ac 2) (ac 5) [sT n T,sK w,sI w.1,sI w.2,y4,si k]=some (.sh (.int (w.1.getD k 0))):=by
   simp only [lg,dS,uj,ug,ud,bH,lJ,Option.map_some,aU,g2]
  have hQ:af oIx (ac 2) (af aV (ac 5) (ae (.int 1))) [sT n T,sK w,sI w.1,sI w.2,y4,si k]=some (.sh (.int (w.1.getD (k+1) 0))):=by
   simp only [lg,dS,lf,uj,ug,ud,bH,oAdd_ii,lJ,Option.map_some,aU,g3]
  have hB:bf (aa (a0 dg (aa (af oIx (ac 2) (ac 5)) (aa (af oIx (ac 2) (af aV (ac 5) (ae (.int 1)))) ai))) (aa (a0 eN (aa (af oIx (ac 2) (ac 5)) (aa (af oIx (ac 2) (af aV (ac 5) (ae (.int 1)))) ai))) ai)) [sT n T,sK w,sI w.1,sI w.2,y4,si k]=some (.sh (aA (cw (w.1.getD k 0) (w.1.getD (k+1) 0)))):=by
   rw [dtup_e,aP,aP,mV,mV,aP,aP,hP,hQ];simp [b2,cw,<-jr,<-kN]
  have t:=a9 (bs hA hB (oNe_tie _ _));by_cases e:T.getD (w.2[k]).toNat (0,0)=cw (w.1.getD k 0) (w.1.getD (k+1) 0)
  ·have hb:n4 [sT n T,sK w,sI w.1,sI w.2,y4,si k]=some (.nx [sT n T,sK w,sI w.1,sI w.2,y4,si k]):=by
    unfold n4;rw [cq,t,Av e];rfl
   rw [hb];simp only [ud,ci];rw [hy,Av e,Bool.true_and]
  ·have hb:n4 [sT n T,sK w,sI w.1,sI w.2,y4,si k]=some (.rt (.sh (.bl false))):=by
    unfold n4;rw [cq,t,Aw e];rfl
   rw [hb,Aw e];rfl
theorem sfor_it {fi:DSt->Option (List D)} {g:GD} {B:FS} {δ:DSt} {l:List D} (h:fi δ=some l):bg fi g B δ=aW g B l δ:=by
 unfold bg;rw [h];rfl
theorem mr {n p q:Int} {T:List Tie} {w:Wlk Int Int} (h:Wn n p q w):gi c [cD n T,eWk w]=some (.bl (cQ n T w)):=by
 have hl:=h.len;have yq:=h.sm;have vj:w.1≠[]:=by intro e;rw [e] at hl;simp at hl
 obtain ⟨mx,hmx,hmn⟩:=best_lt vj (fun p hp=>(h.pt p hp).2);have hdd:(kn w.2).length=w.2.length:=(nO w.2).2 h.nd2;obtain ⟨y4,s4⟩:=pC (e0:=sT n T) (e1:=sK w) (e2:=sI w.1) (e3:=sI w.2) (e5:=none) (w.1++w.2) none (by
  intro p hp;rw [zB] at hp;rcases hp with hp | hp
  ·exact (h.pt p hp).1
  ·exact h.pl p hp)
 rw [walkB_of h];have c1:=nY (fi:=aH (ac 3)) (g:=ap 0) (fe:=af oLt (ac 0) (aD cc (aa (af oIx (ac 1) (ae (.int 1))) ai))) (m:=1) (ix:=[0]) (δ:=[sT n T,sK w,sI w.1,sI w.2,y4,none]) (e:=D.int) (xs:=w.2) (b:=fun x=>decide (x<T.length)) rfl (by omega) (fun x _=>⟨_,rfl,by simp [dIn,cD,dB]⟩);have t5:bP (al (af oGe (aD mT (aa (ac 2) ai)) (af oIx (ac 0) (ae (.int 0))))) (bb (al (aD iK (aa (bC (aH (ac 3)) (ap 0) cN (af oLt (ac 0) (aD cc (aa (af oIx (ac 1) (ae (.int 1))) ai))) 1 [0]) ai)))) [sT n T,sK w,sI w.1,sI w.2,y4,none]=some (!(w.2.all fun x=>decide (x<T.length))):=by
  refine iw ?_ (fP (a9 c1));have:¬n<=mx:=by omega
  simp [aU,mT,fA,hmx,cD,dN,this]
 refine bj (δ:=[sT n T,sK w,none,none,none,none]) (r:=.sh (.bl _)) rfl ?_ rfl;refine skp (by simp [aF,gv,dr,eWk,ay,cc,dN,dB]) (seq1 (δ1:=[sT n T,sK w,sI w.1,sI w.2,none,none]) rfl (skp ?_ (seq1 (δ1:=[sT n T,sK w,sI w.1,sI w.2,y4,none]) ?_ ?_)))
 ·have hs:w.2.length<=1000:=by omega
  simp [aU,hl,eD,fA,hdd,hs]
 ·have ha:=eM (w.1.map D.int) (w.2.map D.int) (by simp;omega);unfold bg;rw [cf,bs (fa:=ac 2) (fb:=ac 3) rfl rfl ha];rw [zT] at s4;exact s4
 ·cases e:w.2.all fun x=>decide (x<T.length) with
  | false=>
   rw [e] at t5;exact stp t5
  | true=>
   rw [e] at t5;rw [Bool.true_and];obtain ⟨y5,s6⟩:=pG h (T:=T) (fun x hx=>by simpa using Ag.1 e x hx) (y4:=y4) (List.range w.2.length) none (fun k hk=>by simpa using hk);have hr:=rngE (f:=aD cc (aa (ac 3) ai)) (δ:=[sT n T,sK w,sI w.1,sI w.2,y4,none]) (j:=w.2.length) (by simp [aU]) (by omega) (by omega);refine skp t5 ?_;rw [Int.toNat_natCast] at hr;have s7:=s6;rw [<-sfor_it hr] at s7;show aq (bg _ _ n4) _ _=_;rw [dU,s7];split
   ·next e2=>rw [e2];rfl
   ·next e2=>
    have:((List.range w.2.length).all fun k=>decide (T.getD (w.2.getD k 0).toNat (0,0)=cw (w.1.getD k 0) (w.1.getD (k+1) 0)))=false:=by simpa using e2
    rw [this];rfl
theorem n5 {n p q:Int} {T:List Tie} {w:Wlk Int Int} (h:Wn n p q w):fw c [cD n T,eWk w]=some (.bl (cQ n T w)):=by
 have h1:=mr c (T:=T) h;have hl:w.1.length<=1000:=by have:=h.len;have:=h.sm;omega
 have:=bj (k:=2) (F:=kJ c) (ds:=[cD n T,eWk w]) (r:=.sh (.bl (cQ n T w&&true))) rfl (iD (qF (cs2 rfl rfl h1) (bs (pD (r:=.sh (aU w.1)) (iZ (f:=ac 1) rfl) rfl hl h.nd1) (kU (iZ (f:=ac 1) rfl) rfl) (by simp))) rfl) rfl;rw [Bool.and_true] at this;exact this
noncomputable def bodyV:FS:=aq (sif ((bP (bb (al (ao 2 (fw c) (aa (ac 0) (aa (ac 6) ai))))) (bP (al (af oNe (af oIx (af oIx (ac 6) (ae (.int 0))) (ae (.int 0))) (ac 1))) (al (af oNe (af oIx (af oIx (ac 6) (ae (.int 0))) (dun eO (ae (.int 1)))) (ac 2)))))) (aL (ae (.bl false))) aE) (sset 5 (af aV (ac 5) (cn (af oIx (ac 6) (ae (.int 0))) (b9 (ae (.int 1))) (b9 (dun eO (ae (.int 1)))))))
theorem jJ {n p q:Int} {T:List Tie} {e3 e4:Option E}:∀ (vs:List (Wlk Int Int)) (acc:List Int) (x:Option E),(∀ v∈vs,Wn n p q v)->acc.length+(vs.flatMap inn).length<=1000->
  ∃ y,aW (ap 6) (bodyV c) (vs.map eWk) [sT n T,si p,si q,e3,e4,some (.ow (acc.map .int)),x]=if vs.all (cQ n T)=true then some (.nx [sT n T,si p,si q,e3,e4,some (.ow ((acc++vs.flatMap inn).map .int)),y]) else some (.rt (.sh (.bl false)))
 | [],acc,x,_,_=>⟨x,by simp [aW]⟩
 | v::vs,acc,x,h,hl=>by
  simp only [List.flatMap_cons,zy] at hl;have hv:=h v (by simp);obtain ⟨y,ih⟩:=jJ (T:=T) (e3:=e3) (e4:=e4) vs (acc++inn v) (sK v) (fun w hw=>h w (by simp [hw])) (by simp only [zy];omega);refine ⟨y,?_⟩;have t:=or_bb (fP (a9 (cs2 (f1:=ac 0) (f2:=ac 6) (δ:=[sT n T,si p,si q,e3,e4,some (.ow (acc.map .int)),sK v]) rfl rfl (n5 c (T:=T) hv)))) (or_bb (a9 (bs (fb:=ac 1) (o:=oNe) (sx (iZ (f:=ac 6) rfl) hv.hd) rfl (p6 p p))) (a9 (bs (fb:=ac 2) (o:=oNe) (ix_last (iZ (f:=ac 6) rfl) hv.lt) rfl (p6 q q))));rw [zb,List.all_cons];unfold aW;show (bodyV c [sT n T,si p,si q,e3,e4,some (.ow (acc.map .int)),sK v]).bind _=_;cases e:cQ n T v with
  | false=>
   rw [e] at t;have hb:bodyV c [sT n T,si p,si q,e3,e4,some (.ow (acc.map .int)),sK v]=some (.rt (.sh (.bl false))):=stp (t.trans (by simp));rw [hb];rfl
  | true=>
   rw [e] at t;have hb:bodyV c [sT n T,si p,si q,e3,e4,some (.ow (acc.map .int)),sK v]=some (.nx [sT n T,si p,si q,e3,e4,some (.ow ((acc++inn v).map .int)),sK v]):=by
    refine skp (t.trans (by simp)) (cH (r:=.fr ((acc++inn v).map .int)) (cC (a:=.bw (acc.map .int)) rfl (sy (iZ (f:=ac 6) rfl)) ?_) rfl rfl);refine (eM _ _ (by simp only [uk];show acc.length+(inn v).length<=1000;omega)).trans ?_;rw [<-zT];rfl
   rw [hb];simp only [ud,ci,Bool.true_and,List.flatMap_cons,<-List.append_assoc];exact ih
theorem kW {n p q:Int} {T:List Tie} {vs:List (Wlk Int Int)} (h:∀ v∈vs,Wn n p q v) (nd:(vs.flatMap inn).Nodup) (hl:(vs.flatMap inn).length<=1000):ej c [cD n T,.int p,.int q,.int vs.length,.lst (vs.map eWk)]=some (.bl (vs.all (cQ n T))):=by
 obtain ⟨y,lp⟩:=jJ c (T:=T) (e3:=si vs.length) (e4:=some (.sh (.lst (vs.map eWk)))) vs [] none h (by simpa using hl);refine bj (δ:=[sT n T,si p,si q,si vs.length,sd (.lst (vs.map eWk)),none,none]) (r:=.sh (.bl _)) rfl (skp (by simp [aF,dr]) (seq1 (δ1:=[sT n T,si p,si q,si vs.length,sd (.lst (vs.map eWk)),some (.ow []),none]) (by simp) ?_)) rfl;have s7:=lp;rw [List.map_nil,<-sfor_it (fi:=aH (ac 4)) rfl] at s7;show aq (bg _ _ (bodyV c)) _ _=_;rw [dU,s7];split
 ·next e=>
  rw [e];show aL _ _=_;exact iD (bs (pD (r:=.bw ((vs.flatMap inn).map .int)) rfl rfl hl nd) (kU (r:=.bw ((vs.flatMap inn).map .int)) rfl rfl) (by simp)) rfl
 ·next e=>
  have:vs.all (cQ n T)=false:=by simpa using e
  rw [this];rfl
theorem iz:∀ (T:List Tie) (k:Nat),(∀ t∈T,t.1<t.2)->((T.zipIdx k).flatMap fun p=>[(p.1.1,p.1.2,(p.2:Int)),(p.1.2,p.1.1,(p.2:Int))]).Nodup/\∀ s∈(T.zipIdx k).flatMap fun p=>[(p.1.1,p.1.2,(p.2:Int)),(p.1.2,p.1.1,(p.2:Int))],(k:Int)<=s.2.2
 | [],k,_=>by simp
 | t::T,k,h=>by
  obtain ⟨h1,h2⟩:=iz T (k+1) fun u hu=>h u (by simp [hu]);have ht:=h t (by simp);rw [List.zipIdx_cons,List.flatMap_cons];refine ⟨?_,fun s hs=>?_⟩
  ·rw [List.nodup_append];refine ⟨by simp;omega,h1,fun a ha b hb e=>?_⟩;subst e;have:=h2 a hb;simp at ha;rcases ha with rfl | rfl <;> simp at this <;> omega
  ·rcases zB.1 hs with hs | hs
   ·simp at hs;rcases hs with rfl | rfl <;> simp
   ·have:=h2 s hs;omega
theorem oM {n:Int} {T:List Tie} (W:da n T):(aN T).Nodup:=(iz T 0 fun t ht=>(W.2.2.2 t ht).2.1).1
structure WlOk (n:Int) (T:List Tie) (p q:Int) (m:Nat) (ps:List Int):Prop where
 set:isSet n ps=true
 lt:ps.Pairwise (·<·)
 pt:∀ x∈ps,0<=x/\x<n
 np:p∉ps
 nq:q∉ps
 len:ps.length<m
 cut:∃ Q:Int->Prop,Q p/\¬Q q/\∀ t∈T,t.1∉ps->t.2∉ps->(Q t.1↔Q t.2)
theorem wl_ok {n:Int} {T:List Tie} (W:da n T) {p q:Int} (h2:b7 n p q=true) (ht:cw p q∉T) {m:Nat} {ws:List (Wlk (Nd Int) (Nm Int Int))} (A:WA n T p q m ws) (vk:ws.length<m):WlOk n T p q m (wallL n T ws p):=by
 have h3:=h2;unfold b7 fM at h3;simp at h3;have hf:=wfree_len W A;have R:=rB (L:=(aG (through (pts n) (aN T)) (ws.flatMap am)).map fun s=>(s.1,s.2.1)) (a:=(p,true)) (n:=100) (by simp only [uk];omega);have O:=wall_ok (pA n) (oM W) h3.2.2 (fun s hs=>by
  have:=nP W s hs;exact ⟨jt.2 ⟨this.1,this.2.1⟩,jt.2 this.2.2⟩) (fun s hs e1 e2=>by
  obtain ⟨i,t,hi,_,hk⟩:=cx.1 hs;have htm:=List.mem_of_getElem? hi;have hto:=W.2.2.2 t htm;apply ht;have:cw p q=t:=by
   unfold cw;rcases hk with ⟨a1,a2⟩ | ⟨a1,a2⟩
   ·rw [e1] at a1;rw [e2] at a2;refine Prod.ext ?_ ?_ <;> simp <;> omega
   ·rw [e1] at a1;rw [e2] at a2;refine Prod.ext ?_ ?_ <;> simp <;> omega
  rw [this];exact htm) A vk (R:=nX n T ws p) ⟨R.ha,fun s hs h1=>R.cl (s.1,s.2.1) (zH.2 ⟨s,hs,rfl⟩) h1⟩ (fun S hS x hx=>R.min (·∈S) hS.ha (fun s hs h1=>by
   obtain ⟨t,ht,rfl⟩:=zH.1 hs;exact hS.cl t ht h1) x hx)
 have mem:∀ x,x∈wallL n T ws p↔x∈gY (pts n) (aN T) (nX n T ws p):=fun x=>(kS _).mem_iff;have pt:∀ x∈gY (pts n) (aN T) (nX n T ws p),0<=x/\x<n:=fun x hx=>jt.1 (O.mem x hx).1;refine ⟨isSet_srt O.nd pt,srt_lt O.nd,fun x hx=>pt x ((mem x).1 hx),fun h=>(O.mem p ((mem p).1 h)).2.1 rfl,fun h=>(O.mem q ((mem q).1 h)).2.2 rfl,?_,?_⟩
 ·have:=(kS (gY (pts n) (aN T) (nX n T ws p))).length_eq;have:=O.len;unfold wallL;omega
 ·obtain ⟨Q,q1,q2,q3⟩:=O.cut;refine ⟨Q,q1,q2,fun t ht n1 n2=>?_⟩;obtain ⟨i,hi⟩:=List.getElem?_of_mem ht;have s1:(t.1,t.2,(i:Int))∈aN T:=cx.2 ⟨i,t,hi,rfl,.inl ⟨rfl,rfl⟩⟩;have s2:(t.2,t.1,(i:Int))∈aN T:=cx.2 ⟨i,t,hi,rfl,.inr ⟨rfl,rfl⟩⟩;rw [mem] at n1 n2;exact ⟨q3 _ s1 n1 n2,q3 _ s2 n2 n1⟩
theorem WlOk.tail {n:Int} {T:List Tie} {p q:Int} {m:Nat} {ps:List Int} (V:WlOk n T p q m ps):WlOk n T.tail p q m ps:=
 ⟨V.set,V.lt,V.pt,V.np,V.nq,V.len,by
  obtain ⟨Q,q1,q2,q3⟩:=V.cut;exact ⟨Q,q1,q2,fun t ht=>q3 t (Aq ht)⟩⟩
theorem qH (L:List Tie) (hl:L.length<=1000):iT c [.lst (L.map aA)]=some (.lst ((L.map fun t=>(t.2,t.1)).map aA)):=by
 have b2:(2:Nat)<=big:=by decide
 have c1:=cj (fi:=aH (ac 0)) (g:=ap 0) (t:=cN) (fe:=bf (aa (af oIx (ac 0) (ae (.int 1))) (aa (af oIx (ac 0) (ae (.int 0))) ai))) (m:=1) (ix:=[]) (δ:=[sd (.lst (L.map aA))]) rfl (by simpa using hl) (cg _ _ _ _ aA (fun _=>true) (fun t=>aA (t.2,t.1)) L (fun t _=>⟨_,rfl,rfl,fun _=>⟨.sh (aA (t.2,t.1)),by simp [dIn,dN,dB,b2],rfl,rfl⟩⟩));rw [zL.2 (fun _ _=>rfl)] at c1;rw [show (L.map fun t:Tie=>(t.2,t.1)).map aA=L.map (fun t=>aA (t.2,t.1)) from zV];exact bj (r:=.fr _) rfl (iD c1 rfl) rfl
def iA (T:List Tie) (ps:List Int):List Tie:=T.filter fun t=>decide (t.1∉ps)&&decide (t.2∉ps)
section
variable {n:Int} {T:List Tie} {p q:Int} {m:Nat} (h0:0<=n/\n<=8) (hT:T.length<=14) (h2:b7 n p q=true)
include h0 hT h2
theorem iB {ps:List Int} (V:WlOk n T p q m ps):bI c [cL c ps,bG c n T,.int p,.int q,.int m]=some (.bl true):=by
 have a1:=ii c n p q T;rw [h2] at a1;have a2:=iv c n T ps (by omega) (by omega);rw [V.set] at a2;have hk:(iA T ps).length<=14:=zN (zM _ _) hT;have a3:=qH c (iA T ps) (by omega);have a4:=nF c Enc.int (by decide) aA (fun t:Tie=>t) (fun t=>⟨[],rfl⟩) (iA T ps++(iA T ps).map fun t=>(t.2,t.1)) p (by simp;omega);have R:=rB (L:=(iA T ps++(iA T ps).map fun t=>(t.2,t.1)).map fun t:Tie=>t) (a:=p) (n:=100) (by simp;omega);have nq:q∉reach 100 ((iA T ps++(iA T ps).map fun t=>(t.2,t.1)).map fun t:Tie=>t) p:=fun hq=>by
  obtain ⟨Q,q1,q2,q3⟩:=V.cut;refine q2 (R.min Q q1 (fun s hs hs1=>?_) q hq);rw [List.map_id'] at hs;rcases zB.1 hs with hs | hs
  ·obtain ⟨z1,z2⟩:=Af.1 hs;simp at z2;exact (q3 s z1 z2.1 z2.2).1 hs1
  ·obtain ⟨t,ht,rfl⟩:=zH.1 hs;obtain ⟨z1,z2⟩:=Af.1 ht;simp at z2;exact (q3 t z1 z2.1 z2.2).2 hs1
 have c1:=cj (fi:=aH (bW c.Web "ties" 1 (bv c) (ac 1) ai)) (g:=ap 0) (t:=bQ (al (af oNotIn (af oIx (ac 0) (ae (.int 0))) (eU (isC c.Wall) "points" (ac 1)))) (al (af oNotIn (af oIx (ac 0) (ae (.int 1))) (eU (isC c.Wall) "points" (ac 1))))) (fe:=ac 0) (m:=1) (ix:=[0]) (δ:=[sd (cL c ps),sW c n T,si p,si q,si m,none]) (items:=T.map aA) (by rw [cf,fz c (f:=ac 1) rfl];rfl) (by simp;omega) (cg _ _ _ _ aA (fun t=>decide (t.1∉ps)&&decide (t.2∉ps)) aA T (fun t _=>⟨_,rfl,(j6 (a9 (bs (bs rfl rfl rfl) (fldP c (f:=ac 1) rfl) (Enc.int.oNotIn (by decide) t.1 ps))) (a9 (bs (bs rfl rfl rfl) (fldP c (f:=ac 1) rfl) (Enc.int.oNotIn (by decide) t.2 ps)))).trans (by simp),fun _=>⟨.sh (aA t),rfl,rfl,rfl⟩⟩));refine bj (δ:=[sd (cL c ps),sW c n T,si p,si q,si m,none]) (r:=.sh (.bl true)) rfl (skp ?_ (skp ?_ (seq1 (δ1:=[sd (cL c ps),sW c n T,si p,si q,si m,some (.ow ((iA T ps).map aA))]) (cH c1 rfl rfl) ?_))) rfl
 ·exact iw (fP (a9 (cs3 rfl rfl rfl a1))) (fP (a9 (cs2 rfl (fldP c (f:=ac 0) rfl) a2)))
 ·have hm:=V.len;exact iw (a9 (b:=false) (bs (kU (fldP c (f:=ac 0) rfl) rfl) rfl (by simp;omega))) (iw (a9 (b:=false) (bs rfl (fldP c (f:=ac 0) rfl) ((Enc.int.oIn (by decide) p ps).trans (by simp [V.np])))) (a9 (b:=false) (bs rfl (fldP c (f:=ac 0) rfl) ((Enc.int.oIn (by decide) q ps).trans (by simp [V.nq])))))
 ·rw [dW];show aL _ [sd (cL c ps),sW c n T,si p,si q,si m,sd (.lst ((iA T ps).map aA))]=_;have ha:=eM ((iA T ps).map aA) (((iA T ps).map fun t=>(t.2,t.1)).map aA) (by simp;omega);rw [<-zT] at ha;refine iD (bs rfl (kL (r1:=.sh (.int p)) (r2:=.fr _) rfl (bs rfl (cs1 rfl a3) ha) a4 (.inl ⟨rfl,rfl⟩)) ((Enc.int.oNotIn (by decide) q _).trans (by rw [List.map_id'] at nq ⊢;simp [nq]))) rfl
theorem n9 {ps:List Int}:bI c [cL c (ps++[p]),bG c n T,.int p,.int q,.int m]=some (.bl false):=by
 have a1:=ii c n p q T;rw [h2] at a1;have a2:=iv c n T (ps++[p]) (by omega) (by omega);have t1:=iw (fP (a9 (cs3 (f1:=ac 1) (f2:=ac 2) (f3:=ac 3) (δ:=[sd (cL c (ps++[p])),sW c n T,si p,si q,si m,none]) rfl rfl rfl a1))) (fP (a9 (cs2 (f1:=ac 1) rfl (fldP c (f:=ac 0) rfl) a2)));refine bj (δ:=[sd (cL c (ps++[p])),sW c n T,si p,si q,si m,none]) (r:=.sh (.bl false)) rfl ?_ rfl;cases e:isSet n (ps++[p]) with
 | false=>
  rw [e] at t1;exact stp t1
 | true=>
  rw [e] at t1;refine skp t1 (stp ((or_bb (a9 (bs (kU (fldP c (f:=ac 0) rfl) rfl) rfl (oGe_ii _ _))) (or_bb (a9 (bs rfl (fldP c (f:=ac 0) rfl) (Enc.int.oIn (by decide) p (ps++[p])))) (a9 (bs rfl (fldP c (f:=ac 0) rfl) (Enc.int.oIn (by decide) q (ps++[p])))))).trans (by simp)))
end
noncomputable def bodyB:FS:=sif ((bQ (al (af oIn (ac 8) (ac 5))) (bQ (al (af oNotIn (ac 9) (ac 5))) (al (af oNotIn (ac 9) (ac 4)))))) (cR 5 (ac 9)) aE
def itemsB:DSt->Option (List D):=aH (bV (aa (ac 7) (aa (drevT (ac 7) (dun eO (ae (.int 1)))) ai)))
def tieF:FS:=bg itemsB (gtup 2 (dM (ap 8) (dM (ap 9) gnil))) bodyB
def lY (Q:Int->Prop) (ps met:List Int):Prop:=∀ x∈met,Q x/\x∉ps
section
variable {Q:Int->Prop} {ps:List Int} {e0 e1 e2 e3:Option E}
abbrev stB (e0 e1 e2 e3:Option E) (ps met:List Int) (x6 x7 x8 x9:Option E):DSt:=[e0,e1,e2,e3,sI ps,some (.ow (met.map .int)),x6,x7,x8,x9]
theorem body_B {met:List Int} (hl:met.length<=10000) (G:lY Q ps met) {a b:Int} (hq:a∉ps->b∉ps->Q a->Q b) (x6 x7:Option E) :
  ∃ uu,bodyB (stB e0 e1 e2 e3 ps met x6 x7 (si a) (si b))=some (.nx (stB e0 e1 e2 e3 ps uu x6 x7 (si a) (si b)))/\lY Q ps uu/\uu.length<=met.length+1:=by
 have t:=j6 (a9 (cC (fa:=ac 8) (fb:=ac 5) (δ:=stB e0 e1 e2 e3 ps met x6 x7 (si a) (si b)) (a:=.sh (.int a)) (b:=.bw (met.map .int)) rfl rfl (Enc.int.oIn (by decide) a met))) (j6 (a9 (cC (fa:=ac 9) (fb:=ac 5) (a:=.sh (.int b)) (b:=.bw (met.map .int)) rfl rfl (Enc.int.oNotIn (by decide) b met))) (a9 (bs (fa:=ac 9) (fb:=ac 4) rfl rfl (Enc.int.oNotIn (by decide) b ps))));unfold bodyB;rw [cq,t];by_cases h:(decide (a∈met)&&(!decide (b∈met)&&!decide (b∈ps)))=true
 ·rw [h];simp at h;refine ⟨met++[b],?_,fun x hx=>?_,by simp⟩
  ·have hb:met.length<=big:=by rw [bJ];omega
   simp [cR,hb]
  ·rcases zB.1 hx with hx | hx
   ·exact G x hx
   ·simp at hx;subst hx;have:=G a h.1;exact ⟨hq this.2 h.2.2 this.1,h.2.2⟩
 ·have h':(decide (a∈met)&&(!decide (b∈met)&&!decide (b∈ps)))=false:=by simpa using h
  rw [h'];exact ⟨met,rfl,G,by omega⟩
theorem tie_B {met:List Int} (hl:met.length<=9000) (G:lY Q ps met) {t:Tie} (hq:t.1∉ps->t.2∉ps->(Q t.1↔Q t.2)) (x6 x8 x9:Option E) :
  ∃ uu y8 y9,tieF (stB e0 e1 e2 e3 ps met x6 (some (.sh (aA t))) x8 x9)=some (.nx (stB e0 e1 e2 e3 ps uu x6 (some (.sh (aA t))) y8 y9))/\lY Q ps uu/\uu.length<=met.length+2:=by
 obtain ⟨m1,h1,G1,l1⟩:=body_B (e0:=e0) (e1:=e1) (e2:=e2) (e3:=e3) (met:=met) (by omega) G (a:=t.1) (b:=t.2) (fun a b=>(hq a b).1) x6 (some (.sh (aA t)));obtain ⟨m2,h2,G2,l2⟩:=body_B (e0:=e0) (e1:=e1) (e2:=e2) (e3:=e3) (met:=m1) (by omega) G1 (a:=t.2) (b:=t.1) (fun a b=>(hq b a).2) x6 (some (.sh (aA t)));refine ⟨m2,si t.2,si t.1,?_,G2,by omega⟩;have b2:(2:Nat)<=big:=by decide
 have hi:itemsB (stB e0 e1 e2 e3 ps met x6 (some (.sh (aA t))) x8 x9)=some [aA t,aA (t.2,t.1)]:=by
  unfold itemsB;rw [cf];simp [drevT,b2,nI,aA]
 unfold tieF bg;rw [hi];simp only [ud];unfold aW;show (bodyB (stB e0 e1 e2 e3 ps met x6 (some (.sh (aA t))) (si t.1) (si t.2))).bind _=_;rw [h1];simp only [ud,ci];unfold aW;show (bodyB (stB e0 e1 e2 e3 ps m1 x6 (some (.sh (aA t))) (si t.2) (si t.1))).bind _=_;rw [h2];rfl
theorem ties_B:∀ (T:List Tie) {met:List Int} (x6 x7 x8 x9:Option E),met.length+2*T.length<=9000->lY Q ps met->(∀ t∈T,t.1∉ps->t.2∉ps->(Q t.1↔Q t.2))->
  ∃ uu y7 y8 y9,aW (ap 7) tieF (T.map aA) (stB e0 e1 e2 e3 ps met x6 x7 x8 x9)=some (.nx (stB e0 e1 e2 e3 ps uu x6 y7 y8 y9))/\lY Q ps uu/\uu.length<=met.length+2*T.length
 | [],met,x6,x7,x8,x9,_,G,_=>⟨met,x7,x8,x9,rfl,G,by omega⟩
 | t::T,met,x6,x7,x8,x9,hl,G,hq=>by
  simp only [zQ] at hl;obtain ⟨m1,y8,y9,h1,G1,l1⟩:=tie_B (e0:=e0) (e1:=e1) (e2:=e2) (e3:=e3) (met:=met) (by omega) G (hq t (by simp)) x6 x8 x9;obtain ⟨m2,z7,z8,z9,h2,G2,l2⟩:=ties_B T (met:=m1) x6 (some (.sh (aA t))) y8 y9 (by omega) G1 (fun u hu=>hq u (by simp [hu]));refine ⟨m2,z7,z8,z9,?_,G2,by simp only [zQ];omega⟩;rw [zb];unfold aW;show (tieF (stB e0 e1 e2 e3 ps met x6 (some (.sh (aA t))) x8 x9)).bind _=_;rw [h1];exact h2
theorem turns_B {n:Int} {T:List Tie} (hT:T.length<=14) (hq:∀ t∈T,t.1∉ps->t.2∉ps->(Q t.1↔Q t.2)):∀ (ks:List Nat) {met:List Int} (x6 x7 x8 x9:Option E),met.length+28*ks.length<=8000->lY Q ps met->
  ∃ uu y6 y7 y8 y9,aW (ap 6) (bg (aH (af oIx (ac 0) (ae (.int 1)))) (ap 7) tieF) (ks.map fun k=>D.int (0+((k:Nat):Int))) (stB (sT n T) e1 e2 e3 ps met x6 x7 x8 x9)=some (.nx (stB (sT n T) e1 e2 e3 ps uu y6 y7 y8 y9))/\lY Q ps uu
 | [],met,x6,x7,x8,x9,_,G=>⟨met,x6,x7,x8,x9,rfl,G⟩
 | k::ks,met,x6,x7,x8,x9,hl,G=>by
  simp only [zQ] at hl;obtain ⟨m1,y7,y8,y9,h1,G1,l1⟩:=ties_B (e0:=sT n T) (e1:=e1) (e2:=e2) (e3:=e3) T (met:=met) (si (0+(k:Int))) x7 x8 x9 (by omega) G hq;obtain ⟨m2,z6,z7,z8,z9,h2,G2⟩:=turns_B (n:=n) hT hq ks (met:=m1) (si (0+(k:Int))) y7 y8 y9 (by omega) G1;refine ⟨m2,z6,z7,z8,z9,?_,G2⟩;rw [zb];unfold aW;show (bg _ _ tieF (stB (sT n T) e1 e2 e3 ps met (si (0+(k:Int))) x7 x8 x9)).bind _=_;have e:bg (aH (af oIx (ac 0) (ae (.int 1)))) (ap 7) tieF (stB (sT n T) e1 e2 e3 ps met (si (0+(k:Int))) x7 x8 x9)=some (.nx (stB (sT n T) e1 e2 e3 ps m1 (si (0+(k:Int))) y7 y8 y9)):=by
   unfold bg;rw [cf,lD (f:=ac 0) rfl];exact h1
  rw [e];exact h2
end
theorem sB {n:Int} {T:List Tie} (h0:0<=n/\n<=8) (hT:T.length<=14) {p q:Int} {m:Nat} {ps:List Int} (V:WlOk n T p q m ps):fx c [cD n T,.int p,.int q,.int m,aU ps]=some (.bl true):=by
 obtain ⟨Q,q1,q2,q3⟩:=V.cut;have a1:=su c V.pt V.lt;have hm:=V.len;obtain ⟨met,y6,y7,y8,y9,lp,G⟩:=turns_B (n:=n) (e1:=si p) (e2:=si q) (e3:=si m) hT q3 (List.range n.toNat) (met:=[p]) none none none none (by simp;omega) (fun x hx=>by simp at hx;subst hx;exact ⟨q1,V.np⟩);have nq:q∉met:=fun h=>q2 (G q h).1;refine bj (δ:=[sT n T,si p,si q,si m,sI ps,none,none,none,none,none]) (r:=.sh (.bl true)) rfl (skp ?_ (seq1 (δ1:=stB (sT n T) (si p) (si q) (si m) ps [p] none none none none) (cH (r:=.fr [.int p]) (by simp [show (1:Nat)<=big by decide]) rfl rfl) (seq1 (δ1:=stB (sT n T) (si p) (si q) (si m) ps met y6 y7 y8 y9) ?_ (iD (cC (a:=.sh (.int q)) (b:=.bw (met.map .int)) rfl rfl ((Enc.int.oNotIn (by decide) q met).trans (by simp [nq]))) rfl)))) rfl
 ·exact iw (fP (a9 (cs2 rfl (j4 (f:=ac 0) rfl) a1))) (iw (a9 (b:=false) (bs rfl rfl ((Enc.int.oIn (by decide) p ps).trans (by simp [V.np])))) (iw (a9 (b:=false) (bs rfl rfl ((Enc.int.oIn (by decide) q ps).trans (by simp [V.nq])))) (a9 (b:=false) (bs (kU (r:=.sh (aU ps)) rfl rfl) rfl (by simp;omega)))))
 ·have hr:=rngE (f:=af oIx (ac 0) (ae (.int 0))) (δ:=stB (sT n T) (si p) (si q) (si m) ps [p] none none none none) (j:=n) (j4 (f:=ac 0) rfl) (by omega) (by omega);unfold bg;rw [hr];exact lp
theorem ncall4 {m:List D->Option D} {f1 f2 f3 f4:FE} {δ:DSt} {a1 a2 a3 a4 d:D} (h1:f1 δ=some (.sh a1)) (h2:f2 δ=some (.sh a2)) (h3:f3 δ=some (.sh a3)) (h4:f4 δ=some (.sh a4)) (hm:m [a1,a2,a3,a4]=some d):lL 4 m (aa f1 (aa f2 (aa f3 (aa f4 ai)))) δ=some d:=by
 simp [h1,h2,h3,h4,hm]
theorem meth_no {C C':Addr} {name:Str} {k:Nat} {m:List D->Option D} {fo:FE} {fa:DSt->Option (List R)} {δ:DSt} {fs:List (Str×D)} (h:fo δ=some (.sh (.obj C' fs))) (hn:C'≠C):bW C name k m fo fa δ=none:=by
 simp only [dmeth_e,h,ud,bH];simp [hn]
noncomputable def shw (g:FE):FE:=(dalt (bW c.Ways "shows" 5 (bY c) (ac 5) (aa g (aa (ac 2) (aa (ac 3) (aa (ac 4) ai))))) (bW c.Wall "shows" 5 (bI c) (ac 5) (aa g (aa (ac 2) (aa (ac 3) (aa (ac 4) ai))))))
abbrev st5 (n:Int) (T:List Tie) (p q:Int) (m:Nat) (e5 x6 x7:Option E):DSt:=[sT n T,sW c n T,si p,si q,si m,e5,x6,x7]
section
variable {n:Int} {T:List Tie} {p q:Int} {m:Nat} {x6 x7:Option E} {g:FE} {S:List Tie} {b:Bool}
theorem shw_E {vs:List (Wlk Int Int)} (hg:g (st5 c n T p q m (some (.sh (cW c vs))) x6 x7)=some (.sh (bG c n S))) (h:bY c [cW c vs,bG c n S,.int p,.int q,.int m]=some (.bl b)) :
  shw c g (st5 c n T p q m (some (.sh (cW c vs))) x6 x7)=some (.sh (.bl b)):=by
 unfold shw dalt;rw [meth4 (fs:=[("ways",.lst (vs.map eWk))]) (r1:=.sh (bG c n S)) (r2:=.sh (.int p)) (r3:=.sh (.int q)) (r4:=.sh (.int m)) rfl lkw2 hg rfl rfl rfl h (.inl ⟨rfl,rfl,rfl,rfl⟩)]
theorem shw_B (hc:CNe c) {ps:List Int} (hg:g (st5 c n T p q m (some (.sh (cL c ps))) x6 x7)=some (.sh (bG c n S))) (h:bI c [cL c ps,bG c n S,.int p,.int q,.int m]=some (.bl b)) :
  shw c g (st5 c n T p q m (some (.sh (cL c ps))) x6 x7)=some (.sh (.bl b)):=by
 obtain ⟨_,_,_,_,_,_,_,h8,_⟩:=hc;unfold shw dalt;rw [meth_no (C':=c.Wall) (fs:=[("points",aU ps)]) rfl h8,meth4 (fs:=[("points",aU ps)]) (r1:=.sh (bG c n S)) (r2:=.sh (.int p)) (r3:=.sh (.int q)) (r4:=.sh (.int m)) rfl lkp2 hg rfl rfl rfl h (.inl ⟨rfl,rfl,rfl,rfl⟩)]
end
noncomputable def lessW:FE:=dnw (eP c.Web 2 (aX c) (aa (af oIx (ac 6) (ae (.int 0))) (aa (af oIx (ac 6) (ae (.int 1))) ai)))
theorem less_eq {n:Int} {T:List Tie} (W:da n T) {p q:Int} {m:Nat} {e5 x7:Option E}:lessW c (st5 c n T p q m e5 (sT n T.tail) x7)=some (.sh (bG c n T.tail)):=by
 unfold lessW;rw [dnw_e];erw [nQ c (tail_ok W) (r1:=.sh (.int n)) (r2:=.sh (.lst (T.tail.map aA))) (by rw [aP,j4 (f:=ac 6) rfl,ud,aP,lD (f:=ac 6) rfl];rfl) rfl rfl rfl rfl];rfl
theorem setB1 {i k:Nat} {f:FE} {δ δ1:DSt} {b:Bool} (h:f (frz i δ)=some (.sh (.bl b))) (hd:δ.set k (some (.sh (.bl b)))=δ1):m5 i k f δ=some (.nx δ1):=by
 unfold m5;rw [h];subst hd;rfl
noncomputable def wallR:FS:=aq (iM 5 (bb (al (ao 5 (fx c) (aa (ac 0) (aa (ac 2) (aa (ac 3) (aa (ac 4) (aa (eU (isC c.Wall) "points" (ac 5)) ai)))))))) (aL (ae (.bl false))) aE) (aq (iM 5 (al (af gV (shw c (lessW c)) (ae (.bl true)))) (aL (ae (.bl false))) aE) (smutA 5 ([]++[.f c.Wall "points"]) (ac 2)))
noncomputable def waysR:FS:=aq (iM 5 (bb (al (ao 5 (ej c) (aa (ac 0) (aa (ac 2) (aa (ac 3) (aa (ac 4) (aa (eU (isC c.Ways) "ways" (ac 5)) ai)))))))) (aL (ae (.bl false))) aE) (aq (m5 5 7 (ao 5 (ej c) (aa (ac 6) (aa (ac 2) (aa (ac 3) (aa (ac 4) (aa (eU (isC c.Ways) "ways" (ac 5)) ai))))))) (aq (iM 5 (al (af oNe (shw c (lessW c)) (ac 7))) (aL (ae (.bl false))) aE) (smut 5 ((([]++[.f c.Ways "ways"])++[.x 0])++[.x 0]) opRev)))
theorem right_of (hc:CNe c) {n:Int} {T:List Tie} {p q:Int} {m:Nat} {d d2:D} {x7:Option E} (d1:lw c [bG c n T,.int p,.int q,.int m]=some d) {bw:Bool}
  (a1:dY c d=some true) (a2:hJ c d=some !bw) (a3:g9 c d=some false) (a4:fV c d=some bw) (a5:jU c d=some false)
  (s1:shw c (ac 1) (st5 c n T p q m (some (.sh d)) none none)=some (.sh (.bl true)))
  (hR:(if bw=true then wallR c else waysR c) (st5 c n T p q m (some (.nw d)) (sT n T.tail) none)=some (.nx (st5 c n T p q m (some (.nw d2)) (sT n T.tail) x7)))
  (s2:shw c (ac 1) (st5 c n T p q m (some (.sh d2)) (sT n T.tail) x7)=some (.sh (.bl false))):bZ c [cD n T,bG c n T,.int p,.int q,.int m]=some (.bl true):=by
 have b2:(2:Nat)<=big:=by decide
 refine bj (δ:=st5 c n T p q m none none none) (r:=.sh (.bl true)) rfl ?_ rfl;refine seq1 (δ1:=st5 c n T p q m (some (.nw d)) none none) (setN1 (ncall4 rfl rfl rfl rfl d1) rfl) ?_;refine seq1 (nU (iw (fP (a9 (nV (d:=d) rfl a1))) (a9 (b:=false) (bs (nV (d:=d) rfl a2) (nV (d:=d) rfl a4) (by cases bw <;> rfl)))) rfl) ?_;refine seq1 (nU (iw (a9 (nV (d:=d) rfl a3)) (iw (a9 (nV (d:=d) rfl a5)) (isnot1 (a:=true) s1))) rfl) ?_;refine seq1 (δ1:=st5 c n T p q m (some (.nw d)) (sT n T.tail) none) (cH (r:=.sh (cD n T.tail)) ?_ rfl rfl) ?_
 ·rw [dtup_e,aP,j4 (f:=ac 0) rfl,ud,aP,told_1s (f:=ac 0) rfl];simp [b2,cD]
 refine seq1 (δ1:=st5 c n T p q m (some (.nw d2)) (sT n T.tail) x7) ?_ ?_
 ·cases bw with
  | true=>exact ifB_t (a9 (nV (d:=d) rfl a4)) hR
  | false=>exact nU (a9 (nV (d:=d) rfl a4)) hR
 ·unfold sretB;have:af oIs (shw c (ac 1)) (ae (.bl false)) (frz 5 (st5 c n T p q m (some (.nw d2)) (sT n T.tail) x7))=some (.sh (.bl true)):=bs s2 rfl rfl;erw [this];rfl
section
variable (hc:CNe c) {n:Int} {T:List Tie} (W:da n T) {p q:Int} (h2:b7 n p q=true) (ht:cw p q∉T) {m:Nat}
include hc W h2 ht
theorem tK {ps:List Int} (V:WlOk n T p q m ps) (d1:lw c [bG c n T,.int p,.int q,.int m]=some (cL c ps)):bZ c [cD n T,bG c n T,.int p,.int q,.int m]=some (.bl true):=by
 obtain ⟨a1,a2,a3,a4,a5⟩:=ansP c (ps:=ps) hc;have hT:=W.2.2.1;have hn:0<=n/\n<=8:=⟨by have:=W.1;omega,W.2.1⟩;have hl:ps.length<=big:=by
  have:=zm (V.lt.imp (fun h=>by omega):ps.Nodup) (l₂:=pts n) (fun x hx=>jt.2 (V.pt x hx));rw [kO] at this;rw [bJ];omega
 refine right_of c hc (d2:=cL c (ps++[p])) (x7:=none) (bw:=true) d1 a1 a2 a3 a4 a5 (shw_B c hc rfl (iB c hn hT h2 V)) ?_ (shw_B c hc rfl (n9 c hn hT h2));refine seq1 (nU (fP (a9 (cs5 rfl rfl rfl rfl (fldP c (f:=ac 5) rfl) (sB c hn hT V)))) rfl) (seq1 (nU (isnot1 (a:=true) (shw_B c hc (less_eq c W) (iB c hn (by simp;omega) h2 V.tail))) rfl) ?_);unfold smutA;simp [sub,Ew.putAt,setF,cL,lkp,aU,hl,D.flat]
theorem tL {vs:List (Wlk Int Int)} (V:WsOk n T p q vs) (hm:vs.length=m) (h1:1<=m) (d1:lw c [bG c n T,.int p,.int q,.int m]=some (cW c vs)):bZ c [cD n T,bG c n T,.int p,.int q,.int m]=some (.bl true):=by
 subst hm;obtain ⟨a1,a2,a3,a4,a5⟩:=ansW c (ws:=vs) hc;have hs:=V.sm;have hw:∀ v∈vs,Wn n p q v:=fun v hv=>(V.ok v hv).2;have hll:∀ v∈vs,v.1.length<=1000/\v.2.length<=1000:=fun v hv=>by have:=(hw v hv).len;have:=(hw v hv).sm;omega
 have ht':cw p q∉T.tail:=fun h=>ht (Aq h);have e1:=fR c h2 ht (by omega) hll V.il;rw [V.true W,Av V.inn] at e1;have e2:=fR c h2 ht' (by omega) hll V.il;rw [V.any W T.tail,Av V.inn,Bool.and_true] at e2;have f1:=kW c (T:=T) hw V.inn V.il;have f2:=kW c (T:=T.tail) hw V.inn V.il;have g1:vs.all (cQ n T)=true:=by rw [<-V.any W T];exact V.true W
 rw [g1] at f1;cases vs with
 | nil=>simp at h1
 | cons v vs=>
  have hv:=hw v (by simp);have wM:p≠q:=by unfold b7 at h2;simp at h2;exact h2.2.2
  have hil:(((v.1.reverse,v.2)::vs).flatMap inn).length<=1000:=by
   have:=V.il;simp only [List.flatMap_cons,zy,inn,List.length_dropLast,List.length_tail,List.length_reverse] at this ⊢;exact this
  have e3:=fR c (ws:=(v.1.reverse,v.2)::vs) h2 ht (by simpa using (show vs.length+1<=100 by simp at hs;omega)) (fun u hu=>by
   rcases zj.1 hu with rfl | hu
   ·simpa using hll v (by simp)
   ·exact hll u (by simp [hu])) hil
  have e4:mq n T p q (v.1.reverse,v.2)=false:=by
   unfold mq;have:(v.1.reverse).headD 0=q:=by rw [List.headD_eq_head?_getD,List.head?_reverse,hv.lt];rfl
   rw [this,Aw (Ne.symm wM)];simp
  rw [List.all_cons,e4] at e3;refine right_of c hc (d2:=cW c ((v.1.reverse,v.2)::vs)) (x7:=some (.sh (.bl ((v::vs).all (cQ n T.tail))))) (bw:=false) d1 a1 a2 a3 a4 a5 (shw_E c rfl e1) ?_ (shw_E c rfl e3);refine seq1 (nU (fP (a9 (cs5 rfl rfl rfl rfl (fldW c (f:=ac 5) rfl) f1))) rfl) (seq1 (δ1:=st5 c n T p q (v::vs).length (some (.nw (cW c (v::vs)))) (sT n T.tail) (some (.sh (.bl ((v::vs).all (cQ n T.tail)))))) (setB1 (cs5 rfl rfl rfl rfl (fldW c (f:=ac 5) rfl) f2) rfl) (seq1 (nU (a9 (b:=false) (bs (shw_E c (less_eq c W) e2) rfl ((oNe_bb _ _).trans (by simp)))) rfl) ?_));unfold smut;simp [sub,Ew.putAt,setF,setX,opRev,cW,lk_ways,eWk,ay,Enc.int]
end
theorem oa (hc:CNe c) {n:Int} {T:List Tie} (W:da n T) {p q:Int} (h2:b7 n p q=true) (ht:cw p q∉T) (m:Nat) (h1:1<=m) (hm:m<=8):bZ c [cD n T,bG c n T,.int p,.int q,.int m]=some (.bl true):=by
 have A:=pE W p q (m:=m) (by omega);have d1:=ways_eq c hc W h2 ht m h1 hm;by_cases vz:(fQ n T p q m).length=m
 ·rw [if_pos vz] at d1;exact tL c hc W h2 ht (ws_ok W h2 hm A) (by simpa using vz) h1 d1
 ·rw [if_neg vz] at d1;exact tK c hc W h2 ht (wl_ok W h2 ht A (by have:=A.le;omega)) d1
abbrev stL (K:Frag) (ns:List Int) (n:Int) (T:List Tie) (cell a:Int) (x5 x6 x7 x8:Option E):DSt:=[some (.scr K ns),sT n T,sW c n T,si cell,si a,x5,x6,x7,x8,none,none]
noncomputable def manyF:FE:=(af aV (ae (.int 1)) (ao 3 (aC c) (aa (af aV (af aV (ac 3) (ac 5)) (af cb (ae (.int 8)) (ac 6))) (aa (ae (.int 1)) (aa (af oIx (bf (aa (ae (.int 4)) (aa (ae (.int 8)) ai))) (af oDiv (ao 3 (aC c) (aa (ac 3) (aa (ae (.int 2)) (aa (ae (.int 4)) ai)))) (ae (.int 3)))) ai)))))
noncomputable def cntF:FS:=(sif (bb (al (ao 5 (bZ c) (aa (ac 1) (aa (ac 2) (aa (ac 5) (aa (ac 6) (aa (ac 8) ai)))))))) (aL (ae (.bl false))) aE)
noncomputable def pairF:FS:=(aq (sset 7 (manyF c)) (sif ((bQ (al (af oNe (ac 5) (ac 6))) (al (af oIn (bf (aa (a0 dg (aa (ac 5) (aa (ac 6) ai))) (aa (a0 eN (aa (ac 5) (aa (ac 6) ai))) ai))) (af oIx (ac 1) (ae (.int 1))))))) (sif (bb (al (ao 4 (ic c) (aa (ac 2) (aa (ac 5) (aa (ac 6) (aa (ac 7) ai))))))) (aL (ae (.bl false))) aE) (sif ((bQ (al (af oNe (ac 5) (ac 6))) (bQ (al (af oLt (ac 4) (ae (.int 6)))) (al (af oEq (ao 3 (aC c) (aa (af aV (af aV (ac 3) (ac 5)) (af cb (ae (.int 8)) (ac 6))) (aa (ae (.int 3)) (aa (ae (.int 2)) ai)))) (ae (.int 0))))))) (aq (sset 4 (af aV (ac 4) (ae (.int 1)))) (gQ 7 (bg (aH (bV (aa (ac 7) (aa (af aV (ae (.int 1)) (af oMod (ac 7) (ae (.int 8)))) (aa (ac 7) ai))))) (ap 8) (cntF c)))) aE)))
section
variable (hc:CNe c) {K:Frag} {ns:List Int} {n:Int} {T:List Tie} (W:da n T) {cell:Int}
include hc W
theorem many_ok {a p q:Int} (hq:0<=q/\q<n) (x7 x8:Option E):∃ m:Nat,manyF c (stL c K ns n T cell a (si p) (si q) x7 x8)=some (.sh (.int m))/\1<=m/\m<=8:=by
 have hn:=W.2.1;have b2:(2:Nat)<=big:=by decide
 obtain ⟨r1,e1,l1,u1⟩:=kQ c cell 2 (by omega) (many:=4) (by omega);have e1':=cs3 (f1:=ac 3) (f2:=ae (.int 2)) (f3:=ae (.int 4)) (δ:=stL c K ns n T cell a (si p) (si q) x7 x8) rfl rfl rfl e1;obtain ⟨v,e2,l2,u2⟩ : ∃ v,af oIx (bf (aa (ae (.int 4)) (aa (ae (.int 8)) ai))) (af oDiv (ao 3 (aC c) (aa (ac 3) (aa (ae (.int 2)) (aa (ae (.int 4)) ai)))) (ae (.int 3))) (stL c K ns n T cell a (si p) (si q) x7 x8)=some (.sh (.int v))/\0<v/\v<=8:=by
  obtain ⟨v,h1,h2⟩:=kR (ks:=[4,8]) (r:=r1 / 3) (by omega) (by simp;omega) (fun k=>0<k/\k<=8) (by decide);exact ⟨v,bs (a:=.tup [.int 4,.int 8]) (by simp [b2]) (bs e1' rfl (divP (by omega) (by omega))) h1,h2⟩
 obtain ⟨r3,e3,l3,u3⟩:=kQ c (cell+p+8*q) 1 (by omega) (many:=v) l2;refine ⟨(1+r3).toNat,?_,by omega,by omega⟩;have e4:(((1+r3).toNat:Nat):Int)=1+r3:=by omega
 rw [e4];exact bs rfl (cs3 (bs (bs rfl rfl rfl) (bs rfl rfl (mulL (by omega) (by omega))) rfl) rfl e2 e3) rfl
theorem pair_ok {a p q:Int} (hp:0<=p/\p<n) (hq:0<=q/\q<n) (x7 x8:Option E):∃ a' y7 y8,pairF c (stL c K ns n T cell a (si p) (si q) x7 x8)=some (.nx (stL c K ns n T cell a' (si p) (si q) y7 y8)):=by
 have hn:=W.2.1;have b2:(2:Nat)<=big:=by decide
 have b3:(3:Nat)<=big:=by decide
 obtain ⟨m,e1,m1,m2⟩:=many_ok c hc W (K:=K) (ns:=ns) (cell:=cell) (a:=a) (p:=p) hq x7 x8;have s1:sset 7 (manyF c) (stL c K ns n T cell a (si p) (si q) x7 x8)=some (.nx (stL c K ns n T cell a (si p) (si q) (si m) x8)):=cH e1 rfl rfl;have t1:=j6 (a9 (bs (fa:=ac 5) (fb:=ac 6) (δ:=stL c K ns n T cell a (si p) (si q) (si m) x8) rfl rfl (p6 p q))) (a9 (bs (fa:=bf (aa (a0 dg (aa (ac 5) (aa (ac 6) ai))) (aa (a0 eN (aa (ac 5) (aa (ac 6) ai))) ai))) (a:=aA (cw p q)) (by simp [b2,cw,<-jr,<-kN]) (lD (f:=ac 1) rfl) (ET.oIn (show max 1 1+1<=15 by decide) (cw p q) T)));by_cases wM:p=q
 ·subst wM;refine ⟨a,si m,x8,seq1 s1 ?_⟩;rw [cq,t1];simp
 have h2:b7 n p q=true:=by unfold b7 fM;simp [hp,hq,wM]
 by_cases ht:cw p q∈T
 ·refine ⟨a,si m,x8,seq1 s1 ?_⟩;rw [cq,t1];simp only [wM,ht,decide_true,decide_false,Bool.not_false,Bool.and_self,ud,if_true];rw [cq,fP (a9 (cs4 rfl rfl rfl rfl (sv c hc (m:=m) h2 ht)))];rfl
 ·obtain ⟨r,e2,_,_⟩:=kQ c (cell+p+8*q) 3 (by omega) (many:=2) (by omega);have e2':=cs3 (m:=aC c) (δ:=stL c K ns n T cell a (si p) (si q) (si m) x8) (bs (o:=aV) (fa:=af aV (ac 3) (ac 5)) (bs rfl rfl rfl) (bs (o:=cb) (fa:=ae (.int 8)) (fb:=ac 6) rfl rfl (mulL (by omega) (by omega))) rfl) (f2:=ae (.int 3)) (f3:=ae (.int 2)) rfl rfl e2;have t2:=j6 (a9 (bs (fa:=ac 5) (fb:=ac 6) (δ:=stL c K ns n T cell a (si p) (si q) (si m) x8) rfl rfl (p6 p q))) (j6 (a9 (bs (fa:=ac 4) (fb:=ae (.int 6)) rfl rfl (oLt_ii a 6))) (a9 (bs (fb:=ae (.int 0)) e2' rfl (oEq_ii r 0))));have go:(sif ((bQ (al (af oNe (ac 5) (ac 6))) (bQ (al (af oLt (ac 4) (ae (.int 6)))) (al (af oEq (ao 3 (aC c) (aa (af aV (af aV (ac 3) (ac 5)) (af cb (ae (.int 8)) (ac 6))) (aa (ae (.int 3)) (aa (ae (.int 2)) ai)))) (ae (.int 0))))))) (aq (sset 4 (af aV (ac 4) (ae (.int 1)))) (gQ 7 (bg (aH (bV (aa (ac 7) (aa (af aV (ae (.int 1)) (af oMod (ac 7) (ae (.int 8)))) (aa (ac 7) ai))))) (ap 8) (cntF c)))) aE) (stL c K ns n T cell a (si p) (si q) (si m) x8) =
    if (!decide (p=q)&&(decide (a<6)&&decide (r=0)))=true then some (.nx (stL c K ns n T cell (a+1) (si p) (si q) (si m) (si m))) else some (.nx (stL c K ns n T cell a (si p) (si q) (si m) x8)):=by
   rw [cq,t2,ud];split
   ·refine seq1 (δ1:=stL c K ns n T cell (a+1) (si p) (si q) (si m) x8) (cH (r:=.sh (.int (a+1))) (bs rfl rfl rfl) rfl rfl) ?_;rw [dW];show bg _ _ _ (stL c K ns n T cell (a+1) (si p) (si q) (si m) x8)=_;have m3:(1+(m:Int) % 8)=((1+m % 8:Nat):Int):=by omega
    have one:∀ (k:Nat) (x:Option E),1<=k->k<=8->cntF c (stL c K ns n T cell (a+1) (si p) (si q) (si m) (si k))=some (.nx (stL c K ns n T cell (a+1) (si p) (si q) (si m) (si k))):=fun k x k1 k2=>by
     unfold cntF;rw [cq,fP (a9 (cs5 rfl rfl rfl rfl rfl (oa c hc W h2 ht k k1 k2)))];rfl
    have hi:aH (bV (aa (ac 7) (aa (af aV (ae (.int 1)) (af oMod (ac 7) (ae (.int 8)))) (aa (ac 7) ai)))) (stL c K ns n T cell (a+1) (si p) (si q) (si m) x8)=some [.int m,.int ((1+m % 8:Nat):Int),.int m]:=by
     rw [<-m3];simp [cf,b3,modP]
    unfold bg;rw [hi];simp only [ud];unfold aW;show (cntF c (stL c K ns n T cell (a+1) (si p) (si q) (si m) (si m))).bind _=_;rw [one m none m1 m2];simp only [ud,ci];unfold aW;show (cntF c (stL c K ns n T cell (a+1) (si p) (si q) (si m) (si ((1+m % 8:Nat):Int)))).bind _=_;rw [one (1+m % 8) none (by omega) (by omega)];simp only [ud,ci];unfold aW;show (cntF c (stL c K ns n T cell (a+1) (si p) (si q) (si m) (si m))).bind _=_;rw [one m none m1 m2];rfl
   ·rfl
  by_cases hk:(!decide (p=q)&&(decide (a<6)&&decide (r=0)))=true
  ·rw [if_pos hk] at go;refine ⟨a+1,si m,si m,seq1 s1 ?_⟩;rw [cq,t1];simp only [wM,ht,decide_false,Bool.not_false,Bool.and_false,ud,Bool.false_eq_true,if_false];exact go
  ·rw [if_neg hk] at go;refine ⟨a,si m,x8,seq1 s1 ?_⟩;rw [cq,t1];simp only [wM,ht,decide_false,Bool.not_false,Bool.and_false,ud,Bool.false_eq_true,if_false];exact go
theorem pH {p:Int} (hp:0<=p/\p<n):∀ (ks:List Nat) (a:Int) (x6 x7 x8:Option E),(∀ k∈ks,(k:Int)<n)->
  ∃ a' y6 y7 y8,aW (ap 6) (pairF c) (ks.map fun k=>D.int (0+((k:Nat):Int))) (stL c K ns n T cell a (si p) x6 x7 x8)=some (.nx (stL c K ns n T cell a' (si p) y6 y7 y8))
 | [],a,x6,x7,x8,_=>⟨a,x6,x7,x8,rfl⟩
 | k::ks,a,x6,x7,x8,h=>by
  obtain ⟨a1,y7,y8,h1⟩:=pair_ok c hc W (K:=K) (ns:=ns) (cell:=cell) (a:=a) (p:=p) (q:=0+(k:Int)) hp ⟨by omega,by have:=h k (by simp);omega⟩ x7 x8;obtain ⟨a2,z6,z7,z8,h2⟩:=pH hp ks a1 (si (0+(k:Int))) y7 y8 (fun j hj=>h j (by simp [hj]));refine ⟨a2,z6,z7,z8,?_⟩;rw [zb];unfold aW;show (pairF c (stL c K ns n T cell a (si p) (si (0+(k:Int))) x7 x8)).bind _=_;rw [h1];exact h2
theorem ones_ok:∀ (ks:List Nat) (a:Int) (x5 x6 x7 x8:Option E),(∀ k∈ks,(k:Int)<n)->
  ∃ a' y5 y6 y7 y8,aW (ap 5) (bg (cY (aa (af oIx (ac 1) (ae (.int 0))) ai)) (ap 6) (pairF c)) (ks.map fun k=>D.int (0+((k:Nat):Int))) (stL c K ns n T cell a x5 x6 x7 x8)=some (.nx (stL c K ns n T cell a' y5 y6 y7 y8))
 | [],a,x5,x6,x7,x8,_=>⟨a,x5,x6,x7,x8,rfl⟩
 | k::ks,a,x5,x6,x7,x8,h=>by
  have hn:=W.2.1;obtain ⟨a1,y6,y7,y8,h1⟩:=pH c hc W (K:=K) (ns:=ns) (cell:=cell) (p:=0+(k:Int)) ⟨by omega,by have:=h k (by simp);omega⟩ (List.range n.toNat) a x6 x7 x8 (fun j hj=>by simp at hj;omega);obtain ⟨a2,z5,z6,z7,z8,h2⟩:=ones_ok ks a1 (si (0+(k:Int))) y6 y7 y8 (fun j hj=>h j (by simp [hj]));refine ⟨a2,z5,z6,z7,z8,?_⟩;rw [zb];unfold aW;show (bg _ _ (pairF c) (stL c K ns n T cell a (si (0+(k:Int))) x6 x7 x8)).bind _=_;have e:bg (cY (aa (af oIx (ac 1) (ae (.int 0))) ai)) (ap 6) (pairF c) (stL c K ns n T cell a (si (0+(k:Int))) x6 x7 x8)=some (.nx (stL c K ns n T cell a1 (si (0+(k:Int))) y6 y7 y8)):=by
   unfold bg;rw [rngE (f:=af oIx (ac 1) (ae (.int 0))) (j:=n) (j4 (f:=ac 1) rfl) (by omega) (by have:=W.1;omega)];exact h1
  rw [e];exact h2
end
noncomputable def dI (w:Nat):List Tie:=((List.range w).map fun k:Nat=>(0,0+(k:Int)+1))++(List.range w).map fun k:Nat=>(0+(k:Int)+1,7)
theorem tiesW_ok {w:Nat} (h1:4<=w) (h2:w<=6):da 8 (dI w)/\cw 7 0∉dI w/\b7 8 7 0=true:=by
 have h:w=4\/w=5\/w=6:=by omega
 refine ⟨⟨by omega,by omega,by simp [dI];omega,fun t ht=>?_⟩,?_,rfl⟩
 ·unfold dI at ht;rcases zB.1 ht with ht | ht
  ·obtain ⟨k,hk,rfl⟩:=zH.1 ht;simp at hk ⊢;omega
  ·obtain ⟨k,hk,rfl⟩:=zH.1 ht;simp at hk ⊢;omega
 ·rcases h with rfl | rfl | rfl <;> decide
noncomputable def wideF:FS:=(gQ 10 (sif (bb (al (ao 5 (bZ c) (aa (bf (aa (ae (.int 8)) (aa (ac 10) ai))) (aa (dnw (eP c.Web 2 (aX c) (aa (ae (.int 8)) (aa (ac 10) ai)))) (aa (ae (.int 7)) (aa (ae (.int 0)) (aa (ac 8) ai)))))))) (aL (ae (.bl false))) aE))
theorem wide_ok (hc:CNe c) {w k:Nat} (h1:4<=w) (h2:w<=6) (k1:1<=k) (k2:k<=8) {x0 x1 x2 x3 x4 x5 x6 x7 x9:Option E} {e10:E} (he:e10=.ow ((dI w).map aA)\/e10=.sh (.lst ((dI w).map aA))) :
  wideF c [x0,x1,x2,x3,x4,x5,x6,x7,si k,x9,some e10]=some (.nx [x0,x1,x2,x3,x4,x5,x6,x7,si k,x9,sd (.lst ((dI w).map aA))]):=by
 obtain ⟨W,ht,hp⟩:=tiesW_ok h1 h2;have b2:(2:Nat)<=big:=by decide
 have ef:frz 10 [x0,x1,x2,x3,x4,x5,x6,x7,si k,x9,some e10]=[x0,x1,x2,x3,x4,x5,x6,x7,si k,x9,sd (.lst ((dI w).map aA))]:=by rcases he with rfl | rfl <;> rfl
 have d1:=oa c hc W hp ht k k1 k2;have d2:dnw (eP c.Web 2 (aX c) (aa (ae (.int 8)) (aa (ac 10) ai))) [x0,x1,x2,x3,x4,x5,x6,x7,si k,x9,sd (.lst ((dI w).map aA))]=some (.sh (bG c 8 (dI w))):=by
  rw [dnw_e];erw [nQ c W (r1:=.sh (.int 8)) (r2:=.sh (.lst ((dI w).map aA))) rfl rfl rfl rfl rfl];rfl
 unfold wideF;rw [dW,ef,cq,fP (a9 (cs5 (a:=cD 8 (dI w)) (by simp [b2,cD]) d2 rfl rfl rfl d1))];rfl
theorem law_true (hc:CNe c) (K:Frag):∀ ns:List Int,ns.length<=63->m_law c K ns=some (.bl true):=by
 intro ns _;obtain ⟨v0,hv0⟩:=jZ c K ns (k:=0) (by omega);obtain ⟨v1,hv1⟩:=jZ c K ns (k:=1) (by omega);obtain ⟨v2,wJ⟩:=jZ c K ns (k:=2) (by omega);obtain ⟨n,T,ht,W,xc⟩:=told_eq c (v0+31*v1) 2 (by omega) (by omega);have hn:=W.2.1;have b2:(2:Nat)<=big:=by decide
 obtain ⟨a,y5,y6,y7,y8,lp⟩:=ones_ok c hc W (K:=K) (ns:=ns) (cell:=v2) (List.range n.toNat) 0 none none none none (fun j hj=>by simp at hj;omega);obtain ⟨r,er,r1,r2⟩:=kQ c v2 4 (by omega) (many:=3) (by omega);have ew:((4+r).toNat:Int)=4+r:=by omega
 have comp:∀ (f:Nat->Tie) (fe:FE) (δ:DSt),ac 9 δ=some (.sh (.int ((4+r).toNat:Int)))->(∀ k:Nat,fe [si (0+(k:Int))]=some (.sh (aA (f k))))->bC (cY (aa (ac 9) ai)) (ap 0) cN fe 1 [] δ=some (.fr (((List.range (4+r).toNat).map f).map aA)):=fun f fe δ h9 hfe=>by
  have c1:=cj (fi:=cY (aa (ac 9) ai)) (g:=ap 0) (t:=cN) (fe:=fe) (m:=1) (ix:=[]) (δ:=δ) (rngE h9 (by omega) (by omega)) (by simp;omega) (cg _ _ _ _ (fun k:Nat=>D.int (0+(k:Int))) (fun _=>true) (fun k=>aA (f k)) (List.range (4+r).toNat) (fun k _=>⟨_,rfl,rfl,fun _=>⟨.sh (aA (f k)),hfe k,rfl,rfl⟩⟩));rw [zL.2 (fun _ _=>rfl)] at c1;rw [zV];exact c1
 have hr:F_law c K [some (.scr K ns),none,none,none,none,none,none,none,none,none,none]=some (.rt (.sh (.bl true))):=by
  refine seq1 (δ1:=[some (.scr K ns),sT n T,none,none,none,none,none,none,none,none,none]) (cH (cs2 (bs (j0 c rfl hv0) (bs rfl (j0 c rfl hv1) (mulL (by omega) (by omega))) rfl) rfl ht) rfl rfl) ?_;refine seq1 (δ1:=[some (.scr K ns),sT n T,sW c n T,none,none,none,none,none,none,none,none]) (cH (r:=.sh (bG c n T)) ?_ rfl rfl) ?_
  ·rw [dnw_e];erw [nQ c W (r1:=.sh (.int n)) (r2:=.sh (.lst (T.map aA))) (by rw [aP,j4 (f:=ac 1) rfl,ud,aP,lD (f:=ac 1) rfl];rfl) rfl rfl rfl rfl];rfl
  refine seq1 (δ1:=stL c K ns n T v2 0 none none none none) ?_ (seq1 (δ1:=stL c K ns n T v2 a y5 y6 y7 y8) ?_ ?_)
  ·unfold lI;rw [j0 c rfl wJ];rfl
  ·unfold bg;rw [rngE (f:=af oIx (ac 1) (ae (.int 0))) (j:=n) (j4 (f:=ac 1) rfl) (by omega) (by have:=W.1;omega)];exact lp
  refine seq1 (δ1:=[some (.scr K ns),sT n T,sW c n T,si v2,si a,y5,y6,y7,y8,si ((4+r).toNat:Int),none]) (cH (r:=.sh (.int ((4+r).toNat:Int))) (by rw [ew];exact bs rfl (cs3 rfl rfl rfl er) rfl) rfl rfl) ?_;refine seq1 (δ1:=[some (.scr K ns),sT n T,sW c n T,si v2,si a,y5,y6,y7,y8,si ((4+r).toNat:Int),some (.ow ((dI (4+r).toNat).map aA))]) (cH (r:=.fr ((dI (4+r).toNat).map aA)) (cC (comp (fun k=>(0,0+(k:Int)+1)) _ _ rfl (fun k=>by simp [b2])) (comp (fun k=>(0+(k:Int)+1,7)) _ _ rfl (fun k=>by simp [b2])) ((eM _ _ (by simp;omega)).trans (by rw [<-zT];rfl))) rfl rfl) ?_;refine seq1 (δ1:=[some (.scr K ns),sT n T,sW c n T,si v2,si a,y5,y6,y7,si (((4+r).toNat+1:Nat):Int),si ((4+r).toNat:Int),sd (.lst ((dI (4+r).toNat).map aA))]) ?_ ?_
  ·rw [dW];show bg _ _ (wideF c) [some (.scr K ns),sT n T,sW c n T,si v2,si a,y5,y6,y7,y8,si ((4+r).toNat:Int),some (.ow ((dI (4+r).toNat).map aA))]=_;have hi:aH (bV (aa (ac 9) (aa (af aV (ac 9) (ae (.int 1))) ai))) [some (.scr K ns),sT n T,sW c n T,si v2,si a,y5,y6,y7,y8,si ((4+r).toNat:Int),some (.ow ((dI (4+r).toNat).map aA))]=some [.int ((4+r).toNat:Int),.int (((4+r).toNat+1:Nat):Int)]:=by
    simp [cf,b2]
   unfold bg;rw [hi];simp only [ud];unfold aW;show (wideF c [some (.scr K ns),sT n T,sW c n T,si v2,si a,y5,y6,y7,si ((4+r).toNat:Int),si ((4+r).toNat:Int),some (.ow ((dI (4+r).toNat).map aA))]).bind _=_;rw [wide_ok c hc (by omega) (by omega) (by omega) (by omega) (.inl rfl)];simp only [ud,ci];unfold aW;show (wideF c [some (.scr K ns),sT n T,sW c n T,si v2,si a,y5,y6,y7,si (((4+r).toNat+1:Nat):Int),si ((4+r).toNat:Int),sd (.lst ((dI (4+r).toNat).map aA))]).bind _=_;rw [wide_ok c hc (w:=(4+r).toNat) (k:=(4+r).toNat+1) (by omega) (by omega) (by omega) (by omega) (.inr rfl)];rfl
  ·refine iD (bs (fz c rfl) (lD rfl) ?_) rfl;exact (ET.oEqL (show max 1 1+1<=15 by decide) T T).trans (by simp)
 unfold m_law runL;have e:F_law c K (some (.scr K ns)::List.replicate (11-1) none)=some (.rt (.sh (.bl true))):=hr;rw [e];rfl
end Pg
end
section
set_option maxHeartbeats 0
lay_quick PySem.Challenge.rw_earworks_k05_whole_ways
namespace Hx
open PySem PySem.W L2
noncomputable abbrev Pf:Program:=(PySem.W.Fast.tw2368527892694137696 PySem.W.Fast.tw2999378280846186737).toRowW.1
noncomputable def U (i:Nat):Stmt:=Pf.main.body.getD i (.Pass ⟨0,0,0,0⟩)
noncomputable def M (i j:Nat):Stmt:=inClass (U i) j
abbrev vI:=@Value.int
abbrev vR:=@Value.ref
abbrev vS:=@Value.str
abbrev vN:=Value.none
abbrev vT:=@Value.type
abbrev vB:=@Value.bool
abbrev vU:=@Value.builtin
abbrev kH:=@PyData.keyHash
abbrev dE:=@DictEntry.mk
abbrev d_A:=@bz
abbrev d_B:=@aY
abbrev d_S:=@au
noncomputable abbrev y0:String:=PySem.W.SL.s2766695959194262286x5
noncomputable abbrev y1:String:=PySem.W.SL.s5856160107412720595x4
noncomputable abbrev y2:String:=PySem.W.SL.s658472552662922059x5
noncomputable abbrev y3:String:=PySem.W.SL.s14018661285674007319x4
noncomputable abbrev y4:String:=PySem.W.SL.s7097527257260152453x26
noncomputable abbrev y5:String:=PySem.W.SL.s7174869446012820540x8
noncomputable abbrev y6:String:=PySem.W.SL.s11030030927630378310x26
noncomputable abbrev y7:String:=PySem.W.SL.s10062305145149207511x16
noncomputable abbrev y8:String:=PySem.W.SL.s17162191345867700912x4
noncomputable abbrev y9:String:=PySem.W.SL.s2742458400755230247x6
noncomputable abbrev y10:String:=PySem.W.SL.s11443829558043349243x14
noncomputable abbrev y11:String:=PySem.W.SL.s14755015743595814543x17
noncomputable abbrev y12:String:=PySem.W.SL.s6511155373996960695x17
noncomputable abbrev y13:String:=PySem.W.SL.s12411053484034534018x21
noncomputable abbrev y14:String:=PySem.W.SL.s10220274742760427390x26
noncomputable abbrev y15:String:=PySem.W.SL.s4290257624100764138x5
noncomputable abbrev y16:String:=PySem.W.SL.s4860613602091757760x24
noncomputable abbrev y17:String:=PySem.W.SL.s6070975301684473832x10
noncomputable abbrev y18:String:=PySem.W.SL.s5946037652744460706x9
noncomputable abbrev y19:String:=PySem.W.SL.s4278001404047624695x13
noncomputable abbrev y20:String:=PySem.W.SL.s4209523147560561109x18
def zS (l:List Nat):Str:=⟨⟨l⟩⟩
def z0:=zS [60,109,111,100,117,108,101,62]
def z1:=zS [47,99,108,97,105,109,47,99,117,116,46,112,121]
def z2:=zS [95,95,109,97,105,110,95,95]
def z3:=zS [95,95,110,97,109,101,95,95]
def z4:=zS [101,97,114,119,111,114,107,115,46,98,97,115,105,99,115]
def z5:=zS [95,95,100,111,99,95,95]
def z6:=zS [95,95,112,97,99,107,97,103,101,95,95]
def z7:=zS [95,95,108,111,97,100,101,114,95,95]
def z8:=zS [95,95,115,112,101,99,95,95]
def z9:=zS [95,95,97,110,110,111,116,97,116,105,111,110,115,95,95]
def z10:=zS [95,95,98,117,105,108,116,105,110,115,95,95]
def z11:=zS [95,95,102,105,108,101,95,95]
def z12:=zS [95,95,99,97,99,104,101,100,95,95]
def z13:=zS [95,119,97,108,108]
def z14:=zS [105,115,95,110,117,109,98,101,114]
def z15:=zS [97,108,108,95,100,105,102,102,101,114]
def z16:=zS [104,97,115,95,112,111,105,110,116]
def z17:=zS [97,114,101,95,116,119,111,95,112,111,105,110,116,115]
def z18:=zS [97,108,108,95,112,111,105,110,116,115]
def z19:=zS [105,115,95,112,111,105,110,116,95,115,101,116]
def z20:=zS [116,105,101,95,98,101,116,119,101,101,110]
def z21:=zS [105,115,95,116,105,101,100]
def z22:=zS [112,111,105,110,116,115,95,108,101,102,116,95,116,111]
def z23:=zS [98,97,99,107,119,97,114,100,115]
def z24:=zS [114,101,97,99,104,101,100]
def z25:=zS [105,115,95,119,97,108,107]
def z26:=zS [107]
def z27:=zS [118,97,108,117,101]
def z28:=zS [110,117,109,98,101,114,115]
def z29:=zS [119,101,98]
def z30:=zS [112,111,105,110,116]
def z31:=zS [111,110,101]
def z32:=zS [111,116,104,101,114]
def z33:=zS [98,101,103,105,110]
def z34:=zS [115,116,101,112,115]
def z35:=zS [102,111,117,110,100]
def z36:=zS [112,108,97,99,101]
def z37:=zS [115,116,101,112]
def z38:=zS [101,97,114,119,111,114,107,115,46,97,110,115,119,101,114,115]
def z39:=zS [105,115,95,119,97,121]
def z40:=zS [99,111,112,105,101,100,95,119,97,108,107,115]
def z41:=zS [97,114,101,95,119,97,121,115]
def z42:=zS [65,110,115,119,101,114]
def z43:=zS [119,97,108,107]
def z44:=zS [95,95,109,111,100,117,108,101,95,95]
def z45:=zS [95,95,113,117,97,108,110,97,109,101,95,95]
def z46:=zS [95,95,102,105,114,115,116,108,105,110,101,110,111,95,95]
def z47:=zS [95,95,115,116,97,116,105,99,95,97,116,116,114,105,98,117,116,101,115,95,95]
def z48:=zS [95,95,100,105,99,116,95,95]
def z49:=zS [95,95,119,101,97,107,114,101,102,95,95]
def z50:=zS [66,97,114]
def z51:=zS [95,95,105,110,105,116,95,95]
def z52:=zS [115,104,111,119,115]
def z53:=zS [115,101,108,102]
def z54:=zS [112,111,105,110,116,115]
def z55:=zS [66,97,114,46,95,95,105,110,105,116,95,95]
def z56:=zS [66,97,114,46,115,104,111,119,115]
def z57:=zS [87,97,121,115]
def z58:=zS [116,105,101,115,95,97,112,97,114,116]
def z59:=zS [119,97,121,115]
def z60:=zS [87,97,121,115,46,95,95,105,110,105,116,95,95]
def z61:=zS [109,97,110,121]
def z62:=zS [105,110,110,101,114]
def z63:=zS [119,97,121]
def z64:=zS [87,97,121,115,46,115,104,111,119,115]
def z65:=zS [87,97,121,115,46,116,105,101,115,95,97,112,97,114,116]
def z66:=zS [87,97,108,108]
def z67:=zS [87,97,108,108,46,95,95,105,110,105,116,95,95]
def z68:=zS [87,97,108,108,46,115,104,111,119,115]
def z69:=zS [101,97,114,119,111,114,107,115,46,101,114,114,111,114,115]
def z70:=zS [80,97,114,116]
def z71:=zS [80,97,114,116,46,95,95,105,110,105,116,95,95]
def z72:=zS [80,97,114,116,46,115,104,111,119,115]
def z73:=zS [87,101,98,69,114,114,111,114]
def z74:=zS [66,97,100,87,101,98]
def z75:=zS [84,111,111,70,101,119]
def z76:=zS [66,97,100,80,111,105,110,116]
def z77:=zS [66,97,100,67,111,117,110,116]
def z78:=zS [84,105,101,100]
def z79:=zS [101,97,114,119,111,114,107,115,46,102,108,111,119,115]
def z80:=zS [66,97,100,84,101,120,116]
def z81:=zS [115,116,101,112,115,95,111,102]
def z82:=zS [115,116,101,112,115,95,98,117,116]
def z83:=zS [115,104,111,114,116,101,115,116,95,119,97,108,107]
def z84:=zS [116,117,114,110,101,100,95,98,97,99,107]
def z85:=zS [115,116,101,112,115,95,105,110]
def z86:=zS [102,114,101,101,95,115,116,101,112,115]
def z87:=zS [116,105,101]
def z88:=zS [101,110,100,115]
def z89:=zS [119,97,108,107,115]
def z90:=zS [109,101,116]
def z91:=zS [101,97,114,119,111,114,107,115,46,119,101,98,115]
def z92:=zS [103,111,110,101,95,116,111,111]
def z93:=zS [109,111,115,116,95,103,111,110,101]
def z94:=zS [119,97,108,107,115,95,97,112,97,114,116]
def z95:=zS [115,105,100,101,95,111,102]
def z96:=zS [77,79,83,84,95,80,79,73,78,84,83]
def z97:=zS [77,79,83,84,95,84,73,69,83]
def z98:=zS [105,115,95,116,105,101]
def z99:=zS [101,110,100]
def z100:=zS [103,111,110,101]
def z101:=zS [116,117,114,110]
def z102:=zS [108,101,102,116]
def i8:=zS [101,97,114,119,111,114,107,115,46,98,101,116,119,101,101,110]
def z104:=zS [87,101,98]
def z105:=zS [77,79,83,84,95,87,65,89,83]
def z106:=zS [97,114,101,95,112,111,105,110,116,115,95,111,102]
def z107:=zS [114,101,102,117,115,101,95,112,111,105,110,116,115]
def z108:=zS [114,101,102,117,115,101,95,116,105,101,100]
def z109:=zS [114,101,102,117,115,101,95,99,111,117,110,116]
def z110:=zS [116,105,101,115]
def z111:=zS [87,101,98,46,95,95,105,110,105,116,95,95]
def z112:=zS [87,101,98,46,116,105,101,115]
def z113:=zS [112,97,105,114,115]
def z114:=zS [109,111,115,116]
noncomputable def fk:=zS [108,97,119,95,101,97,114,119,111,114,107,115,95,107,48,53,95,119,104,111,108,101,95,119,97,121,115]
def z116:=zS [115,116,101,112,115,95,116,104,114,111,117,103,104]
def z117:=zS [119,97,121,95,97,108,111,110,103]
def z118:=zS [119,97,108,108,95,97,108,111,110,103]
def z119:=zS [95,108,97,119,95,99,101,108,108,95,97,116]
def z120:=zS [95,108,97,119,95,100,114,97,119]
def z121:=zS [95,108,97,119,95,116,111,108,100]
def z122:=zS [95,108,97,119,95,108,101,97,118,105,110,103]
def z123:=zS [95,108,97,119,95,114,105,115,105,110,103]
def z124:=zS [95,108,97,119,95,105,115,95,119,97,108,107]
def z125:=zS [95,108,97,119,95,105,115,95,119,97,121]
def z126:=zS [95,108,97,119,95,105,115,95,114,105,110,103]
def z127:=zS [95,108,97,119,95,119,97,121,115]
def z128:=zS [95,108,97,119,95,115,99,114,105,112,116]
def z129:=zS [95,108,97,119,95,107]
def z130:=zS [95,108,97,119,95,99,101,108,108]
def z131:=zS [95,108,97,119,95,109,97,110,121]
def z132:=zS [95,108,97,119,95,112,114,105,109,101,115]
def z133:=zS [95,108,97,119,95,108,101,97,115,116]
def z134:=zS [95,108,97,119,95,112,111,105,110,116,115]
def z135:=zS [95,108,97,119,95,107,105,110,100]
def z136:=zS [95,108,97,119,95,116,105,101,115]
def z137:=zS [95,108,97,119,95,116,117,114,110]
def z138:=zS [95,108,97,119,95,111,110,101]
def z139:=zS [95,108,97,119,95,111,116,104,101,114]
def z140:=zS [95,108,97,119,95,109,111,115,116]
def z141:=zS [95,108,97,119,95,115,111,109,101]
def z142:=zS [95,108,97,119,95,108,97,115,116]
def z143:=zS [95,108,97,119,95,112,111,105,110,116]
def z144:=zS [95,108,97,119,95,116,111,108,100,95,104,101,114,101]
def z145:=zS [95,108,97,119,95,119,97,108,107]
def z146:=zS [95,108,97,119,95,102,111,117,110,100]
def z147:=zS [95,108,97,119,95,105,110,110,101,114]
def z148:=zS [95,108,97,119,95,119,97,121]
def z149:=zS [95,108,97,119,95,98,97,114,114,101,100]
def z150:=zS [95,108,97,119,95,114,105,103,104,116]
def z151:=zS [95,108,97,119,95,116,105,101,100]
def z152:=zS [108,97,119]
def z153:=zS [95,108,97,119,95,109,101,116]
def z154:=zS [95,108,97,119,95,116,105,101]
def z155:=zS [95,108,97,119,95,98,101,103,105,110]
def z156:=zS [95,108,97,119,95,101,110,100]
def z157:=zS [95,108,97,119,95,119,101,98]
def z158:=zS [95,108,97,119,95,108,101,115,115]
def z159:=zS [95,108,97,119,95,100,117,101]
def z160:=zS [101,114,114,111,114]
def z161:=zS [95,108,97,119,95,111,116,104,101,114,115]
noncomputable def oT (l:List Value):Params->Obj:=fun _=>Obj.mk (vT y0) none (.seq l.toArray 0) #[]
noncomputable def oF (l:List Value):Params->Obj:=fun _=>Obj.mk vN none (.fields l.toArray) #[]
noncomputable def oC (a:Str) (a':Nat) (b:Str) (b' c:Nat) (d:Int) (e f:Int) (h:Nat) (i:Bool) (j k l m:Nat) (n o:Int) (p:Nat):Params->Obj:=fun _=>Obj.mk (vT y1) none (.fields #[vS a a',vS b b',vS z1 c,vI d 0,vI e 0,vI 0 0,vI 0 0,vI f 0,vR h,vB i,vI 181 0,vR j,vN,vR k,vR l,vR m,vI n 0,vI o 0,vS z1 p]) #[]
noncomputable def oG (a b:Str) (s:Stmt):Params->Obj:=fun _=>Obj.mk vN none (.func (FuncData.mk a b (d_A s) (.stmts (d_B s)) (d_S s) 0 [] vN vN vN vN none vN vN 0)) #[]
noncomputable def oH (a b:Str) (s:Stmt) (m:Str) (k r:Nat):Params->Obj:=fun _=>Obj.mk (vT y5) none (.func (FuncData.mk a b (d_A s) (.stmts (d_B s)) (d_S s) 3 [] vN vN vN (vS m k) none (vR r) vN 0)) #[]
def ev {α:Type}:List α->List α
 | []=>[]
 | [x]=>[x]
 | x::_::r=>x::ev r
def od {α:Type}:List α->List α
 | []=>[]
 | [_]=>[]
 | _::y::r=>y::od r
noncomputable def bt (P:Params):Nat->List (Params->Obj)->BT
 | 0,_=>.nil
 | _+1,[]=>.nil
 | f+1,x::xs=>.node (x P) (bt P f (ev xs)) (bt P f (od xs))
noncomputable def oW (y:String) (l:List Value):Params->Obj:=fun _=>Obj.mk (vT y) none (.fields l.toArray) #[]
noncomputable def oE (a b:Nat) (z:Str) (k:Nat):Params->Obj:=fun _=>Obj.mk (vT y2) none .plain #[some (vR a),some (vR 3),some (vR b),none,some (vS z k),none,some (vR 0)]
noncomputable def oB (a:Str) (a':Nat) (b:Str) (b' c:Nat) (d e f:Int) (h:Nat) (i:Bool) (j:Nat) (x y z:Value) (n o:Int) (p:Nat):Params->Obj:=fun _=>Obj.mk (vT y1) none (.fields #[vS a a',vS b b',vS z1 c,vI d 0,vI e 0,vI 0 0,vI 0 0,vI f 0,vR h,vB i,vI 181 0,vR j,vN,x,y,z,vI n 0,vI o 0,vS z1 p]) #[]
noncomputable def oL (x:Option Value) (z:Str) (b m:List Value) (n:Nat) (s:List Value) (i j:Nat) (y:String):Params->Obj:=fun _=>Obj.mk (vT y8) none (.cls (ClassData.mk z b m n z true [] s false none false)) #[x,none,some (vS z i),some (vS z j),some (vU y),some (vB true)]
def eE (P:Params) (z:Str) (k:Nat) (v:Value):DictEntry:=dE (kH P z) (vS z k) v
noncomputable def oD (n:Nat) (l:Params->List DictEntry):Params->Obj:=fun P=>Obj.mk (vT y3) none (.dict (l P).toArray n) #[]
def ar:Nat->List Str->List Value
 | _,[]=>[]
 | k,z::r=>vS z k::ar (k+1) r
noncomputable def oK (z q:Str) (s:Stmt) (as:List Str) (b t d:Nat) (m:Str) (k:Nat):List (Params->Obj):=[oT [],oF [],oT (ar (t+3) as),oT [],oG z q s,oC z t q (t+1) (t+2) (.ofNat d) (.ofNat as.length) 3 b true (b+1) (b+2) (b+3) (b+4) (.ofNat (t+3+as.length)) (.ofNat d) (t+4+as.length),oH z q s m k (b+5)]
noncomputable def l0:List (Params->Obj):=[boot_o_0,boot_o_1,boot_o_2,boot_o_3,boot_o_4,boot_o_5,boot_o_6,boot_o_7,boot_o_8,boot_o_9,boot_o_10,oT [],oF [],oB z0 182 z0 183 184 1 0 0 11 false 12 vN vN vN 185 1 186,oE 13 3 z2 164]
noncomputable def t0 (P:Params):BT:=bt P 10 l0
noncomputable def e1 (P:Params):List DictEntry:=[eE P z3 165 (vS z4 194),eE P z5 166 vN,eE P z6 167 vN,eE P z7 168 (vU y4),eE P z8 169 vN,eE P z9 170 (vR 6),eE P z10 171 (vR 4),eE P z11 173 (vS z1 172),eE P z12 174 vN,eE P z13 193 (vR 21),eE P z14 202 (vR 28),eE P z15 209 (vR 35),eE P z16 217 (vR 42),eE P z17 226 (vR 49),eE P z18 233 (vR 56),eE P z19 239 (vR 61),eE P z20 247 (vR 68),eE P z21 256 (vR 75),eE P z22 262 (vR 80),eE P z23 268 (vR 85),eE P z24 279 (vR 92),eE P z25 285 (vR 97)]
noncomputable def f1:List Value:=[vI 1 0,vI 0 0,vR 20,vI 5 0,vI 0 0,vR 27,vI 7 0,vI 0 0,vR 34,vI 9 0,vI 0 0,vR 41,vI 11 0,vI 0 0,vR 48,vI 13 0,vI 0 0,vR 55,vI 15 0,vI 0 0,vR 60,vI 17 0,vI 0 0,vR 67,vI 19 0,vI 0 0,vR 74,vI 21 0,vI 0 0,vR 79,vI 24 0,vI 0 0,vR 84,vI 26 0,vI 0 0,vR 91,vI 35 0,vI 0 0,vR 96]
noncomputable def l1:List (Params->Obj):=((l0.set 3 (oD 22 e1)).set 12 (oF f1))++(oK z13 z13 (U 0) [z26] 15 187 1 z2 164++(oK z14 z14 (U 2) [z27] 22 196 5 z4 194++(oK z15 z15 (U 3) [z28] 29 203 7 z4 194++(oK z16 z16 (U 4) [z29,z30] 36 210 9 z4 194++(oK z17 z17 (U 5) [z29,z31,z32] 43 218 11 z4 194++(oK z18 z18 (U 6) [z29] 50 227 13 z4 194++([oT [],oF [],oG z19 z19 (U 7),oB z19 234 z19 235 236 15 2 3 57 true 58 vN vN (vR 59) 237 15 238,oH z19 z19 (U 7) z4 194 60]++(oK z20 z20 (U 8) [z31,z32] 62 240 17 z4 194++(oK z21 z21 (U 9) [z29,z31,z32] 69 248 19 z4 194++([oT [],oF [],oG z22 z22 (U 10),oB z22 257 z22 258 259 21 2 3 76 true 77 vN vN (vR 78) 260 21 261,oH z22 z22 (U 10) z4 194 79,oT [],oF [],oG z23 z23 (U 11),oB z23 263 z23 264 265 24 1 3 81 true 82 vN vN (vR 83) 266 24 267,oH z23 z23 (U 11) z4 194 84,oT [],oF [],oT [vS z33 272,vS z34 273,vS z35 274,vS z36 275,vS z37 276],oT [],oG z24 z24 (U 12),oC z24 269 z24 270 271 26 2 3 86 true 87 88 89 90 277 26 278,oH z24 z24 (U 12) z4 194 91,oT [],oF [],oG z25 z25 (U 13),oB z25 280 z25 281 282 35 2 3 93 true 94 vN vN (vR 95) 283 35 284,oH z25 z25 (U 13) z4 194 96]))))))))))
noncomputable def t1 (P:Params):BT:=bt P 10 l1
noncomputable def e2 (P:Params):List DictEntry:=(e1 P).set 0 (eE P z3 165 (vS z38 294))++[eE P z39 293 (vR 104),eE P z40 301 (vR 109),eE P z41 307 (vR 114),eE P z42 327 (vR 124)]
noncomputable def f2:List Value:=f1++[vI 46 0,vI 0 0,vR 103,vI 49 0,vI 0 0,vR 108,vI 51 0,vI 0 0,vR 113,vI 55 0,vI 0 0,vR 120]
noncomputable def l2:List (Params->Obj):=((l1.set 3 (oD 26 e2)).set 12 (oF f2))++(oK z39 z39 (U 14) [z29,z43] 98 286 46 z4 194++([oT [],oF [],oG z40 z40 (U 16),oB z40 296 z40 297 298 49 1 3 105 true 106 vN vN (vR 107) 299 49 300,oH z40 z40 (U 16) z38 294 108,oT [],oF [],oG z41 z41 (U 17),oB z41 302 z41 303 304 51 5 3 110 true 111 vN vN (vR 112) 305 51 306,oH z41 z41 (U 17) z38 294 113,oT [],oW y6 [vU y7,vT y8],oD 4 fun P=>[eE P z44 315 (vS z38 294),eE P z45 317 (vS z42 316),eE P z46 319 (vI 55 318),eE P z47 320 (vR 122)],oT [],oF [],oB z42 310 z42 311 312 55 0 0 118 false 119 vN vN vN 313 55 314,oE 120 117 z38 294,oT [],oD 4 fun P=>[eE P z44 315 (vS z38 294),eE P z46 319 (vI 55 318),eE P z47 320 (vR 122),eE P z48 322 (vR 125),eE P z49 324 (vR 126),eE P z5 325 vN],oL none z42 [vT y9] [vR 124,vT y9] 123 [] 308 316 y10,oW y11 [vS z48 321,vR 124,vU y12,vU y13],oW y11 [vS z49 323,vR 124,vU y14,vN],oW y15 [vR 124,vR 124,vR 124],oW y6 [vU y16,vR 124]]))
noncomputable def t2 (P:Params):BT:=bt P 10 l2
noncomputable def e3 (P:Params):List DictEntry:=e2 P++[eE P z50 360 (vR 152)]
noncomputable def f3:List Value:=f2++[vI 57 0,vI 0 0,vR 134]
noncomputable def l3:List (Params->Obj):=(((l2.set 3 (oD 27 e3)).set 12 (oF f3)).set 124 (oL none z42 [vT y9] [vR 124,vT y9] 123 [vR 152] 308 316 y10))++([oT [vR 124],oW y6 [vU y7,vT y8],oD 6 fun P=>[eE P z44 335 (vS z38 294),eE P z45 337 (vS z50 336),eE P z46 339 (vI 57 338),eE P z51 347 (vR 142),eE P z52 355 (vR 149),eE P z47 357 (vR 150)],oT [],oF [vI 59 0,vI 4 0,vR 141,vI 62 0,vI 4 0,vR 148],oB z50 330 z50 331 332 57 0 0 132 false 133 vN vN vN 333 57 334,oE 134 131 z38 294]++(oK z51 z55 (M 19 0) [z53,z54] 136 340 59 z38 294++(oK z52 z56 (M 19 1) [z53,z29] 143 348 62 z38 294++([oT [vS z54 356],oD 2 fun P=>[eE P z44 335 (vS z38 294),eE P z46 339 (vI 57 338),eE P z51 347 (vR 142),eE P z52 355 (vR 149),eE P z47 357 (vR 150),eE P z5 358 vN],oL (some (vR 129)) z50 [vR 124] [vR 152,vR 124,vT y9] 151 [] 328 336 y10,oW y15 [vR 152,vR 152,vR 152],oW y6 [vU y16,vR 152]]))))
noncomputable def t3 (P:Params):BT:=bt P 10 l3
noncomputable def e4 (P:Params):List DictEntry:=e3 P++[eE P z57 409 (vR 185)]
noncomputable def f4:List Value:=f3++[vI 66 0,vI 0 0,vR 160]
noncomputable def l4:List (Params->Obj):=(((l3.set 3 (oD 28 e4)).set 12 (oF f4)).set 124 (oL none z42 [vT y9] [vR 124,vT y9] 123 [vR 152,vR 185] 308 316 y10))++([oT [vR 124],oW y6 [vU y7,vT y8],oD 7 fun P=>[eE P z44 368 (vS z38 294),eE P z45 370 (vS z57 369),eE P z46 372 (vI 66 371),eE P z51 380 (vR 168),eE P z52 393 (vR 175),eE P z58 404 (vR 182),eE P z47 406 (vR 183)],oT [],oF [vI 68 0,vI 4 0,vR 167,vI 71 0,vI 4 0,vR 174,vI 79 0,vI 4 0,vR 181],oB z57 363 z57 364 365 66 0 0 158 false 159 vN vN vN 366 66 367,oE 160 157 z38 294]++(oK z51 z60 (M 20 0) [z53,z59] 162 373 68 z38 294++([oT [],oF [],oT [vS z53 384,vS z29 385,vS z31 386,vS z32 387,vS z61 388,vS z62 389,vS z63 390],oT [],oG z52 z64 (M 20 1),oC z52 381 z64 382 383 71 5 3 169 true 170 171 172 173 391 71 392,oH z52 z64 (M 20 1) z38 294 174]++(oK z58 z65 (M 20 2) [z53,z29,z31,z32,z61] 176 394 79 z38 294++([oT [vS z59 405],oD 2 fun P=>[eE P z44 368 (vS z38 294),eE P z46 372 (vI 66 371),eE P z51 380 (vR 168),eE P z52 393 (vR 175),eE P z58 404 (vR 182),eE P z47 406 (vR 183),eE P z5 407 vN],oL (some (vR 155)) z57 [vR 124] [vR 185,vR 124,vT y9] 184 [] 361 369 y10,oW y15 [vR 185,vR 185,vR 185],oW y6 [vU y16,vR 185]])))))
noncomputable def t4 (P:Params):BT:=bt P 10 l4
noncomputable def e5 (P:Params):List DictEntry:=e4 P++[eE P z66 440 (vR 209)]
noncomputable def f5:List Value:=f4++[vI 81 0,vI 0 0,vR 193]
noncomputable def l5:List (Params->Obj):=(((l4.set 3 (oD 29 e5)).set 12 (oF f5)).set 124 (oL none z42 [vT y9] [vR 124,vT y9] 123 [vR 152,vR 185,vR 209] 308 316 y10))++([oT [vR 124],oW y6 [vU y7,vT y8],oD 6 fun P=>[eE P z44 417 (vS z38 294),eE P z45 419 (vS z66 418),eE P z46 421 (vI 81 420),eE P z51 429 (vR 201),eE P z52 435 (vR 206),eE P z47 437 (vR 207)],oT [],oF [vI 83 0,vI 4 0,vR 200,vI 86 0,vI 4 0,vR 205],oB z66 412 z66 413 414 81 0 0 191 false 192 vN vN vN 415 81 416,oE 193 190 z38 294]++(oK z51 z67 (M 21 0) [z53,z54] 195 422 83 z38 294++([oT [],oF [],oG z52 z68 (M 21 1),oB z52 430 z68 431 432 86 5 3 202 true 203 vN vN (vR 204) 433 86 434,oH z52 z68 (M 21 1) z38 294 205,oT [vS z54 436],oD 2 fun P=>[eE P z44 417 (vS z38 294),eE P z46 421 (vI 81 420),eE P z51 429 (vR 201),eE P z52 435 (vR 206),eE P z47 437 (vR 207),eE P z5 438 vN],oL (some (vR 188)) z66 [vR 124] [vR 209,vR 124,vT y9] 208 [] 410 418 y10,oW y15 [vR 209,vR 209,vR 209],oW y6 [vU y16,vR 209]])))
noncomputable def t5 (P:Params):BT:=bt P 10 l5
noncomputable def e6 (P:Params):List DictEntry:=(e5 P).set 0 (eE P z3 165 (vS z69 477))++[eE P z70 476 (vR 235)]
noncomputable def f6:List Value:=f5++[vI 93 0,vI 0 0,vR 217]
noncomputable def l6:List (Params->Obj):=(((l5.set 3 (oD 30 e6)).set 12 (oF f6)).set 124 (oL none z42 [vT y9] [vR 124,vT y9] 123 [vR 152,vR 185,vR 209,vR 235] 308 316 y10))++([oT [vR 124],oW y6 [vU y7,vT y8],oD 6 fun P=>[eE P z44 448 (vS z38 294),eE P z45 450 (vS z70 449),eE P z46 452 (vI 93 451),eE P z51 460 (vR 225),eE P z52 471 (vR 232),eE P z47 473 (vR 233)],oT [],oF [vI 95 0,vI 4 0,vR 224,vI 98 0,vI 4 0,vR 231],oB z70 443 z70 444 445 93 0 0 215 false 216 vN vN vN 446 93 447,oE 217 214 z38 294]++(oK z51 z71 (M 22 0) [z53,z54] 219 453 95 z38 294++(oK z52 z72 (M 22 1) [z53,z29,z31,z32,z61] 226 461 98 z38 294++([oT [vS z54 472],oD 2 fun P=>[eE P z44 448 (vS z38 294),eE P z46 452 (vI 93 451),eE P z51 460 (vR 225),eE P z52 471 (vR 232),eE P z47 473 (vR 233),eE P z5 474 vN],oL (some (vR 212)) z70 [vR 124] [vR 235,vR 124,vT y9] 234 [] 441 449 y10,oW y15 [vR 235,vR 235,vR 235],oW y6 [vU y16,vR 235]]))))
noncomputable def t6 (P:Params):BT:=bt P 10 l6
noncomputable def e7 (P:Params):List DictEntry:=e6 P++[eE P z73 496 (vR 247),eE P z74 512 (vR 260)]
noncomputable def f7:List Value:=f6++[vI 105 0,vI 0 0,vR 243,vI 107 0,vI 0 0,vR 256]
noncomputable def l7:List (Params->Obj):=((l6.set 3 (oD 32 e7)).set 12 (oF f7))++([oT [vT y17],oW y6 [vU y7,vT y8],oD 4 fun P=>[eE P z44 486 (vS z69 477),eE P z45 488 (vS z73 487),eE P z46 490 (vI 105 489),eE P z47 491 (vR 245)],oT [],oF [],oB z73 481 z73 482 483 105 0 0 241 false 242 vN vN vN 484 105 485,oE 243 240 z69 477,oT [],oD 3 fun P=>[eE P z44 486 (vS z69 477),eE P z46 490 (vI 105 489),eE P z47 491 (vR 245),eE P z49 493 (vR 248),eE P z5 494 vN],oL (some (vR 238)) z73 [vT y17] [vR 247,vT y17,vT y18,vT y19,vT y9] 246 [vR 260] 479 487 y20,oW y11 [vS z49 492,vR 247,vU y14,vN],oW y15 [vR 247,vR 247,vR 247],oW y6 [vU y16,vR 247],oT [vR 247],oW y6 [vU y7,vT y8],oD 4 fun P=>[eE P z44 504 (vS z69 477),eE P z45 506 (vS z74 505),eE P z46 508 (vI 107 507),eE P z47 509 (vR 258)],oT [],oF [],oB z74 499 z74 500 501 107 0 0 254 false 255 vN vN vN 502 107 503,oE 256 253 z69 477,oT [],oD 2 fun P=>[eE P z44 504 (vS z69 477),eE P z46 508 (vI 107 507),eE P z47 509 (vR 258),eE P z5 510 vN],oL (some (vR 251)) z74 [vR 247] [vR 260,vR 247,vT y17,vT y18,vT y19,vT y9] 259 [] 497 505 y20,oW y15 [vR 260,vR 260,vR 260],oW y6 [vU y16,vR 260]])
noncomputable def t7 (P:Params):BT:=bt P 10 l7
noncomputable def e8 (P:Params):List DictEntry:=e7 P++[eE P z75 528 (vR 272)]
noncomputable def f8:List Value:=f7++[vI 109 0,vI 0 0,vR 268]
noncomputable def l8:List (Params->Obj):=(((l7.set 3 (oD 33 e8)).set 12 (oF f8)).set 247 (oL (some (vR 238)) z73 [vT y17] [vR 247,vT y17,vT y18,vT y19,vT y9] 246 [vR 260,vR 272] 479 487 y20))++([oT [vR 247],oW y6 [vU y7,vT y8],oD 4 fun P=>[eE P z44 520 (vS z69 477),eE P z45 522 (vS z75 521),eE P z46 524 (vI 109 523),eE P z47 525 (vR 270)],oT [],oF [],oB z75 515 z75 516 517 109 0 0 266 false 267 vN vN vN 518 109 519,oE 268 265 z69 477,oT [],oD 2 fun P=>[eE P z44 520 (vS z69 477),eE P z46 524 (vI 109 523),eE P z47 525 (vR 270),eE P z5 526 vN],oL (some (vR 263)) z75 [vR 247] [vR 272,vR 247,vT y17,vT y18,vT y19,vT y9] 271 [] 513 521 y20,oW y15 [vR 272,vR 272,vR 272],oW y6 [vU y16,vR 272]])
noncomputable def t8 (P:Params):BT:=bt P 10 l8
noncomputable def e9 (P:Params):List DictEntry:=e8 P++[eE P z76 544 (vR 284)]
noncomputable def f9:List Value:=f8++[vI 111 0,vI 0 0,vR 280]
noncomputable def l9:List (Params->Obj):=(((l8.set 3 (oD 34 e9)).set 12 (oF f9)).set 247 (oL (some (vR 238)) z73 [vT y17] [vR 247,vT y17,vT y18,vT y19,vT y9] 246 [vR 260,vR 272,vR 284] 479 487 y20))++([oT [vR 247],oW y6 [vU y7,vT y8],oD 4 fun P=>[eE P z44 536 (vS z69 477),eE P z45 538 (vS z76 537),eE P z46 540 (vI 111 539),eE P z47 541 (vR 282)],oT [],oF [],oB z76 531 z76 532 533 111 0 0 278 false 279 vN vN vN 534 111 535,oE 280 277 z69 477,oT [],oD 2 fun P=>[eE P z44 536 (vS z69 477),eE P z46 540 (vI 111 539),eE P z47 541 (vR 282),eE P z5 542 vN],oL (some (vR 275)) z76 [vR 247] [vR 284,vR 247,vT y17,vT y18,vT y19,vT y9] 283 [] 529 537 y20,oW y15 [vR 284,vR 284,vR 284],oW y6 [vU y16,vR 284]])
noncomputable def t9 (P:Params):BT:=bt P 10 l9
noncomputable def e10 (P:Params):List DictEntry:=e9 P++[eE P z77 560 (vR 296)]
noncomputable def f10:List Value:=f9++[vI 113 0,vI 0 0,vR 292]
noncomputable def l10:List (Params->Obj):=(((l9.set 3 (oD 35 e10)).set 12 (oF f10)).set 247 (oL (some (vR 238)) z73 [vT y17] [vR 247,vT y17,vT y18,vT y19,vT y9] 246 [vR 260,vR 272,vR 284,vR 296] 479 487 y20))++([oT [vR 247],oW y6 [vU y7,vT y8],oD 4 fun P=>[eE P z44 552 (vS z69 477),eE P z45 554 (vS z77 553),eE P z46 556 (vI 113 555),eE P z47 557 (vR 294)],oT [],oF [],oB z77 547 z77 548 549 113 0 0 290 false 291 vN vN vN 550 113 551,oE 292 289 z69 477,oT [],oD 2 fun P=>[eE P z44 552 (vS z69 477),eE P z46 556 (vI 113 555),eE P z47 557 (vR 294),eE P z5 558 vN],oL (some (vR 287)) z77 [vR 247] [vR 296,vR 247,vT y17,vT y18,vT y19,vT y9] 295 [] 545 553 y20,oW y15 [vR 296,vR 296,vR 296],oW y6 [vU y16,vR 296]])
noncomputable def t10 (P:Params):BT:=bt P 10 l10
noncomputable def e11 (P:Params):List DictEntry:=e10 P++[eE P z78 576 (vR 308)]
noncomputable def f11:List Value:=f10++[vI 115 0,vI 0 0,vR 304]
noncomputable def l11:List (Params->Obj):=(((l10.set 3 (oD 36 e11)).set 12 (oF f11)).set 247 (oL (some (vR 238)) z73 [vT y17] [vR 247,vT y17,vT y18,vT y19,vT y9] 246 [vR 260,vR 272,vR 284,vR 296,vR 308] 479 487 y20))++([oT [vR 247],oW y6 [vU y7,vT y8],oD 4 fun P=>[eE P z44 568 (vS z69 477),eE P z45 570 (vS z78 569),eE P z46 572 (vI 115 571),eE P z47 573 (vR 306)],oT [],oF [],oB z78 563 z78 564 565 115 0 0 302 false 303 vN vN vN 566 115 567,oE 304 301 z69 477,oT [],oD 2 fun P=>[eE P z44 568 (vS z69 477),eE P z46 572 (vI 115 571),eE P z47 573 (vR 306),eE P z5 574 vN],oL (some (vR 299)) z78 [vR 247] [vR 308,vR 247,vT y17,vT y18,vT y19,vT y9] 307 [] 561 569 y20,oW y15 [vR 308,vR 308,vR 308],oW y6 [vU y16,vR 308]])
noncomputable def t11 (P:Params):BT:=bt P 10 l11
noncomputable def e12 (P:Params):List DictEntry:=(e11 P).set 0 (eE P z3 165 (vS z79 593))++[eE P z80 592 (vR 320),eE P z81 604 (vR 329),eE P z82 610 (vR 334),eE P z83 624 (vR 341),eE P z84 631 (vR 348),eE P z85 638 (vR 355),eE P z86 644 (vR 360)]
noncomputable def f12:List Value:=f11++[vI 117 0,vI 0 0,vR 316,vI 120 0,vI 0 0,vR 328,vI 126 0,vI 0 0,vR 333,vI 128 0,vI 0 0,vR 340,vI 142 0,vI 0 0,vR 347,vI 144 0,vI 0 0,vR 354,vI 146 0,vI 0 0,vR 359]
noncomputable def l12:List (Params->Obj):=(((l11.set 3 (oD 43 e12)).set 12 (oF f12)).set 247 (oL (some (vR 238)) z73 [vT y17] [vR 247,vT y17,vT y18,vT y19,vT y9] 246 [vR 260,vR 272,vR 284,vR 296,vR 308,vR 320] 479 487 y20))++([oT [vR 247],oW y6 [vU y7,vT y8],oD 4 fun P=>[eE P z44 584 (vS z69 477),eE P z45 586 (vS z80 585),eE P z46 588 (vI 117 587),eE P z47 589 (vR 318)],oT [],oF [],oB z80 579 z80 580 581 117 0 0 314 false 315 vN vN vN 582 117 583,oE 316 313 z69 477,oT [],oD 2 fun P=>[eE P z44 584 (vS z69 477),eE P z46 588 (vI 117 587),eE P z47 589 (vR 318),eE P z5 590 vN],oL (some (vR 311)) z80 [vR 247] [vR 320,vR 247,vT y17,vT y18,vT y19,vT y9] 319 [] 577 585 y20,oW y15 [vR 320,vR 320,vR 320],oW y6 [vU y16,vR 320],oT [],oF [],oT [vS z29 598,vS z34 599,vS z36 600,vS z87 601],oT [],oG z81 z81 (U 32),oC z81 595 z81 596 597 120 1 3 323 true 324 325 326 327 602 120 603,oH z81 z81 (U 32) z79 593 328,oT [],oF [],oG z82 z82 (U 33),oB z82 605 z82 606 607 126 2 3 330 true 331 vN vN (vR 332) 608 126 609,oH z82 z82 (U 33) z79 593 333,oT [],oF [],oT [vS z34 614,vS z33 615,vS z88 616,vS z89 617,vS z90 618,vS z36 619,vS z54 620,vS z37 621],oT [],oG z83 z83 (U 34),oC z83 611 z83 612 613 128 3 3 335 true 336 337 338 339 622 128 623,oH z83 z83 (U 34) z79 593 340]++(oK z84 z84 (U 35) [z37] 342 625 142 z79 593++(oK z85 z85 (U 36) [z43] 349 632 144 z79 593++([oT [],oF [],oG z86 z86 (U 37),oB z86 639 z86 640 641 146 2 3 356 true 357 vN vN (vR 358) 642 146 643,oH z86 z86 (U 37) z79 593 359]))))
noncomputable def t12 (P:Params):BT:=bt P 10 l12
noncomputable def e13 (P:Params):List DictEntry:=(e12 P).set 0 (eE P z3 165 (vS z91 688))++[eE P z92 650 (vR 365),eE P z93 663 (vR 372),eE P z94 676 (vR 379),eE P z95 687 (vR 386),eE P z96 691 (vI 8 690),eE P z97 693 (vI 14 692),eE P z98 701 (vR 393)]
noncomputable def f13:List Value:=f12++[vI 148 0,vI 0 0,vR 364,vI 152 0,vI 0 0,vR 371,vI 160 0,vI 0 0,vR 378,vI 169 0,vI 0 0,vR 385,vI 177 0,vI 0 0,vR 392]
noncomputable def l13:List (Params->Obj):=((l12.set 3 (oD 50 e13)).set 12 (oF f13))++([oT [],oF [],oG z92 z92 (U 38),oB z92 645 z92 646 647 148 2 3 361 true 362 vN vN (vR 363) 648 148 649,oH z92 z92 (U 38) z79 593 364,oT [],oF [],oT [vS z34 654,vS z33 655,vS z99 656,vS z61 657,vS z100 658,vS z101 659,vS z43 660],oT [],oG z93 z93 (U 39),oC z93 651 z93 652 653 152 4 3 366 true 367 368 369 370 661 152 662,oH z93 z93 (U 39) z79 593 371,oT [],oF [],oT [vS z34 667,vS z33 668,vS z99 669,vS z61 670,vS z102 671,vS z89 672,vS z43 673],oT [],oG z94 z94 (U 40),oC z94 664 z94 665 666 160 4 3 373 true 374 375 376 377 674 160 675,oH z94 z94 (U 40) z79 593 378,oT [],oF [],oT [vS z34 680,vS z89 681,vS z33 682,vS z100 683,vS z43 684],oT [],oG z95 z95 (U 41),oC z95 677 z95 678 679 169 3 3 380 true 381 382 383 384 685 169 686,oH z95 z95 (U 41) z79 593 385]++(oK z98 z98 (U 45) [z27,z54] 387 694 177 z91 688))
noncomputable def t13 (P:Params):BT:=bt P 10 l13
noncomputable def e14 (P:Params):List DictEntry:=(e13 P).set 0 (eE P z3 165 (vS i8 737))++[eE P z104 736 (vR 415),eE P z105 740 (vI 8 739),eE P z106 749 (vR 426),eE P z107 758 (vR 433),eE P z108 767 (vR 440),eE P z109 775 (vR 447)]
noncomputable def f14:List Value:=f13++[vI 181 0,vI 0 0,vR 399,vI 197 0,vI 0 0,vR 425,vI 199 0,vI 0 0,vR 432,vI 202 0,vI 0 0,vR 439,vI 205 0,vI 0 0,vR 446]
noncomputable def l14:List (Params->Obj):=((l13.set 3 (oD 56 e14)).set 12 (oF f14))++([oT [],oW y6 [vU y7,vT y8],oD 6 fun P=>[eE P z44 709 (vS z91 688),eE P z45 711 (vS z104 710),eE P z46 713 (vI 181 712),eE P z51 719 (vR 405),eE P z110 726 (vR 412),eE P z47 729 (vR 413)],oT [],oF [vI 183 0,vI 4 0,vR 404,vI 193 0,vI 4 0,vR 411],oB z104 704 z104 705 706 181 0 0 397 false 398 vN vN vN 707 181 708,oE 399 396 z91 688,oT [],oF [],oG z51 z111 (M 46 0),oB z51 714 z111 715 716 183 3 3 401 true 402 vN vN (vR 403) 717 183 718,oH z51 z111 (M 46 0) z91 688 404]++(oK z110 z112 (M 46 1) [z53] 406 720 193 z91 688++([oT [vS z113 727,vS z54 728],oD 4 fun P=>[eE P z44 709 (vS z91 688),eE P z46 713 (vI 181 712),eE P z51 719 (vR 405),eE P z110 726 (vR 412),eE P z47 729 (vR 413),eE P z48 731 (vR 416),eE P z49 733 (vR 417),eE P z5 734 vN],oL none z104 [vT y9] [vR 415,vT y9] 414 [] 702 710 y10,oW y11 [vS z48 730,vR 415,vU y12,vU y13],oW y11 [vS z49 732,vR 415,vU y14,vN],oW y15 [vR 415,vR 415,vR 415],oW y6 [vU y16,vR 415]]++(oK z106 z106 (U 49) [z29,z31,z32] 420 741 197 i8 737++(oK z107 z107 (U 50) [z29,z31,z32] 427 750 199 i8 737++(oK z108 z108 (U 51) [z29,z31,z32] 434 759 202 i8 737++(oK z109 z109 (U 52) [z61,z114] 441 768 205 i8 737)))))))
noncomputable def t14 (P:Params):BT:=bt P 10 l14
noncomputable def e15 (P:Params):List DictEntry:=(e14 P).set 0 (eE P z3 165 (vS fk 800))++[eE P z116 781 (vR 452),eE P z117 787 (vR 457),eE P z118 793 (vR 462),eE P z59 799 (vR 467),eE P z119 809 (vR 474),eE P z120 819 (vR 481),eE P z121 835 (vR 488),eE P z122 841 (vR 493),eE P z123 851 (vR 500),eE P z124 857 (vR 505),eE P z125 865 (vR 512),eE P z126 873 (vR 519),eE P z127 886 (vR 526)]
noncomputable def f15:List Value:=f14++[vI 208 0,vI 0 0,vR 451,vI 213 0,vI 0 0,vR 456,vI 216 0,vI 0 0,vR 461,vI 218 0,vI 0 0,vR 466,vI 229 0,vI 0 0,vR 473,vI 233 0,vI 0 0,vR 480,vI 236 0,vI 0 0,vR 487,vI 258 0,vI 0 0,vR 492,vI 260 0,vI 0 0,vR 499,vI 269 0,vI 0 0,vR 504,vI 284 0,vI 0 0,vR 511,vI 286 0,vI 0 0,vR 518,vI 290 0,vI 0 0,vR 525]
noncomputable def l15:List (Params->Obj):=((l14.set 3 (oD 69 e15)).set 12 (oF f15))++([oT [],oF [],oG z116 z116 (U 53),oB z116 776 z116 777 778 208 1 3 448 true 449 vN vN (vR 450) 779 208 780,oH z116 z116 (U 53) i8 737 451,oT [],oF [],oG z117 z117 (U 54),oB z117 782 z117 783 784 213 1 3 453 true 454 vN vN (vR 455) 785 213 786,oH z117 z117 (U 54) i8 737 456,oT [],oF [],oG z118 z118 (U 55),oB z118 788 z118 789 790 216 2 3 458 true 459 vN vN (vR 460) 791 216 792,oH z118 z118 (U 55) i8 737 461,oT [],oF [],oG z59 z59 (U 56),oB z59 794 z59 795 796 218 4 3 463 true 464 vN vN (vR 465) 797 218 798,oH z59 z59 (U 56) i8 737 466]++(oK z119 z119 (U 58) [z128,z129] 468 802 229 fk 800++([oT [],oF [],oT [vS z130 813,vS z129 814,vS z131 815,vS z132 816],oT [],oG z120 z120 (U 59),oC z120 810 z120 811 812 233 3 3 475 true 476 477 478 479 817 233 818,oH z120 z120 (U 59) fk 800 480,oT [],oF [],oT [vS z130 823,vS z133 824,vS z134 825,vS z135 826,vS z136 827,vS z137 828,vS z129 829,vS z138 830,vS z139 831,vS z140 832],oT [],oG z121 z121 (U 60),oC z121 820 z121 821 822 236 2 3 482 true 483 484 485 486 833 236 834,oH z121 z121 (U 60) fk 800 487,oT [],oF [],oG z122 z122 (U 61),oB z122 836 z122 837 838 258 2 3 489 true 490 vN vN (vR 491) 839 258 840,oH z122 z122 (U 61) fk 800 492,oT [],oF [],oT [vS z141 845,vS z134 846,vS z142 847,vS z143 848],oT [],oG z123 z123 (U 62),oC z123 842 z123 843 844 260 2 3 494 true 495 496 497 498 849 260 850,oH z123 z123 (U 62) fk 800 499,oT [],oF [],oG z124 z124 (U 63),oB z124 852 z124 853 854 269 2 3 501 true 502 vN vN (vR 503) 855 269 856,oH z124 z124 (U 63) fk 800 504]++(oK z125 z125 (U 64) [z144,z145] 506 858 284 fk 800++(oK z126 z126 (U 65) [z144,z145] 513 866 286 fk 800++([oT [],oF [],oT [vS z144 877,vS z138 878,vS z139 879,vS z131 880,vS z146 881,vS z147 882,vS z148 883],oT [],oG z127 z127 (U 66),oC z127 874 z127 875 876 290 5 3 520 true 521 522 523 524 884 290 885,oH z127 z127 (U 66) fk 800 525]))))))
noncomputable def t15 (P:Params):BT:=bt P 10 l15
noncomputable def e16 (P:Params):List DictEntry:=e15 P++[eE P z149 902 (vR 533),eE P z150 916 (vR 540),eE P z151 928 (vR 547),eE P z152 934 (vR 552)]
noncomputable def f16:List Value:=f15++[vI 299 0,vI 0 0,vR 532,vI 309 0,vI 0 0,vR 539,vI 330 0,vI 0 0,vR 546,vI 338 0,vI 0 0,vR 551]
noncomputable def l16:List (Params->Obj):=((l15.set 3 (oD 73 e16)).set 12 (oF f16))++([oT [],oF [],oT [vS z144 890,vS z138 891,vS z139 892,vS z131 893,vS z141 894,vS z153 895,vS z137 896,vS z154 897,vS z155 898,vS z156 899],oT [],oG z149 z149 (U 67),oC z149 887 z149 888 889 299 5 3 527 true 528 529 530 531 900 299 901,oH z149 z149 (U 67) fk 800 532,oT [],oF [],oT [vS z144 906,vS z157 907,vS z138 908,vS z139 909,vS z131 910,vS z146 911,vS z158 912,vS z159 913],oT [],oG z150 z150 (U 68),oC z150 903 z150 904 905 309 5 3 534 true 535 536 537 538 914 309 915,oH z150 z150 (U 68) fk 800 539,oT [],oF [],oT [vS z157 920,vS z138 921,vS z139 922,vS z131 923,vS z160 924,vS z161 925],oT [],oG z151 z151 (U 69),oC z151 917 z151 918 919 330 4 3 541 true 542 543 544 545 926 330 927,oH z151 z151 (U 69) fk 800 546,oT [],oF [],oG z152 z152 (U 70),oB z152 929 z152 930 931 338 1 3 548 true 549 vN vN (vR 550) 932 338 933,oH z152 z152 (U 70) fk 800 551])
noncomputable def t16 (P:Params):BT:=bt P 10 l16
noncomputable abbrev BB:List Stmt:=behindTheImports Pf
noncomputable abbrev EE:Env:={ scope:=Pf.main.scope,locals:=mainNs,globals:=mainNs,cells:=[],code:=.ref 13,frame:=some 14 }
theorem pc {tb:String->Option Builtin} {p:Program} {w:World} {xm:Nat} {ann:Option Value} {env:Env} {q:Pos} {n N k m:Nat} {s s':SharedT} {r:Shared} {b:List Stmt} {c:Code} {pos p':Pos}
  (h:segRunT tb p w xm ann 1 n s (piecesOf ((b.drop k).take m) env c pos [topFrame q])=some (.next,s',c,p')) (K:topRun tb p w xm ann N s'.abs (restOf (b.drop (k+m)) env c p' [topFrame q])=some r) :
  topRun tb p w xm ann (n+N) s.abs (restOf (b.drop k) env c pos [topFrame q])=some r:=by
 have h2:=piece_app (rest:=b.drop (k+m)) (segRun_of h) K;rwa [<-List.drop_drop,List.take_append_drop] at h2
noncomputable def Ha (P:Params):Heap:=⟨⟨l0.map (· P)⟩,{}⟩
noncomputable def H1 (P:Params):Heap:=⟨⟨l16.map (· P)⟩,{}⟩
theorem pre (w:World) (os:OsState):topGo treeTable Pf w 11 (some (.ref 6)) 12 ⟨boot_heap w.params,⟨[]⟩,boot_drawn,boot_toks,os⟩ (topStub Pf)=some (⟨Ha w.params,⟨[]⟩,{},187,os⟩,⟨denote treeTable (.body BB EE),.body BB EE,⟨0,0,0,0⟩,[topFrame ⟨0,0,0,0⟩]⟩):=by
 rw [Fast.te15667345088766844465,Fast.te11892475500146522536,zZ];kernel_rfl
theorem blk (w:World) (os:OsState):segRun treeTable Pf w 11 (some (.ref 6)) 1 1 ⟨Ha w.params,⟨[]⟩,{},187,os⟩ (blockOf BB EE (.body BB EE) ⟨0,0,0,0⟩ [topFrame ⟨0,0,0,0⟩])=some (.next,SharedT.abs ⟨t0 w.params,15,{},⟨[]⟩,{},187,os⟩,.body BB EE,⟨0,0,0,0⟩):=by
 rw [Fast.te14374325043358763698,zZ];kernel_rfl
abbrev Sx (i:BT) (n k:Nat) (os:OsState):SharedT:=⟨i,n,{},⟨[]⟩,{},k,os⟩
abbrev QQ (w:World) (n:Nat) (a:SharedT) (k m:Nat) (p:Pos) (b:SharedT) (q:Pos):Prop:=segRunT treeTable Pf w 11 (some (.ref 6)) 1 n a (piecesOf ((BB.drop k).take m) EE (.body BB EE) p [topFrame ⟨0,0,0,0⟩])=some (.next,b,.body BB EE,q)
theorem q0 (w:World) (os:OsState):QQ w 385 (Sx (t0 w.params) 15 187 os) 0 14 ⟨0,0,0,0⟩ (Sx (t1 w.params) 98 286 os) ⟨35,0,45,104⟩:=by
 unfold QQ;rw [zY,zZ];kernel_rfl
theorem q1 (w:World) (os:OsState):QQ w 282 (Sx (t1 w.params) 98 286 os) 14 5 ⟨35,0,45,104⟩ (Sx (t2 w.params) 129 328 os) ⟨55,0,56,8⟩:=by
 unfold QQ;rw [zY,zZ];kernel_rfl
theorem q2 (w:World) (os:OsState):QQ w 278 (Sx (t2 w.params) 129 328 os) 19 1 ⟨55,0,56,8⟩ (Sx (t3 w.params) 155 361 os) ⟨57,0,65,57⟩:=by
 unfold QQ;rw [zY,zZ];kernel_rfl
theorem q3 (w:World) (os:OsState):QQ w 318 (Sx (t3 w.params) 155 361 os) 20 1 ⟨57,0,65,57⟩ (Sx (t4 w.params) 188 410 os) ⟨66,0,80,16⟩:=by
 unfold QQ;rw [zY,zZ];kernel_rfl
theorem q4 (w:World) (os:OsState):QQ w 274 (Sx (t4 w.params) 188 410 os) 21 1 ⟨66,0,80,16⟩ (Sx (t5 w.params) 212 441 os) ⟨81,0,92,64⟩:=by
 unfold QQ;rw [zY,zZ];kernel_rfl
theorem q5 (w:World) (os:OsState):QQ w 290 (Sx (t5 w.params) 212 441 os) 22 2 ⟨81,0,92,64⟩ (Sx (t6 w.params) 238 479 os) ⟨104,0,104,8⟩:=by
 unfold QQ;rw [zY,zZ];kernel_rfl
theorem q6 (w:World) (os:OsState):QQ w 400 (Sx (t6 w.params) 238 479 os) 24 2 ⟨104,0,104,8⟩ (Sx (t7 w.params) 263 513 os) ⟨107,0,108,8⟩:=by
 unfold QQ;rw [zY,zZ];kernel_rfl
theorem q7 (w:World) (os:OsState):QQ w 214 (Sx (t7 w.params) 263 513 os) 26 1 ⟨107,0,108,8⟩ (Sx (t8 w.params) 275 529 os) ⟨109,0,110,8⟩:=by
 unfold QQ;rw [zY,zZ];kernel_rfl
theorem q8 (w:World) (os:OsState):QQ w 214 (Sx (t8 w.params) 275 529 os) 27 1 ⟨109,0,110,8⟩ (Sx (t9 w.params) 287 545 os) ⟨111,0,112,8⟩:=by
 unfold QQ;rw [zY,zZ];kernel_rfl
theorem q9 (w:World) (os:OsState):QQ w 214 (Sx (t9 w.params) 287 545 os) 28 1 ⟨111,0,112,8⟩ (Sx (t10 w.params) 299 561 os) ⟨113,0,114,8⟩:=by
 unfold QQ;rw [zY,zZ];kernel_rfl
theorem q10 (w:World) (os:OsState):QQ w 214 (Sx (t10 w.params) 299 561 os) 29 1 ⟨113,0,114,8⟩ (Sx (t11 w.params) 311 577 os) ⟨115,0,116,8⟩:=by
 unfold QQ;rw [zY,zZ];kernel_rfl
theorem q11 (w:World) (os:OsState):QQ w 401 (Sx (t11 w.params) 311 577 os) 30 8 ⟨115,0,116,8⟩ (Sx (t12 w.params) 361 645 os) ⟨146,0,147,94⟩:=by
 unfold QQ;rw [zY,zZ];kernel_rfl
theorem q12 (w:World) (os:OsState):QQ w 187 (Sx (t12 w.params) 361 645 os) 38 8 ⟨146,0,147,94⟩ (Sx (t13 w.params) 394 702 os) ⟨177,0,180,94⟩:=by
 unfold QQ;rw [zY,zZ];kernel_rfl
theorem q13 (w:World) (os:OsState):QQ w 392 (Sx (t13 w.params) 394 702 os) 46 7 ⟨177,0,180,94⟩ (Sx (t14 w.params) 448 776 os) ⟨205,0,207,56⟩:=by
 unfold QQ;rw [zY,zZ];kernel_rfl
theorem q14 (w:World) (os:OsState):QQ w 393 (Sx (t14 w.params) 448 776 os) 53 14 ⟨205,0,207,56⟩ (Sx (t15 w.params) 527 887 os) ⟨290,0,298,50⟩:=by
 unfold QQ;rw [zY,zZ];kernel_rfl
theorem q15 (w:World) (os:OsState):QQ w 135 (Sx (t15 w.params) 527 887 os) 67 4 ⟨290,0,298,50⟩ (Sx (t16 w.params) 553 935 os) ⟨338,0,358,47⟩:=by
 unfold QQ;rw [zY,zZ];kernel_rfl
theorem fin (w:World) (os:OsState):topRun treeTable Pf w 11 (some (.ref 6)) 2 (SharedT.abs ⟨t16 w.params,553,{},⟨[]⟩,{},935,os⟩) ⟨doneF .next,.body BB EE,⟨338,0,358,47⟩,[topFrame ⟨0,0,0,0⟩]⟩=some ⟨H1 w.params,⟨[]⟩,{},935,os⟩:=by
 rw [Fast.te14082659384304107361,zZ];kernel_rfl
theorem nil0:BB.drop 71=[]:=by kernel_rfl
theorem fin1 (w:World) (os:OsState):topRun treeTable Pf w 11 (some (.ref 6)) 2 (SharedT.abs ⟨t16 w.params,553,{},⟨[]⟩,{},935,os⟩) (restOf (BB.drop 71) EE (.body BB EE) ⟨338,0,358,47⟩ [topFrame ⟨0,0,0,0⟩])=some ⟨H1 w.params,⟨[]⟩,{},935,os⟩:=by
 rw [nil0];exact piece_nil (fin w os)
theorem run (w:World) (os:OsState):topRun treeTable Pf w 11 (some (.ref 6)) (12+(1+(385+(282+(278+(318+(274+(290+(400+(214+(214+(214+(214+(401+(187+(392+(393+(135+(2))))))))))))))))))) ⟨boot_heap w.params,⟨[]⟩,boot_drawn,boot_toks,os⟩ (topStub Pf)=some ⟨H1 w.params,⟨[]⟩,{},935,os⟩:=
 go_top (pre w os) (piece_block (blk w os) (pc (q0 w os) (pc (q1 w os) (pc (q2 w os) (pc (q3 w os) (pc (q4 w os) (pc (q5 w os) (pc (q6 w os) (pc (q7 w os) (pc (q8 w os) (pc (q9 w os) (pc (q10 w os) (pc (q11 w os) (pc (q12 w os) (pc (q13 w os) (pc (q14 w os) (pc (q15 w os) (fin1 w os))))))))))))))))))
noncomputable def kp:List Nat:=[0,2,3,4,5,6,7,8,9,10,11,12,13,14,16,17,18,19,20,21,22,24,25,26,27,28,29,30,32,33,34,35,36,37,38,39,40,41,43,44,45,46,48,49,50,51,52,53,54,55,56,58,59,60,61,62,63,64,65,66,67,68,69,70]
noncomputable def qv (p:Program):Program:={ p with main:={ p.main with body:=kp.filterMap fun i=>p.main.body[i]? } }
noncomputable abbrev QF:Program:=qv Pf
noncomputable def g (a:Nat) (P:Params):Obj:=(l16.getD a boot_o_0) P
noncomputable def KK:Params->Frag:=fun P=>(nat_lit 2,g 2 P)::(nat_lit 3,g 3 P)::(nat_lit 20,g 20 P)::(nat_lit 21,oH z13 z13 (U 0) z2 164 20 P)::(nat_lit 27,g 27 P)::(nat_lit 28,oH z14 z14 (U 2) z4 194 27 P)::(nat_lit 34,g 34 P)::(nat_lit 35,oH z15 z15 (U 3) z4 194 34 P)::(nat_lit 41,g 41 P)::(nat_lit 42,oH z16 z16 (U 4) z4 194 41 P)::(nat_lit 48,g 48 P)::(nat_lit 49,oH z17 z17 (U 5) z4 194 48 P)::(nat_lit 55,g 55 P)::(nat_lit 56,oH z18 z18 (U 6) z4 194 55 P)::(nat_lit 60,g 60 P)::(nat_lit 61,oH z19 z19 (U 7) z4 194 60 P)::(nat_lit 67,g 67 P)::(nat_lit 68,oH z20 z20 (U 8) z4 194 67 P)::(nat_lit 74,g 74 P)::(nat_lit 75,oH z21 z21 (U 9) z4 194 74 P)::(nat_lit 79,g 79 P)::(nat_lit 80,oH z22 z22 (U 10) z4 194 79 P)::(nat_lit 84,g 84 P)::(nat_lit 85,oH z23 z23 (U 11) z4 194 84 P)::(nat_lit 91,g 91 P)::(nat_lit 92,oH z24 z24 (U 12) z4 194 91 P)::(nat_lit 96,g 96 P)::(nat_lit 97,oH z25 z25 (U 13) z4 194 96 P)::(nat_lit 103,g 103 P)::(nat_lit 104,oH z39 z39 (U 14) z4 194 103 P)::(nat_lit 108,g 108 P)::(nat_lit 109,oH z40 z40 (U 16) z38 294 108 P)::(nat_lit 113,g 113 P)::(nat_lit 114,oH z41 z41 (U 17) z38 294 113 P)::(nat_lit 123,g 123 P)::(nat_lit 124,oL none z42 [vT y9] [vR 124,vT y9] 123 [vR 152,vR 185,vR 209,vR 235] 308 316 y10 P)::(nat_lit 141,g 141 P)::(nat_lit 142,oH z51 z55 (M 19 0) z38 294 141 P)::(nat_lit 148,g 148 P)::(nat_lit 149,oH z52 z56 (M 19 1) z38 294 148 P)::(nat_lit 151,g 151 P)::(nat_lit 152,oL (some (vR 129)) z50 [vR 124] [vR 152,vR 124,vT y9] 151 [] 328 336 y10 P)::(nat_lit 167,g 167 P)::(nat_lit 168,oH z51 z60 (M 20 0) z38 294 167 P)::(nat_lit 174,g 174 P)::(nat_lit 175,oH z52 z64 (M 20 1) z38 294 174 P)::(nat_lit 181,g 181 P)::(nat_lit 182,oH z58 z65 (M 20 2) z38 294 181 P)::(nat_lit 184,g 184 P)::(nat_lit 185,oL (some (vR 155)) z57 [vR 124] [vR 185,vR 124,vT y9] 184 [] 361 369 y10 P)::(nat_lit 200,g 200 P)::(nat_lit 201,oH z51 z67 (M 21 0) z38 294 200 P)::(nat_lit 205,g 205 P)::(nat_lit 206,oH z52 z68 (M 21 1) z38 294 205 P)::(nat_lit 208,g 208 P)::(nat_lit 209,oL (some (vR 188)) z66 [vR 124] [vR 209,vR 124,vT y9] 208 [] 410 418 y10 P)::(nat_lit 224,g 224 P)::(nat_lit 225,oH z51 z71 (M 22 0) z38 294 224 P)::(nat_lit 231,g 231 P)::(nat_lit 232,oH z52 z72 (M 22 1) z38 294 231 P)::(nat_lit 234,g 234 P)::(nat_lit 235,oL (some (vR 212)) z70 [vR 124] [vR 235,vR 124,vT y9] 234 [] 441 449 y10 P)::(nat_lit 246,g 246 P)::(nat_lit 247,oL (some (vR 238)) z73 [vT y17] [vR 247,vT y17,vT y18,vT y19,vT y9] 246 [vR 260,vR 272,vR 284,vR 296,vR 308,vR 320] 479 487 y20 P)::(nat_lit 259,g 259 P)::(nat_lit 260,oL (some (vR 251)) z74 [vR 247] [vR 260,vR 247,vT y17,vT y18,vT y19,vT y9] 259 [] 497 505 y20 P)::(nat_lit 271,g 271 P)::(nat_lit 272,oL (some (vR 263)) z75 [vR 247] [vR 272,vR 247,vT y17,vT y18,vT y19,vT y9] 271 [] 513 521 y20 P)::(nat_lit 283,g 283 P)::(nat_lit 284,oL (some (vR 275)) z76 [vR 247] [vR 284,vR 247,vT y17,vT y18,vT y19,vT y9] 283 [] 529 537 y20 P)::(nat_lit 295,g 295 P)::(nat_lit 296,oL (some (vR 287)) z77 [vR 247] [vR 296,vR 247,vT y17,vT y18,vT y19,vT y9] 295 [] 545 553 y20 P)::(nat_lit 307,g 307 P)::(nat_lit 308,oL (some (vR 299)) z78 [vR 247] [vR 308,vR 247,vT y17,vT y18,vT y19,vT y9] 307 [] 561 569 y20 P)::(nat_lit 319,g 319 P)::(nat_lit 320,oL (some (vR 311)) z80 [vR 247] [vR 320,vR 247,vT y17,vT y18,vT y19,vT y9] 319 [] 577 585 y20 P)::(nat_lit 328,g 328 P)::(nat_lit 329,oH z81 z81 (U 32) z79 593 328 P)::(nat_lit 333,g 333 P)::(nat_lit 334,oH z82 z82 (U 33) z79 593 333 P)::(nat_lit 340,g 340 P)::(nat_lit 341,oH z83 z83 (U 34) z79 593 340 P)::(nat_lit 347,g 347 P)::(nat_lit 348,oH z84 z84 (U 35) z79 593 347 P)::(nat_lit 354,g 354 P)::(nat_lit 355,oH z85 z85 (U 36) z79 593 354 P)::(nat_lit 359,g 359 P)::(nat_lit 360,oH z86 z86 (U 37) z79 593 359 P)::(nat_lit 364,g 364 P)::(nat_lit 365,oH z92 z92 (U 38) z79 593 364 P)::(nat_lit 371,g 371 P)::(nat_lit 372,oH z93 z93 (U 39) z79 593 371 P)::(nat_lit 378,g 378 P)::(nat_lit 379,oH z94 z94 (U 40) z79 593 378 P)::(nat_lit 385,g 385 P)::(nat_lit 386,oH z95 z95 (U 41) z79 593 385 P)::(nat_lit 392,g 392 P)::(nat_lit 393,oH z98 z98 (U 45) z91 688 392 P)::(nat_lit 404,g 404 P)::(nat_lit 405,oH z51 z111 (M 46 0) z91 688 404 P)::(nat_lit 411,g 411 P)::(nat_lit 412,oH z110 z112 (M 46 1) z91 688 411 P)::(nat_lit 414,g 414 P)::(nat_lit 415,oL none z104 [vT y9] [vR 415,vT y9] 414 [] 702 710 y10 P)::(nat_lit 425,g 425 P)::(nat_lit 426,oH z106 z106 (U 49) i8 737 425 P)::(nat_lit 432,g 432 P)::(nat_lit 433,oH z107 z107 (U 50) i8 737 432 P)::(nat_lit 439,g 439 P)::(nat_lit 440,oH z108 z108 (U 51) i8 737 439 P)::(nat_lit 446,g 446 P)::(nat_lit 447,oH z109 z109 (U 52) i8 737 446 P)::(nat_lit 451,g 451 P)::(nat_lit 452,oH z116 z116 (U 53) i8 737 451 P)::(nat_lit 456,g 456 P)::(nat_lit 457,oH z117 z117 (U 54) i8 737 456 P)::(nat_lit 461,g 461 P)::(nat_lit 462,oH z118 z118 (U 55) i8 737 461 P)::(nat_lit 466,g 466 P)::(nat_lit 467,oH z59 z59 (U 56) i8 737 466 P)::(nat_lit 473,g 473 P)::(nat_lit 474,oH z119 z119 (U 58) fk 800 473 P)::(nat_lit 480,g 480 P)::(nat_lit 481,oH z120 z120 (U 59) fk 800 480 P)::(nat_lit 487,g 487 P)::(nat_lit 488,oH z121 z121 (U 60) fk 800 487 P)::(nat_lit 499,g 499 P)::(nat_lit 500,oH z123 z123 (U 62) fk 800 499 P)::(nat_lit 504,g 504 P)::(nat_lit 505,oH z124 z124 (U 63) fk 800 504 P)::(nat_lit 511,g 511 P)::(nat_lit 512,oH z125 z125 (U 64) fk 800 511 P)::(nat_lit 525,g 525 P)::(nat_lit 526,oH z127 z127 (U 66) fk 800 525 P)::(nat_lit 532,g 532 P)::(nat_lit 533,oH z149 z149 (U 67) fk 800 532 P)::(nat_lit 539,g 539 P)::(nat_lit 540,oH z150 z150 (U 68) fk 800 539 P)::(nat_lit 546,g 546 P)::(nat_lit 547,oH z151 z151 (U 69) fk 800 546 P)::(nat_lit 551,g 551 P)::(nat_lit 552,oH z152 z152 (U 70) fk 800 551 P)::[]
noncomputable def ads:List Addr:=[2,3,20,21,27,28,34,35,41,42,48,49,55,56,60,61,67,68,74,75,79,80,84,85,91,92,96,97,103,104,108,109,113,114,123,124,141,142,148,149,151,152,167,168,174,175,181,182,184,185,200,201,205,206,208,209,224,225,231,232,234,235,246,247,259,260,271,272,283,284,295,296,307,308,319,320,328,329,333,334,340,341,347,348,354,355,359,360,364,365,371,372,378,379,385,386,392,393,404,405,411,412,414,415,425,426,432,433,439,440,446,447,451,452,456,457,461,462,466,467,473,474,480,481,487,488,499,500,504,505,511,512,525,526,532,533,539,540,546,547,551,552]
theorem adsE:∀ P,ads=(KK P).map (·.1):=fun P=>by kernel_rfl
noncomputable abbrev Hk:Hook:=kHook KK ads adsE
theorem k1 (w:World) (os:OsState):(staticsOk (importedModules Pf.main.body) (boot_heap w.params) (H1 w.params)&&namesBound Pf (H1 w.params)&&gensDone ⟨H1 w.params,⟨[]⟩,{},935,os⟩&&laidKept (boot_heap w.params) (H1 w.params))=true:=by
 rw [Fast.te5923862056798008813];kernel_rfl
theorem k2 (w:World) (os:OsState):openSeen QF [] (importedModules Pf.main.body) (fun s=>xlAt QF [] s&&recOk (RowW.records PySem.Challenge.rw_earworks_k05_whole_ways.row.toRowW) s) true ⟨H1 w.params,⟨[]⟩,{},935,os⟩=openGood QF []:=by
 unfold openSeen openGood;refine looks_pair ?_ (looks_pair ?_ (looks_pair ?_ (looks_pair ?_ (looks_pair ?_ (looks_pair ?_ (looks_pair ?_ (looks_pair ?_ ?_)))))))
 ·rw [Fast.te5160383126252970620,Fast.te3399658132070893891,Fast.te5991557255702980513,PySem.W.R.mapR_eq];kernel_rfl
 ·kernel_rfl
 ·rw [Fast.te10880121769531294198,Fast.te821141287760084731,Fast.te3399658132070893891,Fast.te7409074990110511671,Fast.te13664370479719496447,PySem.W.R.mapR_eq,Fast.te14722251495701143533,Fast.te5923862056798008813,Fast.te10994771534591457954];kernel_rfl
 ·rw [Fast.te479339242167458305];kernel_rfl
 ·rw [Fast.te16090120013241838585,Fast.te3247288618530077131];kernel_rfl
 ·rw [Fast.te2386780881361962483,Fast.te821141287760084731];kernel_rfl
 ·rw [Fast.te11698064438423848299];kernel_rfl
 ·rw [Fast.te7317090234206586261];kernel_rfl
 ·rw [Fast.te7369524293546568484];kernel_rfl
theorem k3 (w:World) (os:OsState):Hk.obs ⟨H1 w.params,⟨[]⟩,{},935,os⟩=Hk.val w:=by kernel_rfl
theorem sz (w:World):((boot_heap w.params).isNs mainGlobals&&(⟨[]⟩ : Array GenState).size==0,(boot_heap w.params).objs.size,(boot_heap w.params).nsMap mainGlobals "__annotations__")=(true,11,some (.ref 6)):=by
 rw [Fast.te8920871248978507458,show ("__annotations__" : Str)=⟨⟨[95,95,97,110,110,111,116,97,116,105,111,110,115,95,95]⟩⟩ from Fast.ofString_ofList ['_','_','a','n','n','o','t','a','t','i','o','n','s','_','_']];kernel_rfl
theorem leftF:LeftO Pf QF [] (fun s=>xlAt QF [] s&&recOk (RowW.records PySem.Challenge.rw_earworks_k05_whole_ways.row.toRowW) s) (Hook.obs Hk) (Hook.val Hk) 9276:=
 LeftO.of_pieces (boot_open (by kernel_rfl) (by decide) (fun s=>by kernel_rfl)) sz run (by decide) fun w=>funext fun os=>looks_pair (k1 w os) (looks_pair (k2 w os) (k3 w os))
theorem ePf:PySem.Challenge.rw_earworks_k05_whole_ways.row.prog=Pf:=by
 show (PySem.Challenge.rw_earworks_k05_whole_ways.row).toRowW.1=_;rw [Fast.te2368527892694137696,Fast.te2999378280846186737]
theorem te (i:Nat):Pg.top i=U i:=by
 show (PySem.Challenge.rw_earworks_k05_whole_ways.row.prog).main.body.getD i _=_;rw [ePf];rfl
theorem te2 (i j:Nat):inClass (Pg.top i) j=M i j:=by
 unfold M;rw [te i]
end Hx
end
set_option maxHeartbeats 0
theorem Ew.na_mk {K:Frag} {C:PySem.Addr} {f:PySem.Str} (h:findIn K (.ref C) f=some none):L2.NoAttr K C f:=h
theorem Ew.cn_mk {K:Frag} {mg:PySem.Str->Option PySem.Value} {h:PySem.Heap} (KX:K.In h) (G:h.Ns PySem.mainGlobals mg) {x:PySem.Str} {z:Int} {t:PySem.Tok} (e:nsIn K PySem.mainGlobals x=some (some (.int z t))):∃ t,mg x=some (.int z t):=⟨t,mg_of KX G e⟩
open PySem PySem.W PyProof.Rows
theorem PySem.Challenge.cw_earworks_k05_whole_ways_holds : PySem.Challenge.rw_earworks_k05_whole_ways.Holds := by
 w_on;o_law
 refine holds_open (q:=(Hx.qv PySem.Challenge.rw_earworks_k05_whole_ways.row.prog)) (loose:=[]) (Xt:=(fun s=>xlAt (Hx.qv PySem.Challenge.rw_earworks_k05_whole_ways.row.prog) [] s&&recOk (RowW.records PySem.Challenge.rw_earworks_k05_whole_ways.row.toRowW) s)) (XP:=XL (Hx.qv PySem.Challenge.rw_earworks_k05_whole_ways.row.prog) []) (Yf:=Hook.obs (kHook Hx.KK Hx.ads Hx.adsE)) (Ya:=Hook.val (kHook Hx.KK Hx.ads Hx.adsE)) (YP:=Hook.says (kHook Hx.KK Hx.ads Hx.adsE)) (N:=9276) ?hl (Hook.of _) (Hook.keeps _) (fun s e=>xl_of s (Bool.and_eq_true_iff.mp e).1) XL.keeps (by rfl) (by rfl) (by rfl) (fun s e=>recFacts_of (Bool.and_eq_true_iff.mp e).2) (by rfl) (by first | assumption | decide +kernel) (by decide +kernel) ⟨rfl,rfl,rfl,rfl,rfl,by decide +kernel⟩ ?hw ?hc
 case hl=>rw [Hx.ePf];exact Hx.leftF
 case hw=>w_witness2
 k_fill
 refine L2.walk_ofK (l:=PySem.Challenge.rw_earworks_k05_whole_ways) (n:=63) (k:=7) (x:="_law_script") (CX:=L2.CX0) (sp:=Ew.spLaw) rfl (by decide) rfl ⟨rfl,by decide,by decide⟩ (fun w h Y=>kIn_of Y) ?F ?S ?C
 case F=>
  intro w mg fa h KX G xE;have T:∃ c,Nonempty (Pg.Txt (L2.KOf KX) mg c):=by
   dsimp only [L2.KOf]
   refine' Pg.Txt.go ?t
   case' t=>constructor
   all_goals ((try dsimp only);first | refine' Ew.xd_mk KX G ?_ ?_ | refine' Ew.xo_mk ?_ ?_ ?_ ?_ ?_ ?_ ?_ ?_ | refine' Ew.kit_subT ?_ | refine' Ew.kit_sub ?_ ?_ ?_ ?_ | refine' Ew.exm_mk ?_ ?_ ?_ ?_ | refine' Ew.cd_mk KX G ?_ ?_ ?_ ?_ ?_ | refine' mg_none_of KX G ?_ | refine' Ew.cn_mk KX G ?_ | refine' Ew.ob_mk (L2.Cls.mk ?_ ?_ ?_ ?_) ?_ ?_ ?_ ?_ | refine' Ew.Fd.of KX G (Ew.fx2 (Hx.te _) ?_ ?_ ?_ ?_) | refine' Ew.Md.of (Ew.fm2 (Hx.te2 _ _) ?_ ?_ ?_ ?_ ?_) | refine' Ew.Ni.of (Ew.fm2 (Hx.te2 _ _) ?_ ?_ ?_ ?_ ?_) ?_ ?_ | refine' Ew.Fl'.of KX G (Ew.fxl2 (Hx.te _) ?_ ?_ ?_ ?_) | refine' Ew.na_mk ?_ | skip)
   all_goals ((try dsimp only);first | k_is | k_exc | skip)
   all_goals decide
  obtain ⟨c,⟨T⟩⟩:=T;have e0:=xE.symm.trans T.law.mgx;have e1:fa=T.law.f:=by cases e0;rfl
  rw [e1];exact ⟨T.law.fd,T.law.bl,fun base kb nb=>(Pg.ok_law T).imp (Ew.spLaw_imp (Pg.law_true c T.ne _))⟩
 case S=>exact fun K H a ns hl hO hS=>⟨a,ns,rfl,hl,hS,fun _ _=>rfl⟩
 case C=>exact fun H s e s' h=>h
