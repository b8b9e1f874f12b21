import PyProof.Rows.All
import Wide.All
import OpenK.AllK
import Wide.FinOn
import Lean
import PyProof.EqAt
import PyProof.EqKinds
import PyProof.TupleCall
import PyProof.NeKinds
import PyProof.DictItems
import PyProof.DictWalks
import KE.KTurnsDict
import KE.KDictSum
import KE.KSortKey
import KE.KBoundM
import KE.KMinKey
import KE.KRevIter
import KE.KFind
import KE.LcSums
import PyProof.ListRange
import PyProof.CollectIter
import PyProof.ConsumeWalk
import PyProof.ZipIter
import PySem.Challenge.RW_bothhands_k04_no_book
open PySem.W (instObj methodObj lookIn plainGet hasDictIn findIn handedIn plainGet_of isFn plainOver takerIn Looks makesIn typeIn emptyDict keepIn mroIn kitOne kia_one kitx_list kitx_dict callWith_K cellsFrom_some kIn_of mg_of mg_none_of Frag fnOf nsIn codeIn)
open PySem.Heap (lt_size SameBut get?_push_of_some get?_push_size Ns1)
open Nat (ne_of_lt zero_le lt_succ_self le_succ succ_le_succ)
open List (range mem_range filterMap_cons mem_cons_self mem_cons_of_mem mem_cons mem_append mem_append_left getElem?_set_self getElem?_set_ne mem_append_right length_cons map_cons length_map append_nil nodup_cons of_mem_zip replicate length length_take getElem?_append_right getElem?_replicate getElem?_append_left getElem?_map mem_of_getElem? length_append length_replicate length_drop size_toArray length_set all_cons any_cons nil_append find?_cons length_nil map_nil nodup_nil Pairwise any_eq_true mem_map mem_singleton lookup_cons not_mem_nil map_append take_append_drop nodup_append map_take zipWith take_length length_reverse Nodup length_range cons_append any_map getElem?_eq_getElem map_map append_assoc getElem?_eq_none ext_getElem?)
open Bool (and_eq_true)
open Option (isSome_map map_eq_some_iff)
open PySem.F (slot_dict_get entry_dict_get plainAttrs_list)
open PyProof.Rows (boot_isinstance boot_int boot_bool boot_tuple boot_str)
open Int (emod_nonneg toNat)
set_option maxHeartbeats 4000000
set_option Elab.async false
set_option linter.all false
set_option maxRecDepth 100000
namespace L2
open PySem PySem.Spec PyProof.Rows
abbrev Key:=Sum Int Str
def On:Key->Value->Bool
 | .inl k,v=>Value.isInt k v
 | .inr x,v=>Value.isStrOf x v
def AgI(w:World):Key->Int
 | .inl k=>hashInt k
 | .inr x=>hashStr w x
theorem Di:∀{k:Key} {v:Value},On k v=true->(∃i t,k=Sum.inl i/\v=Value.int i t)\/(∃x t,k=Sum.inr x/\v=Value.str x t)
 | .inl i,v,h=>by
  obtain⟨t,e⟩:=Value.isInt_shape (k:=i) (v:=v) h
  exact .inl ⟨i,t,rfl,e⟩
 | .inr x,v,h=>by
  obtain⟨t,e⟩:=Value.isStrOf_shape (x:=x) (v:=v) h
  exact .inr ⟨x,t,rfl,e⟩
theorem Zy(i:Int)(t:Tok):On (.inl i) (.int i t)=true:=by simp [On,Value.isInt]
theorem Zd(x:Str)(t:Tok):On (.inr x) (.str x t)=true:=by simp [On,Value.isStrOf]
theorem AeI(a b:Int):decide ((Sum.inl a:Key)=Sum.inl b)=(a==b):=by
 by_cases e:a=b
 ·subst e;simp
 ·have h:¬(Sum.inl a:Key)=Sum.inl b:=λq=>e (Sum.inl.inj q)
  rw[decide_eq_false h]
  exact (beq_eq_false_iff_ne.mpr e).symm
theorem Aep(a b:Str):decide ((Sum.inr a:Key)=Sum.inr b)=decide (a=b):=by
 by_cases e:a=b
 ·subst e;simp
 ·have h:¬(Sum.inr a:Key)=Sum.inr b:=λq=>e (Sum.inr.inj q)
  rw[decide_eq_false h,decide_eq_false e]
theorem AdV(a:Int)(b:Str):decide ((Sum.inl a:Key)=Sum.inr b)=false:=decide_eq_false (λq=>nomatch q)
theorem Afa(a:Str)(b:Int):decide ((Sum.inr a:Key)=Sum.inl b)=false:=decide_eq_false (λq=>nomatch q)
def Da(prog:Program)(w:World):PySem.KeyKind prog w Key where
 is:=On
 hash:=AgI w
 inj:=λv a b ha hb=>by
  rcases Di ha with ⟨i,t,rfl,rfl⟩ | ⟨x,t,rfl,rfl⟩
  ·rcases Di hb with ⟨j,u,rfl,e⟩ | ⟨y,u,rfl,e⟩
   ·injection e with e1 _;rw[e1]
   ·exact nomatch e
  ·rcases Di hb with ⟨j,u,rfl,e⟩ | ⟨y,u,rfl,e⟩
   ·exact nomatch e
   ·injection e with e1 _;rw[e1]
 byValue:=λk v h=>by
  rcases Di h with ⟨i,t,rfl,rfl⟩ | ⟨x,t,rfl,rfl⟩ <;> rfl
 pyHash:=λhv h=>by
  rcases Di hv with ⟨i,t,rfl,rfl⟩ | ⟨x,t,rfl,rfl⟩
  ·exact wpAny_pyHash_int h
  ·exact wpAny_pyHash_str h
 eqBool:=λhu hv h=>by
  rcases Di hu with ⟨i,t,rfl,rfl⟩ | ⟨x,t,rfl,rfl⟩
  ·rcases Di hv with ⟨j,u,rfl,rfl⟩ | ⟨y,u,rfl,rfl⟩
   ·rw[AeI] at h;exact wpAny_eqBool_int h
   ·rw[AdV] at h;exact SeqAt.EqAt.int_str i t y u _ _ _ _ h
  ·rcases Di hv with ⟨j,u,rfl,rfl⟩ | ⟨y,u,rfl,rfl⟩
   ·rw[Afa] at h;exact SeqAt.EqAt.str_int x t j u _ _ _ _ h
   ·rw[Aep] at h;exact wpAny_eqBool_str h
 «strs»:=λk x t v h=>by
  rcases Di h with ⟨i,u,rfl,e⟩ | ⟨y,u,rfl,e⟩
  ·exact nomatch e
  ·injection e with e1 _
   subst e1
   cases v <;> rfl
theorem Ug(prog:Program)(w:World)(i:Int)(t:Tok):(Da prog w).is (.inl i) (.int i t)=true:=Zy i t
theorem Ud(prog:Program)(w:World)(x:Str)(t:Tok):(Da prog w).is (.inr x) (.str x t)=true:=Zd x t
inductive V where
 | non | bl (b:Bool) | int (i:Int) | str (x:Str) | byt (b:Array UInt8) | flt (b:UInt64) | ref (a:Addr) | ty (n:String)
 deriving DecidableEq
def RelV:V->Value->Prop
 | .non,u=>u=Value.none
 | .bl b,u=>u=Value.bool b
 | .int i,u=>∃t,u=Value.int i t
 | .str x,u=>∃t,u=Value.str x t
 | .byt b,u=>∃t,u=Value.bytes b t
 | .flt b,u=>∃t,u=Value.float b t
 | .ref a,u=>u=Value.ref a
 | .ty n,u=>u=Value.type n
abbrev Vals:List V->List Value->Prop:=Paired RelV
theorem Vals.length{xs:List V}{us:List Value}(r:Vals xs us):xs.length=us.length:=Paired.length r
theorem Vals.get:∀{xs:List V} {us:List Value} {i:Nat} {x:V},Vals xs us->xs[i]? = some x->∃u,us[i]? = some u/\RelV x u
 | _,_,_,_,.nil,e=>by simp at e
 | _,_,0,_,.cons r _,e=>by simp at e;subst e;exact⟨_,rfl,r⟩
 | _,_,i+1,x,.cons _ t,e=>by
  obtain⟨u,h1,h2⟩:=Vals.get (i:=i) (x:=x) t (by simpa using e)
  exact⟨u,by simpa using h1,h2⟩
theorem Vals.append:∀{xs ys:List V} {us ws:List Value},Vals xs us->Vals ys ws->Vals (xs++ys) (us++ws)
 | _,_,_,_,.nil,s=>s
 | _,_,_,_,.cons r t,s=>.cons r (Vals.append t s)
theorem Vals.take:∀{xs:List V} {us:List Value} (n:Nat),Vals xs us->Vals (xs.take n) (us.take n)
 | _,_,0,_=>.nil
 | _,_,_+1,.nil=>.nil
 | _,_,n+1,.cons r t=>.cons r (Vals.take n t)
theorem Vals.drop:∀{xs:List V} {us:List Value} (n:Nat),Vals xs us->Vals (xs.drop n) (us.drop n)
 | _,_,0,r=>r
 | _,_,_+1,.nil=>.nil
 | _,_,n+1,.cons _ t=>Vals.drop n t
def RelO:Option V->Option Value->Prop
 | some v,some u=>RelV v u
 | none,none=>True
 | _,_=>False
def KV{κ:Type}:List (κ×V)->List (κ×Value)->Prop:=Paired λ(p:κ×V) (q:κ×Value)=>p.1=q.1/\RelV p.2 q.2
def kV:Key->V
 | .inl i=>.int i
 | .inr x=>.str x
inductive HO where
 | lst (xs:List V)
 | tup (xs:List V)
 | dK (kvs:List (Key×V)) | dT (kvs:List (List Key×V))
 | set (S:Int->Bool) (n:Nat)
 | ins (C dx:Addr) (fs:List (Str×V))
 | own (x:Addr)
 | xd (fs:List (Str×V))
 | met (f x:Addr)
 | rng (lo hi:Int)
 | frz (o:Obj) (u:HO)
 | tbl (ps:Array Value)
 | ext (φ:Heap->Prop)
abbrev Hp:=Addr->Option HO
def upd(H:Hp)(a:Addr)(o:HO):Hp:=λb=>if b=a then some o else H b
theorem Bn{H:Hp}{a:Addr}{o:HO}:upd H a o a=some o:=by unfold upd;rw[if_pos rfl]
theorem Bj{H:Hp}{a b:Addr}{o:HO}(h:b≠a):upd H a o b=H b:=by unfold upd;rw[if_neg h]
theorem Fv{H:Hp}{a:Addr}{o u:HO}:upd (upd H a o) a u=upd H a u:=by
 funext b;unfold upd;split <;> rfl
theorem Db{H:Hp}{a b:Addr}{o u:HO}(h:H a=some o)(h':H b=some u)(d:o≠u):a≠b:=by
 intro e;subst e;rw[h] at h';exact d (Option.some.inj h')
theorem Bp{H:Hp}{a b:Addr}{o:HO}(h:H a=some o)(h':H b=none):a≠b:=by
 intro e;subst e;rw[h] at h';cases h'
section
variable (P:Program)(w:World)
def ObjOk(H:Hp)(h:Heap)(a:Addr):HO->Prop
 | .lst xs=>xs.length<=sizeLine/\∃(its:List Value) (n:Nat),Vals xs its/\h.get? a=some { cls:=.type "list",data:=.seq its.toArray n }
 | .tup xs=>xs.length<=sizeLine/\∃its:List Value,Vals xs its/\IsTup h a its.toArray
 | .dK kvs=>kvs.length<=sizeLine/\(a==sysModules)=false/\∃vs,KV kvs vs/\h.DictOf (Da P w) a vs
 | .dT kvs=>kvs.length<=sizeLine/\(a==sysModules)=false/\∃xs:List (List Key×Addr×Value),
   Paired (λ(p:List Key×V) (q:List Key×Addr×Value)=>p.1=q.1/\H q.2.1=some (.tup (p.1.map kV))/\RelV p.2 q.2.2) kvs xs /\
   ∃o es ep,h.get? a=some o/\o.ExactDict/\o.data=.dict es ep/\es.toList=xs.map (entryOfKey (tupleKind (Da P w)))/\(xs.map (·.1)).Nodup
 | .set S n=>h.SetOf (intKind P w) a S n
 | .ins C dx fs=>H dx=some (.own a)/\fs.length<=1000/\dx≠a/\h.get? a=some (instObj C dx) /\
   ∃mA,h.Ns1 dx mA/\(∀f,RelO (fs.lookup f) (mA f))/\PySem.Within mA (fs.map (·.1))
 | .own _=>∃o,h.get? a=some o
 | .xd fs=>∃mA,h.Ns1 a mA/\∀f,RelO (fs.lookup f) (mA f)
 | .rng lo hi=>∃t u v,h.get? a=some { cls:=.type "range",data:=.fields #[.int lo t,.int hi u,.int 1 v] }
 | .frz o u=>h.get? a=some o/\ObjOk H h a u
 | .tbl ps=>h.get? a=some { cls:=.none,data:=.fields ps }
 | .met f x=>h.get? a=some (methodObj (.ref f) (.ref x))
 | .ext φ=>φ h/\(∃o,h.get? a=some o)/\∀h1 h2:Heap,φ h1->(∀o,h1.get? a=some o->h2.get? a=some o)->φ h2
def HOk(H:Hp)(h:Heap):Prop:=∀a o,H a=some o->ObjOk P w H h a o
end
section
variable {P:Program}{w:World}{H H':Hp}{h h':Heap}{a:Addr}{o:HO}
theorem ObjOk.lt(x:ObjOk P w H h a o):a<h.objs.size:=by
 cases o with
 | lst xs=>obtain⟨_,_,_,_,e⟩:=x;exact lt_size e
 | tup xs=>obtain⟨_,_,_,p⟩:=x;exact p.lt
 | dK kvs=>obtain⟨_,_,_,_,o,_,_,e,_⟩:=x;exact lt_size e
 | dT kvs=>obtain⟨_,_,_,_,o,_,_,e,_⟩:=x;exact lt_size e
 | set S n=>obtain⟨o,_,_,_,e,_⟩:=x;exact lt_size e
 | ins C dx fs=>obtain⟨_,_,_,e,_⟩:=x;exact lt_size e
 | own y=>obtain⟨_,e⟩:=x;exact lt_size e
 | xd fs=>obtain⟨_,⟨_,_,_,e,_⟩,_⟩:=x;exact lt_size e
 | rng lo hi=>obtain⟨_,_,_,e⟩:=x;exact lt_size e
 | frz ob u=>obtain⟨e,_⟩:=x;exact lt_size e
 | tbl ps=>exact lt_size (show h.get? a=some _ from x)
 | met f y=>exact lt_size (show h.get? a=some _ from x)
 | ext φ=>obtain⟨_,⟨_,e⟩,_⟩:=x;exact lt_size e
theorem Paired.mapP{α β:Type}{F G:α->β->Prop}:∀{l₁:List α} {l₂:List β},Paired F l₁ l₂->(∀a b,F a b->G a b)->Paired G l₁ l₂
 | _,_,.nil,_=>.nil
 | _,_,.cons r t,f=>.cons (f _ _ r) (Paired.mapP t f)
theorem ObjOk.stay(x:ObjOk P w H h a o)(k:∀b u,(b=a\/H b=some (.own a))->h.get? b=some u->h'.get? b=some u)
  (ho:∀b,H b=some (.own a)->H' b=some (.own a)) (ht:∀b xs,H b=some (.tup xs)->H' b=some (.tup xs)):ObjOk P w H' h' a o:=by
 induction o with
 | lst xs=>obtain⟨z,its,n,r,e⟩:=x;exact⟨z,its,n,r,k _ _ (.inl rfl) e⟩
 | tup xs=>obtain⟨z,its,r,ob,e,c⟩:=x;exact⟨z,its,r,ob,k _ _ (.inl rfl) e,c⟩
 | dK kvs=>obtain⟨z,y,vs,r,ob,es,ep,e,c⟩:=x;exact⟨z,y,vs,r,ob,es,ep,k _ _ (.inl rfl) e,c⟩
 | dT kvs =>
  obtain⟨z,y,xs,r,ob,es,ep,e,c⟩:=x
  exact⟨z,y,xs,Paired.mapP r λp q z=>⟨z.1,ht _ _ z.2.1,z.2.2⟩,ob,es,ep,k _ _ (.inl rfl) e,c⟩
 | set S n=>obtain⟨ob,es,ep,t,e,c⟩:=x;exact⟨ob,es,ep,t,k _ _ (.inl rfl) e,c⟩
 | ins C dx fs =>
  obtain⟨d,z,ne,e,mA,⟨od,es,ep,e2,c⟩,r⟩:=x
  exact⟨ho _ d,z,ne,k _ _ (.inl rfl) e,mA,⟨od,es,ep,k _ _ (.inr d) e2,c⟩,r⟩
 | own y=>obtain⟨ob,e⟩:=x;exact⟨ob,k _ _ (.inl rfl) e⟩
 | xd fs=>obtain⟨mA,⟨od,es,ep,e,c⟩,r⟩:=x;exact⟨mA,⟨od,es,ep,k _ _ (.inl rfl) e,c⟩,r⟩
 | rng lo hi=>obtain⟨t,u,v,e⟩:=x;exact⟨t,u,v,k _ _ (.inl rfl) e⟩
 | frz ob u ih=>obtain⟨e,q⟩:=x;exact⟨k _ _ (.inl rfl) e,ih q⟩
 | tbl ps =>
  have e:h.get? a=some { cls:=.none,data:=.fields ps }:=x
  show h'.get? a=some { cls:=.none,data:=.fields ps }
  exact k a _ (.inl rfl) e
 | met f y =>
  have e:h.get? a=some (methodObj (.ref f) (.ref y)):=x
  show h'.get? a=some (methodObj (.ref f) (.ref y))
  exact k a _ (.inl rfl) e
 | ext φ=>obtain⟨p,⟨o,e⟩,st⟩:=x;exact⟨st _ _ p λo q=>k _ _ (.inl rfl) q,⟨o,k _ _ (.inl rfl) e⟩,st⟩
theorem HOk.lt(x:HOk P w H h)(e:H a=some o):a<h.objs.size:=(x a o e).lt
theorem HOk.fresh(x:HOk P w H h)(e:h.objs.size<=a):H a=none:=by
 cases q:H a with
 | none=>rfl
 | some u=>exact absurd (Nat.lt_of_lt_of_le (x.lt q) e) (Nat.lt_irrefl _)
theorem HOk.kept(x:HOk P w H h)(k:∀b u,h.get? b=some u->h'.get? b=some u):HOk P w H h':=λa o e =>
 (x a o e).stay (λb u _ q=>k b u q) (λ_ q=>q) λ_ _ q=>q
theorem HOk.laid(x:HOk P w H h)(k:∀b u,h.get? b=some u->h'.get? b=some u)(hp:h.objs.size<=a)(new:ObjOk P w (upd H a o) h' a o):HOk P w (upd H a o) h':=λb u e=>by
 have hn:=x.fresh hp
 by_cases hb:b=a
 ·subst hb;rw[Bn] at e;cases e;exact new
 ·rw[Bj hb] at e
  exact (x b u e).stay (λc v _ q=>k c v q) (λc q=>by rw[Bj (Bp q hn)];exact q) λc xs q=>by rw[Bj (Bp q hn)];exact q
end
def Rd(H:Hp)(a:Addr)(u:HO):Prop:=H a=some u\/∃o,H a=some (.frz o u)
theorem Rd.ok{P:Program}{w:World}{H:Hp}{h:Heap}{a:Addr}{u:HO}(r:Rd H a u)(x:HOk P w H h):ObjOk P w H h a u:=by
 rcases r with r | ⟨o,r⟩
 ·exact x a u r
 ·obtain⟨_,q⟩:=x a _ r
  exact q
def Mut:Option HO->Prop
 | some (.lst _)=>True
 | some (.dK _)=>True
 | some (.dT _)=>True
 | some (.set _ _)=>True
 | some (.ins _ _ _)=>True
 | some (.ext _)=>True
 | _=>False
section
variable {P:Program}{w:World}{H:Hp}{h h':Heap}{x e:Addr}{o':HO}
theorem HOk.write(ok:HOk P w H h)(mu:Mut (H x))(he:e=x\/H e=some (.own x))(k:∀b u,b≠e->h.get? b=some u->h'.get? b=some u)(heo:∃u,h'.get? e=some u)
  (new:ObjOk P w (upd H x o') h' x o'):HOk P w (upd H x o') h':=λb u q=>by
 have nown:∀c y,H c=some (.own y)->c≠x:=λc y r z=>by subst z;rw[r] at mu;exact mu
 have ntup:∀c xs,H c=some (.tup xs)->c≠x:=λc xs r z=>by subst z;rw[r] at mu;exact mu
 by_cases hb:b=x
 ·subst hb;rw[Bn] at q;cases q;exact new
 ·rw[Bj hb] at q
  by_cases hbe:b=e
  ·have q':H b=some (.own x):=by
    rcases he with z | z
    ·exact absurd (hbe.trans z) hb
    ·rw[hbe];exact z
   rw[q] at q';cases q'
   obtain⟨v,hv⟩:=heo
   exact⟨v,by rw[hbe];exact hv⟩
  ·refine (ok b u q).stay (λc v hc r=>k c v ?_ r) (λc r=>by rw[Bj (nown c b r)];exact r) λc xs r=>by rw[Bj (ntup c xs r)];exact r
   rcases hc with rfl | hc
   ·exact hbe
   ·rintro rfl
    rcases he with z | z
    ·exact nown c b hc z
    ·rw[hc] at z;cases z;exact hb rfl
end
structure Un(fs ex:List Addr)(H H':Hp)(h h':Heap):Prop where
 keep:∀b o,h.get? b=some o->H b=none->b∉fs->b∉ex->h'.get? b=some o
 slot:∀b o,h.get? b=some o->H b=none->b∈fs->b∉ex->∃sl,h'.get? b=some { o with slots:=sl }
 free:∀b o,h.get? b=some o->H b=none->b∉ex->H' b=none
 there:∀b o,h.get? b=some o->b∉ex->∃o',h'.get? b=some o'
 tups:∀b xs,H b=some (.tup xs)->H' b=some (.tup xs)
 frzs:∀b o u,H b=some (.frz o u)->H' b=some (.frz o u)
 tbls:∀b ps,H b=some (.tbl ps)->∃more,H' b=some (.tbl (ps++more))
section
variable {fs fs' ex ex':List Addr}{H H1 H2:Hp}{h h1 h2 h':Heap}{a x e:Addr}{o:HO}
theorem Un.any(u:Un fs ex H H1 h h1){b:Addr}{ob:Obj}(q:h.get? b=some ob)(n:H b=none)(hx:b∉ex):∃sl,h1.get? b=some { ob with slots:=sl }:=by
 by_cases hb:b∈fs
 ·exact u.slot b ob q n hb hx
 ·exact⟨ob.slots,u.keep b ob q n hb hx⟩
theorem Un.kept(k:∀b u,h.get? b=some u->h'.get? b=some u):Un fs ex H H h h' :=
 ⟨λb ob q _ _ _=>k b ob q,λb ob q _ _ _=>⟨ob.slots,k b ob q⟩,λ_ _ _ n _=>n,λb ob q _=>⟨ob,k b ob q⟩,λ_ _ q=>q,λ_ _ _ q=>q,λ_ ps q=>⟨#[],by rw[q];simp⟩⟩
theorem Un.refl:Un fs ex H H h h:=Un.kept λ_ _ q=>q
theorem Un.laid(k:∀b u,h.get? b=some u->h'.get? b=some u)(hp:h.objs.size<=a)(hn:H a=none):Un fs ex H (upd H a o) h h' where
 keep:=λb u q _ _ _=>k b u q
 slot:=λb u q _ _ _=>⟨u.slots,k b u q⟩
 free:=λb u q n _=>by rw[Bj (ne_of_lt (Nat.lt_of_lt_of_le (lt_size q) hp))];exact n
 there:=λb u q _=>⟨u,k b u q⟩
 tups:=λb xs q=>by rw[Bj (Bp q hn)];exact q
 frzs:=λb u xs q=>by rw[Bj (Bp q hn)];exact q
 tbls:=λb ps q=>⟨#[],by rw[Bj (Bp q hn),q];simp⟩
theorem Un.write(mu:Mut (H x))(he:e=x\/H e=some (.own x))(k:∀b u,b≠e->h.get? b=some u->h'.get? b=some u)(heo:∃u,h'.get? e=some u):Un fs ex H (upd H x o) h h':=by
 have hx:∀b,H b=none->b≠x:=λb n z=>by subst z;rw[n] at mu;exact mu
 have hb:∀b,H b=none->b≠e:=λb n z=>by
  subst z
  rcases he with r | r
  ·exact hx b n r
  ·rw[n] at r;cases r
 have hm:∀b u,H b=some u->¬Mut (some u)->b≠x:=λb u q nm z=>by subst z;rw[q] at mu;exact nm mu
 refine⟨λb u q n _ _=>k b u (hb b n) q,λb u q n _ _=>⟨u.slots,k b u (hb b n) q⟩,λb u q n _=>by rw[Bj (hx b n)];exact n,λb u q _=>?_,
  λb xs q=>by rw[Bj (hm b _ q λz=>z)];exact q,λb u xs q=>by rw[Bj (hm b _ q λz=>z)];exact q,λb ps q=>⟨#[],by rw[Bj (hm b _ q λz=>z),q];simp⟩⟩
 by_cases hbe:b=e
 ·subst hbe;exact heo
 ·exact⟨u,k b u hbe q⟩
end
def trk(h:Heap)(H:Hp):List Addr:=(range h.objs.size).filter λa=>(H a).isSome
def Lq(h:Heap)(H:Hp):Heap:=PySem.W.hideAll h (trk h H)
theorem Zu(h:Heap)(H:Hp):(Lq h H).objs.size=h.objs.size:=PySem.W.hideAll_size _ _
theorem AaB{h:Heap}{H:Hp}{b:Addr}{o:Obj}(e:h.get? b=some o)(n:H b=none):(Lq h H).get? b=some o :=
 PySem.W.hideAll_get _ e λhm=>by
  have q:(H b).isSome=true:=(List.mem_filter.mp hm).2
  rw[n] at q;simp at q
theorem AdB{h:Heap}{H:Hp}{b:Addr}{o:Obj}(e:(Lq h H).get? b=some o):h.get? b=some o/\H b=none:=by
 have e':h.get? b=some o:=PySem.W.of_hideAll (trk h H) e
 refine⟨e',?_⟩
 cases q:H b with
 | none=>rfl
 | some x =>
  have hm:b∈trk h H:=List.mem_filter.mpr ⟨mem_range.mpr (lt_size e'),by simp [q]⟩
  have z:(Lq h H).get? b=none:=PySem.W.hideAll_none (trk h H) hm
  rw[z] at e;cases e
structure Mod(K:Frag)(mg:Str->Option Value)(base:Heap):Prop where
 kin:K.In base
 glob:base.Ns mainGlobals mg
 blt:∃mb,base.Ns builtinsNs mb/\∀x:Str,x≠"__name__"->mb x=bootBuiltins x
 nolimit:base.NoLimit
structure Cx where
 prog:Program
 w:World
 K:Frag
 mg:Str->Option Value
 base:Heap
 A:Around
 N:List Str
 s₀:Shared
 H₀:Hp
 env:Env
 outer:List Env
 stack:List Env
 ex:List Addr
 fn:Str->Bool
 calm:Bool
 pn:List (Addr×Obj)
 xe:Value->Shared->Prop
def frs(l:List Env):List Addr:=l.filterMap (·.frame)
abbrev Cx.fs(X:Cx):List Addr:=frs X.outer
def Vis(sc:Scope)(x:Str):Prop:=sc.names.lookup x=some .local\/sc.names.lookup x=some .cell\/sc.names.lookup x=some .free
def Loc(sc:Scope)(x:Str):Prop:=sc.names.lookup x=some .local\/sc.names.lookup x=some .cell
def AgE(env:Env)(h:Heap)(m:Str->Option Value)(x:Str)(u:Value):Prop :=
 (env.kindOf x=some .local/\m x=some u)\/((env.kindOf x=some .cell\/env.kindOf x=some .free)/\∃c,env.cells.lookup x=some c/\h.IsCell c (some u))
structure Cx.Ok(X:Cx):Prop where
 mod:Mod X.K X.mg X.base
 kind:X.env.scope.kind=.function
 glob:X.env.globals=mainGlobals
 blt:X.env.builtins=builtinsNs
 above:X.s₀.heap.objs.size<=X.env.locals
 inj:∀x y c,X.env.cells.lookup x=some c->X.env.cells.lookup y=some c->x=y
 has:∀x,(X.env.kindOf x=some .cell\/X.env.kindOf x=some .free)->∃c,X.env.cells.lookup x=some c
 cab:∀x c,X.fn x=true->X.env.cells.lookup x=some c->X.s₀.heap.objs.size<=c
 hd:X.calm=true->X.A.handled=none
 frames:X.A.frames=some X.stack
 stk:X.stack=X.outer\/(X.stack=X.env::X.outer/\X.env.frame=some X.env.locals)
 exf:∀b∈X.ex,b≠X.env.locals/\∀x c,X.env.cells.lookup x=some c->c≠b
 bs:∀b o,X.base.get? b=some o->X.s₀.heap.get? b=some o/\X.H₀ b=none
 bsz:X.base.objs.size<=X.s₀.heap.objs.size
 noex:∀b o,X.base.get? b=some o->b∉X.ex
 exfs:∀b∈X.ex,b∉X.fs
 funs:X.s₀.heap.FunFrames X.base X.outer
 frf:∀b∈X.fs,X.H₀ b=none
structure Inv(X:Cx)(pins:List (Addr×Obj))(σ:List (Option V))(H:Hp)(s:Shared):Prop where
 ok:X.Ok
 os:s.os=X.s₀.os
 bare:AllBare s.gens
 base:Un X.fs X.ex X.H₀ H X.s₀.heap s.heap
 loc:∃m,s.heap.Ns X.env.locals m/\∀(i:Nat) (x:Str) (v:V),X.N[i]? = some x->σ[i]? = some (some v)->Vis X.env.scope x->∃u,RelV v u/\AgE X.env s.heap m x u
 cell:∀x c,X.env.cells.lookup x=some c->∃v,s.heap.IsCell c v
 free:H X.env.locals=none
 freeC:∀x c,X.env.cells.lookup x=some c->H c=none
 pin:∀p∈X.pn++pins,s.heap.get? p.1=some p.2/\H p.1=none/\p.1≠X.env.locals/\p.1∉X.fs/\∀v,p.2.data≠.cell v
 hok:HOk X.prog X.w H s.heap
 len:σ.length=X.N.length
section
variable {X:Cx}{pins:List (Addr×Obj)}{σ:List (Option V)}{H H':Hp}{s:Shared}{h':Heap}
theorem Cx.Ok.nofr(ok:X.Ok){b:Addr}{o:Obj}(e:X.base.get? b=some o):b∉X.fs:=λhb=>by
 have:=(ok.funs.mem hb).1
 rw[e] at this;cases this
theorem Inv.bs(I:Inv X pins σ H s):∀b o,X.base.get? b=some o->s.heap.get? b=some o/\H b=none:=λb o e =>
 ⟨I.base.keep b o (I.ok.bs b o e).1 (I.ok.bs b o e).2 (I.ok.nofr e) (I.ok.noex b o e),I.base.free b o (I.ok.bs b o e).1 (I.ok.bs b o e).2 (I.ok.noex b o e)⟩
theorem Inv.bk(I:Inv X pins σ H s):∀b o,X.base.get? b=some o->s.heap.get? b=some o:=λb o e=>(I.bs b o e).1
theorem Inv.mod(I:Inv X pins σ H s):Mod X.K X.mg X.base:=I.ok.mod
theorem Inv.kIn(I:Inv X pins σ H s):X.K.In s.heap:=I.ok.mod.kin.keeps I.bk
theorem Inv.lt(I:Inv X pins σ H s):X.env.locals<s.heap.objs.size:=let ⟨_,hn,_⟩:=I.loc;hn.lt
theorem Inv.sz(I:Inv X pins σ H s):X.s₀.heap.objs.size<=s.heap.objs.size:=Nat.le_trans I.ok.above (Nat.le_of_lt I.lt)
theorem Inv.nofs(I:Inv X pins σ H s){a:Addr}(h:s.heap.objs.size<=a):a∉X.fs:=λhb=>by
 obtain⟨_,o,ho,_⟩:=I.ok.funs.mem hb
 exact absurd (Nat.lt_of_lt_of_le (lt_size ho) (Nat.le_trans I.sz h)) (Nat.lt_irrefl _)
theorem Inv.cne(I:Inv X pins σ H s):∀x c,X.env.cells.lookup x=some c->c≠X.env.locals:=λx c e z=>by
 obtain⟨v,o,ho,hd⟩:=I.cell x c e
 obtain⟨m,⟨o',es,ep,ho',hd',_⟩,_⟩:=I.loc
 rw[z,ho'] at ho;cases ho;rw[hd'] at hd;cases hd
theorem Inv.funs(I:Inv X pins σ H s):s.heap.FunFrames X.base X.outer:=by
 have all:∀(l:List Env),(∀b∈frs l,b∈X.fs)->X.s₀.heap.FunFrames X.base l->s.heap.FunFrames X.base l:=by
  intro l
  induction l with
  | nil=>intro _ _;trivial
  | cons env r ih =>
   intro hs hl
   obtain⟨hk,⟨L,o,hf,hn,ho,hd⟩,hr⟩:=hl
   have hL:L∈X.fs:=hs L (by unfold frs;rw[filterMap_cons,hf];exact mem_cons_self)
   obtain⟨sl,e⟩:=I.base.slot L o ho (I.ok.frf L hL) hL λz=>I.ok.exfs L z hL
   exact⟨hk,⟨L,_,hf,hn,e,hd⟩,ih (λb hb=>hs b (by unfold frs;rw[filterMap_cons,hf];exact mem_cons_of_mem _ hb)) hr⟩
 exact all X.outer (λ_ hb=>hb) I.ok.funs
theorem Inv.stack(I:Inv X pins σ H s):s.heap.FunFrames X.base X.stack:=by
 rcases I.ok.stk with e | ⟨e,hf⟩
 ·rw[e];exact I.funs
 ·rw[e]
  obtain⟨m,hn,_⟩:=I.loc
  refine .cons (by rw[I.ok.kind];decide) hf hn ?_ I.funs
  exact Heap.get?_none_of_le (Nat.le_trans I.ok.bsz I.ok.above)
theorem Inv.stkSub(I:Inv X pins σ H s):∀b∈frs X.stack,b∈X.env.locals::X.fs:=λb hb=>by
 rcases I.ok.stk with e | ⟨e,hf⟩
 ·rw[e] at hb;exact mem_cons_of_mem _ hb
 ·rw[e] at hb
  unfold frs at hb
  rw[filterMap_cons,hf] at hb
  exact hb
theorem Inv.stkFree(I:Inv X pins σ H s):∀b∈frs X.stack,H b=none:=λb hb=>by
 rcases mem_cons.mp (I.stkSub b hb) with e | hb
 ·rw[e];exact I.free
 ·obtain⟨_,o,ho,_⟩:=I.ok.funs.mem hb
  exact I.base.free b o ho (I.ok.frf b hb) λz=>I.ok.exfs b z hb
theorem Inv.step{g':Array GenState}{t':Nat}{d':Drawn}{ch:List Addr}(I:Inv X pins σ H s)
  (hch:∀b∈ch,(b∈X.ex\/X.s₀.heap.objs.size<=b)/\b≠X.env.locals/\(∀x c,X.env.cells.lookup x=some c->c≠b)/\∀p∈X.pn++pins,p.1≠b)
  (keep:∀b o,b≠X.env.locals->b∉X.fs->b∉ch->s.heap.get? b=some o->H b=none->h'.get? b=some o)
  (slot:∀b o,b≠X.env.locals->b∈X.fs->b∉ch->s.heap.get? b=some o->H b=none->∃sl,h'.get? b=some { o with slots:=sl }) (free:∀b o,b∉ch->s.heap.get? b=some o->H b=none->H' b=none)
  (there:∀b o,b∉ch->s.heap.get? b=some o->∃o',h'.get? b=some o')
  (tups:∀b xs,H b=some (.tup xs)->H' b=some (.tup xs)) (frzs:∀b o u,H b=some (.frz o u)->H' b=some (.frz o u)) (tbls:∀b ps,H b=some (.tbl ps)->∃more,H' b=some (.tbl (ps++more)))
  (ns:∀m,s.heap.Ns X.env.locals m->h'.Ns X.env.locals m) (hok:HOk X.prog X.w H' h') (hg:AllBare g') :
  Inv X pins σ H' { s with heap:=h',gens:=g',drawn:=d',toks:=t' }:=by
 have neL:∀b o,X.s₀.heap.get? b=some o->b≠X.env.locals:=λb o e=>ne_of_lt (Nat.lt_of_lt_of_le (lt_size e) I.ok.above)
 have neC:∀b o,X.s₀.heap.get? b=some o->b∉X.ex->b∉ch:=λb o e hx hb=>by
  rcases (hch b hb).1 with z | z
  ·exact hx z
  ·exact absurd (Nat.lt_of_lt_of_le (lt_size e) z) (Nat.lt_irrefl _)
 have cellK:∀x c,X.env.cells.lookup x=some c->∀v,s.heap.IsCell c v->h'.IsCell c v:=λx c e v ⟨o,ho,hd⟩=>by
  have nch:c∉ch:=λz=>(hch c z).2.2.1 x c e rfl
  by_cases hc:c∈X.fs
  ·obtain⟨sl,q⟩:=slot c o (I.cne x c e) hc nch ho (I.freeC x c e)
   exact⟨_,q,hd⟩
  ·exact⟨o,keep c o (I.cne x c e) hc nch ho (I.freeC x c e),hd⟩
 refine⟨I.ok,I.os,hg,⟨λb o e n hb hx=>?_,λb o e n hb hx=>?_,λb o e n hx=>?_,λb o e hx=>?_,λb xs e=>tups b xs (I.base.tups b xs e),λb o xs e=>frzs b o xs (I.base.frzs b o xs e),λb ps e=>?_⟩,?_,λx c e=>?_,?_,λx c e=>?_,λp hp=>?_,hok,I.len⟩
 ·exact keep b o (neL b o e) hb (neC b o e hx) (I.base.keep b o e n hb hx) (I.base.free b o e n hx)
 ·obtain⟨sl,e1⟩:=I.base.slot b o e n hb hx
  obtain⟨sl',e2⟩:=slot b _ (neL b o e) hb (neC b o e hx) e1 (I.base.free b o e n hx)
  exact⟨sl',e2⟩
 ·obtain⟨o',e1⟩:=I.base.there b o e hx
  exact free b o' (neC b o e hx) e1 (I.base.free b o e n hx)
 ·obtain⟨o',e1⟩:=I.base.there b o e hx
  exact there b o' (neC b o e hx) e1
 ·obtain⟨m1,e1⟩:=I.base.tbls b ps e
  obtain⟨m2,e2⟩:=tbls b _ e1
  exact⟨m1++m2,by rw[e2,Array.append_assoc]⟩
 ·obtain⟨m,hn,hl⟩:=I.loc
  refine⟨m,ns m hn,λi x v e1 e2 e3=>?_⟩
  obtain⟨u,r,l⟩:=hl i x v e1 e2 e3
  refine⟨u,r,?_⟩
  rcases l with l | ⟨k,c,e,z⟩
  ·exact .inl l
  ·exact .inr ⟨k,c,e,cellK x c e _ z⟩
 ·obtain⟨v,z⟩:=I.cell x c e
  exact⟨v,cellK x c e v z⟩
 ·obtain⟨m,⟨o,_,_,ho,_⟩,_⟩:=I.loc
  exact free _ o (λz=>(hch _ z).2.1 rfl) ho I.free
 ·obtain⟨v,o,ho,hd⟩:=I.cell x c e
  exact free c o (λz=>(hch c z).2.2.1 x c e rfl) ho (I.freeC x c e)
 ·obtain⟨e,n,ne,nf,d⟩:=I.pin p hp
  have nch:p.1∉ch:=λz=>(hch p.1 z).2.2.2 p hp rfl
  exact⟨keep p.1 p.2 ne nf nch e n,free p.1 p.2 nch e n,ne,nf,d⟩
theorem Inv.un{t':Nat}(I:Inv X pins σ H s)(u:Un X.fs [] H H' s.heap h')(hok:HOk X.prog X.w H' h'):Inv X pins σ H' { s with heap:=h',toks:=t' }:=by
 obtain⟨m,⟨o,es,ep,ho,r⟩,_⟩:=id I.loc
 obtain⟨sl,hL⟩:=u.any ho I.free (by simp)
 exact I.step (g':=s.gens) (d':=s.drawn) (ch:=[]) (λ_ z=>nomatch z) (λb o _ hb _ e n=>u.keep b o e n hb (by simp)) (λb o _ hb _ e n=>u.slot b o e n hb (by simp)) (λb o _ e n=>u.free b o e n (by simp)) (λb o _ e=>u.there b o e (by simp)) u.tups u.frzs u.tbls (λm' hm=>by
  obtain⟨o',es',ep',ho',r'⟩:=hm
  rw[ho] at ho';cases ho'
  exact⟨_,es',ep',hL,r'⟩) hok I.bare
theorem Inv.call{g':Array GenState}{t':Nat}{d':Drawn}{ch:List Addr}(I:Inv X pins σ H s)(u:Un (frs X.stack) ch H H' s.heap h')(hok:HOk X.prog X.w H' h')(hg:AllBare g')
  (hch:∀b∈ch,(b∈X.ex\/X.s₀.heap.objs.size<=b)/\b≠X.env.locals/\(∀x c,X.env.cells.lookup x=some c->c≠b)/\∀p∈X.pn++pins,p.1≠b) :
  Inv X pins σ H' { s with heap:=h',gens:=g',drawn:=d',toks:=t' }:=by
 obtain⟨m,⟨o,es,ep,ho,r⟩,_⟩:=id I.loc
 obtain⟨sl,hL⟩:=u.any ho I.free λz=>(hch _ z).2.1 rfl
 exact I.step (ch:=ch) hch (λb o hL hb hc e n=>u.keep b o e n (λz=>(mem_cons.mp (I.stkSub b z)).elim hL hb) hc) (λb o _ _ hc e n=>u.any e n hc) (λb o hc e n=>u.free b o e n hc) (λb o hc e=>u.there b o e hc) u.tups u.frzs u.tbls (λm' hm=>by
  obtain⟨o',es',ep',ho',r'⟩:=hm
  rw[ho] at ho';cases ho'
  exact⟨_,es',ep',hL,r'⟩) hok hg
theorem Inv.turned{t':Nat}{it:Addr}(I:Inv X pins σ H s)(k:∀b o,b≠it->s.heap.get? b=some o->h'.get? b=some o)(hn:H it=none)(hL:it≠X.env.locals)
  (h1:it∈X.ex\/X.s₀.heap.objs.size<=it) (h2:∀x c,X.env.cells.lookup x=some c->c≠it) (h3:∀p∈X.pn++pins,p.1≠it):Inv X pins σ H { s with heap:=h',toks:=t' }:=by
 have nit:∀b u,H b=some u->b≠it:=λb u e z=>by rw[z,hn] at e;cases e
 refine I.step (g':=s.gens) (d':=s.drawn) (ch:=[it]) (λb hb=>?_) (λb o _ _ hc e _=>k b o (λz=>hc (by simp [z])) e) (λb o _ _ hc e _=>⟨o.slots,k b o (λz=>hc (by simp [z])) e⟩) (λ_ _ _ _ n=>n)
  (λb o hc e=>⟨o,k b o (λz=>hc (by simp [z])) e⟩) (λ_ _ e=>e) (λ_ _ _ e=>e) (λb ps e=>⟨#[],by rw[e];simp⟩) (λm hm=>?_) (λb u e=>?_) I.bare
 ·have e:b=it:=by simpa using hb
  subst e
  exact⟨h1,hL,h2,h3⟩
 ·obtain⟨o,es,ep,ho,r⟩:=hm
  exact⟨o,es,ep,k _ o (Ne.symm hL) ho,r⟩
 ·refine (I.hok b u e).stay (λc v hc q=>k c v ?_ q) (λ_ q=>q) λ_ _ q=>q
  rcases hc with z | z
  ·rw[z];exact nit b u e
  ·exact nit c _ z
theorem Inv.tok(I:Inv X pins σ H s)(t:Nat):Inv X pins σ H { s with toks:=t }:=I.un (h':=s.heap) (t':=t) Un.refl I.hok
theorem Inv.kept{t':Nat}(I:Inv X pins σ H s)(k:∀b u,s.heap.get? b=some u->h'.get? b=some u):Inv X pins σ H { s with heap:=h',toks:=t' }:=I.un (Un.kept k) (I.hok.kept k)
theorem Inv.laid{a:Addr}{o:HO}{t':Nat}(I:Inv X pins σ H s)(k:∀b u,s.heap.get? b=some u->h'.get? b=some u)(hp:s.heap.objs.size<=a)(new:ObjOk X.prog X.w (upd H a o) h' a o) :
  Inv X pins σ (upd H a o) { s with heap:=h',toks:=t' }:=I.un (Un.laid k hp (I.hok.fresh hp)) (I.hok.laid k hp new)
theorem Inv.write{x e:Addr}{o:HO}{t':Nat}(I:Inv X pins σ H s)(mu:Mut (H x))(he:e=x\/H e=some (.own x))(k:∀b u,b≠e->s.heap.get? b=some u->h'.get? b=some u)(heo:∃u,h'.get? e=some u)
  (new:ObjOk X.prog X.w (upd H x o) h' x o):Inv X pins σ (upd H x o) { s with heap:=h',toks:=t' }:=I.un (Un.write mu he k heo) (I.hok.write mu he k heo new)
theorem Inv.weak{σ':List (Option V)}(I:Inv X pins σ H s)(hl:σ'.length=σ.length)(w:∀(i:Nat) v,σ'[i]? = some (some v)->σ[i]? = some (some v)):Inv X pins σ' H s :=
 ⟨I.ok,I.os,I.bare,I.base,let ⟨m,hn,hl'⟩:=I.loc;⟨m,hn,λi x v e1 e2 e3=>hl' i x v e1 (w i v e2) e3⟩,I.cell,I.free,I.freeC,I.pin,I.hok,hl.trans I.len⟩
theorem Inv.pins_of{pins':List (Addr×Obj)}(I:Inv X pins σ H s)(h:∀p∈pins',s.heap.get? p.1=some p.2/\H p.1=none/\p.1≠X.env.locals/\p.1∉X.fs/\∀v,p.2.data≠.cell v):Inv X pins' σ H s :=
 ⟨I.ok,I.os,I.bare,I.base,I.loc,I.cell,I.free,I.freeC,λp hp=>(mem_append.mp hp).elim (λz=>I.pin p (mem_append_left _ z)) (h p),I.hok,I.len⟩
theorem Tb{N:List Str}(hN:N.Nodup){i j:Nat}{x:Str}(a:N[i]? = some x)(b:N[j]? = some x):i=j:=by
 obtain⟨h1,e1⟩:=List.getElem?_eq_some_iff.mp a
 obtain⟨h2,e2⟩:=List.getElem?_eq_some_iff.mp b
 exact (List.getElem_inj hN).mp (e1.trans e2.symm)
theorem Sf{M:Model}{A:Around}{E:Value->Shared->Prop}{i:Nat}{x:Str}{v:V}{u:Value}{Q:Unit->Shared->Prop}(I:Inv X pins σ H s)(hN:X.N.Nodup)(hi:X.N[i]? = some x)(hx:Loc X.env.scope x)(r:RelV v u)
  (h:∀s',Inv X pins (σ.set i (some v)) H s'->(∃a,SameBut a s.heap s'.heap/\(a=X.env.locals\/X.env.cells.lookup x=some a))->Q () s') (hf:X.fn x=true\/X.env.scope.names.lookup x=some .local:=by first | exact .inl rfl | exact .inr rfl | assumption):wpAny M A (storeName X.env x u) Q E s:=by
 obtain⟨m,hn,hl⟩:=id I.loc
 have hcls:(X.env.scope.kind==.class || (X.env.scope.kind==.module&&X.env.locals != X.env.globals))=false:=by rw[I.ok.kind];rfl
 have hiσ:i<σ.length:=by rw[I.len];exact (List.getElem?_eq_some_iff.mp hi).1
 have cne:=I.cne
 have tracked:∀{a:Addr} {h':Heap},(∃o,s.heap.get? a=some o/\H a=none)->SameBut a s.heap h'->HOk X.prog X.w H h':=λ{a h'} ha hs b ob e=>by
  obtain⟨_,_,hfree⟩:=ha
  refine (I.hok b ob e).stay (λc w' hc q=>(hs.2 c ?_).trans q) (λ_ q=>q) λ_ _ q=>q
  rintro rfl
  rcases hc with rfl | hc
  ·rw[hfree] at e;cases e
  ·rw[hfree] at hc;cases hc
 rcases hx with hk | hk
 ·refine wpAny_storeName_local hk hn (λh' hn' hs=>?_) hcls
  obtain⟨oL,_,_,hoL,_⟩:=id hn
  refine h _ ⟨I.ok,I.os,I.bare,⟨λb o e n hb hx=>?_,λb o e n hb hx=>?_,I.base.free,λb o e hx=>?_,I.base.tups,I.base.frzs,I.base.tbls⟩,⟨_,hn',λj y v' e1 e2 e3=>?_⟩,λy c e=>?_,I.free,I.freeC,λp hp=>?_,tracked ⟨oL,hoL,I.free⟩ hs,by simpa using I.len⟩ ⟨_,hs,.inl rfl⟩
  ·exact (hs.2 b (ne_of_lt (Nat.lt_of_lt_of_le (lt_size e) I.ok.above))).trans (I.base.keep b o e n hb hx)
  ·obtain⟨sl,e1⟩:=I.base.slot b o e n hb hx
   exact⟨sl,(hs.2 b (ne_of_lt (Nat.lt_of_lt_of_le (lt_size e) I.ok.above))).trans e1⟩
  ·obtain⟨o',e1⟩:=I.base.there b o e hx
   exact⟨o',(hs.2 b (ne_of_lt (Nat.lt_of_lt_of_le (lt_size e) I.ok.above))).trans e1⟩
  ·by_cases hj:j=i
   ·subst hj
    rw[hi] at e1;cases e1
    rw[getElem?_set_self hiσ] at e2
    cases e2
    exact⟨u,r,.inl ⟨hk,by simp⟩⟩
   ·rw[getElem?_set_ne (Ne.symm hj)] at e2
    obtain⟨u',r',q⟩:=hl j y v' e1 e2 e3
    refine⟨u',r',?_⟩
    rcases q with ⟨k,e⟩ | ⟨k,c,e,z⟩
    ·refine .inl ⟨k,?_⟩
     have:y≠x:=λe=>hj (Tb hN e1 (e▸hi))
     simp [this,e]
    ·exact .inr ⟨k,c,e,z.sameBut hs (cne y c e)⟩
  ·obtain⟨w',z⟩:=I.cell y c e
   exact⟨w',z.sameBut hs (cne y c e)⟩
  ·obtain⟨e,n,ne,nf,d⟩:=I.pin p hp
   exact⟨(hs.2 p.1 ne).trans e,n,ne,nf,d⟩
 ·have hfn:X.fn x=true:=by
   rcases hf with z | z
   ·exact z
   ·rw[z] at hk;cases hk
  obtain⟨c,hc⟩:=I.ok.has x (.inl hk)
  obtain⟨w',z⟩:=I.cell x c hc
  refine wpAny_storeName_cell I.ok.kind hk hc z (λh' hc' hs=>?_)
  obtain⟨oc,hoc,hocd⟩:=id z
  refine h { s with heap:=h' } ⟨I.ok,I.os,I.bare,⟨λb o e n hb hx=>?_,λb o e n hb hx=>?_,I.base.free,λb o e hx=>?_,I.base.tups,I.base.frzs,I.base.tbls⟩,⟨m,hn.sameBut hs (Ne.symm (cne x c hc)),λj y v' e1 e2 e3=>?_⟩,λy c' e=>?_,I.free,I.freeC,λp hp=>?_,tracked ⟨oc,hoc,I.freeC x c hc⟩ hs,by simpa using I.len⟩ ⟨c,hs,.inr hc⟩
  ·exact (hs.2 b (ne_of_lt (Nat.lt_of_lt_of_le (lt_size e) (I.ok.cab x c hfn hc)))).trans (I.base.keep b o e n hb hx)
  ·obtain⟨sl,e1⟩:=I.base.slot b o e n hb hx
   exact⟨sl,(hs.2 b (ne_of_lt (Nat.lt_of_lt_of_le (lt_size e) (I.ok.cab x c hfn hc)))).trans e1⟩
  ·obtain⟨o',e1⟩:=I.base.there b o e hx
   exact⟨o',(hs.2 b (ne_of_lt (Nat.lt_of_lt_of_le (lt_size e) (I.ok.cab x c hfn hc)))).trans e1⟩
  ·by_cases hj:j=i
   ·subst hj
    rw[hi] at e1;cases e1
    rw[getElem?_set_self hiσ] at e2
    cases e2
    exact⟨u,r,.inr ⟨.inl hk,c,hc,hc'⟩⟩
   ·rw[getElem?_set_ne (Ne.symm hj)] at e2
    obtain⟨u',r',q⟩:=hl j y v' e1 e2 e3
    refine⟨u',r',?_⟩
    rcases q with q | ⟨k,c',e,z'⟩
    ·exact .inl q
    ·refine .inr ⟨k,c',e,z'.sameBut hs ?_⟩
     rintro rfl
     exact hj (Tb hN e1 (I.ok.inj _ _ _ e hc▸hi))
  ·by_cases hcc:c'=c
   ·subst hcc;exact⟨_,hc'⟩
   ·obtain⟨w2,z2⟩:=I.cell y c' e
    exact⟨w2,z2.sameBut hs hcc⟩
  ·obtain⟨e,n,ne,nf,d⟩:=I.pin p hp
   refine⟨(hs.2 p.1 ?_).trans e,n,ne,nf,d⟩
   intro q
   rw[q,hoc] at e
   have q':oc=p.2:=Option.some.inj e
   exact d w' (by rw[<- q'];exact hocd)
theorem Qf{M:Model}{A:Around}{E:Value->Shared->Prop}{i:Nat}{x:Str}{v:V}{u:Value}{Q:Unit->Shared->Prop}(I:Inv X pins σ H s)(hN:X.N.Nodup)(hi:X.N[i]? = some x)(hx:Loc X.env.scope x)(r:RelV v u)
  (h:∀s',Inv X pins (σ.set i (some v)) H s'->Q () s') (hf:X.fn x=true\/X.env.scope.names.lookup x=some .local:=by first | exact .inl rfl | exact .inr rfl | assumption):wpAny M A (storeName X.env x u) Q E s :=
 Sf I hN hi hx r (λs' I' _=>h s' I') hf
end
abbrev XK:=Value->Option Addr->Hp->Prop
abbrev St:=List (Option V)
abbrev VK:=V->Hp->Prop
abbrev TE:=St->Hp->VK->Prop
abbrev TT:=St->Hp->(Bool->Hp->Prop)->Prop
abbrev TA:=St->Hp->(List V->Hp->Prop)->Prop
structure Ends where
 nx:St->Hp->Prop
 rt:VK
 bk:St->Hp->Prop:=λ_ _=>False
 ct:St->Hp->Prop:=λ_ _=>False
abbrev TS:=Ends->St->Hp->Prop
def EP(X:Cx)(pins:List (Addr×Obj))(σ:St)(Q:VK)(u:Value)(s':Shared):Prop:=∃v H',Inv X pins σ H' s'/\RelV v u/\Q v H'
def TP(X:Cx)(pins:List (Addr×Obj))(σ:St)(Q:Bool->Hp->Prop)(b:Bool)(s':Shared):Prop:=∃H',Inv X pins σ H' s'/\Q b H'
def AP(X:Cx)(pins:List (Addr×Obj))(σ:St)(Q:List V->Hp->Prop)(us:List Value)(s':Shared):Prop:=∃vs H',Inv X pins σ H' s'/\Vals vs us/\Q vs H'
def SP(X:Cx)(pins:List (Addr×Obj))(D:Ends)(f:Flow)(s':Shared):Prop :=
 match f with
 | .next=>∃σ' H',Inv X pins σ' H' s'/\D.nx σ' H'
 | .brk=>∃σ' H',Inv X pins σ' H' s'/\D.bk σ' H'
 | .cont=>∃σ' H',Inv X pins σ' H' s'/\D.ct σ' H'
 | .ret u=>∃v σ' H',Inv X pins σ' H' s'/\RelV v u/\D.rt v H'
def PE(X:Cx)(e:Expr)(t:TE):Prop :=
 ∀(pins:List (Addr×Obj)) (s:Shared) (σ:St) (H:Hp) (Q:VK),Inv X pins σ H s->t σ H Q->wpAny (model X.prog X.w) X.A (eval e X.env) (EP X pins σ Q) X.xe s
def PT(X:Cx)(e:Expr)(t:TT):Prop :=
 ∀(pins:List (Addr×Obj)) (s:Shared) (σ:St) (H:Hp) (Q:Bool->Hp->Prop),Inv X pins σ H s->t σ H Q->wpAny (model X.prog X.w) X.A (isTrue e X.env (eval e X.env)) (TP X pins σ Q) X.xe s
def PA(X:Cx)(es:List Expr)(t:TA):Prop :=
 ∀(pos:Pos) (pins:List (Addr×Obj)) (s:Shared) (σ:St) (H:Hp) (Q:List V->Hp->Prop),Inv X pins σ H s->t σ H Q->wpAny (model X.prog X.w) X.A (spliced (backTo pos (starEach es X.env))) (AP X pins σ Q) X.xe s
def PS(X:Cx)(st:Stmt)(t:TS):Prop :=
 ∀(pins:List (Addr×Obj)) (s:Shared) (σ:St) (H:Hp) (D:Ends),Inv X pins σ H s->t D σ H->wpAny (model X.prog X.w) X.A (exec st X.env) (SP X pins D) X.xe s
def PSs(X:Cx)(st:List Stmt)(t:TS):Prop :=
 ∀(pins:List (Addr×Obj)) (s:Shared) (σ:St) (H:Hp) (D:Ends),Inv X pins σ H s->t D σ H->wpAny (model X.prog X.w) X.A (execs st X.env) (SP X pins D) X.xe s
theorem thn{α:Type}{t:Sem α}{Q Q':α->Shared->Prop}{M:Model}{A:Around}{E:Value->Shared->Prop}{s:Shared}(h:wpAny M A t Q E s)(hQ:∀a s,Q a s->Q' a s):wpAny M A t Q' E s:=wpAny_mono h hQ λ_ _ x=>x
section
variable {X:Cx}
def Ff(i:Nat):TE:=λσ H Q=>∃v,σ[i]? = some (some v)/\Q v H
def tC(v:V):TE:=λ_ H Q=>Q v H
theorem Afp{i:Nat}{x:Str}{pos:Pos}(hN:X.N[i]? = some x)(hv:Vis X.env.scope x)(hd:(x==("__debug__" : Str))=false:=by decide)(hcd:(x==("__classdict__" : Str))=false:=by decide):PE X (.Name x pos) (Ff i):=by
 intro pins s σ H Q I h
 obtain⟨v,e,h⟩:=h
 obtain⟨m,hn,hl⟩:=I.loc
 obtain⟨u,r,l⟩:=hl i x v hN e hv
 have fin:EP X pins σ Q u s:=⟨v,H,I,r,h⟩
 rcases l with ⟨hk,hm⟩ | ⟨hk,c,hc,hcell⟩
 ·exact wpAny_Name (wpAny_loadName_local I.ok.kind hk hn hm fin) hd
 ·rcases hk with hk | hk
  ·exact wpAny_Name (wpAny_loadName_cell I.ok.kind hk hc hcell fin) hd
  ·exact wpAny_Name (wpAny_loadName_free I.ok.kind hk hc hcell fin hcd) hd
theorem Bd{i j pos}:PE X (.Constant (.int i) j pos) (tC (.int i)):=λ_ _ _ H _ I h=>wpAny_Constant_int ⟨.int i,H,I.tok _,⟨_,rfl⟩,h⟩
theorem Gq{b j pos}:PE X (.Constant (.bool b) j pos) (tC (.bl b)):=λ_ _ _ H _ I h=>Constant_bool ⟨.bl b,H,I,rfl,h⟩
theorem Qs{j pos}:PE X (.Constant .none j pos) (tC .non):=λ_ _ _ H _ I h=>Constant_none ⟨.non,H,I,rfl,h⟩
theorem Ca{x j pos}:PE X (.Constant (.str x) j pos) (tC (.str x)):=λ_ _ _ H _ I h=>Calls.Constant_str ⟨.str x,H,I.tok _,⟨_,rfl⟩,h⟩
def Gl(X:Cx)(x:Str):Prop:=X.env.kindOf x=some .globalImplicit
theorem Gw{E:Value->Shared->Prop}{pins:List (Addr×Obj)}{s:Shared}{σ:St}{H:Hp}{x:Str}{u:Value}{pos:Pos}{Q:Value->Shared->Prop}(I:Inv X pins σ H s)(hg:Gl X x)(hm:X.mg x=some u)(h:Q u s)
  (hd:(x==("__debug__" : Str))=false:=by decide):wpAny (model X.prog X.w) X.A (eval (.Name x pos) X.env) Q E s :=
 Calls.Name_function_global I.ok.kind hg (Calls.loadGlobal_global (by rw[I.ok.glob];exact I.mod.glob.keeps I.bk) hm h) hd
theorem Nl{E:Value->Shared->Prop}{pins:List (Addr×Obj)}{s:Shared}{σ:St}{H:Hp}{x:Str}{u:Value}{pos:Pos}{Q:Value->Shared->Prop}(I:Inv X pins σ H s)(hg:Gl X x)(hm:X.mg x=none)(hv:bootBuiltins x=some u)(h:Q u s)
  (hn:x≠"__name__":=by decide) (hd:(x==("__debug__" : Str))=false:=by decide):wpAny (model X.prog X.w) X.A (eval (.Name x pos) X.env) Q E s:=by
 obtain⟨mb,h1,h2⟩:=I.mod.blt
 exact Calls.Name_function_global I.ok.kind hg (Calls.loadGlobal_builtin (by rw[I.ok.glob];exact I.mod.glob.keeps I.bk) hm (by rw[I.ok.blt];exact h1.keeps I.bk) ((h2 x hn).trans hv) h) hd
theorem Fu{x:Str}{v:V}{u:Value}{pos:Pos}(hg:Gl X x)(hm:X.mg x=some u)(r:RelV v u)(hd:(x==("__debug__" : Str))=false:=by decide):PE X (.Name x pos) (tC v) :=
 λ_ _ _ H _ I h=>Gw I hg hm ⟨v,H,I,r,h⟩ hd
theorem Ja{x:Str}{v:V}{u:Value}{pos:Pos}(hg:Gl X x)(hm:X.mg x=none)(hv:bootBuiltins x=some u)(r:RelV v u)(hn:x≠"__name__":=by decide)(hd:(x==("__debug__" : Str))=false:=by decide):PE X (.Name x pos) (tC v) :=
 λ_ _ _ H _ I h=>Nl I hg hm hv ⟨v,H,I,r,h⟩ hn hd
variable {a b:Expr}{ta tb:TE}{pos:Pos}
def PC(X:Cx)(op:CmpOp)(a b:Expr)(t:TE):Prop :=
 ∀(pins:List (Addr×Obj)) (s:Shared) (σ:St) (H:Hp) (Q:VK),Inv X pins σ H s->t σ H Q ->
  wpAny (model X.prog X.w) X.A (eval a X.env) (λv s₁=>wpAny (model X.prog X.w) X.A (eval b X.env) (λu s₂=>wpAny (model X.prog X.w) X.A (compareOp op v u) (EP X pins σ Q) X.xe s₂) X.xe s₁) X.xe s
def tB(t:TE):TT:=λσ H Q=>t σ H λx H1=>∃c,x=.bl c/\Q c H1
theorem Re{op:CmpOp}{t:TE}(h:PC X op a b t)(h1:behindInMarks op b=false:=by first | exact nobehind _ (by decide) (by decide) | rfl):PE X (.Compare a [op] [b] pos) t:=λpins s σ H Q I hw=>wpAny_Compare1 (h pins s σ H Q I hw) h1
theorem Afl{op:CmpOp}{t:TE}(h:PC X op a b t)(h1:behindInMarks op b=false:=by first | exact nobehind _ (by decide) (by decide) | rfl):PT X (.Compare a [op] [b] pos) (tB t):=by
 intro pins s σ H Q I hw
 refine wpAny_isTrue_Compare1 (thn (h pins s σ H _ I hw) λv s1 h1=>thn h1 λu s2 h2=>thn h2 λc s3 ⟨x,H1,I1,r1,q1⟩=>?_) h1
 obtain⟨d,rfl,q⟩:=q1
 cases r1
 exact wpAny_truthy_bool ⟨H1,I1,q⟩
theorem Tl{e:Expr}{t:TE}(h:PE X e t)(he:∀whole,isTrue e X.env whole=(do let v <- whole;standAt e.pos;holding [v] (truthy v)):=by intro _;rfl):PT X e (tB t):=by
 intro pins s σ H Q I hw
 refine isTrue_plain (thn (h pins s σ H _ I hw) λv s1 ⟨x,H1,I1,r1,q1⟩=>?_) (he _)
 obtain⟨d,rfl,q⟩:=q1
 cases r1
 exact wpAny_truthy_bool ⟨H1,I1,q⟩
variable {tA tB':TT}{rest:List Expr}
def AbJ(t:TT):TT:=λσ H Q=>t σ H λc H1=>Q (!c) H1
theorem Su(ha:PT X a tA):PT X (.UnaryOp .Not a pos) (AbJ tA):=by
 intro pins s σ H Q I h
 exact isTrue_not (ha pins s σ H (λc H1=>Q (!c) H1) I h)
def Wq(ta tb:TE):TE:=λσ H Q=>ta σ H λx H1=>∃c,x=.bl c/\if c=true then tb σ H1 Q else Q (.bl false) H1
def Wd(ta:TE):TE:=λσ H Q=>ta σ H λx H1=>∃c,x=.bl c/\Q (.bl (!c)) H1
theorem Ge{op}{t:TE}(h:PE X a t):PE X (.BoolOp op [a] pos) t:=λpins s σ H Q I hw=>BoolOp_one (h pins s σ H Q I hw)
theorem Fa(ha:PE X a ta)(hb:PE X (.BoolOp .And (b::rest) pos) tb):PE X (.BoolOp .And (a::b::rest) pos) (Wq ta tb):=by
 intro pins s σ H Q I h
 refine BoolOp_and (thn (ha pins s σ H _ I h) λv s1 ⟨x,H1,I1,r1,q1⟩=>?_)
 obtain⟨c,rfl,q1⟩:=q1
 cases r1
 refine wpAny_truthy_bool ?_
 cases c with
 | true=>exact hb pins s1 σ H1 Q I1 q1
 | false=>exact⟨.bl false,H1,I1,rfl,q1⟩
theorem Nh(ha:PE X a ta):PE X (.UnaryOp .Not a pos) (Wd ta):=by
 intro pins s σ H Q I h
 refine UnaryOp_ (thn (ha pins s σ H _ I h) λv s1 ⟨x,H1,I1,r1,q1⟩=>?_)
 obtain⟨c,rfl,q1⟩:=q1
 cases r1
 exact not_of (wpAny_truthy_bool ⟨.bl (!c),H1,I1,rfl,q1⟩)
end
def SqL(K:Frag)(H:Hp)(a:Addr)(xs:List V):Prop :=
 Rd H a (.lst xs) \/
  ∃(o:Obj) (its:Array Value) (n:Nat),K.lookup a=some o/\o.cls=.type "list"/\o.dict=none/\o.data=.seq its n/\its.size<=sizeLine/\Vals xs its.toList
def SqT(K:Frag)(H:Hp)(a:Addr)(xs:List V):Prop :=
 Rd H a (.tup xs) \/
  ∃(o:Obj) (its:Array Value) (n:Nat),K.lookup a=some o/\o.cls=.type "tuple"/\o.data=.seq its n/\its.size<=sizeLine/\Vals xs its.toList
def AgF:Value->Option V
 | .none=>some .non
 | .bool b=>some (.bl b)
 | .int i _=>some (.int i)
 | .str x _=>some (.str x)
 | .bytes b _=>some (.byt b)
 | .float b _=>some (.flt b)
 | .ref a=>some (.ref a)
 | .type n=>some (.ty n)
 | _=>none
theorem RelV.abs{x:V}{u:Value}(r:RelV x u):AgF u=some x:=by
 cases x with
 | non=>cases r;rfl
 | bl _=>cases r;rfl
 | int _=>obtain⟨t,rfl⟩:=r;rfl
 | str _=>obtain⟨t,rfl⟩:=r;rfl
 | byt _=>obtain⟨t,rfl⟩:=r;rfl
 | flt _=>obtain⟨t,rfl⟩:=r;rfl
 | ref _=>cases r;rfl
 | ty _=>cases r;rfl
theorem RelV.inj{x y:V}{u:Value}(r:RelV x u)(q:RelV y u):x=y:=Option.some.inj (r.abs.symm.trans q.abs)
theorem Vals.inj:∀{xs ys:List V} {us:List Value},Vals xs us->Vals ys us->xs=ys
 | _,_,_,.nil,.nil=>rfl
 | _,_,_,.cons r t,.cons r' t'=>by rw[r.inj r',Vals.inj t t']
section
variable {X:Cx}{pins:List (Addr×Obj)}{σ:St}{H:Hp}{s:Shared}{a:Addr}{xs ys:List V}
theorem SqL.of{K:Frag}(h:H a=some (.lst xs)):SqL K H a xs:=.inl (.inl h)
theorem SqT.of{K:Frag}(h:H a=some (.tup xs)):SqT K H a xs:=.inl (.inl h)
theorem Inv.list(I:Inv X pins σ H s)(h:SqL X.K H a xs):∃its:List Value,Vals xs its/\PlainL s.heap a its.toArray/\xs.length<=sizeLine:=by
 rcases h with h | ⟨o,its,n,hk,hc,hd,hs,hz,r⟩
 ·obtain⟨z,its,n,r,e⟩:=h.ok I.hok
  exact⟨its,r,⟨_,n,e,rfl,rfl,rfl⟩,z⟩
 ·refine⟨its.toList,r,⟨o,n,I.kIn a o hk,hc,hd,by simpa using hs⟩,?_⟩
  have e:=r.length
  simp only [Array.length_toList] at e
  omega
theorem Inv.tuple(I:Inv X pins σ H s)(h:SqT X.K H a xs):∃its:List Value,Vals xs its/\IsTup s.heap a its.toArray/\xs.length<=sizeLine:=by
 rcases h with h | ⟨o,its,n,hk,hc,hs,hz,r⟩
 ·obtain⟨z,its,r,p⟩:=h.ok I.hok
  exact⟨its,r,p,z⟩
 ·refine⟨its.toList,r,⟨o,I.kIn a o hk,hc,n,by simpa using hs⟩,?_⟩
  have e:=r.length
  simp only [Array.length_toList] at e
  omega
theorem Inv.list_inj(I:Inv X pins σ H s)(h:SqL X.K H a xs)(h':SqL X.K H a ys):xs=ys:=by
 obtain⟨its,r,⟨o,n,e,_,_,d⟩,_⟩:=I.list h
 obtain⟨its',r',⟨o',n',e',_,_,d'⟩,_⟩:=I.list h'
 rw[e] at e';cases e'
 rw[d] at d'
 injection d' with d1 _
 have:its=its':=by simpa using congrArg Array.toList d1
 subst this
 exact r.inj r'
end
abbrev Cx.wish(X:Cx)(E:Value->Shared->Prop):Cx:={ X with xe:=E }
abbrev Cx.nox(X:Cx):Cx:=X.wish λ_ _=>False
theorem Cx.Ok.wish{X:Cx}(ok:X.Ok)(E:Value->Shared->Prop):(X.wish E).Ok :=
 ⟨ok.mod,ok.kind,ok.glob,ok.blt,ok.above,ok.inj,ok.has,ok.cab,ok.hd,ok.frames,ok.stk,ok.exf,ok.bs,ok.bsz,ok.noex,ok.exfs,ok.funs,ok.frf⟩
theorem Cx.Ok.unwish{X:Cx}{E:Value->Shared->Prop}(ok:(X.wish E).Ok):X.Ok :=
 ⟨ok.mod,ok.kind,ok.glob,ok.blt,ok.above,ok.inj,ok.has,ok.cab,ok.hd,ok.frames,ok.stk,ok.exf,ok.bs,ok.bsz,ok.noex,ok.exfs,ok.funs,ok.frf⟩
section
variable {X:Cx}{pins:List (Addr×Obj)}{σ:St}{H:Hp}{s:Shared}{E:Value->Shared->Prop}
theorem Inv.wish(I:Inv X pins σ H s)(E:Value->Shared->Prop):Inv (X.wish E) pins σ H s:=⟨I.ok.wish E,I.os,I.bare,I.base,I.loc,I.cell,I.free,I.freeC,I.pin,I.hok,I.len⟩
theorem Inv.unwish(I:Inv (X.wish E) pins σ H s):Inv X pins σ H s:=⟨I.ok.unwish,I.os,I.bare,I.base,I.loc,I.cell,I.free,I.freeC,I.pin,I.hok,I.len⟩
end
section
variable {X:Cx}{st:Stmt}{rest:List Stmt}{t u:TS}{e:Expr}{te:TE}{pos:Pos}
def Xe:TS:=λD σ H=>D.nx σ H
def Rp(t u:TS):TS:=λD σ H=>t { D with nx:=u D } σ H
theorem Fi:PSs X [] Xe:=λ_ _ σ H _ I h=>wpAny_execs_nil ⟨σ,H,I,h⟩
theorem Bh(h1:PS X st t)(h2:PSs X rest u):PSs X (st::rest) (Rp t u):=by
 intro pins s σ H D I h
 refine wpAny_execs_cons (thn (h1 pins s σ H { D with nx:=u D } I h) λf s1 q=>?_)
 cases f with
 | next =>
  obtain⟨σ',H',I',q⟩:=q
  exact h2 pins s1 σ' H' D I' q
 | ret v=>exact q
 | brk=>exact q
 | cont=>exact q
theorem Bx(h1:PS X st t):PSs X [st] t:=by
 intro pins s σ H D I h
 refine wpAny_execs_cons (thn (h1 pins s σ H D I h) λf s1 q=>?_)
 cases f with
 | next=>exact wpAny_execs_nil q
 | ret v=>exact q
 | brk=>exact q
 | cont=>exact q
theorem Inv.quiet{pins:List (Addr×Obj)}{σ:St}{H:Hp}{s:Shared}(I:Inv X pins σ H s):interactive X.env=false:=by simp [interactive,I.ok.kind]
def Si(te:TE):TS:=λD σ H=>te σ H λ_ H1=>D.nx σ H1
theorem Cf(he:PE X e te)(hs:swapsWith e none pos.line X.env=pure false:=by rfl):PS X (.Expr e pos) (Si te):=by
 intro pins s σ H D I h
 exact wpAny_Expr_any (thn (he pins s σ H _ I h) λv s1 ⟨x,H1,I1,r1,q1⟩=>⟨σ,H1,I1,q1⟩) I.quiet hs
def Tv(te:TE):TS:=λD σ H=>te σ H D.rt
theorem Cu(he:PE X e te):PS X (.Return (some e) pos) (Tv te):=by
 intro pins s σ H D I h
 exact wpAny_Return_some (thn (he pins s σ H _ I h) λv s1 ⟨x,H1,I1,r1,q1⟩=>⟨x,σ,H1,I1,r1,q1⟩)
def Abg(c:TT)(t u:TS):TS:=λD σ H=>c σ H λb H1=>if b=true then t D σ H1 else u D σ H1
theorem Ga{c:Expr}{a b:List Stmt}{tc:TT}(hc:PT X c tc)(ha:PSs X a t)(hb:PSs X b u):PS X (.If c a b pos) (Abg tc t u):=by
 intro pins s σ H D I h
 refine wpAny_If (thn (hc pins s σ H _ I h) λd s1 ⟨H1,I1,q1⟩=>?_)
 cases d with
 | true=>exact ha pins s1 σ H1 D I1 q1
 | false=>exact hb pins s1 σ H1 D I1 q1
end
abbrev TG:=V->St->Hp->(St->Hp->Prop)->Prop
abbrev TGs:=List V->St->Hp->(St->Hp->Prop)->Prop
def PG(X:Cx)(target:Expr)(t:TG):Prop :=
 ∀(pins:List (Addr×Obj)) (s:Shared) (σ:St) (H:Hp) (v:V) (u:Value) (Q:St->Hp->Prop),Inv X pins σ H s->RelV v u->t v σ H Q ->
  wpAny (model X.prog X.w) X.A (assign target X.env u) (λ_ s'=>∃σ' H',Inv X pins σ' H' s'/\Q σ' H') X.xe s
def PGs(X:Cx)(ts:List Expr)(t:TGs):Prop :=
 ∀(pins:List (Addr×Obj)) (s:Shared) (σ:St) (H:Hp) (vs:List V) (us:List Value) (Q:St->Hp->Prop),Inv X pins σ H s->Vals vs us->t vs σ H Q ->
  wpAny (model X.prog X.w) X.A (assignInOrder ((assignEach ts X.env).map (·.2)) us) (λ_ s'=>∃σ' H',Inv X pins σ' H' s'/\Q σ' H') X.xe s
section
variable {X:Cx}{pos:Pos}
def Gd(i:Nat):TG:=λv σ H Q=>Q (σ.set i (some v)) H
theorem Cm{i:Nat}{x:Str}(hN:X.N.Nodup)(hi:X.N[i]? = some x)(hx:Loc X.env.scope x)(hf:X.fn x=true\/X.env.scope.names.lookup x=some .local:=by first | exact .inl rfl | exact .inr rfl | assumption):PG X (.Name x pos) (Gd i):=by
 intro pins s σ H v u Q I r h
 exact wpAny_assign_Name (Qf I hN hi hx r (λs' I'=>⟨_,H,I',h⟩) hf)
def AbO:TGs:=λvs σ H Q=>vs=[]/\Q σ H
def Vx(t:TG)(u:TGs):TGs:=λvs σ H Q=>∃v r,vs=v::r/\t v σ H λσ' H'=>u r σ' H' Q
theorem Fw:PGs X [] AbO:=by
 intro pins s σ H vs us Q I r h
 obtain⟨e,h⟩:=h
 subst e
 cases r
 exact assignInOrder_nil ⟨σ,H,I,h⟩
theorem Cy{e:Expr}{es:List Expr}{t:TG}{u:TGs}(h1:PG X e t)(h2:PGs X es u)
  (hs:(assignEach (e::es) X.env).map (·.2)=assign e X.env::(assignEach es X.env).map (·.2):=by rfl):PGs X (e::es) (Vx t u):=by
 intro pins s σ H vs us Q I r h
 obtain⟨v,vr,e1,h⟩:=h
 subst e1
 cases r with
 | cons r rr =>
  rw[hs]
  refine assignInOrder_cons (thn (h1 pins s σ H _ _ _ I r h) λ_ s1 ⟨σ1,H1,I1,q1⟩=>?_)
  exact h2 pins s1 σ1 H1 _ _ Q I1 rr q1
def Sy(K:Frag)(n:Nat)(t:TGs):TG:=λv σ H Q=>∃a xs,v=.ref a/\SqT K H a xs/\xs.length=n/\t xs σ H Q
theorem Jj{es:List Expr}{k:Nat}{t:TGs}{n:Nat}(hc:X.calm=true)(h:PGs X es t)
  (hn:(assignEach es X.env).length=n:=by rfl) (hst:(assignEach es X.env).findIdx? (·.1)=none:=by rfl):PG X (.Tuple es k pos) (Sy X.K n t):=by
 intro pins s σ H v u Q I r hw
 obtain⟨a,xs,e1,hq,hl,hw⟩:=hw
 subst e1
 cases r
 obtain⟨its,rv,ht,hz⟩:=I.tuple hq
 refine assign_Tuple_tuple (I.ok.hd hc) ht (by simp [hn,<- hl,rv.length]) hst λh' hx=>?_
 have I1:Inv X pins σ H { s with heap:=h' }:=I.kept (t':=s.toks) λb o e=>hx b o (ne_of_lt (lt_size e)) e
 exact h pins _ σ H xs _ Q I1 (by simpa using rv) hw
def Jt(te:TE)(g:TG):TS:=λD σ H=>te σ H λx H1=>g x σ H1 D.nx
theorem Xn{tg e:Expr}{te:TE}{g:TG}(he:PE X e te)(hg:PG X tg g)(hs:swapsWithSole [tg] e pos.line X.env=pure false:=by rfl)(hw:swappedStores [tg] e X.env=pure none:=by rfl)
  (h1:(assignEach [tg] X.env).map (·.2)=[assign tg X.env]:=by rfl):PS X (.Assign [tg] e pos) (Jt te g):=by
 intro pins s σ H D I h
 refine wpAny_Assign_stores (thn (he pins s σ H _ I h) λv s1 ⟨x,H1,I1,r1,q1⟩=>?_) hs hw
 rw[h1]
 exact thn (hg pins s1 σ H1 x v _ I1 r1 q1) λ_ s2 q=>q
theorem Cb{i:Nat}{x:Str}{e:Expr}{te:TE}{pos':Pos}(hN:X.N.Nodup)(hi:X.N[i]? = some x)(hx:Loc X.env.scope x)(he:PE X e te)(hs:swapsWith e (some (.Name x pos')) pos.line X.env=pure false:=by rfl)(hf:X.fn x=true\/X.env.scope.names.lookup x=some .local:=by first | exact .inl rfl | exact .inr rfl | assumption) :
  PS X (.Assign [.Name x pos'] e pos) (Jt te (Gd i)):=by
 intro pins s σ H D I h
 refine wpAny_Assign_Name (thn (he pins s σ H _ I h) λv s1 ⟨y,H1,I1,r1,q1⟩=>?_) hs
 exact Qf I1 hN hi hx r1 (λs2 I2=>⟨_,H1,I2,q1⟩) hf
end
section
variable {X:Cx}{pos:Pos}
end
structure It where
 go:Nat->Hp->Prop
 yld:Nat->Hp->V->Hp->Prop
 stop:Nat->Hp->Prop
def Qk(X:Cx)(pins:List (Addr×Obj))(H:Hp)(b:Addr):Prop :=
 H b=none/\b≠X.env.locals/\b∉X.fs/\(b∈X.ex\/X.s₀.heap.objs.size<=b)/\(∀x c,X.env.cells.lookup x=some c->c≠b)/\∀p∈X.pn++pins,p.1≠b
theorem Inv.fpOk{X:Cx}{pins:List (Addr×Obj)}{σ:St}{H H':Hp}{s:Shared}{b:Addr}(I:Inv X pins σ H s)(hb:s.heap.objs.size<=b)(hn:H' b=none):Qk X pins H' b:=by
 refine⟨hn,Nat.ne_of_gt (Nat.lt_of_lt_of_le I.lt hb),I.nofs hb,.inr (Nat.le_trans I.sz hb),λx c e z=>?_,λp hp z=>?_⟩
 ·obtain⟨v,q⟩:=I.cell x c e
  exact absurd (Nat.lt_of_lt_of_le q.lt (by rw[z];exact hb)) (Nat.lt_irrefl _)
 ·exact absurd (Nat.lt_of_lt_of_le (lt_size (I.pin p hp).1) (by rw[z];exact hb)) (Nat.lt_irrefl _)
structure Ty(P:Program)(w:World)(K:Frag)(tg:Expr)(J:It)(fp:List Addr)(it:Addr)(tn:Nat->Heap->Prop):Prop where
 mem:it∈fp
 obj:∀i h,tn i h->∀b∈fp,∃o,h.get? b=some o/\∀v,o.data≠.cell v
 keep:∀i h h',tn i h->(∀b∈fp,∀o,h.get? b=some o->h'.get? b=some o)->tn i h'
 item:∀(X:Cx),X.prog=P->X.w=w->X.K=K->X.calm=true->∀(i:Nat) (pins:List (Addr×Obj)) (s:Shared) (σ:St) (H:Hp) (E:Value->Shared->Prop),Inv X pins σ H s->(∀b∈fp,Qk X pins H b)->tn i s.heap->J.go i H ->
  wpAny (model P w) X.A (pyNext (.ref it)) (λr s1=>∃u,r=some u /\
   wpAny (model P w) X.A (letOwnedTupleGo tg (.ref it) u) (λ_ s2=>∃x H',Inv X pins σ H' s2/\RelV x u/\J.yld i H x H'/\tn (i+1) s2.heap/\∀b∈fp,H' b=none) E s1) E s
 done:∀(X:Cx),X.prog=P->X.w=w->X.K=K->X.calm=true->∀(i:Nat) (pins:List (Addr×Obj)) (s:Shared) (σ:St) (H:Hp) (E:Value->Shared->Prop),Inv X pins σ H s->(∀b∈fp,Qk X pins H b)->tn i s.heap->J.stop i H ->
  wpAny (model P w) X.A (pyNext (.ref it)) (λr s1=>r=none/\Inv X pins σ H s1) E s
 self:∀(A:Around) (i:Nat) (s:Shared) (Q:Value->Shared->Prop) (E:Value->Shared->Prop),tn i s.heap->Q (.ref it) s->wpAny (model P w) A (pyIter (.ref it)) Q E s
abbrev TI:=St->Hp->(It->Hp->Prop)->Prop
def PIE(X:Cx)(pins:List (Addr×Obj))(σ:St)(tg:Expr)(R:It->Hp->Prop)(itv:Value)(s2:Shared):Prop :=
 ∃(it:Addr) (fp:List Addr) (tn:Nat->Heap->Prop) (J:It) (H':Hp),itv=.ref it/\Inv X pins σ H' s2/\Ty X.prog X.w X.K tg J fp it tn/\tn 0 s2.heap/\(∀b∈fp,Qk X pins H' b)/\R J H'
def PI(X:Cx)(tg iter:Expr)(wi:TI):Prop :=
 ∀(pins:List (Addr×Obj)) (s:Shared) (σ:St) (H:Hp) (R:It->Hp->Prop),Inv X pins σ H s->wi σ H R ->
  wpAny (model X.prog X.w) X.A (eval iter X.env) (λv s1=>wpAny (model X.prog X.w) X.A (pyIter v) (PIE X pins σ tg R) X.xe s1) X.xe s
theorem Wb{M:Model}{A:Around}{E:Value->Shared->Prop}{s:Shared}{tg:Expr}{it:Addr}{u:Value}{o:Obj}{n:String}{vs:Array Value}{Q:Unit->Shared->Prop}(ho:s.heap.get? it=some o)(hc:o.cls=.type n)(hd:o.data=.fields vs)
  (hn:["enumerate","zip","dict_itemiterator","dict_reverseitemiterator","odict_iterator","itertools.zip_longest","itertools.pairwise"].contains n=false) (hQ:Q () s):wpAny M A (letOwnedTupleGo tg (.ref it) u) Q E s:=by
 unfold letOwnedTupleGo
 cases tg <;> first
  | exact wpAny_pure hQ
  | (cases u <;> first
    | exact wpAny_pure hQ
    | (refine wpAny_bind (wpAny_load ho ?_);rw[hc,hd];show wpAny M A (if (["enumerate","zip","dict_itemiterator","dict_reverseitemiterator","odict_iterator","itertools.zip_longest","itertools.pairwise"].contains n&&vs[0]? == some (rawInt _))=true then _ else _) Q E s;rw[if_neg (by intro h;rw[hn,Bool.false_and] at h;cases h)];exact wpAny_pure hQ))
def Itl(K:Frag)(a:Addr):It :=
 ⟨λi H=>∃xs x,SqL K H a xs/\xs[i]? = some x,λi H x H'=>H'=H/\∀xs,SqL K H a xs->xs[i]? = some x,λi H=>∃xs,SqL K H a xs/\xs.length<=i⟩
def Itr(lo:Int)(n:Nat):It:=⟨λi _=>i<n,λi H x H'=>H'=H/\x=.int (lo+i),λi _=>n<=i⟩
theorem Ze{P:Program}{w:World}{K:Frag}{tg:Expr}(a it:Addr):Ty P w K tg (Itl K a) [it] it (λi h=>h.IsListIter it a i) where
 mem:=by simp
 obj:=λi h st b hb=>by
  have e:b=it:=by simpa using hb
  subst e
  obtain⟨o,e,c,d⟩:=st
  exact⟨o,e,λv z=>by rw[d] at z;cases z⟩
 keep:=λi h h' st k=>st.at λo e=>k it (by simp) o e
 item:=by
  intro X hP hw hK hc i pins s σ H E I hf st hg
  subst hP hw hK
  obtain⟨xs,x,hq,hx⟩:=hg
  obtain⟨its,rv,p,hz⟩:=I.list hq
  obtain⟨u,hu,ru⟩:=rv.get hx
  obtain⟨f0,f1,f2,f3,f4,f5⟩:=hf it (by simp)
  refine wpAny_pyNext_list_item st p.isList (x:=u) (by simpa using hu) λh' st' sb=>?_
  have I1:Inv X pins σ H { s with heap:=h' }:=I.turned (t':=s.toks) (λb o hb e=>(sb.2 b hb).trans e) f0 f1 f3 f4 f5
  obtain⟨o,e,c,d⟩:=id st'
  exact⟨u,rfl,Wb (s:={ s with heap:=h' }) e c d (by decide) ⟨x,H,I1,ru,⟨rfl,λys hy=>by rw[I.list_inj hy hq];exact hx⟩,st',λb hb=>(hf b hb).1⟩⟩
 done:=by
  intro X hP hw hK hc i pins s σ H E I hf st hg
  subst hP hw hK
  obtain⟨xs,hq,hx⟩:=hg
  obtain⟨its,rv,p,hz⟩:=I.list hq
  obtain⟨f0,f1,f2,f3,f4,f5⟩:=hf it (by simp)
  have hl:=rv.length
  exact wpAny_pyNext_list_end (I.ok.hd hc) st p.isList (by simp;omega) λh' eb=>⟨rfl,I.turned (t':=s.toks) (λb o hb e=>eb b o hb e) f0 f1 f3 f4 f5⟩
 self:=λ_ _ _ _ _ st h=>wpAny_pyIter_listiter st h
theorem Xi{P:Program}{w:World}{K:Frag}{tg:Expr}(it:Addr)(lo:Int)(n:Nat):Ty P w K tg (Itr lo n) [it] it (λi h=>IsRangeIter h it (lo+(i:Nat)*1) ((n:Int) - (i:Nat)) 1) where
 mem:=by simp
 obj:=λi h st b hb=>by
  have e:b=it:=by simpa using hb
  subst e
  exact⟨_,st,λv z=>by
   have z':Data.fields _=Data.cell v:=z
   cases z'⟩
 keep:=λi h h' st k=>k it (by simp) _ st
 item:=by
  intro X hP hw hK hc i pins s σ H E I hf st hg
  subst hP hw hK
  obtain⟨f0,f1,f2,f3,f4,f5⟩:=hf it (by simp)
  have W:=Walks.range (prog:=X.prog) (w:=X.w) (I.ok.hd hc) it lo 1 n
  refine W.item i s _ _ hg st λv h' tk hv st' kk=>?_
  obtain⟨t,rfl⟩:=hv
  have I1:Inv X pins σ H { s with heap:=h',toks:=tk }:=I.turned (λb o hb e=>kk b o (by simpa using hb) e) f0 f1 f3 f4 f5
  refine⟨_,rfl,Wb (s:={ s with heap:=h',toks:=tk }) (n:="range_iterator") st' rfl rfl (by decide) ⟨.int (lo+i),H,I1,⟨t,?_⟩,⟨rfl,rfl⟩,st',λb hb=>(hf b hb).1⟩⟩
  rw[Int.mul_one]
 done:=by
  intro X hP hw hK hc i pins s σ H E I hf st hg
  subst hP hw hK
  obtain⟨f0,f1,f2,f3,f4,f5⟩:=hf it (by simp)
  exact wpAny_pyNext_range_end (I.ok.hd hc) st (by have:n<=i:=hg;omega) λh' eb=>⟨rfl,I.turned (t':=s.toks) (λb o hb e=>eb b o hb e) f0 f1 f3 f4 f5⟩
 self:=λ_ _ _ _ _ st h=>wpAny_pyIter_rangeiter st h
section
variable {X:Cx}{tg:Expr}
def Oe(K:Frag)(tl:TE):TI:=λσ H R=>tl σ H λx H1=>∃a,x=.ref a/\(∃xs,SqL K H1 a xs)/\R (Itl K a) H1
theorem Fk{l:Expr}{tl:TE}(hl:PE X l tl):PI X tg l (Oe X.K tl):=by
 intro pins s σ H R I h
 refine thn (hl pins s σ H _ I h) λv s1 ⟨x,H1,I1,r1,q1⟩=>?_
 obtain⟨a,e,⟨xs,hq⟩,q⟩:=q1
 subst e
 cases r1
 obtain⟨its,rv,p,hz⟩:=I1.list hq
 refine wpAny_pyIter_list p.isList ?_
 refine⟨s1.heap.objs.size,[s1.heap.objs.size],_,_,H1,rfl,I1.kept (t':=s1.toks) λb o e=>get?_push_of_some _ e,Ze a _,⟨_,get?_push_size _ rfl,rfl,rfl⟩,λb hb=>?_,q⟩
 have e:b=s1.heap.objs.size:=by simpa using hb
 subst e
 exact I1.fpOk (Nat.le_refl _) (I1.hok.fresh (Nat.le_refl _))
theorem Sr{pins:List (Addr×Obj)}{σ:St}{H:Hp}{s:Shared}{R:It->Hp->Prop}{E:Value->Shared->Prop}{lo hi:Int}{t u v:Tok}{tk:Nat}(I:Inv X pins σ H s)(h1:-(2^62)<=lo)(h2:lo<2^62)(h3:-(2^62)<=hi)(h4:hi<2^62)
  (q:R (Itr lo (hi - lo).toNat) H):wpAny (model X.prog X.w) X.A (pyIter (.ref s.heap.objs.size)) (PIE X pins σ tg R) E { s with heap:=s.heap.push { cls:=.type "range",data:=.fields #[.int lo t,.int hi u,.int 1 v] },toks:=tk }:=by
 refine wpAny_pyIter_range (IsRange.new ..) (small_one h1 h2 h3 h4) ?_
 have I1:Inv X pins σ H { s with heap:=s.heap.push { cls:=.type "range",data:=.fields #[.int lo t,.int hi u,.int 1 v] },toks:=tk }:=I.kept λb o e=>get?_push_of_some _ e
 refine⟨(s.heap.push { cls:=.type "range",data:=.fields #[.int lo t,.int hi u,.int 1 v] }).objs.size,[(s.heap.push { cls:=.type "range",data:=.fields #[.int lo t,.int hi u,.int 1 v] }).objs.size],_,_,H,rfl,
  I1.kept (t':=tk) λb o e=>get?_push_of_some _ e,Xi _ lo (hi - lo).toNat,?_,λb hb=>?_,q⟩
 ·have e1:lo+((0:Nat):Int)*1=lo:=by simp
  have e2:(((hi - lo).toNat:Nat):Int) - ((0:Nat):Int)=Builtin.Range.rangeSize lo hi 1:=by rw[rangeSize_one];split <;> omega
  show IsRangeIter _ _ (lo+((0:Nat):Int)*1) ((((hi - lo).toNat:Nat):Int) - ((0:Nat):Int)) 1
  rw[e1,e2]
  exact get?_push_size _ rfl
 ·have e:b=(s.heap.push { cls:=.type "range",data:=.fields #[.int lo t,.int hi u,.int 1 v] }).objs.size:=by simpa using hb
  subst e
  exact I1.fpOk (Nat.le_refl _) (I1.hok.fresh (Nat.le_refl _))
def AbT(ta:TA):TI:=λσ H R=>ta σ H λvs H1=>∃j:Int,vs=[.int j]/\-(2^62)<=j/\j<2^62/\R (Itr 0 j.toNat) H1
def AbU(ta:TA):TI:=λσ H R=>ta σ H λvs H1=>∃i j:Int,vs=[.int i,.int j]/\(-(2^62)<=i/\i<2^62/\-(2^62)<=j/\j<2^62)/\R (Itr i (j - i).toNat) H1
theorem Zg{a:Expr}{ta:TA}{p pos:Pos}(hg:Gl X "range")(hm:X.mg "range"=none)(ha:PA X [a] ta)(hs:starEach [a] X.env=[(false,eval a X.env)]:=by rfl):PI X tg (.Call (.Name "range" p) [a] [] pos) (AbT ta):=by
 intro pins s σ H R I h
 refine Call_ (Nl I hg hm boot_range (PyProof.Rows.callWith_type1 (thn (ha pos pins s σ H _ I h) λus s1 ⟨vs,H1,I1,r1,q1⟩=>?_) hs rfl))
 obtain⟨j,e,q1,q2,q⟩:=q1
 subst e
 cases r1 with
 | cons r rr =>
  cases rr
  obtain⟨t,rfl⟩:=r
  exact call_range_1 (Sr I1 (by omega) (by omega) q1 q2 (by simpa using q))
theorem Zw{a b:Expr}{ta:TA}{p pos:Pos}(hg:Gl X "range")(hm:X.mg "range"=none)(ha:PA X [a,b] ta)(hs:starEach [a,b] X.env=[(false,eval a X.env),(false,eval b X.env)]:=by rfl)(hs2:starEach [b] X.env=[(false,eval b X.env)]:=by rfl) :
  PI X tg (.Call (.Name "range" p) [a,b] [] pos) (AbU ta):=by
 intro pins s σ H R I h
 refine Call_ (Nl I hg hm boot_range (PyProof.Rows.callWith_type1 (thn (ha pos pins s σ H _ I h) λus s1 ⟨vs,H1,I1,r1,q1⟩=>?_) (by rw[hs,hs2]) (by rw[hs2];rfl)))
 obtain⟨i,j,e,⟨q1,q2,q3,q4⟩,q⟩:=q1
 subst e
 cases r1 with
 | cons r rr =>
  cases rr with
  | cons r' rr =>
   cases rr
   obtain⟨t,rfl⟩:=r
   obtain⟨t',rfl⟩:=r'
   exact call_range_2 (Sr I1 q1 q2 q3 q4 q)
def Oz(wi:TI)(g:TG)(tb:TS):TS:=λD σ H=>wi σ H λJ H1=>∃W:Nat->Nat->St->Hp->Prop,(∃m,W 0 m σ H1)/\∀i m σ H,W i m σ H ->
 (J.stop i H/\D.nx σ H)\/(J.go i H/\∃N:St->Hp->Prop,(∀σ' H',N σ' H'->∃m',m'<m/\W (i+1) m' σ' H')/\∀x H',J.yld i H x H'->g x σ H' λσ2 H2=>tb { D with nx:=N,ct:=N,bk:=D.nx } σ2 H2)
def Nz(fp:List Addr)(h:Heap):List (Addr×Obj):=fp.filterMap λb=>(h.get? b).map λo=>(b,o)
theorem Gr{fp:List Addr}{h:Heap}{b:Addr}{o:Obj}(hb:b∈fp)(e:h.get? b=some o):(b,o)∈Nz fp h:=List.mem_filterMap.mpr ⟨b,hb,by rw[e];rfl⟩
theorem Yn{fp:List Addr}{h:Heap}{p:Addr×Obj}(hp:p∈Nz fp h):p.1∈fp/\h.get? p.1=some p.2:=by
 obtain⟨b,hb,e⟩:=List.mem_filterMap.mp hp
 cases q:h.get? b with
 | none=>rw[q] at e;cases e
 | some o =>
  rw[q] at e
  have e':(b,o)=p:=Option.some.inj e
  subst e'
  exact⟨hb,q⟩
theorem Inv.pinned{pins:List (Addr×Obj)}{σ:St}{H:Hp}{s:Shared}{fp:List Addr}(I:Inv X pins σ H s)(hf:∀b∈fp,Qk X pins H b)(ho:∀b∈fp,∃o,s.heap.get? b=some o/\∀v,o.data≠.cell v):Inv X (pins++Nz fp s.heap) σ H s :=
 I.pins_of λp hp=>(mem_append.mp hp).elim (λz=>I.pin p (mem_append_right _ z)) λz=>by
  obtain⟨hb,e⟩:=Yn z
  obtain⟨f0,f1,f2,_⟩:=hf p.1 hb
  obtain⟨o,e',d⟩:=ho p.1 hb
  rw[e] at e';cases e'
  exact⟨e,f0,f1,f2,d⟩
theorem Inv.unpinned{pins pl:List (Addr×Obj)}{σ:St}{H:Hp}{s:Shared}(I:Inv X (pins++pl) σ H s):Inv X pins σ H s:=I.pins_of λp hp=>I.pin p (mem_append_right _ (mem_append_left _ hp))
theorem Fe{iter:Expr}{body:List Stmt}{wi:TI}{g:TG}{tb:TS}{pos:Pos}(hp:PassesOwn (model X.prog X.w) X.A X.env X.xe)(hc:X.calm=true)(hi:PI X tg iter wi)(hg:PG X tg g)(hb:PSs X body tb)
  (hs:∀x,foldedSetIterable iter X.env x=pure x:=by intro _;rfl):PS X (.For tg iter body [] pos) (Oz wi g tb):=by
 intro pins s σ H D I h
 refine wpAny_For (thn (hi pins s σ H _ I h) λv s1 h1=>thn h1 λitv s2 h2=>?_) hs
 obtain⟨it,fp,tn,J,H2,e,I2,T,st2,f2,W,⟨m0,w0⟩,turn⟩:=h2
 subst e
 -- what stays true of the iterator's objects through the loop
 have stat:∀{H':Hp},(∀b∈fp,H' b=none)->∀b∈fp,Qk X pins H' b:=λhn b hb=>⟨hn b hb,(f2 b hb).2⟩
 refine codeAny_forLoop_any (λn s'=>∃i σ' H',Inv X pins σ' H' s'/\tn i s'.heap/\(∀b∈fp,H' b=none)/\W i n σ' H') ?_ m0 ⟨0,σ,H2,I2,st2,λb hb=>(f2 b hb).1,w0⟩
 rintro n s3 ⟨i,σ3,H3,I3,st3,fr3,w3⟩
 rcases turn i n σ3 H3 w3 with ⟨stop,qn⟩ | ⟨go,N,hN,step⟩
 ·refine wpAny_passesOwn hp (thn (T.done X rfl rfl rfl hc i pins s3 σ3 H3 X.xe I3 (stat fr3) st3 stop) λr s4 ⟨hr,I4⟩=>?_)
  subst hr
  exact wpAny_execs_nil ⟨σ3,H3,I4,qn⟩
 ·refine wpAny_passesOwn hp (thn (T.item X rfl rfl rfl hc i pins s3 σ3 H3 X.xe I3 (stat fr3) st3 go) λr s4 ⟨u,hr,h4⟩=>?_)
  subst hr
  refine wpAny_passesOwn hp (thn h4 λ_ s5 ⟨x,H5,I5,r5,y5,st5,fr5⟩=>?_)
  have I5':=I5.pinned (stat fr5) (T.obj _ _ st5)
  refine wpAny_passesOwn hp (thn (hg _ s5 σ3 H5 x u _ I5' r5 (step x H5 y5)) λ_ s6 ⟨σ6,H6,I6,q6⟩=>?_)
  refine wpAny_passesOwn hp (thn (hb _ s6 σ6 H6 _ I6 q6) λf s7 q7=>?_)
  have again:∀{σ7:St} {H7:Hp},Inv X (pins++Nz fp s5.heap) σ7 H7 s7->N σ7 H7->∃m,m<n/\∃i σ' H',Inv X pins σ' H' s7/\tn i s7.heap/\(∀b∈fp,H' b=none)/\W i m σ' H':=λ{σ7 H7} I7 n7=>by
   obtain⟨m',hm,w7⟩:=hN σ7 H7 n7
   refine⟨m',hm,i+1,σ7,H7,I7.unpinned,T.keep _ _ _ st5 λb hb o e=>(I7.pin (b,o) (mem_append_right _ (mem_append_right _ (Gr hb e)))).1,λb hb=>?_,w7⟩
   obtain⟨o,e,d⟩:=T.obj _ _ st5 b hb
   exact (I7.pin (b,o) (mem_append_right _ (mem_append_right _ (Gr hb e)))).2.1
  cases f with
  | next=>obtain⟨σ7,H7,I7,n7⟩:=q7;exact again I7 n7
  | cont=>obtain⟨σ7,H7,I7,n7⟩:=q7;exact again I7 n7
  | brk=>obtain⟨σ7,H7,I7,q7⟩:=q7;exact⟨σ7,H7,I7.unpinned,q7⟩
  | ret v=>obtain⟨x7,σ7,H7,I7,r7,q7⟩:=q7;exact⟨x7,σ7,H7,I7.unpinned,r7,q7⟩
end
theorem Sq{K:Frag}{a:Addr}{xs:List V}{g:TG}{tb:TS}{D:Ends}{σ:St}{H:Hp}(Pv:Nat->St->Hp->Prop)(h0:Pv 0 σ H)(hl:∀i σ H,i<=xs.length->Pv i σ H->SqL K H a xs)
  (hs:∀i x σ H,xs[i]? = some x->Pv i σ H->g x σ H λσ2 H2=>tb { D with nx:=Pv (i+1),ct:=Pv (i+1),bk:=D.nx } σ2 H2) (hd:∀σ H,Pv xs.length σ H->D.nx σ H) :
  ∃W:Nat->Nat->St->Hp->Prop,(∃m,W 0 m σ H)/\∀i m σ H,W i m σ H ->
   ((Itl K a).stop i H/\D.nx σ H)\/((Itl K a).go i H/\∃N:St->Hp->Prop,(∀σ' H',N σ' H'->∃m',m'<m/\W (i+1) m' σ' H')/\∀x H',(Itl K a).yld i H x H'->g x σ H' λσ2 H2=>tb { D with nx:=N,ct:=N,bk:=D.nx } σ2 H2):=by
 refine⟨λi m σ H=>m=xs.length - i/\i<=xs.length/\Pv i σ H,⟨xs.length,by simp,zero_le _,h0⟩,?_⟩
 rintro i m σ H ⟨rfl,hi,p⟩
 have q:=hl i σ H hi p
 by_cases hlt:i<xs.length
 ·refine .inr ⟨⟨xs,xs[i],q,by simp [hlt]⟩,Pv (i+1),λσ' H' p'=>⟨xs.length - (i+1),by omega,rfl,hlt,p'⟩,λx H' y=>?_⟩
  obtain⟨e,y⟩:=y
  subst e
  exact hs i x σ _ (y xs q) p
 ·have e:i=xs.length:=by omega
  subst e
  exact .inl ⟨⟨xs,q,Nat.le_refl _⟩,hd σ H p⟩
theorem Ry{lo:Int}{n:Nat}{g:TG}{tb:TS}{D:Ends}{σ:St}{H:Hp}(Pv:Nat->St->Hp->Prop)(h0:Pv 0 σ H)
  (hs:∀i σ H,i<n->Pv i σ H->g (.int (lo+i)) σ H λσ2 H2=>tb { D with nx:=Pv (i+1),ct:=Pv (i+1),bk:=D.nx } σ2 H2) (hd:∀σ H,Pv n σ H->D.nx σ H) :
  ∃W:Nat->Nat->St->Hp->Prop,(∃m,W 0 m σ H)/\∀i m σ H,W i m σ H ->
   ((Itr lo n).stop i H/\D.nx σ H)\/((Itr lo n).go i H/\∃N:St->Hp->Prop,(∀σ' H',N σ' H'->∃m',m'<m/\W (i+1) m' σ' H')/\∀x H',(Itr lo n).yld i H x H'->g x σ H' λσ2 H2=>tb { D with nx:=N,ct:=N,bk:=D.nx } σ2 H2):=by
 refine⟨λi m σ H=>m=n - i/\i<=n/\Pv i σ H,⟨n,by simp,zero_le _,h0⟩,?_⟩
 rintro i m σ H ⟨rfl,hi,p⟩
 by_cases hlt:i<n
 ·refine .inr ⟨hlt,Pv (i+1),λσ' H' p'=>⟨n - (i+1),by omega,rfl,hlt,p'⟩,λx H' y=>?_⟩
  obtain⟨e,y⟩:=y
  subst e y
  exact hs i σ _ hlt p
 ·have e:i=n:=by omega
  subst e
  exact .inl ⟨Nat.le_refl _,hd σ H p⟩
abbrev R2:=V->V->Hp->VK->Prop
def OpR(X:Cx)(f:Value->Value->Sem Value)(r:R2):Prop :=
 ∀(pins:List (Addr×Obj)) (s:Shared) (σ:St) (H:Hp) (x y:V) (v u:Value) (Q:VK),Inv X pins σ H s->RelV x v->RelV y u->r x y H Q ->
  wpAny (model X.prog X.w) X.A (f v u) (EP X pins σ Q) X.xe s
def UnR(X:Cx)(f:Value->Sem Value)(r:V->Hp->VK->Prop):Prop :=
 ∀(pins:List (Addr×Obj)) (s:Shared) (σ:St) (H:Hp) (x:V) (v:Value) (Q:VK),Inv X pins σ H s->RelV x v->r x H Q ->
  wpAny (model X.prog X.w) X.A (f v) (EP X pins σ Q) X.xe s
def Gc(X:Cx)(f:Value)(r:List V->Hp->VK->Prop):Prop :=
 ∀(pins:List (Addr×Obj)) (s:Shared) (σ:St) (H:Hp) (xs:List V) (us:List Value) (Q:VK),Inv X pins σ H s->Vals xs us->r xs H Q ->
  wpAny (model X.prog X.w) X.A (call f us) (EP X pins σ Q) X.xe s
def tOp(r:R2)(ta tb:TE):TE:=λσ H Q=>ta σ H λx H1=>tb σ H1 λy H2=>r x y H2 Q
def tUn(r:V->Hp->VK->Prop)(ta:TE):TE:=λσ H Q=>ta σ H λx H1=>r x H1 Q
def rI(C:Int->Int->Prop)(g:Int->Int->V):R2:=λx y H Q=>∃i j,x=.int i/\y=.int j/\C i j/\Q (g i j) H
def rI0(g:Int->Int->V):R2:=λx y H Q=>∃i j,x=.int i/\y=.int j/\Q (g i j) H
def rU(g:Int->V):V->Hp->VK->Prop:=λx H Q=>∃i,x=.int i/\Q (g i) H
section
variable {X:Cx}{a b c:Expr}{ta tb tc:TE}{pos:Pos}
theorem AbC(ha:PE X a ta)(hb:PE X b tb){pins:List (Addr×Obj)}{s:Shared}{σ:St}{H:Hp}{R:V->V->Hp->Prop}(I:Inv X pins σ H s)
  (h:ta σ H λx H1=>tb σ H1 λy H2=>R x y H2) {Q:Value->Shared->Prop} {f:Value->Value->Sem Value}
  (hf:∀v u s2 x y H2,Inv X pins σ H2 s2->RelV x v->RelV y u->R x y H2->wpAny (model X.prog X.w) X.A (f v u) Q X.xe s2) :
  wpAny (model X.prog X.w) X.A (eval a X.env) (λv s₁=>wpAny (model X.prog X.w) X.A (eval b X.env) (λu s₂=>wpAny (model X.prog X.w) X.A (f v u) Q X.xe s₂) X.xe s₁) X.xe s:=by
 refine thn (ha pins s σ H _ I h) λv s1 ⟨x,H1,I1,r1,q1⟩=>?_
 refine thn (hb pins s1 σ H1 _ I1 q1) λu s2 ⟨y,H2,I2,r2,q2⟩=>?_
 exact hf v u s2 x y H2 I2 r1 r2 q2
theorem Bu{op:Operator}{r:R2}(ho:OpR X (binaryOp op) r)(ha:PE X a ta)(hb:PE X b tb):PE X (.BinOp a op b pos) (tOp r ta tb):=by
 intro pins s σ H Q I h
 exact wpAny_BinOp (AbC ha hb I h λv u s2 x y H2 I2 rx ry q=>ho pins s2 σ H2 x y v u Q I2 rx ry q)
theorem Xb{op:UnaryOp}{r:V->Hp->VK->Prop}(ho:UnR X (unaryOp op) r)(ha:PE X a ta):PE X (.UnaryOp op a pos) (tUn r ta):=by
 intro pins s σ H Q I h
 exact UnaryOp_ (thn (ha pins s σ H _ I h) λv s1 ⟨x,H1,I1,r1,q1⟩=>ho pins s1 σ H1 x v Q I1 r1 q1)
theorem opI{f:Value->Value->Sem Value}{C:Int->Int->Prop}{g:Int->Int->Int}
  (rule:∀(i j:Int) (t u:Tok) (s:Shared) (Q:Value->Shared->Prop) (E:Value->Shared->Prop),C i j->Q (.int (g i j) s.toks) { s with toks:=s.toks+1 }->wpAny (model X.prog X.w) X.A (f (.int i t) (.int j u)) Q E s) :
  OpR X f (rI C λi j=>.int (g i j)):=by
 intro pins s σ H x y v u Q I rx ry h
 obtain⟨i,j,rfl,rfl,hc,q⟩:=h
 obtain⟨t,rfl⟩:=rx
 obtain⟨t',rfl⟩:=ry
 exact rule i j t t' s _ _ hc ⟨.int (g i j),H,I.tok _,⟨_,rfl⟩,q⟩
theorem Ae1{f:Value->Value->Sem Value}{g:Int->Int->Int}
  (rule:∀(i j:Int) (t u:Tok) (s:Shared) (Q:Value->Shared->Prop) (E:Value->Shared->Prop),Q (.int (g i j) s.toks) { s with toks:=s.toks+1 }->wpAny (model X.prog X.w) X.A (f (.int i t) (.int j u)) Q E s) :
  OpR X f (rI0 λi j=>.int (g i j)):=by
 intro pins s σ H x y v u Q I rx ry h
 obtain⟨i,j,rfl,rfl,q⟩:=h
 obtain⟨t,rfl⟩:=rx
 obtain⟨t',rfl⟩:=ry
 exact rule i j t t' s _ _ ⟨.int (g i j),H,I.tok _,⟨_,rfl⟩,q⟩
theorem AeK{f:Value->Value->Sem Value}{g:Int->Int->Bool}
  (rule:∀(i j:Int) (t u:Tok) (s:Shared) (Q:Value->Shared->Prop) (E:Value->Shared->Prop),Q (.bool (g i j)) s->wpAny (model X.prog X.w) X.A (f (.int i t) (.int j u)) Q E s) :
  OpR X f (rI0 λi j=>.bl (g i j)):=by
 intro pins s σ H x y v u Q I rx ry h
 obtain⟨i,j,rfl,rfl,q⟩:=h
 obtain⟨t,rfl⟩:=rx
 obtain⟨t',rfl⟩:=ry
 exact rule i j t t' s _ _ ⟨.bl (g i j),H,I,rfl,q⟩
def Wi(i j:Int):Prop:=0<j/\j<1073741824
def Wu(i j:Int):Prop:=0<=j/\j<=1000000/\i.natAbs<2^64
def CMul(i j:Int):Prop:=(-(2^64)<i/\i<2^64)\/(-(2^64)<j/\j<2^64)
theorem CMul.ok{i j:Int}(h:CMul i j):IntMulOk i j:=by
 rcases h with ⟨h1,h2⟩ | ⟨h1,h2⟩
 ·exact .of_left (intBits_le_64 h1 h2)
 ·exact .of_right (intBits_le_64 h1 h2)
theorem Gb:OpR X (binaryOp .Add) (rI0 λi j=>.int (i+j)):=Ae1 λ_ _ _ _ _ _ _ q=>add_int q
theorem Aab:OpR X (binaryOp .Sub) (rI0 λi j=>.int (i - j)):=Ae1 λ_ _ _ _ _ _ _ q=>sub_int q
theorem Lh:OpR X (binaryOp .Mult) (rI CMul λi j=>.int (i*j)):=opI λ_ _ _ _ _ _ _ hc q=>mul_int q hc.ok
theorem Df:OpR X (binaryOp .FloorDiv) (rI Wi λi j=>.int (i / j)):=opI λi j _ _ _ _ _ hc q=>by
 have h1:(0:Int)<j:=hc.1
 have h2:j<1073741824:=hc.2
 exact floordiv_int (by omega) (by rw[Int.fdiv_eq_ediv_of_nonneg i (by omega)];exact q) (.inl (PyProof.noPylong_small (by omega)))
theorem Cs:OpR X (binaryOp .Mod) (rI (λ_ j=>0<j) λi j=>.int (i%j)):=opI λi j _ _ _ _ _ hc q=>by
 have h1:(0:Int)<j:=hc
 exact mod_int' (by omega) (by rw[Int.fmod_eq_emod_of_nonneg i (by omega)];exact q)
theorem Li:OpR X (binaryOp .Pow) (rI Wu λi j=>.int (i^j.toNat)):=opI λ_ _ _ _ _ _ _ hc q=>pow_int_small hc.1 hc.2.1 hc.2.2 q
theorem unI{f:Value->Sem Value}{g:Int->Int}
  (rule:∀(i:Int) (t:Tok) (s:Shared) (Q:Value->Shared->Prop) (E:Value->Shared->Prop),Q (.int (g i) s.toks) { s with toks:=s.toks+1 }->wpAny (model X.prog X.w) X.A (f (.int i t)) Q E s) :
  UnR X f (rU λi=>.int (g i)):=by
 intro pins s σ H x v Q I rx h
 obtain⟨i,rfl,q⟩:=h
 obtain⟨t,rfl⟩:=rx
 exact rule i t s _ _ ⟨.int (g i),H,I.tok _,⟨_,rfl⟩,q⟩
theorem Te:UnR X (unaryOp .USub) (rU λi=>.int (-i)):=unI λ_ _ _ _ _ q=>neg_int q
end
def Ae9:V->V->Bool
 | .non,.non=>true | .non,.int _=>true | .int _,.non=>true | .non,.bl _=>true | .bl _,.non=>true | .non,.str _=>true | .str _,.non=>true
 | .int _,.int _=>true | .bl _,.bl _=>true | .str _,.str _=>true | .byt _,.byt _=>true
 | .int _,.str _=>true | .str _,.int _=>true | .bl _,.str _=>true | .str _,.bl _=>true
 | _,_=>false
def rEq:R2:=λx y H Q=>Ae9 x y=true/\Q (.bl (decide (x=y))) H
def rNe:R2:=λx y H Q=>Ae9 x y=true/\Q (.bl (!decide (x=y))) H
theorem Vi{i j:Int}:decide (V.int i=V.int j)=(i==j):=by
 rw[Bool.eq_iff_iff]
 simp
theorem Yb{i j:Bool}:decide (V.bl i=V.bl j)=(i==j):=by
 rw[Bool.eq_iff_iff]
 simp
theorem Uj{i j:Str}:decide (V.str i=V.str j)=(i==j):=by
 rw[Bool.eq_iff_iff]
 simp
theorem Vg{i j:Array UInt8}:decide (V.byt i=V.byt j)=(i.toList==j.toList):=by
 rw[Bool.eq_iff_iff]
 cases i
 cases j
 simp
section
variable {X:Cx}{a b c:Expr}{ta tb tc:TE}{pos:Pos}
theorem Cp{pins:List (Addr×Obj)}{σ:St}{H:Hp}{s:Shared}{Q:VK}{k k':Bool}(I:Inv X pins σ H s)(q:Q (.bl k) H)(e:k=k'):EP X pins σ Q (.bool k') s:=by
 subst e
 exact⟨.bl k,H,I,rfl,q⟩
theorem Gp:OpR X (compareOp .Eq) rEq:=by
 intro pins s σ H x y v u Q I rx ry h
 obtain⟨hs,q⟩:=h
 cases x with
 | non =>
  cases rx
  cases y with
  | non=>cases ry;exact PySem.EqNone.eq_none_none (Cp I q (by simp))
  | bl j=>cases ry;exact PySem.EqNone.eq_none_bool (Cp I q (by simp))
  | int j=>obtain⟨t',rfl⟩:=ry;exact PySem.EqNone.eq_none_int (Cp I q (by simp))
  | str j=>obtain⟨t',rfl⟩:=ry;exact PySem.EqNone.eq_none_str (Cp I q (by simp))
  | _=>exact absurd (show false=true from hs) Bool.false_ne_true
 | bl i =>
  cases rx
  cases y with
  | non=>cases ry;exact PySem.EqNone.eq_bool_none (Cp I q (by simp))
  | bl j=>cases ry;exact eq_bool (Cp I q Yb)
  | str j=>obtain⟨t',rfl⟩:=ry;exact PySem.EqMixed.eq_bool_str (Cp I q (by simp))
  | _=>exact absurd (show false=true from hs) Bool.false_ne_true
 | int i =>
  obtain⟨t,rfl⟩:=rx
  cases y with
  | non=>cases ry;exact PySem.EqNone.eq_int_none (Cp I q (by simp))
  | int j=>obtain⟨t',rfl⟩:=ry;exact eq_int (Cp I q Vi)
  | str j=>obtain⟨t',rfl⟩:=ry;exact PySem.EqMixed.eq_int_str (Cp I q (by simp))
  | _=>exact absurd (show false=true from hs) Bool.false_ne_true
 | str i =>
  obtain⟨t,rfl⟩:=rx
  cases y with
  | non=>cases ry;exact PySem.EqNone.eq_str_none (Cp I q (by simp))
  | bl j=>cases ry;exact PySem.EqMixed.eq_str_bool (Cp I q (by simp))
  | int j=>obtain⟨t',rfl⟩:=ry;exact PySem.EqMixed.eq_str_int (Cp I q (by simp))
  | str j=>obtain⟨t',rfl⟩:=ry;exact eq_str (Cp I q Uj)
  | _=>exact absurd (show false=true from hs) Bool.false_ne_true
 | byt i =>
  obtain⟨t,rfl⟩:=rx
  cases y with
  | byt j=>obtain⟨t',rfl⟩:=ry;exact PySem.W.eq_bytes (Cp I q Vg)
  | _=>exact absurd (show false=true from hs) Bool.false_ne_true
 | _=>cases y <;> exact absurd (show false=true from hs) Bool.false_ne_true
theorem AfS:OpR X (compareOp .NotEq) rNe:=by
 intro pins s σ H x y v u Q I rx ry h
 obtain⟨hs,q⟩:=h
 cases x with
 | non =>
  cases rx
  cases y with
  | non=>cases ry;exact PySem.EqNone.ne_none_none (Cp I q (by simp))
  | bl j=>cases ry;exact PySem.EqNone.ne_none_bool (Cp I q (by simp))
  | int j=>obtain⟨t',rfl⟩:=ry;exact PySem.EqNone.ne_none_int (Cp I q (by simp))
  | str j=>obtain⟨t',rfl⟩:=ry;exact PySem.EqNone.ne_none_str (Cp I q (by simp))
  | _=>exact absurd (show false=true from hs) Bool.false_ne_true
 | bl i =>
  cases rx
  cases y with
  | non=>cases ry;exact PySem.EqNone.ne_bool_none (Cp I q (by simp))
  | bl j=>cases ry;exact ne_bool (Cp I q (congrArg not Yb))
  | str j=>obtain⟨t',rfl⟩:=ry;exact PySem.EqMixed.ne_bool_str (Cp I q (by simp))
  | _=>exact absurd (show false=true from hs) Bool.false_ne_true
 | int i =>
  obtain⟨t,rfl⟩:=rx
  cases y with
  | non=>cases ry;exact PySem.EqNone.ne_int_none (Cp I q (by simp))
  | int j=>obtain⟨t',rfl⟩:=ry;exact ne_int (Cp I q (congrArg not Vi))
  | str j=>obtain⟨t',rfl⟩:=ry;exact PySem.EqMixed.ne_int_str (Cp I q (by simp))
  | _=>exact absurd (show false=true from hs) Bool.false_ne_true
 | str i =>
  obtain⟨t,rfl⟩:=rx
  cases y with
  | non=>cases ry;exact PySem.EqNone.ne_str_none (Cp I q (by simp))
  | bl j=>cases ry;exact PySem.EqMixed.ne_str_bool (Cp I q (by simp))
  | int j=>obtain⟨t',rfl⟩:=ry;exact PySem.EqMixed.ne_str_int (Cp I q (by simp))
  | str j=>obtain⟨t',rfl⟩:=ry;exact ne_str (Cp I q (congrArg not Uj))
  | _=>exact absurd (show false=true from hs) Bool.false_ne_true
 | byt i =>
  obtain⟨t,rfl⟩:=rx
  cases y with
  | byt j=>obtain⟨t',rfl⟩:=ry;exact PySem.W.ne_bytes (Cp I q (congrArg not Vg))
  | _=>exact absurd (show false=true from hs) Bool.false_ne_true
 | _=>cases y <;> exact absurd (show false=true from hs) Bool.false_ne_true
theorem Ab6:OpR X (compareOp .Lt) (rI0 λi j=>.bl (decide (i<j))):=AeK λ_ _ _ _ _ _ _ q=>lt_int q
theorem AcY:OpR X (compareOp .GtE) (rI0 λi j=>.bl (decide (j<=i))):=AeK λ_ _ _ _ _ _ _ q=>ge_int q
theorem Dm(b:Expr){op:CmpOp}(h:op≠.In:=by decide)(h2:op≠.NotIn:=by decide):behindInMarks op b=false:=by
 have e1:(op==CmpOp.In)=false:=by cases op <;> first | rfl | exact absurd rfl h
 have e2:(op==CmpOp.NotIn)=false:=by cases op <;> first | rfl | exact absurd rfl h2
 cases b <;> simp [behindInMarks,e1,e2]
theorem Dy{op:CmpOp}{r:R2}(ho:OpR X (compareOp op) r)(ha:PE X a ta)(hb:PE X b tb)(hm:behindInMarks op b=false):PE X (.Compare a [op] [b] pos) (tOp r ta tb):=by
 intro pins s σ H Q I h
 exact wpAny_Compare1 (AbC ha hb I h λv u s2 x y H2 I2 rx ry q=>ho pins s2 σ H2 x y v u Q I2 rx ry q) hm
def Wc(t:TE):TT:=λσ H Q=>t σ H λx H'=>∃k,x=.bl k/\Q k H'
theorem Go{op:CmpOp}{r:R2}(ho:OpR X (compareOp op) r)(ha:PE X a ta)(hb:PE X b tb)(hm:behindInMarks op b=false):PT X (.Compare a [op] [b] pos) (Wc (tOp r ta tb)):=by
 intro pins s σ H Q I h
 refine wpAny_isTrue_Compare1 (thn (ha pins s σ H _ I h) λv s1 ⟨x,H1,I1,r1,q1⟩=>thn (hb pins s1 σ H1 _ I1 q1) λu s2 ⟨y,H2,I2,r2,q2⟩ =>
  thn (ho pins s2 σ H2 x y v u _ I2 r1 r2 q2) λc s3 ⟨z,H3,I3,r3,k,e,q3⟩=>?_) hm
 subst e
 cases r3
 exact wpAny_truthy_bool ⟨H3,I3,q3⟩
theorem Sx:(sizeLine:Nat)<2^63:=by rw[sizeLine_eq];decide
theorem Sk{x:V}{us:List Value}(r:Vals [x] us):∃u,us=[u]/\RelV x u:=by
 cases r with
 | cons r1 r2=>cases r2;exact⟨_,rfl,r1⟩
theorem Wm{x y:V}{us:List Value}(r:Vals [x,y] us):∃u w',us=[u,w']/\RelV x u/\RelV y w':=by
 cases r with
 | cons r1 r2 =>
  cases r2 with
  | cons r3 r4=>cases r4;exact⟨_,_,rfl,r1,r3⟩
theorem Yc(hc:X.calm=true):Gc X (.builtin "min") (λxs H Q=>∃i j,xs=[.int i,.int j]/\Q (.int (if j<i then j else i)) H):=by
 intro pins s σ H xs us Q I r h
 obtain⟨i,j,rfl,q⟩:=h
 obtain⟨u,w',rfl,⟨t,rfl⟩,⟨t',rfl⟩⟩:=Wm r
 refine min_two_ints (I.ok.hd hc) λh' tk k=>⟨_,H,I.kept k,?_,q⟩
 by_cases hj:j<i
 ·rw[if_pos hj,if_pos hj];exact⟨_,rfl⟩
 ·rw[if_neg hj,if_neg hj];exact⟨_,rfl⟩
theorem Aap:Gc X (.type "int") (λxs H Q=>(∃i,xs=[.int i]/\Q (.int i) H)\/∃k,xs=[.bl k]/\Q (.int (if k then 1 else 0)) H):=by
 intro pins s σ H xs us Q I r h
 rcases h with ⟨i,rfl,q⟩ | ⟨k,rfl,q⟩
 ·obtain⟨u,rfl,t,rfl⟩:=Sk r
  exact call_int_int ⟨.int i,H,I,⟨_,rfl⟩,q⟩
 ·obtain⟨u,rfl,r1⟩:=Sk r
  cases r1
  exact call_int_bool ⟨.int (if k then 1 else 0),H,I.tok _,⟨_,rfl⟩,q⟩
end
structure ObjM(h:Heap)(x dx C:Addr)(mA:Str->Option Value):Prop where
 obj:h.get? x=some (instObj C dx)
 ns:h.Ns1 dx mA
 ne:dx≠x
theorem Zb{h:Heap}{dx:Addr}{mA:Str->Option Value}(n:h.Ns1 dx mA):∃od,h.get? dx=some od/\∀name,lookIn name od=some (mA name):=by
 obtain⟨o,es,ep,ho,hd,hk,_,hm⟩:=n
 refine⟨o,ho,λname=>?_⟩
 have e:=hm name
 unfold nsFind findBy at e
 rw[<- Array.find?_toList] at e
 unfold lookIn
 rw[hd]
 dsimp only
 split
 ·rename_i y q
  rw[q] at e
  exact congrArg some e
 ·rename_i q
  rw[q] at e
  have a:es.toList.any (·.refKey)=false:=by
   rw[List.any_eq_false]
   intro y hy
   obtain⟨z,t,hkey⟩:=hk y (Array.mem_toList_iff.mp hy)
   simp [DictEntry.refKey,hkey]
  have a':¬es.toList.any (·.refKey)=true:=by rw[a];exact Bool.false_ne_true
  rw[if_neg a']
  exact congrArg some e
theorem ObjM.look{h:Heap}{x dx C:Addr}{mA:Str->Option Value}(I:ObjM h x dx C mA):∃od,PySem.W.InstAt h x (instObj C dx) C (some od)/\∀name,lookIn name od=some (mA name) :=
 let ⟨od,ho,hl⟩:=Zb I.ns
 ⟨od,⟨I.obj,rfl,rfl,ho⟩,hl⟩
section
variable {prog:Program}{w:World}{A:Around}{E:Value->Shared->Prop}{s:Shared}{K:Frag}{x dx C f:Addr}{mA:Str->Option Value}{name:Str}{v:Value}
theorem AdU{expr:Bool}{Q:Value->Shared->Prop}(X:K.In s.heap)(I:ObjM s.heap x dx C mA)(hg:plainGet K C name=true)(hh:hasDictIn K C=true)
  (ha:findIn K (.ref C) name=some none) (hv:mA name=some v) (hv':handedIn v=true) (h:Q v { s with toks:=s.toks+1 }) :
  wpAny (model prog w) A (getAttr (.ref x) name expr) Q E s:=by
 obtain⟨od,J,hl⟩:=I.look
 exact PySem.W.get_value X J (plainGet_of hg).1 (PySem.W.findObj_own hh ha rfl (by rw[hl,hv])) hv' h
theorem AaL{pl:Sem Bool}{Q:Value×List Value->Shared->Prop}(X:K.In s.heap)(I:ObjM s.heap x dx C mA)(hg:plainGet K C name=true)
  (hf:findIn K (.ref C) name=some (some (.ref f))) (ht:isFn K (.ref f)=true) (hv:mA name=none) (h:Q (.ref f,[.ref x]) s) :
  wpAny (model prog w) A (getMethod (.ref x) name pl) Q E s:=by
 obtain⟨od,J,hl⟩:=I.look
 exact PySem.W.method_fn X J (plainGet_of hg).1 (plainGet_of hg).2 hf (beq_iff_eq.mp ht) (by show (lookIn name od).map (·.isSome)=some false;rw[hl,hv];rfl) h
theorem Ac2{ns:List Str}{Q:Unit->Shared->Prop}(X:K.In s.heap)(I:ObjM s.heap x dx C mA)
  (hs:findIn K (.ref C) "__setattr__"=some (some (.builtin "object.__setattr__"))) (hp:plainOver K C=true) (ht:takerIn K C name=some none) (hh:hasDictIn K C=true)
  (hw:PySem.Within mA ns) (hsz:ns.length<=sizeLine)
  (h:∀h',ObjM h' x dx C (λy=>if y=name then some v else mA y)->SameBut dx s.heap h'->Q () { s with heap:=h',toks:=s.toks+2 }) :
  wpAny (model prog w) A (setAttr (.ref x) name v) Q E s:=by
 obtain⟨od,J,hl⟩:=I.look
 refine PySem.W.set_plain X J hs (PySem.W.osa_open (s:={ s with toks:=s.toks+1 }) (r:=none) X J hp ht λb=>?_)
 obtain⟨cd,hc,hd'⟩:=PySem.W.any_some hh
 have hx:s.heap.get? x=some ⟨.ref C,some dx,.plain,#[]⟩:=I.obj
 refine wpAny_bind (wpAny_pure (wpAny_bind (wpAny_bind (wpAny_loadPart hx (wpAny_bind (Looks.here (s:={ s with toks:=s.toks+1 }) (PySem.W.looks_clsIn X hc) ?_))))))
 rw[hd']
 refine wpAny_pure (a:=some dx) (wpAny_bind (wpAny_pure (wpAny_bind ?_)))
 refine wpAny_nsSet1 (s:={ s with toks:=s.toks+1 }) I.ns λh' hn2 hs2=>?_
 obtain⟨oD,esD,epD,hoD,hdD,hcD⟩:=hn2.count (PySem.Within.cons name v hw)
 refine wpAny_bind (wpAny_lookBehind hoD (by rw[hdD];exact pastItsLine_dict (Nat.le_trans hcD (by rw[length_cons];omega))) ?_)
 exact wpAny_pure (h _ ⟨(hs2.2 _ (Ne.symm I.ne)).trans I.obj,hn2,I.ne⟩ hs2)
theorem Ta{R:Result->Shared->Prop}{vs:List Value}{kw:List (Str×Value)}(X:K.In s.heap)(hm:makesIn K C=true)
  (hi:findIn K (.ref C) "__init__"=some (some (.ref f))) (hf:typeIn K (.ref f)=some (.type "function"))
  (h:codeAny (model prog w) (A.under (.builtin "type.__call__" ⟨.ref C::vs,kw⟩)) (.call (.ref f) ⟨.ref (s.heap.objs.size+1)::vs,kw⟩) (PySem.W.InitBack (s.heap.objs.size+1) R)
   { s with heap:=(s.heap.push emptyDict).push (instObj C s.heap.objs.size) }) :
  codeAny (model prog w) A (.call (.ref C) ⟨vs,kw⟩) R s:=by
 obtain⟨hh,g,d,t,os⟩:=s
 exact PySem.W.make_core (PySem.W.makes_of X hm) (PySem.W.looks_findIn X hi) (λself=>PySem.W.bind_fn X self hf) (.inl rfl) h
end
def Bt(f:Str)(v:V):List (Str×V)->List (Str×V)
 | []=>[(f,v)]
 | (g,x)::r=>if g=f then (g,v)::r else (g,x)::Bt f v r
theorem Co(f g:Str)(v:V):∀fs:List (Str×V),(Bt f v fs).lookup g=if g=f then some v else fs.lookup g
 | []=>by
  show List.lookup g [(f,v)]=_
  by_cases h:g=f
  ·have hb:(g==f)=true:=beq_iff_eq.mpr h
   simp only [List.lookup,hb,if_pos h]
  ·have hb:(g==f)=false:=beq_eq_false_iff_ne.mpr h
   simp only [List.lookup,hb,if_neg h]
 | (k,x)::r=>by
  have ih:=Co f g v r
  rw[show Bt f v ((k,x)::r)=(if k=f then (k,v)::r else (k,x)::Bt f v r) from rfl]
  by_cases hk:k=f
  ·rw[if_pos hk]
   by_cases h:g=k
   ·have hb:(g==k)=true:=beq_iff_eq.mpr h
    simp only [List.lookup,hb,if_pos (h.trans hk)]
   ·have hb:(g==k)=false:=beq_eq_false_iff_ne.mpr h
    simp only [List.lookup,hb,if_neg (λe:g=f=>h (e.trans hk.symm))]
  ·rw[if_neg hk]
   by_cases h:g=k
   ·have hb:(g==k)=true:=beq_iff_eq.mpr h
    simp only [List.lookup,hb,if_neg (λe:g=f=>hk (h.symm.trans e))]
   ·have hb:(g==k)=false:=beq_eq_false_iff_ne.mpr h
    simp only [List.lookup,hb]
    exact ih
theorem Ob(f:Str)(v:V):∀fs:List (Str×V),f∈(Bt f v fs).map (·.1)/\∀g,g∈fs.map (·.1)->g∈(Bt f v fs).map (·.1)
 | []=>⟨by simp [Bt],λg h=>by simp at h⟩
 | (k,x)::r=>by
  obtain⟨i1,i2⟩:=Ob f v r
  rw[show Bt f v ((k,x)::r)=(if k=f then (k,v)::r else (k,x)::Bt f v r) from rfl]
  by_cases hk:k=f
  ·rw[if_pos hk]
   subst hk
   exact⟨by simp,λg h=>by simpa using h⟩
  ·rw[if_neg hk]
   refine⟨?_,λg h=>?_⟩
   ·rw[map_cons]
    exact mem_cons_of_mem _ i1
   ·rw[map_cons] at h ⊢
    rcases mem_cons.mp h with e | e
    ·exact mem_cons.mpr (.inl e)
    ·exact mem_cons_of_mem _ (i2 g e)
theorem De(f:Str)(v:V):∀fs:List (Str×V),(Bt f v fs).length<=fs.length+1
 | []=>by simp [Bt]
 | (k,x)::r=>by
  have ih:=De f v r
  rw[show Bt f v ((k,x)::r)=(if k=f then (k,v)::r else (k,x)::Bt f v r) from rfl]
  by_cases hk:k=f
  ·rw[if_pos hk,length_cons,length_cons];omega
  ·rw[if_neg hk,length_cons,length_cons];omega
theorem RelO.some_of{v:V}{o:Option Value}(r:RelO (some v) o):∃u,o=some u/\RelV v u:=by
 cases o with
 | none=>exact (show False from r).elim
 | some u=>exact⟨u,rfl,r⟩
theorem RelO.none_of{o:Option Value}(r:RelO none o):o=none:=by
 cases o with
 | none=>rfl
 | some u=>exact (show False from r).elim
theorem Ye{v:V}{u:Value}(r:RelV v u):handedIn u=true:=by
 cases v with
 | non=>cases (show u=Value.none from r);rfl
 | bl b=>cases (show u=Value.bool b from r);rfl
 | int i=>obtain⟨t,e⟩:=(show ∃t,u=Value.int i t from r);cases e;rfl
 | str x=>obtain⟨t,e⟩:=(show ∃t,u=Value.str x t from r);cases e;rfl
 | byt b=>obtain⟨t,e⟩:=(show ∃t,u=Value.bytes b t from r);cases e;rfl
 | flt b=>obtain⟨t,e⟩:=(show ∃t,u=Value.float b t from r);cases e;rfl
 | ref a=>cases (show u=Value.ref a from r);rfl
 | ty n=>cases (show u=Value.type n from r);rfl
section
variable {P:Program}{w:World}{H H':Hp}{h h':Heap}{a C dx:Addr}{fs fs':List (Str×V)}
theorem Og(hok:HOk P w H h)(e:H a=some (.ins C dx fs)):∃mA,ObjM h a dx C mA/\(∀f,RelO (fs.lookup f) (mA f))/\PySem.Within mA (fs.map (·.1))/\fs.length<=1000/\H dx=some (.own a):=by
 obtain⟨d,z,ne,ob,mA,n,r,q⟩:=(show ObjOk P w H h a (.ins C dx fs) from hok a _ e)
 exact⟨mA,⟨ob,n,ne⟩,r,q,z,d⟩
end
structure Cls(K:Frag)(C:Addr):Prop where
 pg:plainGet K C Str.empty=true
 hd:hasDictIn K C=true
 po:plainOver K C=true
 sa:findIn K (.ref C) "__setattr__"=some (some (.builtin "object.__setattr__"))
theorem Cls.get{K:Frag}{C:Addr}(c:Cls K C)(f:Str):plainGet K C f=true:=c.pg
def NoAttr(K:Frag)(C:Addr)(f:Str):Prop:=findIn K (.ref C) f=some none
theorem NoAttr.taker{K:Frag}{C:Addr}{f:Str}(n:NoAttr K C f):takerIn K C f=some none:=by
 unfold takerIn
 rw[show findIn K (.ref C) f=some none from n]
 rfl
structure Aa1(K:Frag)(C:Addr)(m:Str)(f:Addr):Prop where
 at_:findIn K (.ref C) m=some (some (.ref f))
 fn:isFn K (.ref f)=true
 kp:keepIn K (.ref f)=true
section
variable {X:Cx}{pins:List (Addr×Obj)}{σ:St}{H:Hp}{s:Shared}{a C dx:Addr}{fs:List (Str×V)}{f:Str}{v:V}{A:Around}{E:Value->Shared->Prop}
theorem Wv{b:Bool}{Q:Value->Shared->Prop}(I:Inv X pins σ H s)(e:H a=some (.ins C dx fs))(c:Cls X.K C)(n:NoAttr X.K C f)(l:fs.lookup f=some v)
  (h:∀u s',Inv X pins σ H s'->RelV v u->Q u s'):wpAny (model X.prog X.w) A (getAttr (.ref a) f b) Q E s:=by
 obtain⟨mA,O,r,_,_,_⟩:=Og I.hok e
 obtain⟨u,hu,ru⟩:=RelO.some_of (v:=v) (o:=mA f) (by rw[<- l];exact r f)
 exact AdU I.kIn O (c.get f) c.hd n hu (Ye ru) (h u _ (I.tok _) ru)
theorem Ww{m:Str}{g:Addr}{pl:Sem Bool}{Q:Value×List Value->Shared->Prop}(I:Inv X pins σ H s)(e:H a=some (.ins C dx fs))(c:Cls X.K C)(k:Aa1 X.K C m g)(l:fs.lookup m=none)
  (h:Q (.ref g,[.ref a]) s):wpAny (model X.prog X.w) A (getMethod (.ref a) m pl) Q E s:=by
 obtain⟨mA,O,r,_,_,_⟩:=Og I.hok e
 have hn:mA m=none:=RelO.none_of (by rw[<- l];exact r m)
 exact AaL I.kIn O (c.get m) k.at_ k.fn hn h
theorem Ws{y:V}{u:Value}{Q:Unit->Shared->Prop}(I:Inv X pins σ H s)(e:H a=some (.ins C dx fs))(c:Cls X.K C)(n:NoAttr X.K C f)(hl:fs.length<1000)(ry:RelV y u)
  (h:∀s',Inv X pins σ (upd H a (.ins C dx (Bt f y fs))) s'->Q () s'):wpAny (model X.prog X.w) A (setAttr (.ref a) f u) Q E s:=by
 obtain⟨mA,O,r,wi,_,ho⟩:=Og I.hok e
 have hz:(fs.map (·.1)).length<=sizeLine:=by rw[length_map,sizeLine_eq];omega
 refine Ac2 I.kIn O c.sa c.po n.taker c.hd wi hz λh' O' sb=>h _ ?_
 have hd:∃o,h'.get? dx=some o:=let ⟨o,_,_,e',_⟩:=O'.ns;⟨o,e'⟩
 refine I.write (x:=a) (e:=dx) (by rw[e];exact True.intro) (.inr ho) (λb q hb z=>(sb.2 b hb).trans z) hd ?_
 refine⟨by rw[Bj O.ne];exact ho,?_,O.ne,O'.obj,_,O'.ns,λg=>?_,λg hg=>?_⟩
 ·have:=De f y fs;omega
 ·show RelO ((Bt f y fs).lookup g) (if g=f then some u else mA g)
  rw[Co]
  by_cases q:g=f
  ·rw[if_pos q,if_pos q];exact ry
  ·rw[if_neg q,if_neg q];exact r g
 ·by_cases q:g=f
  ·rw[q];exact (Ob f y fs).1
  ·refine (Ob f y fs).2 g (wi g λz=>hg ?_)
   show (if g=f then some u else mA g)=none
   rw[if_neg q];exact z
theorem Inv.made(I:Inv X pins σ H s):Inv X pins σ (upd (upd H s.heap.objs.size (.own (s.heap.objs.size+1))) (s.heap.objs.size+1) (.ins C s.heap.objs.size []))
  { s with heap:=(s.heap.push emptyDict).push (instObj C s.heap.objs.size) }:=by
 have e1:(s.heap.push emptyDict).get? s.heap.objs.size=some emptyDict:=get?_push_size s.heap rfl
 have e2:((s.heap.push emptyDict).push (instObj C s.heap.objs.size)).get? (s.heap.objs.size+1)=some (instObj C s.heap.objs.size):=by
  have:=get?_push_size (s.heap.push emptyDict) (o:=instObj C s.heap.objs.size) rfl
  rwa [Heap.size_push] at this
 have e3:(s.heap.push emptyDict).Ns s.heap.objs.size (λ_=>none):=⟨emptyDict,#[],_,e1,rfl,(λe he=>absurd he (by simp)),λ_=>rfl⟩
 have I1:=I.laid (a:=s.heap.objs.size) (o:=.own (s.heap.objs.size+1)) (h':=s.heap.push emptyDict) (t':=s.toks) (λb u q=>get?_push_of_some _ q) (Nat.le_refl _) ⟨_,e1⟩
 refine I1.laid (a:=s.heap.objs.size+1) (o:=.ins C s.heap.objs.size []) (t':=s.toks) (λb u q=>get?_push_of_some _ q) (Nat.le_of_eq (Heap.size_push _ _)) ?_
 have ne:s.heap.objs.size≠s.heap.objs.size+1:=ne_of_lt (lt_succ_self _)
 refine⟨by rw[Bj ne,Bn],zero_le _,ne,e2,λ_=>none,(Ns1.of_empty e3).at λo q=>get?_push_of_some _ q,λ_=>True.intro,λy hy=>absurd rfl hy⟩
theorem Adq{prog:Program}{w:World}{env:Env}{e:Expr}{f:Str}{pos:Pos}{s:Shared}{Q:Value->Shared->Prop}(hb:attributeBase e f env (eval e env)=eval e env)
  (h:wpAny (model prog w) A (eval e env) (λo s₁=>wpAny (model prog w) A (getAttr o f true) Q E s₁) E s):wpAny (model prog w) A (eval (.Attribute e f pos) env) Q E s :=
 Attribute_any_ h (by rw[arm_eval_Attribute,hb])
end
def Afm(K:Frag)(ta:TE)(f:Str):TE:=λσ H Q=>ta σ H λx H1=>∃a C dx fs v,x=.ref a/\H1 a=some (.ins C dx fs)/\Cls K C/\NoAttr K C f/\fs.lookup f=some v/\Q v H1
def AeH(K:Frag)(ta tv:TE)(f:Str):TS:=λD σ H=>tv σ H λy H1=>ta σ H1 λx H2=>∃a C dx fs,x=.ref a/\H2 a=some (.ins C dx fs)/\Cls K C/\NoAttr K C f/\fs.length<1000 /\
 D.nx σ (upd H2 a (.ins C dx (Bt f y fs)))
section
variable {X:Cx}{o e value:Expr}{f:Str}{pos pos' tpos:Pos}{ta tv:TE}
theorem Ss(he:PE X e ta)(hb:attributeBase e f X.env (eval e X.env)=eval e X.env):PE X (.Attribute e f pos) (Afm X.K ta f):=by
 intro pins s σ H Q I h
 refine Adq hb (thn (he pins s σ H _ I h) λu s1 ⟨x,H1,I1,rx,a,C,dx,fs,v,ex,ea,c,n,l,q⟩=>?_)
 subst ex
 obtain rfl:u=Value.ref a:=rx
 exact Wv I1 ea c n l λu' s2 I2 ru=>⟨v,H1,I2,ru,q⟩
theorem Ng(ha:PE X o ta)(hv:PE X value tv)(hs:swapsWith value (some (.Attribute o f pos')) pos.line X.env=pure false):PS X (.Assign [.Attribute o f pos'] value pos) (AeH X.K ta tv f):=by
 intro pins s σ H D I h
 refine plainObj_wpAny_Assign_Attribute (thn (hv pins s σ H _ I h) λu s1 ⟨y,H1,I1,ry,q⟩=>thn (ha pins s1 σ H1 _ I1 q) λov s2 ⟨x,H2,I2,rx,a,C,dx,fs,ex,ea,c,n,l,q2⟩=>?_) hs
 subst ex
 obtain rfl:ov=Value.ref a:=rx
 exact Ws I2 ea c n l ry λs3 I3=>⟨σ,_,I3,q2⟩
end
section
variable {X:Cx}{pins:List (Addr×Obj)}{σ:St}{H:Hp}{s:Shared}{A:Around}{E:Value->Shared->Prop}{Q:Value->Shared->Prop}{c:Value}{b:Bool}
inductive Fb(K:Frag)(H:Hp):V->Value->Prop where
 | non:Fb K H .non (.type "NoneType")
 | bl (x:Bool):Fb K H (.bl x) (.type "bool")
 | int (i:Int):Fb K H (.int i) (.type "int")
 | str (x:Str):Fb K H (.str x) (.type "str")
 | flt (x:UInt64):Fb K H (.flt x) (.type "float")
 | lst {a:Addr} {xs:List V} (e:H a=some (.lst xs)):Fb K H (.ref a) (.type "list")
 | frz {a:Addr} {o:Obj} {xs:List V} (e:H a=some (.frz o (.lst xs))):Fb K H (.ref a) (.type "list")
 | tup {a:Addr} {xs:List V} (e:H a=some (.tup xs)):Fb K H (.ref a) (.type "tuple")
 | dK {a:Addr} {kvs:List (Key×V)} (e:H a=some (.dK kvs)):Fb K H (.ref a) (.type "dict")
 | dT {a:Addr} {kvs:List (List Key×V)} (e:H a=some (.dT kvs)):Fb K H (.ref a) (.type "dict")
 | ins {a C dx:Addr} {fs:List (Str×V)} (e:H a=some (.ins C dx fs)) (cl:Cls K C) (ha:findIn K (.ref C) "__class__"=some (some (.builtin "object.__class__")))
   (hn:PySem.W.specialIn K (.builtin "object.__class__") "__get__"=some (some (.builtin "getset_descriptor.__get__"))) (htk:PySem.W.takesIn K (.builtin "object.__class__")=some true)
   (hm:mroIn K C (.type "object")=some true):Fb K H (.ref a) (.ref C)
theorem Aaq{x:V}{u t:Value}(I:Inv X pins σ H s)(rx:RelV x u)(ty:Fb X.K H x t)(e:kitOne X.K t c=some b)(h:∀tk,Q (.bool b) { s with toks:=tk }) :
  wpAny (model X.prog X.w) A (call (.builtin "isinstance") [u,c]) Q E s:=by
 cases ty with
 | non=>cases (show u=Value.none from rx);exact kia_one PySem.W.kitx_none I.kIn True.intro e (λz=>nomatch z) h
 | bl y=>cases (show u=Value.bool y from rx);exact kia_one PySem.W.kitx_bool I.kIn True.intro e (λz=>nomatch z) h
 | int i=>obtain⟨t,q⟩:=(show ∃t,u=Value.int i t from rx);cases q;exact kia_one PySem.W.kitx_int I.kIn True.intro e (λz=>nomatch z) h
 | str y=>obtain⟨t,q⟩:=(show ∃t,u=Value.str y t from rx);cases q;exact kia_one PySem.W.kitx_str I.kIn True.intro e (λz=>nomatch z) h
 | flt y=>obtain⟨t,q⟩:=(show ∃t,u=Value.float y t from rx);cases q;exact kia_one PySem.W.kitx_float I.kIn True.intro e (λz=>nomatch z) h
 | @lst a xs ea =>
  cases (show u=Value.ref a from rx)
  obtain⟨_,_,n,_,h1⟩:=(show ObjOk X.prog X.w H s.heap a (.lst xs) from I.hok a _ ea)
  exact kia_one kitx_list I.kIn ⟨_,h1,rfl⟩ e (λz=>nomatch z) h
 | @frz a ob xs ea =>
  cases (show u=Value.ref a from rx)
  obtain⟨_,_,_,n,_,h1⟩:=(show ObjOk X.prog X.w H s.heap a (.frz ob (.lst xs)) from I.hok a _ ea)
  exact kia_one kitx_list I.kIn ⟨_,h1,rfl⟩ e (λz=>nomatch z) h
 | @tup a xs ea =>
  cases (show u=Value.ref a from rx)
  obtain⟨_,_,_,p⟩:=(show ObjOk X.prog X.w H s.heap a (.tup xs) from I.hok a _ ea)
  obtain⟨o,h1,h2,_⟩:=p
  exact kia_one PySem.W.kitx_tuple I.kIn ⟨o,h1,h2⟩ e (λz=>nomatch z) h
 | @dK a kvs ea =>
  cases (show u=Value.ref a from rx)
  obtain⟨_,_,vs,_,p⟩:=(show ObjOk X.prog X.w H s.heap a (.dK kvs) from I.hok a _ ea)
  obtain⟨o,es,ep,h1,h2,_⟩:=p
  exact kia_one kitx_dict I.kIn ⟨o,h1,h2.1⟩ e (λz=>nomatch z) h
 | @dT a kvs ea =>
  cases (show u=Value.ref a from rx)
  obtain⟨_,_,xs,_,o,es,ep,h1,h2,_⟩:=(show ObjOk X.prog X.w H s.heap a (.dT kvs) from I.hok a _ ea)
  exact kia_one kitx_dict I.kIn ⟨o,h1,h2.1⟩ e (λz=>nomatch z) h
 | @ins a C dx fs ea cl ha hn htk hm =>
  cases (show u=Value.ref a from rx)
  obtain⟨mA,O,_⟩:=Og I.hok ea
  obtain⟨od,J,_⟩:=O.look
  exact kia_one (PySem.W.kitx_own (cl.get _) cl.hd ha hn htk hm) I.kIn J e (λz=>nomatch z) h
end
structure Room(k:Nat)(A:Around):Prop where
 hd:A.handled=none
 dp:A.depth+3*k+5<recursionLimit
 un:A.units+16*k+200<cLine
theorem Room.mono{j k:Nat}{A:Around}(r:Room k A)(h:j<=k):Room j A:=⟨r.hd,by have:=r.dp;omega,by have:=r.un;omega⟩
theorem Room.deeper{k:Nat}{A:Around}(r:Room (k+1) A)(env:Env):Room k (A.deeper env) :=
 ⟨r.hd,by have:=r.dp;show A.depth+1+3*k+5<_;omega,by have:=r.un;show A.units+3+16*k+200<_;omega⟩
theorem Vr{A:Around}{C:Addr}{us:List Value}{kw:List (Str×Value)}:(A.under (.builtin "type.__call__" ⟨.ref C::us,kw⟩)).depth=A.depth+1:=by
 first | rfl | simp [Around.under,Code.weight,Code.isCreation,Code.isGuard,Code.isCaller,Code.frames,Code.isFrame,guardIds]
theorem Vq{A:Around}{C:Addr}{us:List Value}{kw:List (Str×Value)}:(A.under (.builtin "type.__call__" ⟨.ref C::us,kw⟩)).units=A.units+1:=by
 first | rfl | simp [Around.under,Code.cUnits,Code.frames,Code.isFrame]
theorem Room.make{k:Nat}{A:Around}(r:Room (k+1) A)(C:Addr)(us:List Value)(kw:List (Str×Value)):Room k (A.under (.builtin "type.__call__" ⟨.ref C::us,kw⟩)) :=
 ⟨r.hd,by have:=r.dp;rw[Vr];omega,by have:=r.un;rw[Vq];omega⟩
theorem Room.depth{k:Nat}{A:Around}(r:Room k A):A.depth<recursionLimit:=by have:=r.dp;omega
theorem Room.units{k:Nat}{A:Around}(r:Room k A):A.units+64<cLine:=by have:=r.un;omega
def Qj:TA:=λ_ H Q=>Q [] H
def Dx(ta:TE)(tr:TA):TA:=λσ H Q=>ta σ H λx H1=>tr σ H1 λxs H2=>Q (x::xs) H2
section
variable {X:Cx}{e:Expr}{es:List Expr}{te:TE}{t:TA}{pos:Pos}
theorem Bb:PA X [] Qj:=λ_ _ _ _ H Q I h=>Calls.spliced_nil ⟨[],H,I,.nil,h⟩
theorem Ba(ha:PE X e te)(hr:PA X es t)(hs:starEach (e::es) X.env=(false,eval e X.env)::starEach es X.env:=by rfl):PA X (e::es) (Dx te t):=by
 intro pos pins s σ H Q I h
 rw[hs]
 show wpAny _ _ (spliced ((false,eval e X.env)::backTo pos (starEach es X.env))) _ _ s
 refine Calls.spliced_cons (thn (ha pins s σ H _ I h) λu s1 ⟨x,H1,I1,r1,q1⟩=>?_)
 exact thn (hr pos pins s1 σ H1 _ I1 q1) λus s2 ⟨xs,H2,I2,r2,q2⟩=>⟨x::xs,H2,I2,.cons r1 r2,q2⟩
def Afn(t:TA):TE:=λσ H Q=>t σ H λxs H1=>xs.length<=sizeLine/\∀p,H1 p=none->Q (.ref p) (upd H1 p (.tup xs))
theorem AdY{x1}(h:PA X es t):PE X (.Tuple es x1 pos) (Afn t):=by
 intro pins s σ H Q I hq
 refine wpAny_Tuple_spliced (thn (h pos pins s σ H _ I hq) λus s1 ⟨xs,H1,I1,r,z,q⟩=>⟨by rw[<- r.length];exact z,?_⟩)
 have hf:H1 s1.heap.objs.size=none:=I1.hok.fresh (Nat.le_refl _)
 refine⟨.ref s1.heap.objs.size,upd H1 s1.heap.objs.size (.tup xs),I1.laid (t':=s1.toks) (λb u e=>get?_push_of_some _ e) (Nat.le_refl _) ?_,rfl,q _ hf⟩
 exact⟨z,us,r,⟨_,get?_push_size _ rfl,rfl,_,rfl⟩⟩
end
abbrev Sp:=List V->Hp->VK->XK->Prop
abbrev CXT:=List Env->Hp->Shared->XK->Value->Shared->Prop
structure Env0(P:Program)(w:World)(K:Frag)(mg:Str->Option Value)(base:Heap)(A:Around)(outer:List Env)(s:Shared)(H:Hp):Prop where
 frames:A.frames=some outer
 mod:Mod K mg base
 bs:∀b o,base.get? b=some o->s.heap.get? b=some o/\H b=none
 bsz:base.objs.size<=s.heap.objs.size
 funs:s.heap.FunFrames base outer
 frf:∀b∈frs outer,H b=none
 hok:HOk P w H s.heap
 bare:AllBare s.gens
def CE(outer:List Env)(P:Program)(w:World)(H:Hp)(s:Shared)(Q:VK)(u:Value)(s':Shared):Prop :=
 ∃v H',s'.os=s.os/\AllBare s'.gens/\Un (frs outer) [] H H' s.heap s'.heap/\HOk P w H' s'.heap/\RelV v u/\Q v H'
def CR(CX:CXT)(outer:List Env)(P:Program)(w:World)(H:Hp)(s:Shared)(Q:VK)(E:XK)(r:Result)(s':Shared):Prop :=
 match r with
 | .ok (.ret u)=>CE outer P w H s Q u s'
 | .ok _=>False
 | .error e=>CX outer H s E e s'
structure FnOk(P:Program)(w:World)(K:Frag)(mg:Str->Option Value)(base:Heap)(CX:CXT)(k:Nat)(f:Addr)(fd:FuncData)(ps:List Str)(sp:Sp):Prop where
 len:∀vs H Q E,sp vs H Q E->vs.length=ps.length
 run:∀(A:Around) (outer:List Env) (s:Shared) (H:Hp) (args:Args) (us:List Value) (vs:List V) (Q:VK) (E:XK),Room k A->Env0 P w K mg base A outer s H->BindsTo s fd args (ps.zip us)->Vals vs us->sp vs H Q E ->
  codeAny (model P w) A (.call (.ref f) args) (CR CX outer P w H s Q E) s
theorem FnOk.imp{P:Program}{w:World}{K:Frag}{mg:Str->Option Value}{base:Heap}{CX:CXT}{k:Nat}{f:Addr}{fd:FuncData}{ps:List Str}{sp sp':Sp}(F:FnOk P w K mg base CX k f fd ps sp)
  (h:∀vs H Q E,sp' vs H Q E->sp vs H Q E):FnOk P w K mg base CX k f fd ps sp' :=
 ⟨λvs H Q E q=>F.len vs H Q E (h _ _ _ _ q),λA outer s H args us vs Q E hr he hb hv hs=>F.run A outer s H args us vs Q E hr he hb hv (h _ _ _ _ hs)⟩
theorem Env0.make{P:Program}{w:World}{K:Frag}{mg:Str->Option Value}{base:Heap}{A:Around}{outer:List Env}{s:Shared}{H:Hp}(e:Env0 P w K mg base A outer s H)(C:Addr)(us:List Value)(kw:List (Str×Value)) :
  Env0 P w K mg base (A.under (.builtin "type.__call__" ⟨.ref C::us,kw⟩)) outer s H:=⟨by first | exact e.frames | (simpa [Around.under,Code.envs,Code.isFrame,pushEnvs] using e.frames),e.mod,e.bs,e.bsz,e.funs,e.frf,e.hok,e.bare⟩
section
variable {X:Cx}{pins:List (Addr×Obj)}{σ:St}{H:Hp}{s s':Shared}
theorem Inv.env0(I:Inv X pins σ H s):Env0 X.prog X.w X.K X.mg X.base X.A X.stack s H :=
 ⟨I.ok.frames,I.ok.mod,I.bs,Nat.le_trans I.ok.bsz I.sz,I.stack,I.stkFree,I.hok,I.bare⟩
theorem Inv.after{Q:VK}{u:Value}(I:Inv X pins σ H s)(h:CE X.stack X.prog X.w H s Q u s'):EP X pins σ Q u s':=by
 obtain⟨v,H',os,bare,un,hok,r,q⟩:=h
 obtain⟨hh,g,d,t,os'⟩:=s'
 obtain rfl:os'=s.os:=os
 exact⟨v,H',I.call (h':=hh) (g':=g) (d':=d) (t':=t) (ch:=[]) un hok bare (λb z=>absurd z (by simp)),r,q⟩
end
def Sm(sp:Sp)(dvs:List V)(E:XK)(t:TA):TE:=λσ H Q=>t σ H λvs H1=>sp (vs++dvs) H1 Q E
def Vp(C:Addr)(m:Str)(sp:Sp)(dvs:List V)(E:XK)(ta:TE)(t:TA):TE:=λσ H Q=>ta σ H λx H1=>∃a dx fs,x=.ref a/\H1 a=some (.ins C dx fs)/\fs.lookup m=none /\
 t σ H1 λvs H2=>sp (x::(vs++dvs)) H2 Q E
def AbW(C:Addr)(sp:Sp)(dvs:List V)(E:XK)(t:TA):TE:=λσ H Q=>t σ H λvs H1=>∀x dx,H1 x=none->H1 dx=none->dx≠x ->
 sp (.ref x::(vs++dvs)) (upd (upd H1 dx (.own x)) x (.ins C dx [])) (λv H2=>v=.non/\Q (.ref x) H2) E
def Binds(K:Frag)(fd:FuncData)(ps:List Str)(ds:List Value):Prop :=
 ∀(s:Shared) (us:List Value),K.In s.heap->(us++ds).length=ps.length->BindsTo s fd ⟨us,[]⟩ (ps.zip (us++ds))
theorem Binds.all{K:Frag}{fd:FuncData}{ps:List Str}(h:∀us:List Value,us.length=ps.length->bindArgs fd ⟨us,[]⟩=pure (ps.zip us)):Binds K fd ps []:=λs us _ hl=>by
 rw[append_nil] at hl ⊢
 exact .of_eq (h us hl)
def Lj(CX:CXT)(X:Cx)(E:XK):Prop:=∀(pins:List (Addr×Obj)) (σ:St) (H:Hp) (s:Shared) (e:Value) (s':Shared),Inv X pins σ H s->CX X.stack H s E e s'->X.xe e s'
section
variable {X:Cx}{CX:CXT}{k:Nat}{f C:Addr}{fd:FuncData}{ps:List Str}{sp:Sp}{dvs:List V}{ds:List Value}{E:XK}{x m:Str}{p pos apos:Pos}{e o:Expr}{es:List Expr}{ta:TE}{t:TA}
theorem Yx{pins:List (Addr×Obj)}{σ:St}{H:Hp}{s:Shared}{Q:VK}{us:List Value}{vs:List V}(F:FnOk X.prog X.w X.K X.mg X.base CX k f fd ps sp)(hr:Room k X.A)(hb:Binds X.K fd ps ds)(hd:Vals dvs ds)(hx:Lj CX X E)
  (I:Inv X pins σ H s) (r:Vals vs us) (h:sp (vs++dvs) H Q E):wpAny (model X.prog X.w) X.A (call (.ref f) us) (EP X pins σ Q) X.xe s:=by
 have r2:Vals (vs++dvs) (us++ds):=r.append hd
 have hl:(us++ds).length=ps.length:=by rw[<- r2.length];exact F.len _ _ _ _ h
 refine wpAny_call (codeAny_mono (F.run X.A X.stack s H ⟨us,[]⟩ (us++ds) (vs++dvs) Q E hr I.env0 (hb s us I.kIn hl) r2 h) λr s' hq=>?_)
 cases r with
 | error e=>exact hx pins σ H s e s' I hq
 | ok fl =>
  cases fl with
  | ret u=>exact I.after hq
  | next=>exact False.elim hq
  | brk=>exact False.elim hq
  | cont=>exact False.elim hq
theorem Bl(F:FnOk X.prog X.w X.K X.mg X.base CX k f fd ps sp)(hr:Room k X.A)(hg:Gl X x)(hm:X.mg x=some (.ref f))(hk:keepIn X.K (.ref f)=true)(hb:Binds X.K fd ps ds)(hd:Vals dvs ds)(hx:Lj CX X E)
  (ha:PA X (e::es) t) (hdb:(x==("__debug__" : Str))=false:=by decide) (he:starEach (e::es) X.env=(false,eval e X.env)::starEach es X.env:=by rfl) (hpl:(backTo pos (starEach es X.env)).any (·.1)=false:=by rfl) :
  PE X (.Call (.Name x p) (e::es) [] pos) (Sm sp dvs E t):=by
 intro pins s σ H Q I h
 refine wpAny_Call_Name_kw (Gw I hg hm ?_ hdb)
 refine callWith_K (h₀:=X.base) I.ok.mod.kin hk (thn (ha pos pins s σ H _ I h) λus s1 ⟨vs,H1,I1,r,q⟩=>⟨I1.kIn,?_⟩) he hpl
 exact Yx F hr hb hd hx I1 r q
theorem Uy{pl:Sem Bool}(he:PE X o ta)(c:Cls X.K C)(hm:Aa1 X.K C m f)(F:FnOk X.prog X.w X.K X.mg X.base CX k f fd ps sp)(hr:Room k X.A)(hb:Binds X.K fd ps ds)(hd:Vals dvs ds)(hx:Lj CX X E)(ha:PA X (e::es) t)
  (hst:starEach (e::es) X.env=(false,eval e X.env)::starEach es X.env:=by rfl) (hpl:(backTo pos (starEach es X.env)).any (·.1)=false:=by rfl)
  (ht:eval (.Call (.Attribute o m apos) (e::es) [] pos) X.env=(do
   let ov <- eval o X.env
   standAt apos.atName
   let (f,first) <- holding [ov] (getMethod ov m pl)
   callWith pos f first (backTo pos (starEach (e::es) X.env)) (backToKw pos (keywordEach [] X.env))):=by rfl) :
  PE X (.Call (.Attribute o m apos) (e::es) [] pos) (Vp C m sp dvs E ta t):=by
 intro pins s σ H Q I h
 refine PySem.W.methodCall_KW (pl:=pl) (thn (he pins s σ H _ I h) λu s1 ⟨x,H1,I1,rx,a,dx,fs,ex,ea,l,q⟩=>?_) ht
 subst ex
 obtain rfl:u=Value.ref a:=rx
 refine Ww I1 ea c hm l ?_
 refine callWith_K (first:=[.ref a]) (h₀:=X.base) I.ok.mod.kin hm.kp (thn (ha pos pins s1 σ H1 _ I1 q) λus s2 ⟨vs,H2,I2,r,q2⟩=>⟨I2.kIn,?_⟩) hst hpl
 exact Yx (us:=.ref a::us) (vs:=.ref a::vs) F hr hb hd hx I2 (.cons rfl r) q2
structure Mk(K:Frag)(C f:Addr):Prop where
 makes:makesIn K C=true
 init:findIn K (.ref C) "__init__"=some (some (.ref f))
 fn:isFn K (.ref f)=true
 kp:keepIn K (.ref C)=true
theorem Abd{pins:List (Addr×Obj)}{σ:St}{H:Hp}{s:Shared}{Q:VK}{us:List Value}{vs:List V}(M:Mk X.K C f)(F:FnOk X.prog X.w X.K X.mg X.base CX k f fd ps sp)(hr:Room (k+1) X.A)(hb:Binds X.K fd ps ds)(hd:Vals dvs ds)
  (hx:Lj CX X E) (I:Inv X pins σ H s) (r:Vals vs us)
  (h:∀x dx,H x=none->H dx=none->dx≠x->sp (.ref x::(vs++dvs)) (upd (upd H dx (.own x)) x (.ins C dx [])) (λv H2=>v=.non/\Q (.ref x) H2) E) :
  wpAny (model X.prog X.w) X.A (call (.ref C) us) (EP X pins σ Q) X.xe s:=by
 have hq:=h (s.heap.objs.size+1) s.heap.objs.size (I.hok.fresh (le_succ _)) (I.hok.fresh (Nat.le_refl _)) (ne_of_lt (lt_succ_self _))
 have I2:=Inv.made (C:=C) I
 have r2:Vals (V.ref (s.heap.objs.size+1)::(vs++dvs)) (Value.ref (s.heap.objs.size+1)::(us++ds)):=.cons rfl (r.append hd)
 have hl:(Value.ref (s.heap.objs.size+1)::us++ds).length=ps.length:=by
  have e:=r2.length
  rw[F.len _ _ _ _ hq] at e
  exact e.symm
 refine wpAny_call (Ta (f:=f) I.kIn M.makes M.init (beq_iff_eq.mp M.fn) (codeAny_mono (F.run _ X.stack _ _ ⟨Value.ref (s.heap.objs.size+1)::us,[]⟩ (Value.ref (s.heap.objs.size+1)::(us++ds)) _ _ E (hr.make C us [])
  (I2.env0.make C us []) (hb _ (Value.ref (s.heap.objs.size+1)::us) I2.kIn hl) r2 hq) λr s' hq'=>?_))
 cases r with
 | error e=>exact hx pins σ _ _ e s' I2 hq'
 | ok fl =>
  cases fl with
  | ret u =>
   obtain⟨v,H',I3,rv,ev,q3⟩:=I2.after hq'
   subst ev
   exact⟨rv,⟨V.ref (s.heap.objs.size+1),H',I3,rfl,q3⟩⟩
  | next=>exact False.elim hq'
  | brk=>exact False.elim hq'
  | cont=>exact False.elim hq'
theorem Vl(M:Mk X.K C f)(F:FnOk X.prog X.w X.K X.mg X.base CX k f fd ps sp)(hr:Room (k+1) X.A)(hg:Gl X x)(hm:X.mg x=some (.ref C))(hb:Binds X.K fd ps ds)(hd:Vals dvs ds)(hx:Lj CX X E)
  (ha:PA X (e::es) t) (hdb:(x==("__debug__" : Str))=false:=by decide) (he:starEach (e::es) X.env=(false,eval e X.env)::starEach es X.env:=by rfl) (hpl:(backTo pos (starEach es X.env)).any (·.1)=false:=by rfl) :
  PE X (.Call (.Name x p) (e::es) [] pos) (AbW C sp dvs E t):=by
 intro pins s σ H Q I h
 refine wpAny_Call_Name_kw (Gw I hg hm ?_ hdb)
 refine callWith_K (h₀:=X.base) I.ok.mod.kin M.kp (thn (ha pos pins s σ H _ I h) λus s1 ⟨vs,H1,I1,r,q⟩=>⟨I1.kIn,?_⟩) he hpl
 exact Abd M F hr hb hd hx I1 r q
end
section
variable {X:Cx}{CX:CXT}{k:Nat}{f C:Addr}{fd:FuncData}{ps ks:List Str}{sp:Sp}{E:XK}{x m:Str}{p pos apos kpos:Pos}{e o:Expr}{es:List Expr}{kws:List Keyword}{te ta:TE}{t tk:TA}{nm:Option Str}
variable {g:List Value->List Value->List Value}{gV:List V->List V->List V}
end
structure Cj(N P:List Str)(sc:Scope):Prop where
 kind:sc.kind=.function
 co:sc.isCoroutine=false
 gen:sc.isGenerator=false
 nd:N.Nodup
 pre:N.take P.length=P
 par:∀x∈P,sc.names.lookup x=some .local\/sc.names.lookup x=some .cell
 nofree:∀y∈sc.names,y.2≠.free
theorem Rx{kindOf:Str->Option NameKind}{x:Str}:∀{binds:List (Str×Value)} {m:Str->Option Value},(∀v,(x,v)∉binds)->bindL kindOf binds m x=m x
 | [],_,_=>rfl
 | (n,v)::r,m,h=>by
  unfold bindL
  rw[Rx λw hw=>h w (mem_cons_of_mem _ hw)]
  split
  ·have:x≠n:=by rintro rfl;exact h v mem_cons_self
   simp [this]
  ·rfl
theorem Rs{kindOf:Str->Option NameKind}{x:Str}:∀{binds:List (Str×Value)} {m:Str->Option Value},(∀v,(x,v)∉binds)->bindC kindOf binds m x=m x
 | [],_,_=>rfl
 | (n,v)::r,m,h=>by
  unfold bindC
  rw[Rs λw hw=>h w (mem_cons_of_mem _ hw)]
  split
  ·rfl
  ·have:x≠n:=by rintro rfl;exact h v mem_cons_self
   simp [this]
theorem Sa{kindOf:Str->Option NameKind}{x:Str}{v:Value}:∀{P:List Str} {vs:List Value} {i:Nat} {m:Str->Option Value},P.Nodup->P[i]? = some x->vs[i]? = some v->kindOf x=some .local ->
  bindL kindOf (P.zip vs) m x=some v
 | [],_,_,_,_,h,_,_=>by simp at h
 | _::_,[],_,_,_,_,h,_=>by simp at h
 | p::P,w::vs,0,m,nd,h1,h2,hk=>by
  simp at h1 h2;subst h1;subst h2
  show bindL kindOf ((p,w)::P.zip vs) m p=_
  unfold bindL
  rw[Rx λv hv=>(nodup_cons.mp nd).1 (of_mem_zip hv).1,if_pos hk]
  simp
 | p::P,w::vs,i+1,m,nd,h1,h2,hk=>by
  show bindL kindOf ((p,w)::P.zip vs) m x=_
  unfold bindL
  exact Sa (i:=i) (nodup_cons.mp nd).2 (by simpa using h1) (by simpa using h2) hk
theorem Sc{kindOf:Str->Option NameKind}{x:Str}{v:Value}:∀{P:List Str} {vs:List Value} {i:Nat} {m:Str->Option Value},P.Nodup->P[i]? = some x->vs[i]? = some v->kindOf x≠some .local ->
  bindC kindOf (P.zip vs) m x=some v
 | [],_,_,_,_,h,_,_=>by simp at h
 | _::_,[],_,_,_,_,h,_=>by simp at h
 | p::P,w::vs,0,m,nd,h1,h2,hk=>by
  simp at h1 h2;subst h1;subst h2
  show bindC kindOf ((p,w)::P.zip vs) m p=_
  unfold bindC
  rw[Rs λv hv=>(nodup_cons.mp nd).1 (of_mem_zip hv).1,if_neg hk]
  simp
 | p::P,w::vs,i+1,m,nd,h1,h2,hk=>by
  show bindC kindOf ((p,w)::P.zip vs) m x=_
  unfold bindC
  exact Sc (i:=i) (nodup_cons.mp nd).2 (by simpa using h1) (by simpa using h2) hk
def Jo(N:List Str)(vs:List V):St:=vs.map some++replicate (N.length - vs.length) none
def Gh(CX:CXT)(P:Program)(w:World)(K:Frag)(mg:Str->Option Value)(base:Heap)(N:List Str)(qual:Str)(scope:Scope)(f:Addr)(cd:Value)(A:Around)(outer:List Env)(s:Shared)(H:Hp)(E:XK):Cx where
 prog:=P
 w:=w
 K:=K
 mg:=mg
 base:=base
 A:=A.deeper (envOfC qual scope s.heap.objs.size f cd)
 N:=N
 s₀:=s
 H₀:=H
 env:=envOfC qual scope s.heap.objs.size f cd
 outer:=outer
 stack:=envOfC qual scope s.heap.objs.size f cd::outer
 ex:=[]
 calm:=true
 fn:=λ_=>true
 pn:=[]
 xe:=λe s'=>wpAny (model P w) (A.deeper (envOfC qual scope s.heap.objs.size f cd)) (leaving (envOfC qual scope s.heap.objs.size f cd) e) (λ_ s''=>CX outer H s E e s'') (λe' s''=>CX outer H s E e' s'') s'
theorem Sz{sc:Scope}{n:Nat}{x:Str}(h:sc.names.lookup x=some .cell):∃c,(cellsFrom n sc.names []).lookup x=some c:=by
 have q:=cellsFrom_some sc.names n [] (.inl h)
 exact Option.isSome_iff_exists.mp q
theorem Zf{CX:CXT}{P:Program}{w:World}{K:Frag}{mg:Str->Option Value}{base:Heap}{N ps:List Str}{qual:Str}{scope:Scope}{f:Addr}{cd:Value}{A:Around}{outer:List Env}{s s1:Shared}{H:Hp}{E:XK}{us:List Value}{vs:List V}
  (S:Cj N ps scope) (hd:A.handled=none) (e0:Env0 P w K mg base A outer s H) (hl:vs.length=ps.length) (r:Vals vs us)
  (x:InCallC s s.heap.objs.size (bindL (envOfC qual scope s.heap.objs.size f cd).kindOf (ps.zip us) λ_=>none) (cellsFrom (s.heap.objs.size+1) scope.names []) (bindC (envOfC qual scope s.heap.objs.size f cd).kindOf (ps.zip us) λ_=>none) s1) :
  Inv (Gh CX P w K mg base N qual scope f cd A outer s H E) [] (Jo N vs) H s1:=by
 have hpl:ps.length<=N.length:=by have:=congrArg length S.pre;rw[length_take] at this;omega
 obtain⟨h1,tk,rfl,hk⟩:=x.done
 have noA:∀b:Addr,b∉(Gh CX P w K mg base N qual scope f cd A outer s H E).ex:=λb z=>absurd (show b∈([]:List Addr) from z) (by simp)
 refine⟨⟨e0.mod,S.kind,rfl,rfl,Nat.le_refl _,λy z c h1 h2=>?_,λy hy=>?_,λy c _ h=>?_,λ_=>hd,Around.frames_deeper e0.frames,.inr ⟨rfl,rfl⟩,λb z=>absurd z (noA b),e0.bs,e0.bsz,λb _ _=>noA b,λb z=>absurd z (noA b),e0.funs,e0.frf⟩,
  rfl,e0.bare,Un.kept hk,⟨_,x.toInCall.ns,λi y v h1 h2 h3=>?_⟩,λy c h=>⟨_,x.cell y c h⟩,e0.hok.fresh (Nat.le_refl _),λy c h=>?_,λp hp=>absurd (show p∈([]:List (Addr×Obj)) from hp) (by simp),e0.hok.kept hk,?_⟩
 ·exact name_of_addr x.apart (PySem.mem_of_lookup h1) (PySem.mem_of_lookup h2)
 ·have hy:scope.names.lookup y=some .cell\/scope.names.lookup y=some .free:=hy
  rcases hy with hy | hy
  ·exact Sz hy
  ·exact absurd rfl (S.nofree _ (PySem.mem_of_lookup hy))
 ·exact Nat.le_of_lt (x.above y c (PySem.mem_of_lookup h))
 ·have hi:i<vs.length:=by
   unfold Jo at h2
   by_cases hi:i<vs.length
   ·exact hi
   ·rw[getElem?_append_right (by simpa using hi)] at h2
    rw[getElem?_replicate] at h2
    split at h2 <;> cases h2
  have ha:vs[i]? = some v:=by
   unfold Jo at h2
   rw[getElem?_append_left (by simpa using hi),getElem?_map] at h2
   cases e:vs[i]? with
   | none=>rw[e] at h2;cases h2
   | some a=>rw[e] at h2;cases h2;rfl
  obtain⟨u,hu,rv⟩:=r.get ha
  have hp:ps[i]? = some y:=by
   rw[<- S.pre,List.getElem?_take_of_lt (by omega)];exact h1
  have ndP:ps.Nodup:=by rw[<- S.pre];exact S.nd.sublist (List.take_sublist _ _)
  refine⟨u,rv,?_⟩
  rcases S.par y (mem_of_getElem? hp) with k | k
  ·exact .inl ⟨k,Sa ndP hp hu k⟩
  ·obtain⟨c,e⟩:=Sz (n:=s.heap.objs.size+1) k
   refine .inr ⟨.inl k,c,e,?_⟩
   have q:=x.cell y c e
   rw[Sc ndP hp hu (by show scope.names.lookup y≠_;rw[k];decide)] at q
   exact q
 ·exact e0.hok.fresh (Nat.le_of_lt (x.above y c (PySem.mem_of_lookup h)))
 ·unfold Jo
  show _=N.length
  rw[length_append,length_map,length_replicate]
  omega
theorem Agh{CX:CXT}{P:Program}{w:World}{K:Frag}{mg:Str->Option Value}{base:Heap}{k:Nat}{f:Addr}{name qual:Str}{params:Arguments}{body:List Stmt}{scope:Scope}{dV kV doc pm cdv ct oc:Value}{an od:Option Addr}
  {osl:Array (Option Value)} {N ps:List Str} {sp:Sp} (lk:K.lookup f=some ⟨oc,od,.func (fnOf name qual params body scope dV kV doc pm an cdv ct),osl⟩) (hcd:codeIn K cdv qual=true) (S:Cj N ps scope)
  (len:∀vs H Q E,sp vs H Q E->vs.length=ps.length)
  (hbody:∀(A:Around) (outer:List Env) (s:Shared) (H:Hp) (vs:List V) (Q:VK) (E:XK),Room k (A.deeper (envOfC qual scope s.heap.objs.size f cdv))->sp vs H Q E ->
   ∃t,PSs (Gh CX P w K mg base N qual scope f cdv A outer s H E) body t/\t { nx:=λ_ H'=>Q .non H',rt:=Q } (Jo N vs) H) :
  FnOk P w K mg base CX (k+1) f (fnOf name qual params body scope dV kV doc pm an cdv ct) ps sp:=by
 refine⟨len,λA outer s H args us vs Q E hr e0 hb r hsp=>?_⟩
 have hl:=len _ _ _ _ hsp
 have KX:K.In s.heap:=e0.mod.kin.keeps λb o e=>(e0.bs b o e).1
 have lim:s.heap.NoLimit:=e0.mod.nolimit.keeps λb o e=>(e0.bs b o e).1
 have hkind:∀y∈ps.zip us,scope.names.lookup y.1=some .local\/(scope.names.lookup y.1=some .cell/\((cellsFrom (s.heap.objs.size+1) scope.names []).lookup y.1).isSome=true):=λ⟨n,v⟩ hy=>by
  rcases S.par n (of_mem_zip hy).1 with q | q
  ·exact .inl q
  ·exact .inr ⟨q,cellsFrom_some _ _ _ (.inl q)⟩
 refine codeAny_call_function hr.depth (KX _ _ lk) rfl S.co S.gen rfl (PySem.W.codeRec_of KX hcd) (hb _ _ _ _ ?_)
 refine wpAny_newFunctionEnv_cells S.kind hkind λenv he s1 x=>?_
 subst he
 refine⟨lim.keeps x.toInCall.keep,codeAny_func ?_⟩
 obtain⟨t,ht,hq⟩:=hbody A outer s H vs Q E (hr.deeper _) hsp
 have I:Inv (Gh CX P w K mg base N qual scope f cdv A outer s H E) [] (Jo N vs) H s1:=Zf S hr.hd e0 hl r x
 refine wpAny_mono (ht [] s1 (Jo N vs) H _ I hq) (λfl s' hs=>?_) λe s' hs=>hs
 have fin:∀{σ':St} {H':Hp} {v:V} {u:Value},Inv (Gh CX P w K mg base N qual scope f cdv A outer s H E) [] σ' H' s'->RelV v u->Q v H'->CE outer P w H s Q u s' :=
  λ{σ' H' v u} J rv q=>⟨v,H',J.os,J.bare,J.base,J.hok,rv,q⟩
 cases fl with
 | ret u =>
  obtain⟨v,σ',H',J,rv,q⟩:=hs
  exact fin J rv q
 | next =>
  obtain⟨σ',H',J,q⟩:=hs
  exact fin (v:=V.non) (u:=Value.none) J rfl q
 | brk =>
  obtain⟨_,_,_,q⟩:=hs
  exact False.elim q
 | cont =>
  obtain⟨_,_,_,q⟩:=hs
  exact False.elim q
section
variable {X:Cx}{x:Str}{p pos:Pos}{e:Expr}{es:List Expr}{t:TA}{id T:String}{r:List V->Hp->VK->Prop}
def tCB(r:List V->Hp->VK->Prop)(t:TA):TE:=λσ H Q=>t σ H λvs H1=>r vs H1 Q
theorem Cw(hc:Gc X (.builtin id) r)(hg:Gl X x)(hm:X.mg x=none)(hv:bootBuiltins x=some (.builtin id))(ha:PA X (e::es) t)(hn:x≠"__name__":=by decide)(hdb:(x==("__debug__" : Str))=false:=by decide)
  (he:starEach (e::es) X.env=(false,eval e X.env)::starEach es X.env:=by rfl) (hpl:(backTo pos (starEach es X.env)).any (·.1)=false:=by rfl):PE X (.Call (.Name x p) (e::es) [] pos) (tCB r t):=by
 intro pins s σ H Q I h
 refine wpAny_Call_Name_kw (Nl I hg hm hv ?_ hn hdb)
 exact PyProof.Rows.callWith_builtin1 (thn (ha pos pins s σ H _ I h) λus s1 ⟨vs,H1,I1,r1,q1⟩=>hc pins s1 σ H1 vs us Q I1 r1 q1) he hpl
theorem Nq(hc:Gc X (.type T) r)(hg:Gl X x)(hm:X.mg x=none)(hv:bootBuiltins x=some (.type T))(ha:PA X (e::es) t)(hn:x≠"__name__":=by decide)(hdb:(x==("__debug__" : Str))=false:=by decide)
  (he:starEach (e::es) X.env=(false,eval e X.env)::starEach es X.env:=by rfl) (hpl:(backTo pos (starEach es X.env)).any (·.1)=false:=by rfl):PE X (.Call (.Name x p) (e::es) [] pos) (tCB r t):=by
 intro pins s σ H Q I h
 refine wpAny_Call_Name_kw (Nl I hg hm hv ?_ hn hdb)
 exact PyProof.Rows.callWith_type1 (thn (ha pos pins s σ H _ I h) λus s1 ⟨vs,H1,I1,r1,q1⟩=>hc pins s1 σ H1 vs us Q I1 r1 q1) he hpl
end
end L2
namespace HT
open PySem PyProof.Rows
section
open PySem.SeqAt
open PySem.AutoSeq1 (wpAny_loadPart')
open PySem.MeetsSeq PySem.MeetsSeq2 PySem.MeetsSeq3
end
section
variable {prog:Program}{w:World}{A:Around}{E:Value->Shared->Prop}{s:Shared}
end
end HT
namespace L2
open PySem PySem.Spec PyProof.Rows
section
variable {X:Cx}{e:Expr}{te:TE}{lo hi:Option Expr}{tl th:TO}{pos p2:Pos}
end
def ixN(n:Nat)(i:Int):Option Nat:=if 0<=i then (if i<n then some i.toNat else none) else if -(n:Int)<=i then some (i+n).toNat else none
def atI{α:Type}(xs:List α)(i:Int):Option α:=(ixN xs.length i).bind λj=>xs[j]?
theorem Adi{n:Nat}{i:Int}{j:Nat}(h:ixN n i=some j):seqIndex? i n=some j/\j<n/\-(n:Int)<=i/\i<n:=by
 unfold ixN at h
 by_cases h0:0<=i
 ·rw[if_pos h0] at h
  by_cases h1:i<n
  ·rw[if_pos h1] at h
   have e:i.toNat=j:=Option.some.inj h
   exact⟨by rw[seqIndex_of h0 h1,e],by omega,by omega,h1⟩
  ·rw[if_neg h1] at h;cases h
 ·rw[if_neg h0] at h
  by_cases h1:-(n:Int)<=i
  ·rw[if_pos h1] at h
   have e:(i+n).toNat=j:=Option.some.inj h
   exact⟨by rw[seqIndex_neg (by omega) h1,e],by omega,h1,by omega⟩
  ·rw[if_neg h1] at h;cases h
theorem Ui{α:Type}{xs:List α}{i:Int}{v:α}(h:atI xs i=some v):∃j,seqIndex? i xs.length=some j/\xs[j]? = some v/\j<xs.length/\-(xs.length:Int)<=i/\i<xs.length:=by
 unfold atI at h
 cases e:ixN xs.length i with
 | none=>rw[e] at h;cases h
 | some j =>
  rw[e] at h
  obtain⟨h1,h2,h3,h4⟩:=Adi e
  exact⟨j,h1,h,h2,h3,h4⟩
theorem Dz{α:Type}{xs:List α}{j:Nat}{v:α}(h:xs[j]? = some v):atI xs (j:Int)=some v:=by
 have hj:j<xs.length:=(List.getElem?_eq_some_iff.mp h).1
 have e:ixN xs.length (j:Int)=some j:=by
  unfold ixN
  rw[if_pos (by omega),if_pos (by omega)];simp
 unfold atI;rw[e];exact h
def Adz(b:Expr):Prop:=∀o i,subscripted b false o i=operate [o,i] (getItem o i)
def IxR(X:Cx)(r:R2):Prop :=
 ∀(value slice:Expr) (pins:List (Addr×Obj)) (s:Shared) (σ:St) (H:Hp) (x y:V) (v u:Value) (Q:VK),Inv X pins σ H s->RelV x v->RelV y u->r x y H Q ->
  subscripted slice false v u=operate [v,u] (getItem v u)->wpAny (model X.prog X.w) X.A (subscriptTail value slice v u) (EP X pins σ Q) X.xe s
def MtR(X:Cx)(id:String)(r:V->List V->Hp->VK->Prop):Prop :=
 ∀(pins:List (Addr×Obj)) (s:Shared) (σ:St) (H:Hp) (x:V) (xs:List V) (v:Value) (us:List Value) (Q:VK),Inv X pins σ H s->RelV x v->Vals xs us->r x xs H Q ->
  wpAny (model X.prog X.w) X.A (call (.builtin id) (v::us)) (EP X pins σ Q) X.xe s
section
variable {X:Cx}{a b:Expr}{ta tb:TE}{pos:Pos}
theorem Cg{r:R2}(hr:IxR X r)(ha:PE X a ta)(hb:PE X b tb)(hs:Adz b):PE X (.Subscript a b pos) (tOp r ta tb):=by
 intro pins s σ H Q I h
 exact Subscript_ (AbC ha hb I h λv u s2 x y H2 I2 rx ry q=>hr a b pins s2 σ H2 x y v u Q I2 rx ry q (hs _ _))
def Xd(K:Frag):R2:=λx y H Q=>∃p xs i v,x=.ref p/\y=.int i/\SqL K H p xs/\atI xs i=some v/\Q v H
def Xg(K:Frag):R2:=λx y H Q=>∃p xs i v,x=.ref p/\y=.int i/\SqT K H p xs/\atI xs i=some v/\Q v H
theorem AdD:IxR X (Xd X.K):=by
 intro value slice pins s σ H x y v u Q I rx ry h hs
 obtain⟨p,xs,i,z,rfl,rfl,hq,he,q⟩:=h
 cases rx
 obtain⟨t,rfl⟩:=ry
 obtain⟨its,r,pl,hz⟩:=I.list hq
 obtain⟨j,h1,h2,h3,h4,h5⟩:=Ui he
 obtain⟨w,ew,rw'⟩:=r.get h2
 have hl:=r.length
 have hn:=Sx
 have fin:EP X pins σ Q w s:=⟨z,H,I,rw',q⟩
 by_cases h0:0<=i
 ·have hj:i.toNat=j:=by
   rw[seqIndex_of h0 h5] at h1
   exact Option.some.inj h1
  exact item_listR pl.isList h0 (by omega) (by rw[hj];simpa using ew) fin hs
 ·have hj:(i+(its.toArray.size:Int)).toNat=j:=by
   rw[seqIndex_neg (by omega) h4] at h1
   rw[size_toArray,<- hl]
   exact Option.some.inj h1
  exact subscriptTail_builtinR (x:=w) pl.isList.typeIs slot_list_getitem.lookup
   (wpAny_getItem_list_neg (Q:=λr s'=>r=w/\EP X pins σ Q r s') pl.isList (by omega) (by rw[size_toArray] <;> omega) (by omega) (by rw[hj];simpa using ew) ⟨rfl,fin⟩) hs
theorem Yw:IxR X (Xg X.K):=by
 intro value slice pins s σ H x y v u Q I rx ry h hs
 obtain⟨p,xs,i,z,rfl,rfl,hq,he,q⟩:=h
 cases rx
 obtain⟨t,rfl⟩:=ry
 obtain⟨its,r,pl,hz⟩:=I.tuple hq
 obtain⟨j,h1,h2,h3,h4,h5⟩:=Ui he
 obtain⟨w,ew,rw'⟩:=r.get h2
 have hl:=r.length
 have hn:=Sx
 have fin:EP X pins σ Q w s:=⟨z,H,I,rw',q⟩
 exact subscriptTail_builtinR (x:=w) pl.typeIs slot_tuple_getitem.lookup
  (getItem_tuple (j:=j) (Q:=λr s'=>r=w/\EP X pins σ Q r s') pl (by omega) (by omega) (by rw[size_toArray,<- hl];exact h1) (by simpa using ew) ⟨rfl,fin⟩) hs
def Gf:V->Bool
 | .non=>true
 | .bl _=>true
 | .int _=>true
 | .str _=>true
 | _=>false
def eqV:V->V->Bool
 | .non,.non=>true
 | .bl a,.bl b=>a==b
 | .bl a,.int b=>(if a then 1 else 0)==b
 | .int a,.bl b=>a==(if b then 1 else 0)
 | .int a,.int b=>a==b
 | .str a,.str b=>a==b
 | _,_=>false
theorem Aal{A:Around}{s:Shared}{y x:V}{u v:Value}(ry:RelV y u)(rx:RelV x v)(fy:Gf y=true)(fx:Gf x=true):SeqAt.EqAt A s u v (eqV y x):=by
 cases y with
 | non =>
  cases ry
  cases x with
  | non=>cases rx;exact SeqAt.EqAt.same _
  | bl b=>cases rx;exact SeqAt.EqAt.none_bool b
  | int b=>obtain⟨t,rfl⟩:=rx;exact SeqAt.EqAt.none_int b t
  | str b=>obtain⟨t,rfl⟩:=rx;exact SeqAt.EqAt.none_str b t
  | _=>exact absurd (show false=true from fx) Bool.false_ne_true
 | bl a =>
  cases ry
  cases x with
  | non=>cases rx;exact SeqAt.EqAt.bool_none a
  | bl b=>cases rx;exact SeqAt.EqAt.bool_bool a b
  | int b=>obtain⟨t,rfl⟩:=rx;exact SeqAt.EqAt.bool_int a b t
  | str b=>obtain⟨t,rfl⟩:=rx;exact SeqAt.EqAt.bool_str a b t
  | _=>exact absurd (show false=true from fx) Bool.false_ne_true
 | int a =>
  obtain⟨t',rfl⟩:=ry
  cases x with
  | non=>cases rx;exact SeqAt.EqAt.int_none a t'
  | bl b=>cases rx;exact SeqAt.EqAt.int_bool a t' b
  | int b=>obtain⟨t,rfl⟩:=rx;exact SeqAt.EqAt.int_int a t' b t
  | str b=>obtain⟨t,rfl⟩:=rx;exact SeqAt.EqAt.int_str a t' b t
  | _=>exact absurd (show false=true from fx) Bool.false_ne_true
 | str a =>
  obtain⟨t',rfl⟩:=ry
  cases x with
  | non=>cases rx;exact SeqAt.EqAt.str_none a t'
  | bl b=>cases rx;exact SeqAt.EqAt.str_bool a t' b
  | int b=>obtain⟨t,rfl⟩:=rx;exact SeqAt.EqAt.str_int a t' b t
  | str b=>obtain⟨t,rfl⟩:=rx;exact SeqAt.EqAt.str_str a t' b t
  | _=>exact absurd (show false=true from fx) Bool.false_ne_true
 | _=>exact absurd (show false=true from fy) Bool.false_ne_true
def eqU(x:V)(u:Value):Bool:=match u with
 | .none=>eqV .non x
 | .bool b=>eqV (.bl b) x
 | .int i _=>eqV (.int i) x
 | .str z _=>eqV (.str z) x
 | _=>false
theorem Xz{x y:V}{u:Value}(r:RelV y u)(f:Gf y=true):eqU x u=eqV y x:=by
 cases y with
 | non=>cases r;rfl
 | bl b=>cases r;rfl
 | int i=>obtain⟨t,rfl⟩:=r;rfl
 | str z=>obtain⟨t,rfl⟩:=r;rfl
 | _=>exact absurd (show false=true from f) Bool.false_ne_true
theorem Rq{x:V}:∀{xs:List V} {us:List Value},Vals xs us->xs.all Gf=true->us.any (eqU x)=xs.any λy=>eqV y x
 | _,_,.nil,_=>rfl
 | y::xs,u::us,.cons r t,f=>by
  rw[all_cons,and_eq_true] at f
  rw[any_cons,any_cons,Xz r f.1,Rq t f.2]
theorem Qb{A:Around}{s:Shared}{x:V}{v:Value}(rx:RelV x v)(fx:Gf x=true):∀{xs:List V} {us:List Value},Vals xs us->xs.all Gf=true->∀u∈us,SeqAt.EqAt A s u v (eqU x u)
 | _,_,.nil,_=>λu hu=>by cases hu
 | y::xs,u::us,.cons r t,f=>λu' hu=>by
  rw[all_cons,and_eq_true] at f
  rcases mem_cons.mp hu with rfl | hu
  ·rw[Xz r f.1];exact Aal r rx f.1 fx
  ·exact Qb rx fx t f.2 u' hu
def inV(x:V)(xs:List V):Bool:=xs.any λy=>eqV y x
def rIn(K:Frag)(neg:Bool):R2:=λx y H Q=>∃p xs,y=.ref p/\(SqL K H p xs\/SqT K H p xs)/\Gf x=true/\xs.all Gf=true/\Q (.bl (if neg then !inV x xs else inV x xs)) H
theorem Ru:OpR X (compareOp .In) (rIn X.K false):=by
 intro pins s σ H x y v u Q I rx ry h
 obtain⟨p,xs,rfl,hq,fx,fs,q⟩:=h
 cases ry
 rcases hq with hq | hq
 ·obtain⟨its,r,pl,hz⟩:=I.list hq
  refine SeqAt.in_listAt (eqU x) pl.isList (λw hw=>Qb rx fx r fs w (by simpa using hw)) ⟨.bl _,H,I,rfl,?_⟩
  rw[show its.toArray.any (eqU x)=its.any (eqU x) by simp,Rq r fs]
  exact q
 ·obtain⟨its,r,pl,hz⟩:=I.tuple hq
  refine SeqAt.in_tupleAt (eqU x) pl (λw hw=>Qb rx fx r fs w (by simpa using hw)) ⟨.bl _,H,I,rfl,?_⟩
  rw[show its.toArray.any (eqU x)=its.any (eqU x) by simp,Rq r fs]
  exact q
theorem Np:Gc X (.builtin "len") (λxs H Q=>∃p ys,xs=[.ref p]/\(SqL X.K H p ys\/SqT X.K H p ys)/\Q (.int ys.length) H):=by
 intro pins s σ H xs us Q I r h
 obtain⟨p,ys,rfl,hq,q⟩:=h
 obtain⟨u,rfl,rx⟩:=Sk r
 cases rx
 have hn:=Sx
 rcases hq with hq | hq
 ·obtain⟨its,r',pl,hz⟩:=I.list hq
  have hlen:=r'.length
  exact Calls.call_len_list pl.isList (by simp only [size_toArray] <;> omega) ⟨.int ys.length,H,I.tok _,⟨s.toks+1,by rw[size_toArray,hlen]⟩,q⟩
 ·obtain⟨its,r',pl,hz⟩:=I.tuple hq
  have hlen:=r'.length
  exact len_tuple pl (by simp only [size_toArray] <;> omega) ⟨.int ys.length,H,I.tok _,⟨s.toks+1,by rw[size_toArray,hlen]⟩,q⟩
theorem Tt:Gc X (.type "list") (λxs H Q=>∃p ys,xs=[.ref p]/\(SqL X.K H p ys\/SqT X.K H p ys)/\∀l,H l=none->Q (.ref l) (upd H l (.lst ys))):=by
 intro pins s σ H xs us Q I r h
 obtain⟨p,ys,rfl,hq,q⟩:=h
 obtain⟨u,rfl,rx⟩:=Sk r
 cases rx
 have fin:∀(its:List Value),Vals ys its->ys.length<=sizeLine->∀(h':Heap) (c':Nat),(∀b o',s.heap.get? b=some o'->h'.get? b=some o') ->
   h'.get? s.heap.objs.size=some { cls:=.type "list",dict:=none,data:=.seq its.toArray c',slots:=#[] }->EP X pins σ Q (.ref s.heap.objs.size) { s with heap:=h' }:=λits r' hz h' c' kp e =>
  ⟨.ref s.heap.objs.size,_,I.laid (t':=s.toks) kp (Nat.le_refl _) (show ObjOk X.prog X.w _ h' _ (.lst ys) from ⟨hz,its,c',r',e⟩),rfl,q _ (I.hok.fresh (Nat.le_refl _))⟩
 rcases hq with hq | hq
 ·obtain⟨its,r',pl,hz⟩:=I.list hq
  have hlen:=r'.length
  obtain⟨o,ho,hc,n,hd⟩:=pl.isList
  exact call_list_seq p (.inl rfl) ho hc hd (λh' c' kp e=>fin its r' hz h' c' kp e) (by simp only [size_toArray] <;> omega)
 ·obtain⟨its,r',pl,hz⟩:=I.tuple hq
  have hlen:=r'.length
  obtain⟨o,ho,hc,n,hd⟩:=pl
  exact call_list_seq p (.inr rfl) ho hc hd (λh' c' kp e=>fin its r' hz h' c' kp e) (by simp only [size_toArray] <;> omega)
def tyV(K:Frag)(T:String)(x:V)(H:Hp):Prop:=match x with
 | .str _=>T="str"
 | .int _=>T="int"
 | .ref p=>(T="list"/\∃xs,SqL K H p xs)\/(T="tuple"/\∃o,K.lookup p=some o/\o.cls=.type "tuple"/\o.dict=none) \/
   (T="dict"/\((∃kvs,H p=some (.dK kvs))\/∃kvs,H p=some (.dT kvs)))\/(T="set"/\∃S n,H p=some (.set S n))
 | _=>False
theorem Aer{pins:List (Addr×Obj)}{σ:St}{H:Hp}{s:Shared}{T:String}{x:V}{v:Value}(I:Inv X pins σ H s)(r:RelV x v)(ty:tyV X.K T x H) :
  s.TypeIs v T/\∀a,v=.ref a->∃ob,s.heap.get? a=some ob/\ob.dict=none:=by
 cases x with
 | str z =>
  obtain⟨t,rfl⟩:=r
  cases (show T="str" from ty)
  exact⟨typeIs_str s z t,λ_ e=>nomatch e⟩
 | int i =>
  obtain⟨t,rfl⟩:=r
  cases (show T="int" from ty)
  exact⟨typeIs_int s i t,λ_ e=>nomatch e⟩
 | ref p =>
  cases r
  rcases ty with ⟨rfl,xs,hq⟩ | ⟨rfl,o,hk,hc,hd⟩ | ⟨rfl,hk⟩ | ⟨rfl,S,n,hk⟩
  ·obtain⟨its,_,pl,_⟩:=I.list hq
   refine⟨pl.isList.typeIs,λa e=>?_⟩
   cases e
   obtain⟨o,n,e,c,hd,_⟩:=pl
   exact⟨o,e,hd⟩
  ·refine⟨⟨o,I.kIn p o hk,hc⟩,λa e=>?_⟩
   cases e
   exact⟨o,I.kIn _ o hk,hd⟩
  ·have z:∃o,s.heap.get? p=some o/\o.ExactDict:=by
    rcases hk with ⟨kvs,hk⟩ | ⟨kvs,hk⟩
    ·obtain⟨_,_,_,_,o,_,_,e,ex,_⟩:=I.hok p _ hk
     exact⟨o,e,ex⟩
    ·obtain⟨_,_,_,_,o,_,_,e,ex,_⟩:=I.hok p _ hk
     exact⟨o,e,ex⟩
   obtain⟨o,e,ex⟩:=z
   refine⟨⟨o,e,ex.1⟩,λa e2=>?_⟩
   cases e2
   exact⟨o,e,ex.2.1⟩
  ·obtain⟨o,_,_,_,e,ex,_⟩:=I.hok p _ hk
   refine⟨⟨o,e,ex.1⟩,λa e2=>?_⟩
   cases e2
   exact⟨o,e,ex.2.1⟩
 | _=>exact False.elim ty
def tBM(K:Frag)(T:String)(r:V->List V->Hp->VK->Prop)(to:TE)(t:TA):TE:=λσ H Q=>to σ H λx H1=>tyV K T x H1/\t σ H1 λxs H2=>r x xs H2 Q
variable {o e:Expr}{es:List Expr}{to:TE}{t:TA}{name:Str}{apos cpos:Pos}{T id:String}{r:V->List V->Hp->VK->Prop}
theorem Dr(pa:PlainAttrs T)(slot:Slot T name id)(hty:typeOf (.builtin id)=pure (.type "method_descriptor"))(hm:MtR X id r)(ho:PE X o to)(ha:PA X (e::es) t)
  (hbase:attributeBase o name X.env (eval o X.env)=eval o X.env:=by rfl)
  (hfew:((backTo cpos (starEach (e::es) X.env)).all (λx=>!x.1)&&(backToKw cpos (keywordEach [] X.env)).all (λx=>x.1.isSome)
   && decide ((e::es).length+([]:List Keyword).length+(if ([]:List Keyword).isEmpty then 0 else 1)<30))=true:=by rfl)
  (hline:(apos.endLine==cpos.line)=true:=by rfl) (hs:starEach (e::es) X.env=(false,eval e X.env)::starEach es X.env:=by rfl) (hplain:(backTo cpos (starEach es X.env)).any (·.1)=false:=by rfl) :
  PE X (.Call (.Attribute o name apos) (e::es) [] cpos) (tBM X.K T r to t):=by
 intro pins s σ H Q I h
 refine wpAny_Call_method_late hbase hfew hline rfl (thn (ho pins s σ H _ I h) λv s1 ⟨x,H1,I1,r1,ty,q1⟩=>?_)
 obtain⟨h1,h2⟩:=Aer I1 r1 ty
 refine⟨T,id,pa,slot,hty,h1,h2,?_⟩
 have hA:=ha cpos pins s1 σ H1 _ I1 q1
 rw[hs] at hA ⊢
 refine Calls.callWith_builtin (by show (false || (backTo cpos (starEach es X.env)).any (·.1))=false;rw[hplain] <;> rfl) (Calls.evalArgs_plain ?_)
 exact thn hA λus s2 ⟨vs,H2,I2,r2,q2⟩=>hm pins s2 σ H2 x vs v us Q I2 r1 r2 q2
end
def MtM(X:Cx)(id:String)(r:V->List V->Hp->VK->Prop):Prop :=
 ∀(pins:List (Addr×Obj)) (s:Shared) (σ:St) (H:Hp) (x:V) (xs:List V) (v:Value) (us:List Value) (Q:VK),Inv X pins σ H s->RelV x v->Vals xs us->r x xs H Q ->
  wpAny (model X.prog X.w) X.A (call (.builtin id) (v::us)) (EP X pins σ Q) X.xe s
theorem Vals.one:∀{x:V} {us:List Value},Vals [x] us->∃u,us=[u]/\RelV x u
 | _,_,.cons r .nil=>⟨_,rfl,r⟩
section
variable {X:Cx}{pins:List (Addr×Obj)}{σ:St}{H:Hp}{s:Shared}{l b:Addr}{xs ys zs:List V}
theorem Inv.lset{its its':List Value}{n:Nat}{f:Array Value->Array Value}{t':Nat}(I:Inv X pins σ H s)(hH:H l=some (.lst xs))
  (e:s.heap.get? l=some { cls:=.type "list",data:=.seq its.toArray n }) (hf:f its.toArray=its'.toArray) (hv:Vals ys its') (hz:ys.length<=sizeLine) :
  Inv X pins σ (upd H l (.lst ys)) { s with heap:=s.heap.update l (Obj.mapSeq f),toks:=t' }:=by
 have q:=PySem.IsL.update e f
 rw[hf] at q
 refine I.write (x:=l) (e:=l) (by rw[hH];exact trivial) (.inl rfl) (λb' u hb hu=>(Heap.get?_update_other s.heap (Obj.mapSeq f) (Ne.symm hb)).trans hu) ⟨_,q⟩ ?_
 exact⟨hz,its',_,hv,q⟩
theorem Inv.lnew{its:List Value}{t':Nat}(I:Inv X pins σ H s)(hv:Vals ys its)(hz:ys.length<=sizeLine) :
  Inv X pins σ (upd H s.heap.objs.size (.lst ys)) { s with heap:=s.heap.push { cls:=.type "list",data:=.seq its.toArray },toks:=t' } :=
 I.laid (λ_ _ q=>get?_push_of_some _ q) (Nat.le_refl _) ⟨hz,its,0,hv,get?_push_size _ rfl⟩
theorem Inv.fresh(I:Inv X pins σ H s):H s.heap.objs.size=none:=I.hok.fresh (Nat.le_refl _)
theorem Inv.lstM(I:Inv X pins σ H s)(hH:H l=some (.lst xs)):xs.length<=sizeLine/\∃(its:List Value) (n:Nat),Vals xs its/\xs.length=its.length/\s.heap.get? l=some { cls:=.type "list",data:=.seq its.toArray n }:=by
 obtain⟨z,its,n,r,e⟩:=I.hok l _ hH
 exact⟨z,its,n,r,r.length,e⟩
end
section
variable {X:Cx}
def AdK:V->List V->Hp->VK->Prop:=λx vs H Q=>∃l xs y,x=.ref l/\vs=[y]/\H l=some (.lst xs)/\xs.length<sizeLine/\Q .non (upd H l (.lst (xs++[y])))
theorem Se:MtM X "list.append" AdK:=by
 intro pins s σ H x vs v us Q I rx rv h
 obtain⟨l,xs,y,rfl,rfl,hH,hz,q⟩:=h
 cases rx
 obtain⟨u,rfl,ru⟩:=rv.one
 obtain⟨z,its,n,r,hl,e⟩:=I.lstM hH
 refine call_meets F.slot_list_append ⟨_,e,rfl⟩ F.entry_list_append (F.args_list_append_2 _ _) (PySem.list_append l its.toArray n u (by rw[size_toArray];omega)) ⟨e,?_⟩
 refine⟨.non,_,I.lset (its':=its++[u]) hH e (by simp) (r.append (.cons ru .nil)) ?_,rfl,q⟩
 rw[length_append,List.length_singleton]
 omega
def AgB:R2:=λx y H Q=>∃l b xs zs,x=.ref l/\y=.ref b/\H l=some (.lst xs)/\H b=some (.lst zs)/\xs.length+zs.length<=sizeLine/\∀p,H p=none->Q (.ref p) (upd H p (.lst (xs++zs)))
theorem AeE:OpR X (binaryOp .Add) AgB:=by
 intro pins s σ H x y v u Q I rx ry h
 obtain⟨l,b,xs,zs,rfl,rfl,hH,hB,hz,q⟩:=h
 cases rx
 cases ry
 obtain⟨z,its,n,r,hl,e⟩:=I.lstM hH
 obtain⟨z2,its2,n2,r2,hl2,e2⟩:=I.lstM hB
 refine PySem.P.add_list e e2 ?_ (by rw[size_toArray,size_toArray];omega)
 have ea:its.toArray++its2.toArray=(its++its2).toArray:=by simp
 rw[ea]
 exact⟨.ref _,_,I.lnew (t':=s.toks) (r.append r2) (by rw[length_append];omega),rfl,q _ I.fresh⟩
end
section
variable {prog:Program}{w:World}{A:Around}{E:Value->Shared->Prop}{s:Shared}
set_option maxRecDepth 100000 in
end
section
variable {X:Cx}
end
section
variable {κ:Type} [DecidableEq κ]
def Ck(kvs:List (κ×V))(k:κ):Option V:=(kvs.find? λkv=>decide (kv.1=k)).map (·.2)
def Fr(kvs:List (κ×V))(k:κ)(v:V):List (κ×V) :=
 if (kvs.any λkv=>decide (kv.1=k))=true then kvs.map (λkv=>if kv.1=k then (kv.1,v) else kv) else kvs++[(k,v)]
theorem Ji{p:κ×V}{r:List (κ×V)}{k:κ}(e:p.1=k):Ck (p::r) k=some p.2:=by simp [Ck,find?_cons,e]
theorem Jb{p:κ×V}{r:List (κ×V)}{k:κ}(e:¬p.1=k):Ck (p::r) k=Ck r k:=by simp [Ck,find?_cons,e]
theorem Jk(k:κ):∀kvs:List (κ×V),(kvs.any λkv=>decide (kv.1=k))=(Ck kvs k).isSome
 | []=>rfl
 | p::r=>by
  rw[any_cons]
  by_cases e:p.1=k
  ·simp only [Ji e,decide_eq_true e,Bool.true_or,Option.isSome_some]
  ·rw[Jb e,decide_eq_false e,Bool.false_or];exact Jk k r
theorem Op(kvs:List (κ×V))(k:κ)(v:V):(Fr kvs k v).length<=kvs.length+1:=by
 unfold Fr
 split
 ·rw[length_map];omega
 ·rw[length_append,length_cons,length_nil];omega
theorem Gk{kvs:List (κ×V)}{k:κ}(v:V)(h:Ck kvs k=none):Fr kvs k v=kvs++[(k,v)]:=by
 unfold Fr
 rw[Jk,h]
 exact if_neg (by decide)
theorem RelO.isSome_eq{o:Option V}{u:Option Value}(r:RelO o u):o.isSome=u.isSome:=by
 cases o with
 | none=>cases u with
  | none=>rfl
  | some _=>exact (show False from r).elim
 | some _=>cases u with
  | none=>exact (show False from r).elim
  | some _=>rfl
theorem RelO.getD{o:Option V}{u:Option Value}{d:V}{d':Value}(r:RelO o u)(rd:RelV d d'):RelV (o.getD d) (u.getD d'):=by
 cases o with
 | none=>cases u with
  | none=>exact rd
  | some _=>exact (show False from r).elim
 | some _=>cases u with
  | none=>exact (show False from r).elim
  | some _=>exact r
theorem KV.val{kvs:List (κ×V)}{vs:List (κ×Value)}(r:KV kvs vs)(k:κ):RelO (Ck kvs k) (valueAt vs k):=by
 unfold KV at r
 induction r with
 | nil=>exact True.intro
 | @cons p q ps qs h t ih =>
  obtain⟨h1,h2⟩:=h
  by_cases e:p.1=k
  ·have e':q.1=k:=h1.symm.trans e
   have b:valueAt (q::qs) k=some q.2:=by simp [valueAt,find?_cons,e']
   rw[Ji e,b];exact h2
  ·have e':¬q.1=k:=λz=>e (h1.trans z)
   have b:valueAt (q::qs) k=valueAt qs k:=by simp [valueAt,find?_cons,e']
   rw[Jb e,b];exact ih
theorem KV.any{kvs:List (κ×V)}{vs:List (κ×Value)}(r:KV kvs vs)(k:κ):(kvs.any λkv=>decide (kv.1=k))=vs.any λkv=>decide (kv.1=k):=by
 unfold KV at r
 induction r with
 | nil=>rfl
 | cons h t ih=>rw[any_cons,any_cons,ih,h.1]
theorem KV.repl{kvs:List (κ×V)}{vs:List (κ×Value)}(r:KV kvs vs)(k:κ){y:V}{u:Value}(ry:RelV y u) :
  KV (kvs.map λkv=>if kv.1=k then (kv.1,y) else kv) (vs.map λkv=>if kv.1=k then (kv.1,u) else kv):=by
 unfold KV at r ⊢
 induction r with
 | nil=>exact .nil
 | @cons p q ps qs h t ih =>
  rw[map_cons,map_cons]
  refine .cons ?_ ih
  obtain⟨h1,h2⟩:=h
  by_cases e:p.1=k
  ·rw[if_pos e,if_pos (h1.symm.trans e)];exact⟨h1,ry⟩
  ·rw[if_neg e,if_neg (λz=>e (h1.trans z))];exact⟨h1,h2⟩
theorem KV.put{kvs:List (κ×V)}{vs:List (κ×Value)}(r:KV kvs vs)(k:κ){y:V}{u:Value}(ry:RelV y u):KV (Fr kvs k y) (stored vs k u):=by
 unfold Fr stored
 rw[r.any k]
 by_cases e:(vs.any λkv=>decide (kv.1=k))=true
 ·rw[if_pos e,if_pos e];exact r.repl k ry
 ·rw[if_neg e,if_neg e];exact Paired.snoc r ⟨rfl,ry⟩
theorem KV.keys{kvs:List (κ×V)}{vs:List (κ×Value)}(r:KV kvs vs):kvs.map (·.1)=vs.map (·.1):=by
 unfold KV at r
 induction r with
 | nil=>rfl
 | cons h t ih=>rw[map_cons,map_cons,ih,h.1]
theorem KV.length{kvs:List (κ×V)}{vs:List (κ×Value)}(r:KV kvs vs):kvs.length=vs.length:=Paired.length r
end
theorem Oc{P:Program}{w:World}{k:Key}{u:Value}(r:RelV (kV k) u):(Da P w).is k u=true:=by
 cases k with
 | inl i=>obtain⟨t,e⟩:=(show ∃t,u=Value.int i t from r);subst e;exact Ug P w i t
 | inr x=>obtain⟨t,e⟩:=(show ∃t,u=Value.str x t from r);subst e;exact Ud P w x t
theorem Sd{P:Program}{w:World}:∀{ks:List Key} {us:List Value},Vals (ks.map kV) us->ItemsAre (Da P w) ks us
 | [],_,r=>by rw[map_nil] at r;cases r;exact .nil
 | k::ks,_,r=>by
  rw[map_cons] at r
  cases r with
  | cons h t=>exact .cons (Oc h) (Sd t)
abbrev KT(H:Hp):List (List Key×V)->List (List Key×Addr×Value)->Prop:=Paired λp q=>p.1=q.1/\H q.2.1=some (.tup (p.1.map kV))/\RelV p.2 q.2.2
theorem KT.val{H:Hp}{kvs:List (List Key×V)}{xs:List (List Key×Addr×Value)}(r:KT H kvs xs)(k:List Key):RelO (Ck kvs k) ((atKey xs k).map (·.2)):=by
 induction r with
 | nil=>exact True.intro
 | @cons p q ps qs h t ih =>
  obtain⟨h1,_,h2⟩:=h
  by_cases e:p.1=k
  ·have e':q.1=k:=h1.symm.trans e
   have b:atKey (q::qs) k=some q.2:=by simp [atKey,find?_cons,e']
   rw[Ji e,b];exact h2
  ·have e':¬q.1=k:=λz=>e (h1.trans z)
   have b:atKey (q::qs) k=atKey qs k:=by simp [atKey,find?_cons,e']
   rw[Jb e,b];exact ih
theorem KT.repl{H:Hp}{kvs:List (List Key×V)}{xs:List (List Key×Addr×Value)}(r:KT H kvs xs)(k:List Key){y:V}{u:Value}(ry:RelV y u) :
  KT H (kvs.map λkv=>if kv.1=k then (kv.1,y) else kv) (xs.map (putAt k u)):=by
 induction r with
 | nil=>exact .nil
 | @cons p q ps qs h t ih =>
  rw[map_cons,map_cons]
  refine .cons ?_ ih
  obtain⟨h1,h2,h3⟩:=h
  unfold putAt
  by_cases e:p.1=k
  ·rw[if_pos e,if_pos (h1.symm.trans e)];exact⟨h1,h2,ry⟩
  ·rw[if_neg e,if_neg (λz=>e (h1.trans z))];exact⟨h1,h2,h3⟩
theorem KT.put{H:Hp}{kvs:List (List Key×V)}{xs:List (List Key×Addr×Value)}(r:KT H kvs xs)(k:List Key){b:Addr}{y:V}{u:Value}(hb:H b=some (.tup (k.map kV)))(ry:RelV y u) :
  KT H (Fr kvs k y) (storedH xs k b u):=by
 have e:(kvs.any λkv=>decide (kv.1=k))=(atKey xs k).isSome:=by
  rw[Jk,(r.val k).isSome_eq,isSome_map]
 unfold Fr storedH
 rw[e]
 by_cases q:(atKey xs k).isSome=true
 ·rw[if_pos q,if_pos q];exact r.repl k ry
 ·rw[if_neg q,if_neg q];exact Paired.snoc r ⟨rfl,hb,ry⟩
theorem KT.keeps{H H':Hp}{kvs:List (List Key×V)}{xs:List (List Key×Addr×Value)}(r:KT H kvs xs)(ht:∀b ys,H b=some (.tup ys)->H' b=some (.tup ys)):KT H' kvs xs :=
 Paired.mapP r λ_ _ z=>⟨z.1,ht _ _ z.2.1,z.2.2⟩
section
variable {P:Program}{w:World}{H:Hp}{h:Heap}{a:Addr}
theorem Acc{u:HO}(ok:HOk P w H h)(e:Rd H a u):ObjOk P w H h a u:=e.ok ok
theorem Lx{kvs:List (Key×V)}(ok:HOk P w H h)(e:Rd H a (.dK kvs)):kvs.length<=sizeLine/\(a==sysModules)=false/\∃vs,KV kvs vs/\h.DictOf (Da P w) a vs :=
 show ObjOk P w H h a (.dK kvs) from Acc ok e
theorem Agm{kvs:List (Key×V)}(ok:HOk P w H h)(e:H a=some (.dK kvs)):kvs.length<=sizeLine/\(a==sysModules)=false/\∃vs,KV kvs vs/\h.DictOf (Da P w) a vs:=Lx ok (.inl e)
theorem La{ks:List Key}(ok:HOk P w H h)(e:H a=some (.tup (ks.map kV))):(tupleKind (Da P w)).is h ks a:=by
 obtain⟨_,its,r,o,h1,h2,n,h3⟩:=(show ObjOk P w H h a (.tup (ks.map kV)) from ok a _ e)
 exact⟨o,its.toArray,n,h1,h2,h3,by simpa using Sd r⟩
theorem Na{kvs:List (List Key×V)}(ok:HOk P w H h)(e:Rd H a (.dT kvs)):kvs.length<=sizeLine/\(a==sysModules)=false /\
  ∃xs,KT H kvs xs/\h.DictOfH (tupleKind (Da P w)) a xs:=by
 obtain⟨z,y,xs,r,o,es,ep,h1,h2,h3,h4,h5⟩:=(show ObjOk P w H h a (.dT kvs) from Acc ok e)
 refine⟨z,y,xs,r,o,es,ep,h1,h2,h3,h4,λx hx=>?_,h5⟩
 have all:∀{l:List (List Key×V)} {m:List (List Key×Addr×Value)},KT H l m->∀x∈m,(tupleKind (Da P w)).is h x.1 x.2.1:=by
  intro l m q
  induction q with
  | nil=>intro x hx;exact nomatch hx
  | @cons p q ps qs hq t ih =>
   intro x hx
   rcases mem_cons.mp hx with e | hx
   ·subst e
    exact La ok (by rw[<- hq.1];exact hq.2.1)
   ·exact ih x hx
 exact all r x hx
theorem Agn{kvs:List (List Key×V)}(ok:HOk P w H h)(e:H a=some (.dT kvs)):kvs.length<=sizeLine/\(a==sysModules)=false /\
  ∃xs,KT H kvs xs/\h.DictOfH (tupleKind (Da P w)) a xs:=Na ok (.inl e)
end
def DGet(H:Hp)(a:Addr)(y:V)(r:Option V):Prop :=
 (∃kvs k,Rd H a (.dK kvs)/\y=kV k/\r=Ck kvs k)\/∃kvs k b,Rd H a (.dT kvs)/\y=.ref b/\H b=some (.tup (k.map kV))/\r=Ck kvs k
def DPut(H:Hp)(a:Addr)(y v:V)(H':Hp):Prop :=
 (∃kvs k,H a=some (.dK kvs)/\y=kV k/\kvs.length<sizeLine/\H'=upd H a (.dK (Fr kvs k v))) \/
 ∃kvs k b,H a=some (.dT kvs)/\y=.ref b/\H b=some (.tup (k.map kV))/\kvs.length<sizeLine/\H'=upd H a (.dT (Fr kvs k v))
theorem DGet.k{H:Hp}{a:Addr}{kvs:List (Key×V)}{k:Key}(e:H a=some (.dK kvs)):DGet H a (kV k) (Ck kvs k):=.inl ⟨kvs,k,.inl e,rfl,rfl⟩
theorem DGet.t{H:Hp}{a b:Addr}{kvs:List (List Key×V)}{k:List Key}(e:H a=some (.dT kvs))(eb:H b=some (.tup (k.map kV))):DGet H a (.ref b) (Ck kvs k):=.inr ⟨kvs,k,b,.inl e,rfl,eb,rfl⟩
theorem DPut.k{H:Hp}{a:Addr}{kvs:List (Key×V)}{k:Key}{v:V}(e:H a=some (.dK kvs))(hl:kvs.length<sizeLine):DPut H a (kV k) v (upd H a (.dK (Fr kvs k v))):=.inl ⟨kvs,k,e,rfl,hl,rfl⟩
theorem DPut.t{H:Hp}{a b:Addr}{kvs:List (List Key×V)}{k:List Key}{v:V}(e:H a=some (.dT kvs))(eb:H b=some (.tup (k.map kV)))(hl:kvs.length<sizeLine) :
  DPut H a (.ref b) v (upd H a (.dT (Fr kvs k v))):=.inr ⟨kvs,k,b,e,rfl,eb,hl,rfl⟩
section
variable {X:Cx}{pins:List (Addr×Obj)}{σ:St}{H:Hp}{s:Shared}{a:Addr}{y v:V}{u r:Value}{o:Option V}{A:Around}{E:Value->Shared->Prop}
theorem Inv.big(I:Inv X pins σ H s):sysModules<s.heap.objs.size:=by
 have h:mainGlobals<s.heap.objs.size:=(I.mod.glob.keeps I.bk).lt
 exact Nat.lt_trans (by decide) h
theorem Xy{Q:Value->Shared->Prop}(hu:A.units+1<cLine)(I:Inv X pins σ H s)(g:DGet H a y (some v))(ry:RelV y u)(h:∀w' s',Inv X pins σ H s'->RelV v w'->Q w' s') :
  wpAny (model X.prog X.w) A (getItem (.ref a) u) Q E s:=by
 rcases g with ⟨kvs,k,e,ey,l⟩ | ⟨kvs,k,b,e,ey,eb,l⟩
 ·subst ey
  obtain⟨z,hd,vs,rel,dd⟩:=Lx I.hok e
  obtain⟨w',hw,rw'⟩:=RelO.some_of (v:=v) (o:=valueAt vs k) (by rw[l];exact rel.val k)
  exact wpAny_getItem_of (Oc ry) dd.mapOf hw (h w' _ (I.tok _) rw')
 ·subst ey
  cases (show u=Value.ref b from ry)
  obtain⟨z,hd,xs,rel,dd⟩:=Na I.hok e
  obtain⟨w',hw,rw'⟩:=RelO.some_of (v:=v) (o:=(atKey xs k).map (·.2)) (by rw[l];exact rel.val k)
  obtain⟨p,hp,hp2⟩:=map_eq_some_iff.mp hw
  refine wpAny_getItem_heap (tupleKind_room_in1 hu) (La I.hok eb) dd hp ?_
  rw[hp2]
  exact h w' _ (I.tok _) rw'
theorem AgU{Q:Value->Shared->Prop}(hu:A.units+1<cLine)(I:Inv X pins σ H s)(g:DGet H a y o)(ry:RelV y u)(h:∀s',Inv X pins σ H s'->Q (.bool o.isSome) s') :
  wpAny (model X.prog X.w) A (compareOp .In u (.ref a)) Q E s:=by
 rcases g with ⟨kvs,k,e,ey,l⟩ | ⟨kvs,k,b,e,ey,eb,l⟩
 ·subst ey
  obtain⟨z,hd,vs,rel,dd⟩:=Lx I.hok e
  refine wpAny_in_of (Oc ry) hd dd.mapOf ?_
  rw[<- (rel.val k).isSome_eq,<- l]
  exact h _ (I.tok _)
 ·subst ey
  cases (show u=Value.ref b from ry)
  obtain⟨z,hd,xs,rel,dd⟩:=Na I.hok e
  refine wpAny_in_heap (tupleKind_room_in1 hu) (La I.hok eb) hd dd ?_
  have q:=(rel.val k).isSome_eq
  rw[isSome_map] at q
  rw[<- q,<- l]
  exact h _ (I.tok _)
theorem AdI{Q:Value->Shared->Prop}(hu:A.units+1<cLine)(I:Inv X pins σ H s)(g:DGet H a y o)(ry:RelV y u)(h:∀s',Inv X pins σ H s'->Q (.bool (!o.isSome)) s') :
  wpAny (model X.prog X.w) A (compareOp .NotIn u (.ref a)) Q E s:=by
 rcases g with ⟨kvs,k,e,ey,l⟩ | ⟨kvs,k,b,e,ey,eb,l⟩
 ·subst ey
  obtain⟨z,hd,vs,rel,dd⟩:=Lx I.hok e
  refine wpAny_notIn_of (Oc ry) hd dd.mapOf ?_
  rw[<- (rel.val k).isSome_eq,<- l]
  exact h _ (I.tok _)
 ·subst ey
  cases (show u=Value.ref b from ry)
  obtain⟨z,hd,xs,rel,dd⟩:=Na I.hok e
  refine wpAny_notIn_heap (tupleKind_room_in1 hu) (La I.hok eb) hd dd ?_
  have q:=(rel.val k).isSome_eq
  rw[isSome_map] at q
  rw[<- q,<- l]
  exact h _ (I.tok _)
theorem Ux{h':Heap}{t':Nat}{ob:HO}(I:Inv X pins σ H s)(mu:Mut (H a))(hs:SameBut a s.heap h')(he:∃q,h'.get? a=some q)(new:ObjOk X.prog X.w (upd H a ob) h' a ob) :
  Inv X pins σ (upd H a ob) { s with heap:=h',toks:=t' } :=
 I.write (x:=a) (e:=a) mu (.inl rfl) (λb q hb z=>(hs.2 b hb).trans z) he new
theorem Aei{P:Program}{w:World}{H':Hp}{h':Heap}{kvs:List (Key×V)}{vs:List (Key×Value)}(z:kvs.length<=sizeLine)(hd:(a==sysModules)=false)(rel:KV kvs vs)(dd:h'.DictOf (Da P w) a vs) :
  ObjOk P w H' h' a (.dK kvs):=⟨z,hd,vs,rel,dd⟩
theorem Xw{H':Hp}{Q:Unit->Shared->Prop}(hu:A.units+1<cLine)(I:Inv X pins σ H s)(g:DPut H a y v H')(ry:RelV y u)(rv:RelV v r)(h:∀s',Inv X pins σ H' s'->Q () s') :
  wpAny (model X.prog X.w) A (setItem (.ref a) u r) Q E s:=by
 rcases g with ⟨kvs,k,e,ey,l,eH⟩ | ⟨kvs,k,b,e,ey,eb,l,eH⟩
 ·subst ey eH
  obtain⟨z,hd,vs,rel,dd⟩:=Agm I.hok e
  have hz:vs.length<=sizeLine:=by rw[<- rel.length];exact z
  have hl:(Fr kvs k v).length<=sizeLine:=by have:=Op kvs k v;omega
  refine wpAny_setItem_pairs (hsz:=hz) (Oc ry) dd λh' dd' hs=>h _ ?_
  have he:∃q,h'.get? a=some q:=let ⟨q,_,_,hq,_⟩:=dd';⟨q,hq⟩
  exact Ux I (by rw[e];exact True.intro) hs he (Aei hl hd (rel.put k rv) dd')
 ·subst ey eH
  cases (show u=Value.ref b from ry)
  obtain⟨z,hd,xs,rel,dd⟩:=Agn I.hok e
  have hz:xs.length<=sizeLine:=by rw[<- Paired.length rel];exact z
  have hl:(Fr kvs k v).length<=sizeLine:=by have:=Op kvs k v;omega
  refine wpAny_setItem_heap (hsz:=hz) (tupleKind_room_in1 hu) (La I.hok eb) dd λh' dd' hs=>h _ ?_
  obtain⟨q,es,ep,hq,h2,h3,h4,_,h5⟩:=dd'
  refine Ux I (by rw[e];exact True.intro) hs ⟨q,hq⟩ ⟨hl,hd,_,(rel.put k eb rv).keeps λc ys ec=>?_,q,es,ep,hq,h2,h3,h4,h5⟩
  rw[Bj (Db ec e (λz=>nomatch z))]
  exact ec
end
section
variable {X:Cx}{pins:List (Addr×Obj)}{σ:St}{H:Hp}{s:Shared}{a:Addr}{kvs:List (Key×V)}{k:Key}{u:Value}{A:Around}{E:Value->Shared->Prop}
end
def Afr(i:Expr):Prop:=∀ov iv,subscripted i false ov iv=operate [ov,iv] (getItem ov iv)
theorem Adp{prog:Program}{w:World}{A:Around}{E:Value->Shared->Prop}{s:Shared}{env:Env}{value slice:Expr}{pos:Pos}{T id:String}{Q:Value->Shared->Prop}
  (hl:typeLookup (.type T) "__getitem__"=pure (some (.builtin id))) (hs:Afr slice)
  (h:wpAny (model prog w) A (eval value env) (λo s₁=>wpAny (model prog w) A (eval slice env) (λi s₂=>s₂.TypeIs o T/\wpAny (model prog w) A (getItem o i) Q E s₂) E s₁) E s) :
  wpAny (model prog w) A (eval (.Subscript value slice pos) env) Q E s:=by
 refine Subscript_ (wpAny_mono h (λo s₁ h₁=>wpAny_mono h₁ (λi s₂ h₂=>?_) λ_ _ x=>x) λ_ _ x=>x)
 obtain⟨hT,h₂⟩:=h₂
 unfold subscriptTail
 refine wpAny_bind ?_
 rw[getitemInPython_of_ne hT.not_modules]
 refine wpAny_bind (wpAny_specialOf hT hl ?_)
 have fin:wpAny (model prog w) A (subscripted slice false o i) (λr s₃=>wpAny (model prog w) A (letTemporaryGo value o r >>= λ_=>pure r) Q E s₃) E s₂:=by
  rw[hs o i]
  exact wpAny_operating (wpAny_mono h₂ (λr s₃ h₃=>wpAny_bind (wpAny_letTemporaryGo (wpAny_pure h₃))) λ_ _ x=>x)
 first
  | exact wpAny_pure (wpAny_bind fin)
  | exact wpAny_bind (wpAny_pure (wpAny_bind fin))
  | exact wpAny_bind fin
theorem Ub{X:Cx}{pins:List (Addr×Obj)}{σ:St}{H:Hp}{s:Shared}{a:Addr}{y:V}{o:Option V}(I:Inv X pins σ H s)(g:DGet H a y o):s.TypeIs (.ref a) "dict":=by
 rcases g with ⟨kvs,k,e,_,_⟩ | ⟨kvs,k,b,e,_,_,_⟩
 ·obtain⟨_,_,vs,_,dd⟩:=Lx I.hok e
  exact dd.typeIs
 ·obtain⟨_,_,xs,_,dd⟩:=Na I.hok e
  exact dd.typeIs
def Aci(td ty:TE):TE:=λσ H Q=>td σ H λx H1=>ty σ H1 λy H2=>∃a v,x=.ref a/\DGet H2 a y (some v)/\Q v H2
def Ad6(ty td:TE):TE:=λσ H Q=>ty σ H λy H1=>td σ H1 λx H2=>∃a o,x=.ref a/\DGet H2 a y o/\Q (.bl o.isSome) H2
def Ul(ty td:TE):TE:=λσ H Q=>ty σ H λy H1=>td σ H1 λx H2=>∃a o,x=.ref a/\DGet H2 a y o/\Q (.bl (!o.isSome)) H2
def AcF(td ty tv:TE):TS:=λD σ H=>tv σ H λv H1=>td σ H1 λx H2=>ty σ H2 λy H3=>∃a H4,x=.ref a/\DPut H3 a y v H4/\D.nx σ H4
section
variable {X:Cx}{o i e value:Expr}{pos pos' tpos:Pos}{td ty tv:TE}
theorem Ac3(hu:X.A.units+1<cLine)(ho:PE X o td)(hi:PE X i ty)(hs:Afr i):PE X (.Subscript o i pos) (Aci td ty):=by
 intro pins s σ H Q I h
 refine Adp PySem.F.slot_dict_getitem.lookup hs (thn (ho pins s σ H _ I h) λu s1 ⟨x,H1,I1,rx,q1⟩=>thn (hi pins s1 σ H1 _ I1 q1) λiv s2 ⟨y,H2,I2,ry,a,v,ex,g,q2⟩=>?_)
 subst ex
 obtain rfl:u=Value.ref a:=rx
 exact⟨Ub I2 g,Xy hu I2 g ry λw' s3 I3 rw'=>⟨v,H2,I3,rw',q2⟩⟩
theorem Aff(hu:X.A.units+1<cLine)(hi:PE X i ty)(ho:PE X o td):PC X .In i o (Ad6 ty td):=by
 intro pins s σ H Q I h
 refine thn (hi pins s σ H _ I h) λiv s1 ⟨y,H1,I1,ry,q1⟩=>thn (ho pins s1 σ H1 _ I1 q1) λu s2 ⟨x,H2,I2,rx,a,ov,ex,g,q2⟩=>?_
 subst ex
 obtain rfl:u=Value.ref a:=rx
 exact AgU hu I2 g ry λs3 I3=>⟨.bl ov.isSome,H2,I3,rfl,q2⟩
theorem Jl(hu:X.A.units+1<cLine)(hi:PE X i ty)(ho:PE X o td):PC X .NotIn i o (Ul ty td):=by
 intro pins s σ H Q I h
 refine thn (hi pins s σ H _ I h) λiv s1 ⟨y,H1,I1,ry,q1⟩=>thn (ho pins s1 σ H1 _ I1 q1) λu s2 ⟨x,H2,I2,rx,a,ov,ex,g,q2⟩=>?_
 subst ex
 obtain rfl:u=Value.ref a:=rx
 exact AdI hu I2 g ry λs3 I3=>⟨.bl (!ov.isSome),H2,I3,rfl,q2⟩
theorem Gy(hu:X.A.units+1<cLine)(ho:PE X o td)(hi:PE X i ty)(hv:PE X value tv)(hs:swapsWith value (some (.Subscript o i pos')) pos.line X.env=pure false) :
  PS X (.Assign [.Subscript o i pos'] value pos) (AcF td ty tv):=by
 intro pins s σ H D I h
 refine wpAny_Assign_Subscript (thn (hv pins s σ H _ I h) λr s1 ⟨v,H1,I1,rv,q1⟩=>thn (ho pins s1 σ H1 _ I1 q1) λu s2 ⟨x,H2,I2,rx,q2⟩=>thn (hi pins s2 σ H2 _ I2 q2) λiv s3 ⟨y,H3,I3,ry,a,H4,ex,g,q3⟩=>?_) hs
 subst ex
 obtain rfl:u=Value.ref a:=rx
 exact Xw hu I3 g ry rv λs4 I4=>⟨σ,H4,I4,q3⟩
end
theorem AbR{P:Program}{w:World}{H:Hp}(h:Heap)(hb:sysModules<h.objs.size):ObjOk P w H (h.push { cls:=.type "dict",data:=.dict #[] }) h.objs.size (.dK []) :=
 ⟨zero_le _,beq_eq_false_iff_ne.mpr (Ne.symm (ne_of_lt hb)),[],.nil,Heap.DictOf.new h⟩
theorem Abm{P:Program}{w:World}{H:Hp}(h:Heap)(hb:sysModules<h.objs.size):ObjOk P w H (h.push { cls:=.type "dict",data:=.dict #[] }) h.objs.size (.dT []) :=
 ⟨zero_le _,beq_eq_false_iff_ne.mpr (Ne.symm (ne_of_lt hb)),[],.nil,_,#[],0,get?_push_size _ rfl,⟨rfl,rfl,rfl⟩,rfl,rfl,nodup_nil⟩
def Tf:TE:=λ_ H Q=>∀p,H p=none->Q (.ref p) (upd H p (.dK []))
def Xr:TE:=λ_ H Q=>∀p,H p=none->Q (.ref p) (upd H p (.dT []))
section
variable {X:Cx}{pos:Pos}
theorem Fs:PE X (.Dict [] [] pos) Tf:=λpins s σ H Q I h =>
 wpAny_Dict_empty ⟨.ref s.heap.objs.size,_,I.laid (a:=s.heap.objs.size) (o:=.dK []) (t':=s.toks) (λ_ _ q=>get?_push_of_some _ q) (Nat.le_refl _) (AbR s.heap I.big),rfl,h _ (I.hok.fresh (Nat.le_refl _))⟩
theorem Aba:PE X (.Dict [] [] pos) Xr:=λpins s σ H Q I h =>
 wpAny_Dict_empty ⟨.ref s.heap.objs.size,_,I.laid (a:=s.heap.objs.size) (o:=.dT []) (t':=s.toks) (λ_ _ q=>get?_push_of_some _ q) (Nat.le_refl _) (Abm s.heap I.big),rfl,h _ (I.hok.fresh (Nat.le_refl _))⟩
end
structure M2(X:Cx)(o:Expr)(m:Str)(apos:Pos)(e f:Expr)(cpos:Pos):Prop where
 base:attributeBase o m X.env (eval o X.env)=eval o X.env
 few:((backTo cpos (starEach [e,f] X.env)).all (λx=>!x.1)&&(backToKw cpos (keywordEach [] X.env)).all (λx=>x.1.isSome)
  && decide (([e,f]:List Expr).length+([]:List Keyword).length+(if ([]:List Keyword).isEmpty then 0 else 1)<30))=true
 line:(apos.endLine==cpos.line)=true
 trees:backTo cpos (starEach [e,f] X.env)=[(false,eval e X.env),(false,eval f X.env)]
def IsD(H:Hp)(a:Addr):Prop:=(∃kvs,Rd H a (.dK kvs))\/∃kvs,Rd H a (.dT kvs)
theorem Afo{X:Cx}{pins:List (Addr×Obj)}{σ:St}{H:Hp}{s:Shared}{a:Addr}(I:Inv X pins σ H s)(d:IsD H a) :
  s.TypeIs (.ref a) "dict"/\(∀b,Value.ref a=.ref b->∃ob,s.heap.get? b=some ob/\ob.dict=none)/\(a==sysModules)=false:=by
 rcases d with ⟨kvs,e⟩ | ⟨kvs,e⟩
 ·obtain⟨_,hd,vs,_,dd⟩:=Lx I.hok e
  refine⟨dd.typeIs,λb q=>?_,hd⟩
  cases q
  obtain⟨ob,_,_,h1,h2,_⟩:=dd
  exact⟨ob,h1,h2.2.1⟩
 ·obtain⟨_,hd,xs,_,dd⟩:=Na I.hok e
  refine⟨dd.typeIs,λb q=>?_,hd⟩
  cases q
  obtain⟨ob,_,_,h1,h2,_⟩:=dd
  exact⟨ob,h1,h2.2.1⟩
section
variable {X:Cx}{pins:List (Addr×Obj)}{σ:St}{H:Hp}{s:Shared}{a:Addr}{y d:V}{u r:Value}{o:Option V}{A:Around}{E:Value->Shared->Prop}
theorem AeW{Q:Value->Shared->Prop}(hu:A.units+1<cLine)(I:Inv X pins σ H s)(g:DGet H a y o)(ry:RelV y u)(rd:RelV d r)(h:∀w' s',Inv X pins σ H s'->RelV (o.getD d) w'->Q w' s') :
  wpAny (model X.prog X.w) A (call (.builtin "dict.get") [.ref a,u,r]) Q E s:=by
 rcases g with ⟨kvs,k,e,ey,l⟩ | ⟨kvs,k,b,e,ey,eb,l⟩
 ·subst ey
  obtain⟨z,hd,vs,rel,dd⟩:=Lx I.hok e
  refine call_meetsIn slot_dict_get dd.typeIs entry_dict_get (PySem.F.args_dict_get_3 _ _ _) (meets_dict_get_default (Da X.prog X.w) a (Oc ry) hd r) ⟨_,dd.mapOf,h _ _ (I.tok _) ?_⟩
  rw[l]
  exact (rel.val k).getD rd
 ·subst ey
  cases (show u=Value.ref b from ry)
  obtain⟨z,hd,xs,rel,dd⟩:=Na I.hok e
  refine call_meetsIn slot_dict_get dd.typeIs entry_dict_get (PySem.F.args_dict_get_3 _ _ _) (meetsH_dict_get_default (tupleKind (Da X.prog X.w)) a b hd r) ⟨tupleKind_room_in1 hu,k,xs,La I.hok eb,dd,h _ _ (I.tok _) ?_⟩
  rw[l]
  exact (rel.val k).getD rd
end
def Yk(td ty tx:TE):TE:=λσ H Q=>td σ H λx H1=>∃a,x=.ref a/\IsD H1 a/\ty σ H1 λy H2=>tx σ H2 λz H3=>∃o,DGet H3 a y o/\Q (o.getD z) H3
section
variable {X:Cx}{o e f:Expr}{apos cpos:Pos}{td ty tx:TE}
theorem AbQ(hu:X.A.units+1<cLine)(ho:PE X o td)(he:PE X e ty)(hf:PE X f tx)(m:M2 X o "get" apos e f cpos):PE X (.Call (.Attribute o "get" apos) [e,f] [] cpos) (Yk td ty tx):=by
 intro pins s σ H Q I h
 refine wpAny_Call_method m.base m.few m.line PySem.F.plainAttrs_dict slot_dict_get PySem.F.type_dict_get (thn (ho pins s σ H _ I h) λu s1 ⟨x,H1,I1,rx,a,ex,d,q1⟩=>?_)
 subst ex
 obtain rfl:u=Value.ref a:=rx
 obtain⟨t1,t2,_⟩:=Afo I1 d
 refine⟨t1,t2,?_⟩
 rw[m.trees]
 refine Calls.callWith_builtin rfl (Calls.evalArgs_plain (Calls.spliced_cons (thn (he pins s1 σ H1 _ I1 q1) λiv s2 ⟨y,H2,I2,ry,q2⟩ =>
  Calls.spliced_cons (thn (hf pins s2 σ H2 _ I2 q2) λfv s3 ⟨z,H3,I3,rz,ov,g,q3⟩=>Calls.spliced_nil ?_))))
 exact AeW hu I3 g ry rz λw' s4 I4 rw'=>⟨_,H3,I4,rw',q3⟩
end
section
variable {X:Cx}{pins:List (Addr×Obj)}{σ:St}{H:Hp}{s:Shared}{a:Addr}{kvs:List (Key×V)}{A:Around}{E:Value->Shared->Prop}
end
section
variable {X:Cx}{pins:List (Addr×Obj)}{σ:St}{H:Hp}{s:Shared}{a:Addr}{y:V}{u:Value}{A:Around}{E:Value->Shared->Prop}
end
end L2
namespace Att
open PySem PySem.W PySem.Calls PyProof.Rows
theorem Ra{P:Params}{h:Heap}:∀(ns:List Int) (vs:List Value),WellAll P h vs (ns.map WData.int)->IntsAre vs ns:=by
 intro ns
 induction ns with
 | nil =>
  intro vs w
  rw[map_nil] at w
  cases w
  exact .nil
 | cons n ns ih =>
  intro vs w
  rw[map_cons] at w
  cases w with
  | cons a b =>
   cases a
   exact .cons _ _ (ih _ b)
theorem Aai{l:OpenLaw}{n:Nat}(hn:l.most=some n){P:Params}{h:Heap}{args:List WData}{vals:List Value}
  (hpre:l.row.toRowW.claim.pre args=true) (hwl:WellAll P h vals args) :
  ∃a vs ns,vals=[Value.ref a]/\args=[WData.list (ns.map WData.int)]/\h.get? a=some { cls:=.type "list",data:=.seq vs.toArray }/\IntsAre vs ns/\ns.length<=n:=by
 have hsh:WShape.hasAll [] args [.list .int]=true:=(pre_splitW hpre).1
 have hc:l.pre.holds [] { args:=args }=true:=(pre_splitW hpre).2
 obtain⟨d,r,rfl,h1,h2⟩:=hasAllW_cons hsh
 obtain rfl:=hasAllW_nil h2
 obtain⟨xs,rfl,h3⟩:=hasW_list h1
 obtain⟨ns,rfl⟩:=items_int h3
 have hlen:ns.length<=n:=by
  unfold OpenLaw.pre at hc
  have h4:(WTm.not (.lt (.lit (.int (n:Int))) (.len (.arg 0)))).holds [] { args:=[.list (ns.map .int)] }=true:=by
   have h4:=(holds_andW hc).1
   rw[hn] at h4
   exact h4
  have h5:=condW_of h4 (w_not (w_lt w_lit (w_len_list (w_arg rfl))))
  rw[length_map] at h5
  refine Nat.le_of_not_lt λq=>?_
  have q':(n:Int)<((ns.length:Nat):Int):=by omega
  first
   | (rw[decide_eq_true q'] at h5;exact absurd h5 (by decide))
   | (simp at h5;omega)
 cases hwl with
 | cons w1 w2 =>
  cases w2
  cases w1 with
  | list ho hall=>exact⟨_,_,ns,rfl,rfl,ho,Ra ns _ hall,hlen⟩
theorem Aay(l:OpenLaw)(args:List WData):l.row.toRowW.claim.post args (.bool true) args=true :=
 postW_of (r:=l.row.toRowW) (X:=(true==true))
  (show WShape.has [] (.bool true) .bool=true by first | rfl | decide | simp [WShape.has,WShape.arms,WShape.armsAll])
  (show (WTm.eq .res (.lit (.bool true))).value [] { args:=args,res:=some (.bool true),after:=args }=some (.bool (true==true)) from w_eq_bool (w_res rfl) w_lit) rfl
theorem attach_call{l:OpenLaw}{n:Nat}{q:Program}{loose:List Str}{XP:(Str->Option Value)->Heap->Prop}{YP:World->Heap->Prop}{d:DefRec}
  (hn:l.most=some n) (hdf:d.params.defaults=[])
  (call:∀(w:World) (s₀ s₁:Shared) (mg mb:Str->Option Value) (fa:Addr) (o:Obj) (pm cd doc:Value) (a:Addr) (vs:List Value) (ns:List Int),
   Ground q loose [] XP w s₀ mg mb s₁.heap->YP w s₁.heap ->
   s₁.heap.get? fa=some o->o.data=.func (docDef d.name d.params d.body d.scope pm cd doc)->s₁.heap.CodeRec cd d.name->mg d.name=some (.ref fa) ->
   s₁.heap.get? a=some { cls:=.type "list",data:=.seq vs.toArray }->IntsAre vs ns->ns.length<=n->s₁.gens = #[] ->
   codeAny (model l.prog w) callerA (.call (.ref fa) ⟨[.ref a],[]⟩) (λr s'=>r=.ok (.ret (.bool true))/\OldK s₁.heap s'.heap/\s'.os=s₁.os/\AllBare s'.gens) s₁) :
  WalkO q loose XP YP l.row.toRowW d [] (λf vs=>PySem.call f vs):=by
 intro w s₀ s₁ mg mb G Y fa o pm cd doc dV kV ho hd hcd hD hmg hg args vals as hpre hlay hrd hwl hlo
 obtain rfl:dV=.none:=Dflts.none hD hdf
 obtain rfl:kV=.none:=Dflts.noKw hD
 obtain⟨a,vs,ns,rfl,rfl,hobj,hints,hlen⟩:=Aai hn hpre hwl
 refine enter_call (codeAny_mono (call w s₀ s₁ mg mb fa o pm cd doc a vs ns G Y ho (fd_plain hd) hcd hmg hobj hints hlen hg) λr s' hq=>?_)
 obtain⟨rfl,h2,h3,h4⟩:=hq
 exact⟨.inl ⟨.bool true,.bool true,[],rfl,λ_=>rfl,.bool true,Aay l _,λ_=>⟨Pairwise.nil,λ_ hm=>(nomatch hm)⟩⟩,h2,h3,h4⟩
section
variable {prog:Program}{w:World}{A:Around}{E:Value->Shared->Prop}{s:Shared}{K:Frag}
end
end Att
namespace L2
open PySem PySem.Spec PyProof.Rows
theorem Rv:∀{vs:List Value} {ns:List Int},IntsAre vs ns->Vals (ns.map V.int) vs
 | _,_,.nil=>.nil
 | _,_,.cons n t h=>.cons ⟨t,rfl⟩ (Rv h)
def Aa8(H:Hp):Prop:=∀b,H b=none\/∃o xs,H b=some (.frz o (.lst xs))
theorem Abc{P:Program}{w:World}{K:Frag}{mg mb:Str->Option Value}{CX:CXT}{k:Nat}{fa a:Addr}{fd:FuncData}{x:Str}{sp:Sp}{s₁:Shared}{vs:List Value}{ns:List Int}
  (KX:K.In s₁.heap) (hns:s₁.heap.Ns mainGlobals mg) (hb:s₁.heap.Ns builtinsNs mb) (hbb:∀x:Str,x≠"__name__"->mb x=bootBuiltins x) (hlim:s₁.heap.NoLimit) (hg:s₁.gens = #[])
  (ha:s₁.heap.get? a=some { cls:=.type "list",data:=.seq vs.toArray }) (hi:IntsAre vs ns) (hl:ns.length<=sizeLine) (hr:Room k callerA)
  (F:∀base:Heap,K.In base->base.Ns mainGlobals mg->FnOk P w K mg base CX k fa fd [x] sp) (hbind:∀(s:Shared) (u:Value),BindsTo s fd ⟨[u],[]⟩ [(x,u)])
  (hsp:∀H:Hp,Aa8 H->SqL K H a (ns.map V.int)->sp [.ref a] H (λv _=>v=.bl true) λ_ _ _=>False)
  (hCX:∀H e s',CX [] H s₁ (λ_ _ _=>False) e s'->False) :
  codeAny (model P w) callerA (.call (.ref fa) ⟨[.ref a],[]⟩) (λr s'=>r=.ok (.ret (.bool true))/\OldK s₁.heap s'.heap/\s'.os=s₁.os/\AllBare s'.gens) s₁:=by
 have rv:=Rv hi
 have lenV:=hi.length
 -- from an abstract heap in which nothing but the script may be tracked
 have core:∀H:Hp,Aa8 H->SqL K H a (ns.map V.int)->HOk P w H s₁.heap->(∀b,H b≠none->b=a)->(H a≠none->K.lookup a=none) ->
   codeAny (model P w) callerA (.call (.ref fa) ⟨[.ref a],[]⟩) (λr s'=>r=.ok (.ret (.bool true))/\OldK s₁.heap s'.heap/\s'.os=s₁.os/\AllBare s'.gens) s₁:=by
  intro H hO hS hok hA hK
  have base_of:∀{b:Addr} {o:Obj},s₁.heap.get? b=some o->H b=none->(Lq s₁.heap H).get? b=some o:=λe n=>AaB e n
  have noA:∀{b:Addr} {o:Obj} {es:Array DictEntry} {ep:Nat},s₁.heap.get? b=some o->o.data=.dict es ep->H b=none:=λ{b o es ep} e d=>by
   cases q:H b with
   | none=>rfl
   | some u =>
    have e':b=a:=hA b (by rw[q];simp)
    subst e'
    rw[ha] at e;cases e
    have d':Data.seq vs.toArray _=Data.dict es ep:=d
    cases d'
  have nsK:∀{b:Addr} {m:Str->Option Value},s₁.heap.Ns b m->(Lq s₁.heap H).Ns b m:=λ{b m} ⟨o,es,ep,e,d,r⟩=>⟨o,es,ep,base_of e (noA e d),d,r⟩
  have hKb:K.In (Lq s₁.heap H):=λb o e=>base_of (KX b o e) (by
   cases q:H b with
   | none=>rfl
   | some u =>
    have e':b=a:=hA b (by rw[q];simp)
    subst e'
    rw[hK (by rw[q];simp)] at e;cases e)
  have hM:Mod K mg (Lq s₁.heap H):=⟨hKb,nsK hns,⟨mb,nsK hb,hbb⟩,let ⟨mc,h1,h2⟩:=hlim;⟨mc,nsK h1,h2⟩⟩
  have e0:Env0 P w K mg (Lq s₁.heap H) callerA [] s₁ H:=⟨rfl,hM,λb o e=>AdB e,Nat.le_of_eq (Zu _ _),trivial,λb hb=>absurd (show b∈([]:List Addr) from hb) (by simp),hok,.of_eq hg⟩
  refine codeAny_mono ((F _ hKb (nsK hns)).run callerA [] s₁ H ⟨[.ref a],[]⟩ [.ref a] [.ref a] _ _ hr e0 (hbind s₁ (.ref a)) (.cons rfl .nil) (hsp H hO hS)) λr s' h=>?_
  cases r with
  | error e=>exact (hCX H e s' h).elim
  | ok fl =>
   cases fl with
   | next=>exact False.elim h
   | brk=>exact False.elim h
   | cont=>exact False.elim h
   | ret u =>
    obtain⟨v,H',os,bare,un,hok',r',q⟩:=h
    have q':v=.bl true:=q
    subst q'
    obtain rfl:u=Value.bool true:=r'
    refine⟨rfl,OldK.of_keep λb o e=>?_,os,bare⟩
    cases q:H b with
    | none=>exact un.keep b o e q (by intro z;exact absurd (show b∈([]:List Addr) from z) (by simp)) (by simp)
    | some u =>
     rcases hO b with z | ⟨ob,xs,z⟩
     ·rw[q] at z;cases z
     ·have z2:=un.frzs b ob _ z
      obtain⟨e1,_⟩:=hok b _ z
      obtain⟨e2,_⟩:=hok' b _ z2
      rw[e] at e1;cases e1
      exact e2
 cases hk:K.lookup a with
 | some o =>
  -- the script is one of the module's own objects
  have e:=KX a o hk
  rw[ha] at e
  cases e
  refine core (λ_=>none) (λ_=>.inl rfl) (.inr ⟨_,vs.toArray,_,hk,rfl,rfl,rfl,by rw[size_toArray,lenV];exact hl,by simpa using rv⟩) (λb u z=>by have z':(none:Option HO)=some u:=z;cases z') (λb z=>absurd rfl z) λz=>absurd rfl z
 | none =>
  refine core (λb=>if b=a then some (.frz { cls:=.type "list",data:=.seq vs.toArray } (.lst (ns.map V.int))) else none) (λb=>?_) (.inl (.inr ⟨{ cls:=.type "list",data:=.seq vs.toArray },if_pos rfl⟩)) (λb u z=>?_) (λb z=>?_) λ_=>hk
  ·by_cases hb:b=a
   ·exact .inr ⟨_,_,if_pos hb⟩
   ·exact .inl (if_neg hb)
  ·by_cases hb:b=a
   ·have z':=(if_pos hb).symm.trans z
    cases z'
    subst hb
    exact⟨ha,by rw[length_map];exact hl,vs,_,rv,ha⟩
   ·have z':=(if_neg hb).symm.trans z
    cases z'
  ·by_cases hb:b=a
   ·exact hb
   ·exact absurd (if_neg hb) z
theorem AgV{l:PySem.W.OpenLaw}{n k:Nat}{q:Program}{loose:List Str}{XP:(Str->Option Value)->Heap->Prop}{YP:World->Heap->Prop}{d:DefRec}{K:Params->Frag}{CX:World->CXT}{sp:World->Sp}{x:Str}
  (hn:l.most=some n) (hn2:n<=sizeLine) (hdf:d.params.defaults=[]) (hr:Room k callerA)
  (hY:∀(w:World) (h:Heap),YP w h->(K w.params).In h)
  (F:∀(w:World) (mg:Str->Option Value) (fa:Addr) (h:Heap),(K w.params).In h->h.Ns mainGlobals mg->mg d.name=some (.ref fa) ->
   ∃fd:FuncData,(∀(s:Shared) (u:Value),BindsTo s fd ⟨[u],[]⟩ [(x,u)]) /\
    ∀base:Heap,(K w.params).In base->base.Ns mainGlobals mg->FnOk l.prog w (K w.params) mg base (CX w) k fa fd [x] (sp w))
  (hsp:∀(w:World) (H:Hp) (a:Addr) (ns:List Int),ns.length<=n->Aa8 H->SqL (K w.params) H a (ns.map V.int)->sp w [.ref a] H (λv _=>v=.bl true) λ_ _ _=>False)
  (hCX:∀(w:World) (H:Hp) (s:Shared) (e:Value) (s':Shared),CX w [] H s (λ_ _ _=>False) e s'->False) :
  PySem.W.WalkO q loose XP YP l.row.toRowW d [] (λf vs=>PySem.call f vs):=by
 refine Att.attach_call hn hdf λw s₀ s₁ mg mb fa o pm cd doc a vs ns G Y ho hd hcd hmg hobj hints hlen hg=>?_
 have KX:=hY w _ Y
 obtain⟨fd,hb,hF⟩:=F w mg fa _ KX G.T.g hmg
 exact Abc KX G.T.g G.T.b G.T.builtins G.T.nolimit hg hobj hints (Nat.le_trans hlen hn2) hr hF hb (λH hO hS=>hsp w H a ns hlen hO hS) λH e s'=>hCX w H s₁ e s'
def Ur(s:Stmt)(j:Nat):Stmt:=match s with
 | .ClassDef _ _ _ body _ _ _ _ _ _ _=>body.getD j (.Pass ⟨0,0,0,0⟩)
 | _=>.Pass ⟨0,0,0,0⟩
def Lc(s:Stmt):Arguments:=match s with
 | .FunctionDef _ a _ _ _ _ _ _ _ _=>a
 | _=>{ posonlyargs:=[],args:=[],vararg:=none,kwonlyargs:=[],kw_defaults:=[],kwarg:=none,defaults:=[] }
def Gu(s:Stmt):List Stmt:=match s with
 | .FunctionDef _ _ b _ _ _ _ _ _ _=>b
 | _=>[]
def Cc(s:Stmt):Scope:=match s with
 | .FunctionDef _ _ _ _ _ _ sc _ _ _=>sc
 | _=>{ kind:=.function,names:=[],isGenerator:=false,isCoroutine:=false }
structure Fun(K:Frag)(x qual:Str)(st:Stmt)(f:Addr)(fd:FuncData):Prop where
 ex:∃(oc:Value) (od:Option Addr) (kV doc pm:Value) (an:Option Addr) (cdv ct:Value) (osl:Array (Option Value)),
  fd=fnOf x qual (Lc st) (Gu st) (Cc st) .none kV doc pm an cdv ct/\K.lookup f=some ⟨oc,od,.func fd,osl⟩/\codeIn K cdv qual=true
 kp:keepIn K (.ref f)=true
section
variable {P:Program}{w:World}{K:Frag}{mg:Str->Option Value}{base:Heap}
theorem Fun.binds{x qual:Str}{st:Stmt}{f:Addr}{fd:FuncData}{ps:List Str}(F:Fun K x qual st f fd)
  (h:∀(kV doc pm:Value) (an:Option Addr) (cdv ct:Value) (us:List Value),us.length=ps.length->bindArgs (fnOf x qual (Lc st) (Gu st) (Cc st) .none kV doc pm an cdv ct) ⟨us,[]⟩=pure (ps.zip us)):Binds K fd ps []:=by
 obtain⟨oc,od,kV,doc,pm,an,cdv,ct,osl,rfl,lk,hcd⟩:=F.ex
 exact .all (h kV doc pm an cdv ct)
theorem Qp{x qual:Str}{st:Stmt}{f:Addr}{oc:Value}{od an:Option Addr}{osl:Array (Option Value)}{kV doc pm cdv ct:Value}(l:K.lookup f=some ⟨oc,od,.func (fnOf x qual (Lc st) (Gu st) (Cc st) .none kV doc pm an cdv ct),osl⟩)
  (c:codeIn K cdv qual=true) (k:keepIn K (.ref f)=true):Fun K x qual st f (fnOf x qual (Lc st) (Gu st) (Cc st) .none kV doc pm an cdv ct):=⟨⟨oc,od,kV,doc,pm,an,cdv,ct,osl,rfl,l,c⟩,k⟩
end
theorem Dg{A:Around}{k:Nat}(hr:Room k A):A.units+1<cLine:=Nat.lt_of_le_of_lt (Nat.add_le_add_left (by decide:1<=64) _) hr.units
theorem Fx{n:Nat}(h:n<=1000):n<sizeLine:=Nat.lt_of_le_of_lt h (by decide)
section
variable {X:Cx}
theorem pv(i:Nat){x:Str}{pos:Pos}(hN:X.N[i]? = some x:=by rfl)(hv:Vis X.env.scope x:=by first | exact Or.inl rfl | exact Or.inr (Or.inl rfl) | exact Or.inr (Or.inr rfl))(hd:(x==("__debug__" : Str))=false:=by decide)
  (hcd:(x==("__classdict__" : Str))=false:=by decide):PE X (.Name x pos) (Ff i):=Afp hN hv hd hcd
end
theorem Jv{A B:Prop}(h:B):if false=true then A else B:=by
 rw[if_neg Bool.false_ne_true]
 exact h
theorem Js{A B:Prop}(h:A):if true=true then A else B:=by
 rw[if_pos rfl]
 exact h
theorem Afg{c A B:Prop} [Decidable c] (h1:c->A) (h2:¬c->B):if c then A else B:=by
 by_cases h:c
 ·rw[if_pos h]
  exact h1 h
 ·rw[if_neg h]
  exact h2 h
def Same(H H':Hp):Prop:=∀b o,H b=some o->H' b=some o
theorem Same.refl(H:Hp):Same H H:=λ_ _ h=>h
theorem Same.trans{H H1 H2:Hp}(a:Same H H1)(b:Same H1 H2):Same H H2:=λc o h=>b c o (a c o h)
theorem Same.free{H H':Hp}(e:Same H H'){l:Addr}(h:H' l=Option.none):H l=Option.none:=by
 cases q:H l with
 | none=>rfl
 | some o =>
  rw[e l o q] at h
  cases h
theorem Same.seq{K:Frag}{H H':Hp}{a:Addr}{xs:List V}(e:Same H H')(h:SqL K H a xs):SqL K H' a xs:=by
 rcases h with (h | ⟨o,h⟩) | h
 ·exact .inl (.inl (e _ _ h))
 ·exact .inl (.inr ⟨o,e _ _ h⟩)
 ·exact .inr h
section
variable {κ:Type} [DecidableEq κ]
theorem Qo{kvs:List (κ×V)}{k:κ}(h:Ck kvs k=none):¬k∈kvs.map (·.1):=by
 intro m
 obtain⟨p,hp,e⟩:=mem_map.mp m
 have q:(kvs.any λkv=>decide (kv.1=k))=true:=any_eq_true.mpr ⟨p,hp,decide_eq_true e⟩
 rw[Jk,h] at q
 exact absurd q (by simp)
theorem Ut{kvs:List (κ×V)}{k:κ}{v:V}(h:Ck kvs k=some v):k∈kvs.map (·.1):=by
 have q:(kvs.any λkv=>decide (kv.1=k))=true:=by
  rw[Jk,h]
  all_goals rfl
 obtain⟨p,hp,e⟩:=any_eq_true.mp q
 exact mem_map.mpr ⟨p,hp,of_decide_eq_true e⟩
end
section
variable {X:Cx}
theorem Fo:Gc X (.builtin "isinstance") (λvs H Q=>∃x n t b,vs=[x,.ty n]/\Fb X.K H x t/\kitOne X.K t (.type n)=some b/\Q (.bl b) H):=by
 intro pins s σ H vs us Q I r h
 obtain⟨x,n,t,b,rfl,ty,e,q⟩:=h
 obtain⟨u,w',rfl,rx,ry⟩:=Wm r
 cases ry
 exact Aaq I rx ty e λtk=>⟨.bl b,H,I.tok tk,rfl,q⟩
end
theorem Nm{K:Frag}{T S:String}{b:Bool}(h:(if (Value.type T==Value.type S)=true then some true else if PySem.W.kitMeta S=true then (fastBuiltinMro T).map (·.contains (Value.type S)) else none)=some b):kitOne K (.type T) (.type S)=some b:=h
theorem Uf{K:Frag}:kitOne K (.type "int") (.type "int")=some true:=Nm (by decide +kernel)
theorem Ti{K:Frag}:kitOne K (.type "int") (.type "bool")=some false:=Nm (by decide +kernel)
theorem Ue{K:Frag}:kitOne K (.type "str") (.type "str")=some true:=Nm (by decide +kernel)
theorem Sh{K:Frag}:kitOne K (.type "list") (.type "list")=some true:=Nm (by decide +kernel)
theorem Uc{K:Frag}:kitOne K (.type "tuple") (.type "tuple")=some true:=Nm (by decide +kernel)
inductive EqD(K:Frag)(H:Hp):Nat->V->V->Bool->Prop where
 | flat {n:Nat} {x y:V} (hx:Gf x=true) (hy:Gf y=true):EqD K H n x y (eqV x y)
 | same {n:Nat} (a:Addr):EqD K H n (.ref a) (.ref a) true
 | lst {n:Nat} {a b:Addr} {xs ys:List V} (e:Nat->Bool) (ne:a≠b) (hx:SqL K H a xs) (hy:SqL K H b ys) (hl:xs.length=ys.length)
   (he:∀(i:Nat) (x y:V),xs[i]? = some x->ys[i]? = some y->EqD K H n x y (e i)):EqD K H (n+1) (.ref a) (.ref b) ((range xs.length).all e)
 | lstN {n:Nat} {a b:Addr} {xs ys:List V} (ne:a≠b) (hx:SqL K H a xs) (hy:SqL K H b ys) (hl:¬xs.length=ys.length):EqD K H (n+1) (.ref a) (.ref b) false
 | tup {n:Nat} {a b:Addr} {xs ys:List V} (e:Nat->Bool) (ne:a≠b) (hx:SqT K H a xs) (hy:SqT K H b ys)
   (he:∀(i:Nat) (x y:V),xs[i]? = some x->ys[i]? = some y->EqD K H n x y (e i)):EqD K H (n+1) (.ref a) (.ref b) ((range (min xs.length ys.length)).all e&&xs.length==ys.length)
section
variable {X:Cx}{pins:List (Addr×Obj)}{σ:St}{H:Hp}{s:Shared}
theorem Nt(A:Around):A.in1.units=A.units+1:=rfl
theorem Ox{xs ys:List V}{us vs:List Value}{R:Nat->Value->Value->Prop}(r1:Vals xs us)(r2:Vals ys vs)
  (h:∀(i:Nat) (x y:V) (u v:Value),xs[i]? = some x->ys[i]? = some y->RelV x u->RelV y v->R i u v) :
  ∀j (h1:j<us.toArray.size) (h2:j<vs.toArray.size),R j us.toArray[j] vs.toArray[j]:=by
 intro j h1 h2
 have h1':j<us.length:=by simpa using h1
 have h2':j<vs.length:=by simpa using h2
 have l1:j<xs.length:=by rw[r1.length];exact h1'
 have l2:j<ys.length:=by rw[r2.length];exact h2'
 obtain⟨u,eu,ru⟩:=r1.get (i:=j) (x:=xs[j]) (by simp [l1])
 obtain⟨v,ev,rv⟩:=r2.get (i:=j) (x:=ys[j]) (by simp [l2])
 have eu':us[j]=u:=by simpa [h1'] using eu
 have ev':vs[j]=v:=by simpa [h2'] using ev
 have q:=h j xs[j] ys[j] u v (by simp [l1]) (by simp [l2]) ru rv
 simpa [eu',ev'] using q
theorem EqD.at(I:Inv X pins σ H s):∀{n:Nat} {x y:V} {b:Bool},EqD X.K H n x y b->∀{A:Around} {u v:Value},A.units+n<cLine->RelV x u->RelV y v->SeqAt.EqAt A s u v b:=by
 intro n x y b h
 induction h with
 | flat hx hy=>intro A u v _ ru rv;exact Aal ru rv hx hy
 | same a=>intro A u v _ ru rv;cases ru;cases rv;exact SeqAt.EqAt.same _
 | @lst n a b xs ys e ne hx hy hl he ih =>
  intro A u v hu ru rv
  cases ru;cases rv
  obtain⟨us,r1,p1,_⟩:=I.list hx
  obtain⟨vs,r2,p2,_⟩:=I.list hy
  have es:us.toArray.size=xs.length:=by rw[size_toArray];exact r1.length.symm
  have es2:us.toArray.size=vs.toArray.size:=by rw[es,size_toArray,<- r2.length];exact hl
  refine SeqAt.EqAt.of_refs ne ?_
  rw[<- es]
  exact SeqAt.RcAt.lists p1.isList p2.isList es2 (by omega) (Ox r1 r2 λi x y u v hx hy ru rv=>ih i x y hx hy (by rw[Nt];omega) ru rv)
 | @lstN n a b xs ys ne hx hy hl =>
  intro A u v hu ru rv
  cases ru;cases rv
  obtain⟨us,r1,p1,_⟩:=I.list hx
  obtain⟨vs,r2,p2,_⟩:=I.list hy
  refine SeqAt.EqAt.of_refs ne (SeqAt.RcAt.lists_lengths p1.isList p2.isList ?_ (by omega))
  rw[size_toArray,size_toArray,<- r1.length,<- r2.length]
  simpa using hl
 | @tup n a b xs ys e ne hx hy he ih =>
  intro A u v hu ru rv
  cases ru;cases rv
  obtain⟨us,r1,p1,_⟩:=I.tuple hx
  obtain⟨vs,r2,p2,_⟩:=I.tuple hy
  have es:us.toArray.size=xs.length:=by rw[size_toArray];exact r1.length.symm
  have es2:vs.toArray.size=ys.length:=by rw[size_toArray];exact r2.length.symm
  refine SeqAt.EqAt.of_refs ne ?_
  rw[<- es,<- es2]
  exact SeqAt.RcAt.tuples p1 p2 (by omega) (Ox r1 r2 λi x y u v hx hy ru rv=>ih i x y hx hy (by rw[Nt];omega) ru rv)
def LEq(K:Frag)(H:Hp)(xs ys:List V)(k:Bool):Prop :=
 (¬xs.length=ys.length/\k=false)\/(xs.length=ys.length/\∃e:Nat->Bool,(∀(i:Nat) (x y:V),xs[i]? = some x->ys[i]? = some y->EqD K H 40 x y (e i))/\k=(range xs.length).all e)
def AaY(K:Frag)(neg:Bool):R2:=λx y H Q=>∃a b xs ys k,x=.ref a/\y=.ref b/\SqL K H a xs/\SqL K H b ys/\LEq K H xs ys k/\Q (.bl (if neg then !k else k)) H
theorem Ae7(hu:X.A.units+64<cLine):OpR X (compareOp .Eq) (AaY X.K false):=by
 intro pins s σ H x y v u Q I rx ry h
 obtain⟨a,b,xs,ys,k,rfl,rfl,hx,hy,hk,q⟩:=h
 cases rx;cases ry
 obtain⟨us,r1,p1,_⟩:=I.list hx
 obtain⟨vs,r2,p2,_⟩:=I.list hy
 have fin:EP X pins σ Q (.bool k) s:=⟨.bl k,H,I,rfl,q⟩
 rcases hk with ⟨hl,rfl⟩ | ⟨hl,e,he,rfl⟩
 ·refine SeqAt.eq_list_lengthsAt p1.isList p2.isList ?_ (by omega) fin
  rw[size_toArray,size_toArray,<- r1.length,<- r2.length]
  simpa using hl
 ·have es:us.toArray.size=xs.length:=by rw[size_toArray];exact r1.length.symm
  have es2:us.toArray.size=vs.toArray.size:=by rw[es,size_toArray,<- r2.length];exact hl
  rw[<- es] at fin
  exact SeqAt.eq_listAt p1.isList p2.isList es2 (by omega) (Ox r1 r2 λi x y u v hx hy ru rv=>(he i x y hx hy).at I (by rw[Nt];omega) ru rv) fin
end
section
variable {X:Cx}{pins:List (Addr×Obj)}{σ:St}{H:Hp}{s:Shared}{a:Addr}
def Frb:HO->Prop
 | .dK _=>True
 | .dT _=>True
 | _=>False
theorem Frb.notup{u:HO}(h:Frb u)(xs:List V):u≠.tup xs:=by intro e;subst e;exact h
theorem Frb.nofrz{u:HO}(h:Frb u)(o:Obj)(v:HO):u≠.frz o v:=by intro e;subst e;exact h
theorem Frb.noown{u:HO}(h:Frb u)(x:Addr):u≠.own x:=by intro e;subst e;exact h
theorem Frb.notbl{u:HO}(h:Frb u)(ps:Array Value):u≠.tbl ps:=by intro e;subst e;exact h
def Xj(X:Cx)(a:Addr):Prop:=(∀xs,X.H₀ a≠some (.tup xs))/\(∀o v,X.H₀ a≠some (.frz o v))/\∀ps,X.H₀ a≠some (.tbl ps)
theorem Inv.free0(I:Inv X pins σ H s){u:HO}(hu:Frb u)(e:H a=some u):Xj X a:=by
 refine⟨λxs q=>?_,λo v q=>?_,λps q=>?_⟩
 ·have:=I.base.tups a xs q;rw[e] at this;exact hu.notup xs (Option.some.inj this)
 ·have:=I.base.frzs a o v q;rw[e] at this;exact hu.nofrz o v (Option.some.inj this)
 ·obtain⟨m,this⟩:=I.base.tbls a ps q;rw[e] at this;exact hu.notbl _ (Option.some.inj this)
theorem Inv.swap{u v:HO}(I:Inv X pins σ H s)(hu:∀x,u≠.own x)(hu2:∀xs,u≠.tup xs)(e:H a=some u)(f:Xj X a)(ok:ObjOk X.prog X.w (upd H a v) s.heap a v):Inv X pins σ (upd H a v) s:=by
 have nown:∀b x,H b=some (.own x)->b≠a:=λb x q z=>by subst z;rw[e] at q;exact hu x (Option.some.inj q)
 have ntup:∀b xs,H b=some (.tup xs)->b≠a:=λb xs q z=>by subst z;rw[e] at q;exact hu2 xs (Option.some.inj q)
 have nnone:∀b,H b=none->b≠a:=λb q z=>by subst z;rw[e] at q;cases q
 refine⟨I.ok,I.os,I.bare,⟨I.base.keep,I.base.slot,λb o h1 h2 h3=>?_,I.base.there,λb xs q=>?_,λb o w q=>?_,λb ps q=>?_⟩,I.loc,I.cell,?_,λx c q=>?_,λp hp=>?_,λb o q=>?_,I.len⟩
 ·have q:=I.base.free b o h1 h2 h3
  rw[Bj (nnone b q)];exact q
 ·have h:b≠a:=λz=>by subst z;exact f.1 xs q
  rw[Bj h];exact I.base.tups b xs q
 ·have h:b≠a:=λz=>by subst z;exact f.2.1 o w q
  rw[Bj h];exact I.base.frzs b o w q
 ·have h:b≠a:=λz=>by subst z;exact f.2.2 ps q
  rw[Bj h];exact I.base.tbls b ps q
 ·rw[Bj (nnone _ I.free)];exact I.free
 ·rw[Bj (nnone _ (I.freeC x c q))];exact I.freeC x c q
 ·obtain⟨h1,h2,h3⟩:=I.pin p hp
  exact⟨h1,by rw[Bj (nnone _ h2)];exact h2,h3⟩
 ·by_cases hb:b=a
  ·subst hb;rw[Bn] at q;cases q;exact ok
  ·rw[Bj hb] at q
   exact (I.hok b o q).stay (λ_ _ _ z=>z) (λc z=>by rw[Bj (nown c b z)];exact z) λc xs z=>by rw[Bj (ntup c xs z)];exact z
theorem ObjOk.heap{P:Program}{w:World}{h:Heap}{H':Hp}{u:HO}(x:ObjOk P w H h a u)(hd:∀b xs,H b=some (.tup xs)->H' b=some (.tup xs))(ho:∀b,H b=some (.own a)->H' b=some (.own a)):ObjOk P w H' h a u :=
 x.stay (λ_ _ _ z=>z) ho hd
theorem Inv.freeze{u:HO}(I:Inv X pins σ H s)(hu:Frb u)(e:H a=some u):∃o,Inv X pins σ (upd H a (.frz o u)) s:=by
 have ok:=I.hok a u e
 obtain⟨o,ho⟩:∃o,s.heap.get? a=some o:=by
  cases u with
  | dK kvs=>obtain⟨_,_,_,_,o,_,_,h,_⟩:=ok;exact⟨o,h⟩
  | dT kvs=>obtain⟨_,_,_,_,o,_,_,h,_⟩:=ok;exact⟨o,h⟩
  | _=>exact hu.elim
 refine⟨o,I.swap (λx=>hu.noown x) (λxs=>hu.notup xs) e (I.free0 hu e) ⟨ho,ok.heap (λb xs q=>?_) λb q=>?_⟩⟩
 ·rw[Bj (λz=>by subst z;rw[e] at q;exact hu.notup xs (Option.some.inj q))];exact q
 ·rw[Bj (λz=>by subst z;rw[e] at q;exact hu.noown _ (Option.some.inj q))];exact q
theorem Inv.thaw{u:HO}{o:Obj}(I:Inv X pins σ H s)(f:Xj X a)(e:H a=some (.frz o u)):Inv X pins σ (upd H a u) s:=by
 obtain⟨ho,ok⟩:=(show ObjOk X.prog X.w H s.heap a (.frz o u) from I.hok a _ e)
 refine I.swap (by intro x z;cases z) (by intro xs z;cases z) e f (ok.heap (λb xs q=>?_) λb q=>?_)
 ·rw[Bj (λz=>by subst z;rw[e] at q;cases q)];exact q
 ·rw[Bj (λz=>by subst z;rw[e] at q;cases q)];exact q
def Le(a:Addr)(u:HO)(D:Ends):Ends where
 nx:=λσ H=>∃o,H a=some (.frz o u)/\D.nx σ (upd H a u)
 rt:=λv H=>∃o,H a=some (.frz o u)/\D.rt v (upd H a u)
 bk:=λσ H=>∃o,H a=some (.frz o u)/\D.bk σ (upd H a u)
 ct:=λσ H=>∃o,H a=some (.frz o u)/\D.ct σ (upd H a u)
def Aa0(t:TS):TS:=λD σ H=>∃a u,Frb u/\H a=some u/\∀o,t (Le a u D) σ (upd H a (.frz o u))
theorem Zr{st:Stmt}{t:TS}(h:PS X st t):PS X st (Aa0 t):=by
 intro pins s σ H D I q
 obtain⟨a,u,hu,e,q⟩:=q
 have f:=I.free0 hu e
 obtain⟨o,I1⟩:=I.freeze hu e
 refine thn (h pins s σ _ _ I1 (q o)) λfl s' hs=>?_
 cases fl with
 | next=>obtain⟨σ',H',I',o',e',q'⟩:=hs;exact⟨σ',_,I'.thaw f e',q'⟩
 | brk=>obtain⟨σ',H',I',o',e',q'⟩:=hs;exact⟨σ',_,I'.thaw f e',q'⟩
 | cont=>obtain⟨σ',H',I',o',e',q'⟩:=hs;exact⟨σ',_,I'.thaw f e',q'⟩
 | ret v=>obtain⟨x,σ',H',I',r,o',e',q'⟩:=hs;exact⟨x,σ',_,I'.thaw f e',r,q'⟩
end
def Itd(a:Addr)(o:Obj)(kvs:List (Key×V)):It :=
 ⟨λi H=>H a=some (.frz o (.dK kvs))/\i<kvs.length,λi H x H'=>H'=H/\∃kv,kvs[i]? = some kv/\x=kV kv.1,λi H=>H a=some (.frz o (.dK kvs))/\kvs.length<=i⟩
theorem Vj{P:Program}{w:World}{k:Key}{u:Value}(h:(Da P w).is k u=true):RelV (kV k) u:=by
 rcases Di h with ⟨i,t,rfl,rfl⟩ | ⟨x,t,rfl,rfl⟩
 ·exact⟨t,rfl⟩
 ·exact⟨t,rfl⟩
theorem Lp{P:Program}{w:World}{H:Hp}{h:Heap}{a:Addr}{o:Obj}{kvs:List (Key×V)}{es:Array DictEntry}{ep:Nat}(ok:HOk P w H h)(e:H a=some (.frz o (.dK kvs)))(hd:o.data=.dict es ep) :
  (a==sysModules)=false/\∃vs,KV kvs vs/\h.DictAt (Da P w) a vs ep:=by
 obtain⟨ho,_,hm,vs,r,o',es',ep',h1,h2,h3,h4⟩:=(show ObjOk P w H h a (.frz o (.dK kvs)) from ok a _ e)
 rw[ho] at h1
 cases h1
 rw[hd] at h3
 cases h3
 exact⟨hm,vs,r,o,es,ho,h2,hd,h4⟩
theorem Xt{P:Program}{w:World}{K:Frag}{tg:Expr}(a it:Addr)(o:Obj)(kvs:List (Key×V))(es:Array DictEntry)(ep:Nat)(hd:o.data=.dict es ep) :
  Ty P w K tg (Itd a o kvs) [it] it (λi h=>h.IsKeyIter it a i kvs.length ep) where
 mem:=by simp
 obj:=λi h st b hb=>by
  have e:b=it:=by simpa using hb
  subst e
  obtain⟨o,e,c,d⟩:=st
  exact⟨o,e,λv z=>by rw[d] at z;cases z⟩
 keep:=λi h h' st k=>by
  obtain⟨o,e,r⟩:=st
  exact⟨o,k it (by simp) o e,r⟩
 item:=by
  intro X hP hw hK hc i pins s σ H E I hf st hg
  subst hP hw hK
  obtain⟨hz,hi⟩:=hg
  obtain⟨hm,vs,r,da⟩:=Lp I.hok hz hd
  have hl:kvs.length=vs.length:=Paired.length r
  obtain⟨f0,f1,f2,f3,f4,f5⟩:=hf it (by simp)
  have hiv:i<vs.length:=by omega
  have ek:(kvs[i]).1=(vs[i]).1:=by
   have q:=KV.keys r
   have q1:=congrArg (λl=>l[i]?) q
   simp only [getElem?_map,getElem?_eq_getElem hi,getElem?_eq_getElem hiv,Option.map_some,Option.some.injEq] at q1
   exact q1
  refine wpAny_pyNext_dict_item (k:=(vs[i]).1) (v:=(vs[i]).2) (kvs:=vs) (by rw[<- hl];exact st) da (by rw[getElem?_eq_getElem hiv]) λkey h' hkey st' sb=>?_
  have I1:Inv X pins σ H { s with heap:=h' }:=I.turned (t':=s.toks) (λb o hb e=>(sb.2 b hb).trans e) f0 f1 f3 f4 f5
  rw[<- hl] at st'
  obtain⟨o',e',c',d'⟩:=id st'
  exact⟨key,rfl,Wb (s:={ s with heap:=h' }) e' c' d' (by decide) ⟨kV (kvs[i]).1,H,I1,by rw[ek];exact Vj hkey,⟨rfl,kvs[i],getElem?_eq_getElem hi,rfl⟩,st',λb hb=>(hf b hb).1⟩⟩
 done:=by
  intro X hP hw hK hc i pins s σ H E I hf st hg
  subst hP hw hK
  obtain⟨hz,hi⟩:=hg
  obtain⟨hm,vs,r,da⟩:=Lp I.hok hz hd
  have hl:kvs.length=vs.length:=Paired.length r
  obtain⟨f0,f1,f2,f3,f4,f5⟩:=hf it (by simp)
  exact wpAny_pyNext_dict_end (kvs:=vs) (I.ok.hd hc) (by rw[<- hl];exact st) da (getElem?_eq_none (by omega)) λh' eb=>⟨rfl,I.turned (t':=s.toks) (λb o hb e=>eb b o hb e) f0 f1 f3 f4 f5⟩
 self:=λ_ _ _ _ _ st h=>wpAny_pyIter_keyiter st h
section
variable {X:Cx}{tg:Expr}
def iDk(tl:TE):TI:=λσ H R=>tl σ H λx H1=>∃a o kvs,x=.ref a/\H1 a=some (.frz o (.dK kvs))/\R (Itd a o kvs) H1
theorem AaD{l:Expr}{tl:TE}(hl:PE X l tl):PI X tg l (iDk tl):=by
 intro pins s σ H R I h
 refine thn (hl pins s σ H _ I h) λv s1 ⟨x,H1,I1,r1,q1⟩=>?_
 obtain⟨a,o,kvs,e,hz,q⟩:=q1
 subst e
 cases r1
 obtain⟨ho,_,hm,vs,r,o',es,ep,h1,h2,h3,h4⟩:=(show ObjOk X.prog X.w H1 s1.heap a (.frz o (.dK kvs)) from I1.hok a _ hz)
 rw[ho] at h1
 cases h1
 have hl:kvs.length=vs.length:=Paired.length r
 refine wpAny_pyIter_dict (knd:=Da X.prog X.w) (kvs:=vs) (ep:=ep) hm ⟨o,es,ho,h2,h3,h4⟩ ?_
 refine⟨s1.heap.objs.size,[s1.heap.objs.size],_,_,H1,rfl,I1.kept (t':=s1.toks) λb o e=>get?_push_of_some _ e,Xt a _ o kvs es ep h3,⟨_,get?_push_size _ rfl,rfl,by rw[hl];rfl⟩,λb hb=>?_,q⟩
 have e:b=s1.heap.objs.size:=by simpa using hb
 subst e
 exact I1.fpOk (Nat.le_refl _) (I1.hok.fresh (Nat.le_refl _))
theorem Yd{a:Addr}{o:Obj}{kvs:List (Key×V)}{g:TG}{tb:TS}{D:Ends}{σ:St}{H:Hp}(Pv:Nat->St->Hp->Prop)(h0:Pv 0 σ H)(hl:∀i σ H,i<=kvs.length->Pv i σ H->H a=some (.frz o (.dK kvs)))
  (hs:∀i kv σ H,kvs[i]? = some kv->Pv i σ H->g (kV kv.1) σ H λσ2 H2=>tb { D with nx:=Pv (i+1),ct:=Pv (i+1),bk:=D.nx } σ2 H2) (hd:∀σ H,Pv kvs.length σ H->D.nx σ H) :
  ∃W:Nat->Nat->St->Hp->Prop,(∃m,W 0 m σ H)/\∀i m σ H,W i m σ H ->
   ((Itd a o kvs).stop i H/\D.nx σ H)\/((Itd a o kvs).go i H/\∃N:St->Hp->Prop,(∀σ' H',N σ' H'->∃m',m'<m/\W (i+1) m' σ' H')/\∀x H',(Itd a o kvs).yld i H x H'->g x σ H' λσ2 H2=>tb { D with nx:=N,ct:=N,bk:=D.nx } σ2 H2):=by
 refine⟨λi m σ H=>m=kvs.length - i/\i<=kvs.length/\Pv i σ H,⟨kvs.length,by simp,zero_le _,h0⟩,?_⟩
 rintro i m σ H ⟨rfl,hi,p⟩
 have q:=hl i σ H hi p
 by_cases hlt:i<kvs.length
 ·refine .inr ⟨⟨q,hlt⟩,Pv (i+1),λσ' H' p'=>⟨kvs.length - (i+1),by omega,rfl,hlt,p'⟩,λx H' y=>?_⟩
  obtain⟨e,kv,y1,y2⟩:=y
  subst e y2
  exact hs i kv σ _ y1 p
 ·have e:i=kvs.length:=by omega
  subst e
  exact .inl ⟨⟨q,Nat.le_refl _⟩,hd σ H p⟩
end
def Iti(a:Addr)(o:Obj)(kvs:List (Key×V)):It :=
 ⟨λi H=>H a=some (.frz o (.dK kvs))/\i<kvs.length,λi H x H'=>∃t kv,H t=none/\kvs[i]? = some kv/\x=.ref t/\H'=upd H t (.tup [kV kv.1,kv.2]),λi H=>H a=some (.frz o (.dK kvs))/\kvs.length<=i⟩
theorem Aah{κ:Type}:∀{kvs:List (κ×V)} {vs:List (κ×Value)} {i:Nat} {kv:κ×V},KV kvs vs->kvs[i]? = some kv->∃v,vs[i]? = some (kv.1,v)/\RelV kv.2 v
 | _,_,_,_,.nil,e=>by simp at e
 | _,(k',v')::_,0,_,.cons r _,e=>by
  simp at e;subst e
  obtain⟨h1,h2⟩:=r
  exact⟨v',by simp [h1],h2⟩
 | _,_,i+1,kv,.cons _ t,e=>by
  obtain⟨v,h1,h2⟩:=Aah (i:=i) (kv:=kv) t (by simpa using e)
  exact⟨v,by simpa using h1,h2⟩
theorem Vt{P:Program}{w:World}{K:Frag}{elts:List Expr}{x1:Nat}{tp:Pos}(a it:Addr)(o:Obj)(kvs:List (Key×V))(es:Array DictEntry)(ep:Nat)(hd:o.data=.dict es ep) :
  Ty P w K (.Tuple elts x1 tp) (Iti a o kvs) [it] it (λi h=>∃ok ov,IsItemIter h it a i kvs.length ep ok ov) where
 mem:=by simp
 obj:=λi h st b hb=>by
  have e:b=it:=by simpa using hb
  subst e
  obtain⟨ok,ov,e⟩:=st
  exact⟨_,e,λv z=>nomatch z⟩
 keep:=λi h h' st k=>by
  obtain⟨ok,ov,e⟩:=st
  exact⟨ok,ov,k it (by simp) _ e⟩
 item:=by
  intro X hP hw hK hc i pins s σ H E I hf st hg
  subst hP hw hK
  obtain⟨hz,hi⟩:=hg
  obtain⟨ok,ov,st⟩:=st
  obtain⟨hm,vs,r,da⟩:=Lp I.hok hz hd
  have hl:kvs.length=vs.length:=Paired.length r
  obtain⟨f0,f1,f2,f3,f4,f5⟩:=hf it (by simp)
  obtain⟨v,hv,rv⟩:=Aah (i:=i) (kv:=kvs[i]) r (getElem?_eq_getElem hi)
  have hit:it<s.heap.objs.size:=lt_size st
  have hne:s.heap.objs.size≠it:=Nat.ne_of_gt hit
  have hfr:H s.heap.objs.size=none:=I.hok.fresh (Nat.le_refl _)
  rw[hl] at st
  refine wpAny_pyNext_items_item st da hv λkey h' hkey ho hT hsz hk=>⟨_,rfl,?_⟩
  refine wpAny_letOwnedTupleGo_items (s:={ s with heap:=h' }) ho λh2 he hs=>?_
  have hs2:∀b,b≠it->h2.get? b=h'.get? b:=hs.2
  have kp:∀b o,b≠it->s.heap.get? b=some o->h2.get? b=some o:=λb o hb e=>(hs2 b hb).trans (hk b o hb e)
  have hT2:h2.get? s.heap.objs.size=some { cls:=.type "tuple",data:=.seq #[key,v] }:=(hs2 _ hne).trans hT
  have nt:∀b u,H b=some u->b≠s.heap.objs.size:=λb u e=>Bp e hfr
  rw[<- hl] at he
  refine⟨.ref s.heap.objs.size,upd H s.heap.objs.size (.tup [kV (kvs[i]).1,(kvs[i]).2]),?_,rfl,⟨_,_,hfr,getElem?_eq_getElem hi,rfl,rfl⟩,⟨_,_,he⟩,λb hb=>?_⟩
  ·refine Inv.step (s:=s) (h':=h2) I (g':=s.gens) (d':=s.drawn) (t':=s.toks) (ch:=[it]) (λb hb=>?_) (λb o _ _ hc e _=>kp b o (λz=>hc (by simp [z])) e) (λb o _ _ hc e _=>⟨o.slots,kp b o (λz=>hc (by simp [z])) e⟩)
    (λb o hc e n=>by rw[Bj (ne_of_lt (lt_size e))];exact n) (λb o hc e=>⟨o,kp b o (λz=>hc (by simp [z])) e⟩) (λb xs e=>by rw[Bj (nt b _ e)];exact e) (λb o u e=>by rw[Bj (nt b _ e)];exact e)
    (λb ps e=>⟨#[],by rw[Bj (nt b _ e),e];simp⟩) (λm hm=>?_) (λb u e=>?_) I.bare
   ·have e:b=it:=by simpa using hb
    subst e
    exact⟨f3,f1,f4,f5⟩
   ·obtain⟨o,es,ep,ho,r⟩:=hm
    exact⟨o,es,ep,kp _ o (Ne.symm f1) ho,r⟩
   ·by_cases hb:b=s.heap.objs.size
    ·subst hb
     rw[Bn] at e
     cases e
     exact⟨by show 2<=sizeLine;decide,[key,v],.cons (Vj hkey) (.cons rv .nil),_,hT2,rfl,_,rfl⟩
    ·rw[Bj hb] at e
     have nit:∀c w,H c=some w->c≠it:=λc w e z=>by rw[z,f0] at e;cases e
     refine (I.hok b u e).stay (λc v hc q=>kp c v ?_ q) (λc q=>by rw[Bj (nt c _ q)];exact q) λc xs q=>by rw[Bj (nt c _ q)];exact q
     rcases hc with z | z
     ·rw[z];exact nit b u e
     ·exact nit c _ z
  ·have e:b=it:=by simpa using hb
   rw[e,Bj (Ne.symm hne)]
   exact f0
 done:=by
  intro X hP hw hK hc i pins s σ H E I hf st hg
  subst hP hw hK
  obtain⟨hz,hi⟩:=hg
  obtain⟨ok,ov,st⟩:=st
  obtain⟨hm,vs,r,da⟩:=Lp I.hok hz hd
  have hl:kvs.length=vs.length:=Paired.length r
  obtain⟨f0,f1,f2,f3,f4,f5⟩:=hf it (by simp)
  rw[hl] at st
  exact wpAny_pyNext_items_end (I.ok.hd hc) st da (getElem?_eq_none (by omega)) λh' eb=>⟨rfl,I.turned (t':=s.toks) (λb o hb e=>eb b o hb e) f0 f1 f3 f4 f5⟩
 self:=λA i s Q E st h=>by
  obtain⟨ok,ov,e⟩:=st
  exact PySem.W.kcp_self e h
section
variable {X:Cx}{elts:List Expr}{x1:Nat}{tp apos cpos:Pos}
def iDi(tl:TE):TI:=λσ H R=>tl σ H λx H1=>∃a o kvs,x=.ref a/\H1 a=some (.frz o (.dK kvs))/\R (Iti a o kvs) H1
theorem Zz{l:Expr}{tl:TE}(hl:PE X l tl)(hbase:attributeBase l "items" X.env (eval l X.env)=eval l X.env:=by rfl)(hline:(apos.endLine==cpos.line)=true:=by rfl) :
  PI X (.Tuple elts x1 tp) (.Call (.Attribute l "items" apos) [] [] cpos) (iDi tl):=by
 intro pins s σ H R I h
 refine wpAny_Call_method0_late hbase hline (thn (hl pins s σ H _ I h) λv s1 ⟨x,H1,I1,r1,q1⟩=>?_)
 obtain⟨a,o,kvs,e,hz,q⟩:=q1
 subst e
 cases r1
 obtain⟨ho,_,hm,vs,r,o',es,ep,h1,h2,h3,h4⟩:=(show ObjOk X.prog X.w H1 s1.heap a (.frz o (.dK kvs)) from I1.hok a _ hz)
 rw[ho] at h1
 cases h1
 have hlen:kvs.length=vs.length:=Paired.length r
 have da:s1.heap.DictAt (Da X.prog X.w) a vs ep:=⟨o,es,ho,h2,h3,h4⟩
 refine⟨"dict","dict.items",PySem.F.plainAttrs_dict,PySem.F.slot_dict_items,PySem.F.type_dict_items,⟨o,ho,h2.1⟩,λb eb=>?_,Calls.callWith_builtin rfl (PySem.evalArgs_none ?_)⟩
 ·cases eb
  exact⟨o,ho,h2.2.1⟩
 refine call_meetsIn PySem.F.slot_dict_items da.dictOf.typeIs PySem.F.entry_dict_items (PySem.F.args_dict_items_1 _) (meets_dict_items (Da X.prog X.w) a hm) ⟨⟨vs,da.dictOf⟩,?_⟩
 refine wpAny_pyIter_items (s:={ s1 with heap:=s1.heap.push { cls:=.type "dict_items",data:=.fields #[.ref a] } }) (knd:=Da X.prog X.w) (kvs:=vs) (ep:=ep) ⟨_,get?_push_size _ rfl,rfl,rfl⟩ (da.push _) ?_
 have I2:Inv X pins σ H1 { s1 with heap:=s1.heap.push { cls:=.type "dict_items",data:=.fields #[.ref a] } }:=I1.kept (t':=s1.toks) λb o e=>get?_push_of_some _ e
 refine⟨_,[_],_,_,H1,rfl,I2.kept (t':=s1.toks) λb o e=>get?_push_of_some _ e,Vt a _ o kvs es ep h3,⟨.none,.none,by rw[hlen];exact get?_push_size _ rfl⟩,λb hb=>?_,q⟩
 have e:=mem_singleton.mp hb
 subst e
 exact I2.fpOk (Nat.le_refl _) (I2.hok.fresh (Nat.le_refl _))
theorem Xl{a:Addr}{o:Obj}{kvs:List (Key×V)}{g:TG}{tb:TS}{D:Ends}{σ:St}{H:Hp}(Pv:Nat->St->Hp->Prop)(h0:Pv 0 σ H)(hl:∀i σ H,i<=kvs.length->Pv i σ H->H a=some (.frz o (.dK kvs)))
  (hs:∀i kv t σ H,kvs[i]? = some kv->H t=none->Pv i σ H->g (.ref t) σ (upd H t (.tup [kV kv.1,kv.2])) λσ2 H2=>tb { D with nx:=Pv (i+1),ct:=Pv (i+1),bk:=D.nx } σ2 H2) (hd:∀σ H,Pv kvs.length σ H->D.nx σ H) :
  ∃W:Nat->Nat->St->Hp->Prop,(∃m,W 0 m σ H)/\∀i m σ H,W i m σ H ->
   ((Iti a o kvs).stop i H/\D.nx σ H)\/((Iti a o kvs).go i H/\∃N:St->Hp->Prop,(∀σ' H',N σ' H'->∃m',m'<m/\W (i+1) m' σ' H')/\∀x H',(Iti a o kvs).yld i H x H'->g x σ H' λσ2 H2=>tb { D with nx:=N,ct:=N,bk:=D.nx } σ2 H2):=by
 refine⟨λi m σ H=>m=kvs.length - i/\i<=kvs.length/\Pv i σ H,⟨kvs.length,by simp,zero_le _,h0⟩,?_⟩
 rintro i m σ H ⟨rfl,hi,p⟩
 have q:=hl i σ H hi p
 by_cases hlt:i<kvs.length
 ·refine .inr ⟨⟨q,hlt⟩,Pv (i+1),λσ' H' p'=>⟨kvs.length - (i+1),by omega,rfl,hlt,p'⟩,λx H' y=>?_⟩
  obtain⟨t,kv,ht,y1,y2,y3⟩:=y
  subst y2 y3
  exact hs i kv t σ _ y1 ht p
 ·have e:i=kvs.length:=by omega
  subst e
  exact .inl ⟨⟨q,Nat.le_refl _⟩,hd σ H p⟩
end
section
variable {σ:St}{H:Hp}{Q:VK}{B:Bool->Hp->Prop}{v x y:V}{ta tb tc:TE}{tA tB':TT}{D:Ends}{t u:TS}{K:Frag}
theorem AfP{i:Nat}(h:σ[i]? = some (some v))(q:Q v H):Ff i σ H Q:=⟨v,h,q⟩
theorem i_c(q:Q v H):tC v σ H Q:=q
theorem AgL{r:R2}(q:ta σ H λx H1=>tb σ H1 λy H2=>r x y H2 Q):tOp r ta tb σ H Q:=q
theorem Afx{g:Int->Int->V}{i j:Int}(q:Q (g i j) H):rI0 g (.int i) (.int j) H Q:=⟨i,j,rfl,rfl,q⟩
theorem Acv{i j:Int}:decide (V.int i=V.int j)=decide (i=j):=by
 by_cases h:i=j
 ·subst h;simp
 ·rw[decide_eq_false h,decide_eq_false λe=>h (V.int.inj e)]
theorem Ace{i j:Str}:decide (V.str i=V.str j)=decide (i=j):=by
 by_cases h:i=j
 ·subst h;simp
 ·rw[decide_eq_false h,decide_eq_false λe=>h (V.str.inj e)]
theorem AcM{i j:Int}(q:Q (.bl (decide (i=j))) H):rEq (.int i) (.int j) H Q:=⟨rfl,by rw[Acv];exact q⟩
theorem Ach{i j:Str}(q:Q (.bl (decide (i=j))) H):rEq (.str i) (.str j) H Q:=⟨rfl,by rw[Ace];exact q⟩
theorem AbV{i j:Int}(q:Q (.bl (!decide (i=j))) H):rNe (.int i) (.int j) H Q:=⟨rfl,by rw[Acv];exact q⟩
theorem AcT{i j:Str}(q:Q (.bl (!decide (i=j))) H):rNe (.str i) (.str j) H Q:=⟨rfl,by rw[Ace];exact q⟩
theorem AgP{t:TE}(q:t σ H λx H1=>∃c,x=.bl c/\B c H1):tB t σ H B:=q
theorem Ae5{t:TE}(q:t σ H λx H1=>∃c,x=.bl c/\B c H1):Wc t σ H B:=q
theorem AfQ{b:Bool}{P:Bool->Prop}(q:P b):∃c,V.bl b=V.bl c/\P c:=⟨b,rfl,q⟩
theorem AfC(q:tA σ H λc H1=>B (!c) H1):AbJ tA σ H B:=q
theorem Afj(q:ta σ H λx H1=>∃c,x=.bl c/\if c=true then tb σ H1 Q else Q (.bl false) H1):Wq ta tb σ H Q:=q
theorem AeQ(q:ta σ H λx H1=>∃c,x=.bl c/\Q (.bl (!c)) H1):Wd ta σ H Q:=q
theorem Wa(q:t { D with nx:=u D } σ H):Rp t u D σ H:=q
theorem AgM(q:D.nx σ H):Xe D σ H:=q
theorem AeB(q:ta σ H λ_ H1=>D.nx σ H1):Si ta D σ H:=q
theorem Agl(q:ta σ H D.rt):Tv ta D σ H:=q
theorem AgK(q:tA σ H λb H1=>if b=true then t D σ H1 else u D σ H1):Abg tA t u D σ H:=q
theorem Afy{g:TG}(q:ta σ H λx H1=>g x σ H1 D.nx):Jt ta g D σ H:=q
theorem AdH{i:Nat}{R:St->Hp->Prop}(q:R (σ.set i (some v)) H):Gd i v σ H R:=q
theorem AeU{n:Nat}{a:Addr}{xs:List V}{g:TGs}{R:St->Hp->Prop}(h:SqT K H a xs)(hl:xs.length=n)(q:g xs σ H R):Sy K n g (.ref a) σ H R:=⟨a,xs,rfl,h,hl,q⟩
theorem Adv{g:TG}{gs:TGs}{vs:List V}{R:St->Hp->Prop}(q:g v σ H λσ' H'=>gs vs σ' H' R):Vx g gs (v::vs) σ H R:=⟨v,vs,rfl,q⟩
theorem AeD{R:St->Hp->Prop}(q:R σ H):AbO [] σ H R:=⟨rfl,q⟩
theorem AdX{sp:Sp}{dvs:List V}{E:XK}{t:TA}(q:t σ H λvs H1=>sp (vs++dvs) H1 Q E):Sm sp dvs E t σ H Q:=q
theorem Aft{R:List V->Hp->Prop}(q:R [] H):Qj σ H R:=q
theorem Aez{tr:TA}{R:List V->Hp->Prop}(q:ta σ H λx H1=>tr σ H1 λxs H2=>R (x::xs) H2):Dx ta tr σ H R:=q
theorem Agf{t:TA}(q:t σ H λxs H1=>xs.length<=sizeLine/\∀p,H1 p=none->Q (.ref p) (upd H1 p (.tup xs))):Afn t σ H Q:=q
theorem AfM{f:Str}(q:ta σ H λx H1=>∃a C dx fs v,x=.ref a/\H1 a=some (.ins C dx fs)/\Cls K C/\NoAttr K C f/\fs.lookup f=some v/\Q v H1):Afm K ta f σ H Q:=q
theorem AgJ{r:List V->Hp->VK->Prop}{t:TA}(q:t σ H λvs H1=>r vs H1 Q):tCB r t σ H Q:=q
theorem Af6(q:ta σ H λy H1=>tb σ H1 λx H2=>∃a o,x=.ref a/\DGet H2 a y o/\Q (.bl o.isSome) H2):Ad6 ta tb σ H Q:=q
theorem AaK(q:ta σ H λy H1=>tb σ H1 λx H2=>∃a o,x=.ref a/\DGet H2 a y o/\Q (.bl (!o.isSome)) H2):Ul ta tb σ H Q:=q
theorem Ad2(q:ta σ H λx H1=>tb σ H1 λy H2=>∃a v,x=.ref a/\DGet H2 a y (some v)/\Q v H2):Aci ta tb σ H Q:=q
theorem AdN(q:ta σ H λx H1=>∃a,x=.ref a/\IsD H1 a/\tb σ H1 λy H2=>tc σ H2 λz H3=>∃o,DGet H3 a y o/\Q (o.getD z) H3):Yk ta tb tc σ H Q:=q
theorem Ae8(q:tc σ H λv H1=>ta σ H1 λx H2=>tb σ H2 λy H3=>∃a H4,x=.ref a/\DPut H3 a y v H4/\D.nx σ H4):AcF ta tb tc D σ H:=q
theorem Ae0{f:Str}(q:tb σ H λy H1=>ta σ H1 λx H2=>∃a C dx fs,x=.ref a/\H2 a=some (.ins C dx fs)/\Cls K C/\NoAttr K C f/\fs.length<1000/\D.nx σ (upd H2 a (.ins C dx (Bt f y fs)))):AeH K ta tb f D σ H:=q
theorem AdW(q:∀p,H p=none->Q (.ref p) (upd H p (.dK []))):Tf σ H Q:=q
theorem AeR(q:∀p,H p=none->Q (.ref p) (upd H p (.dT []))):Xr σ H Q:=q
theorem Ld{i:Nat}{a:Addr}{xs:List V}{g:TG}(hv:σ[i]? = some (some (.ref a)))(hS:SqL K H a xs)(Pv:Nat->St->Hp->Prop)(h0:Pv 0 σ H)(hl:∀i σ H,i<=xs.length->Pv i σ H->SqL K H a xs)
  (hs:∀i x σ H,xs[i]? = some x->Pv i σ H->g x σ H λσ2 H2=>t { D with nx:=Pv (i+1),ct:=Pv (i+1),bk:=D.nx } σ2 H2) (hd:∀σ H,Pv xs.length σ H->D.nx σ H):Oz (Oe K (Ff i)) g t D σ H :=
 ⟨_,hv,a,rfl,⟨_,hS⟩,Sq Pv h0 hl hs hd⟩
theorem Agt{R:It->Hp->Prop}(q:ta σ H λx H1=>∃a,x=.ref a/\(∃xs,SqL K H1 a xs)/\R (Itl K a) H1):Oe K ta σ H R:=q
theorem Aed{i:Nat}{a:Addr}{kvs:List (Key×V)}{g:TG}(hv:σ[i]? = some (some (.ref a)))(hS:H a=some (.dK kvs))(Pv:Nat->St->Hp->Prop)(h0:Pv 0 σ H)
  (hl:∀i σ H,i<=kvs.length->Pv i σ H->H a=some (.dK kvs))
  (hs:∀o i kv σ H,kvs[i]? = some kv->Pv i σ H->g (kV kv.1) σ (upd H a (.frz o (.dK kvs))) λσ2 H2=>t (Ends.mk (λσ H=>H a=some (.frz o (.dK kvs))/\Pv (i+1) σ (upd H a (.dK kvs))) (Le a (.dK kvs) D).rt (Le a (.dK kvs) D).nx (λσ H=>H a=some (.frz o (.dK kvs))/\Pv (i+1) σ (upd H a (.dK kvs)))) σ2 H2)
  (hd:∀σ H,Pv kvs.length σ H->D.nx σ H):Aa0 (Oz (iDk (Ff i)) g t) D σ H:=by
 refine⟨a,.dK kvs,trivial,hS,λo=>⟨_,hv,a,o,kvs,rfl,Bn,Yd (λi σ H=>H a=some (.frz o (.dK kvs))/\Pv i σ (upd H a (.dK kvs))) ⟨Bn,?_⟩ (λi σ H _ p=>p.1) (λi kv σ H e p=>?_) λσ H p=>⟨o,p.1,hd σ _ p.2⟩⟩⟩
 ·have e:upd (upd H a (.frz o (.dK kvs))) a (.dK kvs)=H:=by
   rw[Fv];funext b;unfold upd;split
   ·rename_i h;rw[h,hS]
   ·rfl
  rw[e];exact h0
 ·have e2:upd (upd H a (.dK kvs)) a (.frz o (.dK kvs))=H:=by
   rw[Fv];funext b;unfold upd;split
   ·rename_i h;rw[h,p.1]
   ·rfl
  have q:=hs o i kv σ _ e p.2
  rw[e2] at q
  exact q
theorem Aeq{i:Nat}{a:Addr}{kvs:List (Key×V)}{g:TG}(hv:σ[i]? = some (some (.ref a)))(hS:H a=some (.dK kvs))(Pv:Nat->St->Hp->Prop)(h0:Pv 0 σ H)
  (hs:∀o i kv p σ H,kvs[i]? = some kv->H p=none->p≠a->Pv i σ H->g (.ref p) σ (upd (upd H a (.frz o (.dK kvs))) p (.tup [kV kv.1,kv.2])) λσ2 H2=>t (Ends.mk (λσ H=>H a=some (.frz o (.dK kvs))/\Pv (i+1) σ (upd H a (.dK kvs))) (Le a (.dK kvs) D).rt (Le a (.dK kvs) D).nx (λσ H=>H a=some (.frz o (.dK kvs))/\Pv (i+1) σ (upd H a (.dK kvs)))) σ2 H2)
  (hd:∀σ H,Pv kvs.length σ H->D.nx σ H):Aa0 (Oz (iDi (Ff i)) g t) D σ H:=by
 refine⟨a,.dK kvs,trivial,hS,λo=>⟨_,hv,a,o,kvs,rfl,Bn,Xl (λi σ H=>H a=some (.frz o (.dK kvs))/\Pv i σ (upd H a (.dK kvs))) ⟨Bn,?_⟩ (λi σ H _ p=>p.1) (λi kv p σ H e hp w=>?_) λσ H p=>⟨o,p.1,hd σ _ p.2⟩⟩⟩
 ·have e:upd (upd H a (.frz o (.dK kvs))) a (.dK kvs)=H:=by
   rw[Fv];funext b;unfold upd;split
   ·rename_i h;rw[h,hS]
   ·rfl
  rw[e];exact h0
 ·have e2:upd (upd H a (.dK kvs)) a (.frz o (.dK kvs))=H:=by
   rw[Fv];funext b;unfold upd;split
   ·rename_i h;rw[h,w.1]
   ·rfl
  have ne:p≠a:=λz=>by rw[z,w.1] at hp;cases hp
  have q:=hs o i kv p σ (upd H a (.dK kvs)) e (by rw[Bj ne];exact hp) ne w.2
  rw[e2] at q
  exact q
theorem Ac8{ta:TA}{g:TG}{hi:Int}{n:Nat}(hargs:∀R:List V->Hp->Prop,R [.int hi] H->ta σ H R)(hb:-(2^62)<=hi/\hi<2^62)(hn:hi.toNat=n)(Pv:Nat->St->Hp->Prop)(h0:Pv 0 σ H)
  (hs:∀i σ H,i<n->Pv i σ H->g (.int (0+i)) σ H λσ2 H2=>t { D with nx:=Pv (i+1),ct:=Pv (i+1),bk:=D.nx } σ2 H2) (hd:∀σ H,Pv n σ H->D.nx σ H):Oz (AbT ta) g t D σ H :=
 hargs _ ⟨hi,rfl,hb.1,hb.2,by rw[hn];exact Ry Pv h0 hs hd⟩
end
def Ds(fn:List Str)(env:Env):List (Str×Addr):=fn.map λx=>(x,(env.cells.lookup x).getD 0)
theorem Oq{env:Env}:∀{fn:List Str} {x:Str} {c:Addr},(Ds fn env).lookup x=some c->x∈fn/\c=(env.cells.lookup x).getD 0
 | [],_,_,h=>by cases h
 | y::r,x,c,h=>by
  unfold Ds at h
  rw[map_cons,lookup_cons] at h
  cases e:x==y with
  | true =>
   rw[e] at h
   have:x=y:=eq_of_beq e
   subst this
   cases h
   exact⟨mem_cons_self,rfl⟩
  | false =>
   rw[e] at h
   obtain⟨h1,h2⟩:=Oq (fn:=r) (x:=x) (c:=c) h
   exact⟨mem_cons_of_mem _ h1,h2⟩
theorem Ou{env:Env}:∀{fn:List Str} {x:Str},x∈fn->(Ds fn env).lookup x=some ((env.cells.lookup x).getD 0)
 | [],_,h=>by cases h
 | y::r,x,h=>by
  unfold Ds
  rw[map_cons,lookup_cons]
  cases e:x==y with
  | true =>
   have:x=y:=eq_of_beq e
   subst this
   rfl
  | false =>
   rcases mem_cons.mp h with z | z
   ·subst z;rw[beq_self_eq_true] at e;cases e
   ·exact Ou z
def Fd(X:Cx)(scope:Scope)(N' fn:List Str)(C:Addr)(fp:List Addr)(s:Shared)(H:Hp):Cx :=
 { X with N:=N',s₀:=s,H₀:=H,env:=compEnvC scope (Ds fn X.env) C X.env,outer:=X.stack,stack:=X.stack,ex:=fp,fn:=λ_=>false,pn:=[],xe:=λ_ _=>False }
def compσ(k:Nat)(fr:List Nat)(σ:St):St:=replicate k none++fr.map λi=>(σ[i]?).join
def Oo(wi:TI)(g:TG)(tc:TT)(te:TE)(k:Nat)(fr:List Nat):TE:=λσ H Q=>wi σ H λJ H1=>∀D,H1 D=none ->
 ∃W:Nat->Nat->Hp->Prop,(∃m,W 0 m (upd H1 D (.lst [])))/\∀i m H,W i m H->(J.stop i H/\Q (.ref D) H)\/(J.go i H/\∀x H',J.yld i H x H'->g x (compσ k fr σ) H' λσ2 H2 =>
  σ2.drop k=(compσ k fr σ).drop k/\tc σ2 H2 λb H3=>if b=true then te σ2 H3 (λy H4=>∃ys,H4 D=some (.lst ys)/\ys.length<sizeLine/\∃m',m'<m/\W (i+1) m' (upd H4 D (.lst (ys++[y])))) else ∃m',m'<m/\W (i+1) m' H3)
def Tw(X:Cx)(ifs:List Expr)(t:TT):Prop :=
 ∀(pins:List (Addr×Obj)) (s:Shared) (σ:St) (H:Hp) (Q:Bool->Hp->Prop),Inv X pins σ H s->t σ H Q ->
  wpAny (model X.prog X.w) X.A (forIn ifs true λc r=>if r=true then do let ok <- isTrue c X.env (eval c X.env);pure (ForInStep.yield ok) else pure (ForInStep.yield r)) (TP X pins σ Q) X.xe s
def Vu:TT:=λ_ H Q=>Q true H
theorem Vh{X:Cx}:Tw X [] Vu:=λ_ _ _ H _ I h=>wpAny_tests_nil ⟨H,I,h⟩
theorem Xo{prog:Program}{w:World}{A:Around}{R:Result->Shared->Prop}{s:Shared}{elt target iter:Expr}{ifs:List Expr}{scope:Scope}{pos:Pos}{it acc:Value}{env:Env}(I:Nat->Shared->Prop)
  (turn:∀n s,I n s->wpAny (model prog w) A (pyNext it) (λr s₁=>match r with
   | none=>R (.ok .next) s₁
   | some v=>wpAny (model prog w) A (letOwnedTupleGo target it v) (λ_ s₁'=>wpAny (model prog w) A (assign target env v) (λ_ s₂ =>
     wpAny (model prog w) A (forIn ifs true λc r=>if r=true then do let ok <- isTrue c env (eval c env);pure (ForInStep.yield ok) else pure (ForInStep.yield r)) (λok s₃ =>
      if ok=true then wpAny (model prog w) A (eval elt env) (λx s₄ =>
       wpAny (model prog w) A (call (.builtin "list.append") [acc,x]) (λ_ s₅=>∃m,m<n/\I m s₅) (λ_ _=>False) s₄) (λ_ _=>False) s₃
      else ∃m,m<n/\I m s₃) (λ_ _=>False) s₂) (λ_ _=>False) s₁') (λ_ _=>False) s₁) (λ_ _=>False) s)
  (n:Nat) (h:I n s) :
  codeAny (model prog w) A (.compLoop (.ListComp elt [⟨target,iter,ifs,0⟩] scope pos) 0 it acc env) R s:=by
 refine codeAny_loop rfl I (λn s hI=>?_) n h
 show wpAny _ A ((compTurn (.ListComp elt [⟨target,iter,ifs,0⟩] scope pos) 0 it acc env).onRaise (λx=>do noteFrame x env;theTreesLotGoes x)) _ _ s
 refine wpAny_noted ?_
 rw[compTurn_list]
 refine wpAny_bind (wpAny_standAt (wpAny_bind (wpAny_mono (turn n s hI) (λr s₁ h₁=>?_) λ_ _ h'=>h'.elim)))
 cases r with
 | none=>exact wpAny_pure h₁
 | some v =>
  refine wpAny_bind (wpAny_mono h₁ (λ_ s₁' h₁'=>?_) λ_ _ h'=>h'.elim)
  refine wpAny_bind (wpAny_mono h₁' (λ_ s₂ h₂=>wpAny_bind (wpAny_mono h₂ (λok s₃ h₃=>?_) λ_ _ h'=>h'.elim)) λ_ _ h'=>h'.elim)
  cases ok with
  | false=>exact wpAny_pure ⟨rfl,h₃⟩
  | true =>
   exact wpAny_bind (wpAny_bind (wpAny_mono h₃ (λx s₄ h₄=>wpAny_bind (wpAny_mono h₄ (λ_ s₅ h₅=>wpAny_pure (wpAny_pure ⟨rfl,h₅⟩)) λ_ _ h'=>h'.elim)) λ_ _ h'=>h'.elim))
theorem compσ_len(k:Nat)(fr:List Nat)(σ:St):(compσ k fr σ).length=k+fr.length:=by
 unfold compσ;rw[length_append,length_replicate,length_map]
theorem compσ_weak{k:Nat}{fr:List Nat}{σ σ2:St}(hd:σ2.drop k=(compσ k fr σ).drop k):∀(i:Nat) v,(compσ k fr σ)[i]? = some (some v)->σ2[i]? = some (some v):=by
 intro i v h
 by_cases hi:i<k
 ·unfold compσ at h
  rw[getElem?_append_left (by rw[length_replicate];exact hi),getElem?_replicate] at h
  rw[if_pos hi] at h;cases h
 ·have e:∀l:St,l[i]? = (l.drop k)[i - k]?:=λl=>by rw[List.getElem?_drop];congr 1;omega
  rw[e] at h ⊢
  rw[hd];exact h
theorem Inv.nsch{X:Cx}{pins:List (Addr×Obj)}{σ:St}{H:Hp}{s:Shared}{C:Addr}{h':Heap}(I:Inv X pins σ H s)(sb:SameBut C s.heap h')(hC:H C=none)(h1:X.s₀.heap.objs.size<=C)(h2:C≠X.env.locals)
  (h3:∀x c,X.env.cells.lookup x=some c->c≠C) (h4:∀p∈X.pn++pins,p.1≠C):Inv X pins σ H { s with heap:=h' }:=by
 have nc:∀b:Addr,b∉[C]->b≠C:=λb z w=>z (by rw[w];exact mem_cons_self)
 refine Inv.call (s:=s) I (h':=h') (g':=s.gens) (d':=s.drawn) (t':=s.toks) (ch:=[C]) ⟨λb o e n _ hx=>(sb.2 b (nc b hx)).trans e,λb o e n _ hx=>⟨o.slots,(sb.2 b (nc b hx)).trans e⟩,λ_ _ _ n _=>n,λb o e hx=>⟨o,(sb.2 b (nc b hx)).trans e⟩,λ_ _ e=>e,λ_ _ _ e=>e,λb ps e=>⟨#[],by rw[Array.append_empty];exact e⟩⟩ (λb u e=>?_) I.bare (λb hb=>?_)
 ·refine (I.hok b u e).stay (λc v hc' q'=>(sb.2 c ?_).trans q') (λ_ q'=>q') λ_ _ q'=>q'
  rcases hc' with w | w
  ·rw[w];exact Bp e hC
  ·exact Bp w hC
 ·rw[mem_singleton.mp hb]
  exact⟨.inr h1,h2,h3,h4⟩
theorem Xp{X:Cx}{elt tg iter:Expr}{ifs:List Expr}{scope:Scope}{pos:Pos}{wi:TI}{g:TG}{tc:TT}{te:TE}{k:Nat}{fr:List Nat}{N' fn:List Str}(hc:X.calm=true)
  (hi:PI X tg iter wi) (hN:N'.length=k+fr.length)
  (hfr:∀j y,N'[k+j]? = some y->∀i,fr[j]? = some i->X.N[i]? = some y/\X.env.kindOf y=some .cell/\(compEnvC scope (Ds fn X.env) 0 X.env).kindOf y=some .cell/\y∈fn)
  (hfn:∀y∈fn,X.env.kindOf y=some .cell)
  (hkd:∀y,((compEnvC scope (Ds fn X.env) 0 X.env).kindOf y=some .cell\/(compEnvC scope (Ds fn X.env) 0 X.env).kindOf y=some .free)->y∈fn)
  (hg:∀C fp s H,PG (Fd X scope N' fn C fp s H) tg g) (ht:∀C fp s H,Tw (Fd X scope N' fn C fp s H) ifs tc) (he:∀C fp s H,PE (Fd X scope N' fn C fp s H) elt te)
  (hclos:closureFor scope X.env=pure (Ds fn X.env)) (hcell:∀y∈scope.names,y.2≠.cell) (hkind:scope.kind=.function) (hnames:∀y∈scope.names,y.2=.local->scope.names.lookup y.1=some .local)
  (hs:∀x,foldedSetIterable iter X.env x=pure x:=by intro _;rfl) {pins:List (Addr×Obj)} {s:Shared} {σ:St} {H:Hp} {Q:VK} {use:Option (Value->Sem Unit)} {Qc:Value->Shared->Prop} {cpos:Pos} (I:Inv X pins σ H s) (h:Oo wi g tc te k fr σ H Q)
  (fin:∀(H3:Hp) (s4:Shared) (D C:Addr) (m:Str->Option Value),s4.heap.Ns C m->Inv X pins σ H3 s4->H3 C=none->X.s₀.heap.objs.size<=C->C≠X.env.locals->(∀x c,X.env.cells.lookup x=some c->c≠C)->(∀p∈X.pn++pins,p.1≠C)->Q (.ref D) H3 ->
   compPost (model X.prog X.w) X.A X.xe use Qc (.ref D) C (.ok .next) s4) :
  wpAny (model X.prog X.w) X.A (comprehension (.ListComp elt [⟨tg,iter,ifs,0⟩] scope pos) scope X.env cpos (newList []) false (eval iter X.env) use) Qc X.xe s:=by
 refine wpAny_comprehension_free (use:=use) rfl hs hclos hkind hnames (thn (hi pins s σ H _ I h) λv s1 h1=>thn h1 λitv s2 h2=>?_)
 obtain⟨it,fp,tn,J,H2,e,I2,T,st2,f2,q⟩:=h2
 subst e
 have hfr2:H2 s2.heap.objs.size=none:=I2.hok.fresh (Nat.le_refl _)
 obtain⟨W,⟨m0,w0⟩,turn⟩:=q s2.heap.objs.size hfr2
 refine wpAny_newObj_type (wpAny_newFunctionEnv hcell (by intro y hy;simp at hy) (λh₁ hns₁ hsb₁=>?_) hkind)
 dsimp only at hns₁ hsb₁ ⊢
 generalize hHH:s2.heap.push { cls:=.type "list",dict:=none,data:=.seq ([]:List Value).toArray }=HH at hns₁ hsb₁ ⊢
 have hC:HH.objs.size=s2.heap.objs.size+1:=by rw[<- hHH,Heap.size_push]
 have hDC:s2.heap.objs.size≠HH.objs.size:=by rw[hC];exact ne_of_lt (lt_succ_self _)
 have hCle:s2.heap.objs.size<=HH.objs.size:=by rw[hC];exact le_succ _
 have below:∀b,b<s2.heap.objs.size->b≠HH.objs.size:=λb hb=>by rw[hC];exact ne_of_lt (Nat.lt_succ_of_lt hb)
 have old:∀b o,s2.heap.get? b=some o->h₁.get? b=some o:=λb o e=>hsb₁.extBut b o (below b (lt_size e)) (get?_push_of_some _ (hHH▸get?_push_of_some _ e))
 have hacc:h₁.get? s2.heap.objs.size=some { cls:=.type "list",dict:=none,data:=.seq ([]:List Value).toArray }:=hsb₁.extBut _ _ hDC (get?_push_of_some _ (hHH▸get?_push_size _ rfl))
 have hst₁:tn 0 h₁:=T.keep _ _ _ st2 λb _ o e=>old b o e
 -- the cells from around
 have hcl:∀x c,(Ds fn X.env).lookup x=some c->X.env.cells.lookup x=some c:=λx c e=>by
  obtain⟨h1,h2⟩:=Oq e
  obtain⟨c',e'⟩:=I2.ok.has x (.inl (hfn x h1))
  rw[h2,e'];rfl
 have kd0:∀C y,(compEnvC scope (Ds fn X.env) C X.env).kindOf y=(compEnvC scope (Ds fn X.env) 0 X.env).kindOf y:=λ_ _=>rfl
 have fpLt:∀b∈fp,b<s2.heap.objs.size:=λb hb=>by obtain⟨o,e,_⟩:=T.obj _ _ st2 b hb;exact lt_size e
 have cLt:∀x c,(Ds fn X.env).lookup x=some c->c<s2.heap.objs.size:=λx c e=>by obtain⟨v,z⟩:=I2.cell x c (hcl x c e);exact z.lt
 -- the block's context
 generalize hX:Fd X scope N' fn HH.objs.size fp s2 H2=X'
 have ok:X'.Ok:=by
  subst hX
  exact {
   mod:=I2.ok.mod
   kind:=hkind
   glob:=I2.ok.glob
   blt:=I2.ok.blt
   above:=hCle
   inj:=λx y c h1 h2=>I2.ok.inj x y c (hcl x c h1) (hcl y c h2)
   has:=λx hx=>⟨_,Ou (hkd x hx)⟩
   cab:=λx c z=>by cases z
   hd:=λ_=>I2.ok.hd hc
   frames:=I2.ok.frames
   stk:=.inl rfl
   exf:=λb hb=>⟨ne_of_lt (Nat.lt_of_lt_of_le (fpLt b hb) hCle),λx c e z=>by
    obtain⟨_,_,_,_,f4,_⟩:=f2 b hb
    exact f4 x c (hcl x c e) z⟩
   bs:=I2.bs
   bsz:=Nat.le_trans I2.ok.bsz I2.sz
   noex:=λb o e z=>by
    obtain⟨_,_,_,f3,_,_⟩:=f2 b z
    rcases f3 with w | w
    ·exact I2.ok.noex b o e w
    ·have h1:=(I2.ok.bs b o e).1
     exact absurd (Nat.lt_of_lt_of_le (lt_size h1) w) (Nat.lt_irrefl _)
   exfs:=λb z hb=>by
    obtain⟨_,f1,f2',_⟩:=f2 b z
    rcases mem_cons.mp (I2.stkSub b hb) with w | w
    ·exact f1 w
    ·exact f2' w
   funs:=I2.stack
   frf:=I2.stkFree }
 have un1:Un X'.fs X'.ex H2 (upd H2 s2.heap.objs.size (.lst [])) s2.heap h₁:=Un.laid old (Nat.le_refl _) hfr2
 have hok1:HOk X.prog X.w (upd H2 s2.heap.objs.size (.lst [])) h₁:=I2.hok.laid old (Nat.le_refl _) ⟨zero_le _,[],0,.nil,hacc⟩
 have nC:H2 HH.objs.size=none:=I2.hok.fresh hCle
 have I0:∀tk,Inv X' [] (compσ k fr σ) (upd H2 s2.heap.objs.size (.lst [])) { s2 with heap:=h₁,toks:=tk }:=λtk=>by
  have ex:X'.env=compEnvC scope (Ds fn X.env) HH.objs.size X.env:=by subst hX;rfl
  refine⟨ok,by subst hX;rfl,I2.bare,by subst hX;exact un1,?_,?_,?_,?_,?_,by subst hX;exact hok1,?_⟩
  ·obtain⟨m,hn,hl⟩:=I2.loc
   refine⟨_,by rw[ex];exact hns₁,λi x v e1 e2 e3=>?_⟩
   have e1':N'[i]? = some x:=by subst hX;exact e1
   have hik:k<=i:=by
    rcases Nat.lt_or_ge i k with z | z
    ·unfold compσ at e2
     rw[getElem?_append_left (by rw[length_replicate];exact z),getElem?_replicate,if_pos z] at e2
     cases e2
    ·exact z
   obtain⟨j,rfl⟩:=Nat.exists_eq_add_of_le hik
   have e2':(fr.map λi=>(σ[i]?).join)[j]? = some (some v):=by
    unfold compσ at e2
    rw[getElem?_append_right (by rw[length_replicate];omega),length_replicate] at e2
    simpa using e2
   rw[getElem?_map] at e2'
   cases ef:fr[j]? with
   | none=>rw[ef] at e2';cases e2'
   | some i0 =>
    rw[ef] at e2'
    have e4:(σ[i0]?).join=some v:=Option.some.inj e2'
    obtain⟨a1,a2,a3,a4⟩:=hfr j x e1' i0 ef
    have e5:σ[i0]? = some (some v):=by
     cases z:σ[i0]? with
     | none=>rw[z] at e4;cases e4
     | some o=>rw[z] at e4;have:o=some v:=e4;rw[this]
    obtain⟨u,ru,l⟩:=hl i0 x v a1 e5 (.inr (.inl a2))
    refine⟨u,ru,.inr ⟨.inl (by rw[ex,kd0];exact a3),?_⟩⟩
    rcases l with ⟨lk,_⟩ | ⟨_,c,lc,lcell⟩
    ·rw[a2] at lk;cases lk
    ·refine⟨c,by rw[ex];show (Ds fn X.env).lookup x=some c;rw[Ou a4,lc];rfl,?_⟩
     obtain⟨o,ho,hd⟩:=lcell
     exact⟨o,old c o ho,hd⟩
  ·intro x c e
   rw[ex] at e
   obtain⟨v,o,ho,hd⟩:=I2.cell x c (hcl x c e)
   exact⟨v,o,old c o ho,hd⟩
  ·rw[ex]
   show (upd H2 s2.heap.objs.size (.lst [])) HH.objs.size=none
   rw[Bj hDC.symm];exact nC
  ·intro x c e
   rw[ex] at e
   rw[Bj (ne_of_lt (cLt x c e))]
   exact I2.freeC x c (hcl x c e)
  ·intro p hp
   subst hX
   exact absurd (show p∈([]:List (Addr×Obj)) from hp) (by simp)
  ·rw[compσ_len];subst hX;exact hN.symm
 have fpOk:∀{H':Hp} {pins':List (Addr×Obj)},(∀b∈fp,H' b=none)->pins'=[]->∀b∈fp,Qk X' pins' H' b:=λ{H' pins'} hn e b hb=>by
  subst e
  obtain⟨_,f1,f2',f3,f4,f5⟩:=f2 b hb
  subst hX
  refine⟨hn b hb,ne_of_lt (Nat.lt_of_lt_of_le (fpLt b hb) hCle),λz=>?_,.inl hb,λx c e=>f4 x c (hcl x c e),λp hp=>absurd (show p∈([]:List (Addr×Obj)) from hp) (by simp)⟩
  rcases mem_cons.mp (I2.stkSub b z) with w | w
  ·exact f1 w
  ·exact f2' w
 have eqP:X'.prog=X.prog/\X'.w=X.w/\X'.K=X.K/\X'.calm=true/\X'.A=X.A/\X'.env=compEnvC scope (Ds fn X.env) HH.objs.size X.env/\X'.N=N':=by subst hX;exact⟨rfl,rfl,rfl,hc,rfl,rfl,rfl⟩
 obtain⟨eP,eW,eK,eC,eA,eE,eN⟩:=eqP
 have hg':PG X' tg g:=by subst hX;exact hg _ _ _ _
 have ht':Tw X' ifs tc:=by subst hX;exact ht _ _ _ _
 have he':PE X' elt te:=by subst hX;exact he _ _ _ _
 have eX:X'.xe=λ_ _=>False:=by subst hX;rfl
 have loop:∀s₃:Shared,s₃={ s2 with heap:=h₁,toks:=s2.toks+([]:List (Str×Value)).length } ->
   codeAny (model X.prog X.w) X.A (.compLoop (.ListComp elt [⟨tg,iter,ifs,0⟩] scope pos) 0 (.ref it) (.ref s2.heap.objs.size) (compEnvC scope (Ds fn X.env) HH.objs.size X.env))
    (compPost (model X.prog X.w) X.A X.xe use Qc (.ref s2.heap.objs.size) HH.objs.size) s₃:=by
  rintro s₃ rfl
  refine Xo (λn s'=>∃i H',Inv X' [] (compσ k fr σ) H' s'/\tn i s'.heap/\(∀b∈fp,H' b=none)/\W i n H') ?_ m0 ⟨0,_,I0 _,hst₁,λb hb=>by rw[Bj (ne_of_lt (fpLt b hb))];exact (f2 b hb).1,w0⟩
  rintro n s3 ⟨i,H3,I3,st3,fr3,w3⟩
  rcases turn i n H3 w3 with ⟨stop,qn⟩ | ⟨go,step⟩
  ·have d:=T.done X' eP eW eK eC i [] s3 (compσ k fr σ) H3 (λ_ _=>False) I3 (fpOk fr3 rfl) st3 stop
   rw[eA] at d
   refine thn d λr s4 ⟨hr,I4⟩=>?_
   subst hr
   obtain⟨m,hn,_⟩:=I4.loc
   rw[eE] at hn
   have u4:Un (frs X.stack) fp H2 H3 s2.heap s4.heap:=by have:=I4.base;subst hX;exact this
   have nC3:H3 HH.objs.size=none:=by have:=I4.free;rw[eE] at this;exact this
   have hok5:HOk X.prog X.w H3 s4.heap:=λb u e=>by
    have z:=I4.hok b u e
    rw[eP,eW] at z
    exact z
   have os4:s4.os=s2.os:=by have:=I4.os;subst hX;exact this
   obtain⟨hh,gg,dd,tt,oo⟩:=s4
   obtain rfl:oo=s2.os:=os4
   have Ix:Inv X pins σ H3 ⟨hh,gg,dd,tt,s2.os⟩:=Inv.call (s:=s2) I2 (h':=hh) (g':=gg) (d':=dd) (t':=tt) (ch:=fp) u4 hok5 I4.bare λb hb=>by
    obtain⟨_,f1,_,f3,f4,f5⟩:=f2 b hb
    exact⟨f3,f1,f4,f5⟩
   refine fin H3 _ _ _ m hn Ix nC3 (Nat.le_trans I2.sz hCle) ?_ (λx c e=>?_) (λp hp=>?_) qn
   ·obtain⟨_,⟨o,_,_,ho,_⟩,_⟩:=I2.loc
    exact (below _ (lt_size ho)).symm
   ·obtain⟨v,z⟩:=I2.cell x c e
    exact below _ z.lt
   ·exact below _ (lt_size (I2.pin p hp).1)
  ·have d:=T.item X' eP eW eK eC i [] s3 (compσ k fr σ) H3 (λ_ _=>False) I3 (fpOk fr3 rfl) st3 go
   rw[eA] at d
   refine thn d λr s4 ⟨u,hr,h4⟩=>?_
   subst hr
   refine thn h4 λ_ s5 ⟨x,H5,I5,r5,y5,st5,fr5⟩=>?_
   have I5':=I5.pinned (fpOk fr5 rfl) (T.obj _ _ st5)
   have a1:=hg' _ s5 (compσ k fr σ) H5 x u _ I5' r5 (step x H5 y5)
   rw[eP,eW,eA,eE,eX] at a1
   refine thn a1 λ_ s6 ⟨σ6,H6,I6,q6a,q6⟩=>?_
   have a2:=ht' _ s6 σ6 H6 _ I6 q6
   rw[eP,eW,eA,eE,eX] at a2
   refine thn a2 λb s7 ⟨H7,I7,q7⟩=>?_
   have again:∀{H8:Hp} {s8:Shared},Inv X' ([]++Nz fp s5.heap) σ6 H8 s8->(∃m',m'<n/\W (i+1) m' H8)->∃m,m<n/\∃i H',Inv X' [] (compσ k fr σ) H' s8/\tn i s8.heap/\(∀b∈fp,H' b=none)/\W i m H':=λ{H8 s8} I8 ⟨m',hm,w8⟩=>by
    refine⟨m',hm,i+1,H8,I8.unpinned.weak ?_ (compσ_weak q6a),T.keep _ _ _ st5 λb hb o e=>(I8.pin (b,o) (mem_append_right _ (mem_append_right _ (Gr hb e)))).1,λb hb=>?_,w8⟩
    ·rw[compσ_len,I8.len,eN,hN]
    ·obtain⟨o,e,_⟩:=T.obj _ _ st5 b hb
     exact (I8.pin (b,o) (mem_append_right _ (mem_append_right _ (Gr hb e)))).2.1
   cases b with
   | false =>
    rw[if_neg Bool.false_ne_true] at q7 ⊢
    exact again I7 q7
   | true =>
    rw[if_pos rfl] at q7 ⊢
    have a3:=he' _ s7 σ6 H7 _ I7 q7
    rw[eP,eW,eA,eE,eX] at a3
    refine thn a3 λyv s8 ⟨y,H8,I8,r8,ys,hD,hz,q8⟩=>?_
    have a4:=Se (X:=X') _ s8 σ6 H8 (.ref s2.heap.objs.size) [y] (.ref s2.heap.objs.size) [yv] (λ_ H9=>∃m',m'<n/\W (i+1) m' H9) I8 rfl (.cons r8 .nil) ⟨_,ys,y,rfl,rfl,hD,hz,q8⟩
    rw[eP,eW,eA,eX] at a4
    exact thn a4 λ_ s9 ⟨_,H9,I9,_,q9⟩=>again I9 q9
 exact codeAny_compStart_list (loop _ rfl) (T.self _ 0 _ _ _ hst₁ (loop _ rfl))
theorem Ac1{X:Cx}{elt tg iter:Expr}{ifs:List Expr}{scope:Scope}{pos px spos:Pos}{i:Nat}{x:Str}{wi:TI}{g:TG}{tc:TT}{te:TE}{k:Nat}{fr:List Nat}{N' fn:List Str}(hc:X.calm=true)
  (hi:PI X tg iter wi) (hN:N'.length=k+fr.length)
  (hfr:∀j y,N'[k+j]? = some y->∀i,fr[j]? = some i->X.N[i]? = some y/\X.env.kindOf y=some .cell/\(compEnvC scope (Ds fn X.env) 0 X.env).kindOf y=some .cell/\y∈fn)
  (hfn:∀y∈fn,X.env.kindOf y=some .cell)
  (hkd:∀y,((compEnvC scope (Ds fn X.env) 0 X.env).kindOf y=some .cell\/(compEnvC scope (Ds fn X.env) 0 X.env).kindOf y=some .free)->y∈fn)
  (hg:∀C fp s H,PG (Fd X scope N' fn C fp s H) tg g) (ht:∀C fp s H,Tw (Fd X scope N' fn C fp s H) ifs tc) (he:∀C fp s H,PE (Fd X scope N' fn C fp s H) elt te)
  (hclos:closureFor scope X.env=pure (Ds fn X.env)) (hcell:∀y∈scope.names,y.2≠.cell) (hkind:scope.kind=.function) (hnames:∀y∈scope.names,y.2=.local->scope.names.lookup y.1=some .local)
  (hs:∀x,foldedSetIterable iter X.env x=pure x:=by intro _;rfl) (hNd:X.N.Nodup) (hix:X.N[i]? = some x) (hx:Loc X.env.scope x) (hsw:swapsWith (.ListComp elt [⟨tg,iter,ifs,0⟩] scope pos) (some (.Name x px)) spos.line X.env=pure true)
  (hf:X.fn x=true\/X.env.scope.names.lookup x=some .local:=by first | exact .inl rfl | exact .inr rfl | assumption):PS X (.Assign [.Name x px] (.ListComp elt [⟨tg,iter,ifs,0⟩] scope pos) spos) (Jt (Oo wi g tc te k fr) (Gd i)):=by
 intro pins s σ H D I h
 rw[exec_Assign_Name_used _ _ _ _ hsw]
 refine wpAny_bind (wpAny_standAt (wpAny_bind ?_))
 show wpAny _ X.A (do let _ <- comprehension (.ListComp elt [⟨tg,iter,ifs,0⟩] scope pos) scope X.env _ (newList []) false (eval iter X.env) (some (assign (.Name x px) X.env))) _ _ s
 refine wpAny_bind (wpAny_mono (Xp (use:=some (assign (.Name x px) X.env)) (Qc:=λ_ s'=>SP X pins D .next s') hc hi hN hfr hfn hkd hg ht he hclos hcell hkind hnames hs I h λH3 s4 D' C m hn Ix hC h1 h2 h3 h4 q=>?_) (λ_ s' hq=>wpAny_pure (wpAny_pure hq)) λ_ _ e=>e)
 show wpAny _ X.A (assign (.Name x px) X.env (.ref D')) _ _ _
 refine wpAny_assign_Name (Sf Ix hNd hix hx (v:=.ref D') rfl (λs' I' ⟨a,sb,ha⟩=>?_) hf)
 have nCa:C≠a:=by
  rcases ha with w | w
  ·rw[w];exact h2
  ·exact (h3 _ _ w).symm
 exact⟨m,hn.sameBut sb nCa,λh' sb'=>⟨_,H3,Inv.nsch I' sb' hC h1 h2 h3 h4,q⟩⟩
theorem Ci{X:Cx}{scope:Scope}{N' fn:List Str}{C:Addr}{fp:List Addr}{s:Shared}{H:Hp}:(Fd X scope N' fn C fp s H).K=X.K:=rfl
theorem Um{X:Cx}{pos:Pos}{K':Frag}(hK:X.K=K'){es:List Expr}{k:Nat}{t:TGs}{n:Nat}(hc:X.calm=true)(h:PGs X es t)
  (hn:(assignEach es X.env).length=n:=by rfl) (hst:(assignEach es X.env).findIdx? (·.1)=none:=by rfl):PG X (.Tuple es k pos) (Sy K' n t):=by
 subst hK
 exact Jj hc h hn hst
theorem Os:∀{l:List (Str×NameKind)} {y:Str} {k:NameKind},l.lookup y=some k->(y,k)∈l
 | [],_,_,h=>by cases h
 | (x,j)::r,y,k,h=>by
  rw[lookup_cons] at h
  cases e:y==x with
  | true =>
   rw[e] at h
   cases h
   rw[eq_of_beq e];exact mem_cons_self
  | false =>
   rw[e] at h
   exact mem_cons_of_mem _ (Os h)
theorem Ts{X:Cx}{elt tg iter:Expr}{ifs:List Expr}{scope:Scope}{pos px spos:Pos}{i:Nat}{x:Str}{wi:TI}{g:TG}{tc:TT}{te:TE}(k:Nat)(N':List Str)(hN:N'.length=k)(hc:X.calm=true)
  (hi:PI X tg iter wi)
  (hg:∀C fp s H,PG (Fd X scope N' [] C fp s H) tg g) (ht:∀C fp s H,Tw (Fd X scope N' [] C fp s H) ifs tc) (he:∀C fp s H,PE (Fd X scope N' [] C fp s H) elt te)
  (hfree:∀y∈scope.names,y.2≠.free) (hcell:∀y∈scope.names,y.2≠.cell) (hkind:scope.kind=.function) (hnames:∀y∈scope.names,y.2=.local->scope.names.lookup y.1=some .local)
  (hs:∀x,foldedSetIterable iter X.env x=pure x:=by intro _;rfl) (hNd:X.N.Nodup) (hix:X.N[i]? = some x) (hx:Loc X.env.scope x) (hsw:swapsWith (.ListComp elt [⟨tg,iter,ifs,0⟩] scope pos) (some (.Name x px)) spos.line X.env=pure true)
  (hf:X.fn x=true\/X.env.scope.names.lookup x=some .local:=by first | exact .inl rfl | exact .inr rfl | assumption):PS X (.Assign [.Name x px] (.ListComp elt [⟨tg,iter,ifs,0⟩] scope pos) spos) (Jt (Oo wi g tc te k []) (Gd i)):=by
 refine Ac1 (fn:=[]) (fr:=[]) (k:=k) hc hi hN (λj y _ i e=>by simp at e) (λy hy=>by cases hy) (λy h=>?_) hg ht he (PySem.closureFor_none hfree) hcell hkind hnames hs hNd hix hx hsw hf
 have e:∀k,(compEnvC scope (Ds [] X.env) 0 X.env).kindOf y=some k->∃p∈scope.names,p.2=.free\/p.2=k:=by
  intro k h
  have m:=Os (show (relabel scope X.env).names.lookup y=some k from h)
  obtain⟨p,hp,ep⟩:=mem_map.mp (show (y,k)∈scope.names.map _ from m)
  obtain⟨n,kd⟩:=p
  refine⟨(n,kd),hp,?_⟩
  dsimp only at ep
  split at ep
  ·rename_i c
   simp only [and_eq_true,beq_iff_eq] at c
   exact .inl c.1.1
  ·exact .inr (Prod.mk.inj ep).2
 rcases h with h | h
 ·obtain⟨p,hp,z⟩:=e _ h
  rcases z with z | z
  ·exact (hfree p hp z).elim
  ·exact (hcell p hp z).elim
 ·obtain⟨p,hp,z⟩:=e _ h
  rcases z with z | z
  ·exact (hfree p hp z).elim
  ·exact (hfree p hp z).elim
theorem Yj{K:Frag}{σ:St}{H:Hp}{Q:VK}{D a:Addr}{xs:List V}{g:TG}{tc:TT}{te:TE}{k:Nat}{fr:List Nat}(Pv:Nat->Hp->Prop)
  (h0:Pv 0 H) (hl:∀i H',i<=xs.length->Pv i H'->SqL K H' a xs)
  (hs:∀i x H' (N:Hp->Prop),xs[i]? = some x->Pv i H'->(∀H'',Pv (i+1) H''->N H'')->g x (compσ k fr σ) H' λσ2 H2=>σ2.drop k=(compσ k fr σ).drop k/\tc σ2 H2 λb H3 =>
   if b=true then te σ2 H3 (λy H4=>∃ys,H4 D=some (.lst ys)/\ys.length<sizeLine/\N (upd H4 D (.lst (ys++[y])))) else N H3)
  (hd:∀H',Pv xs.length H'->Q (.ref D) H') :
  ∃W:Nat->Nat->Hp->Prop,(∃m,W 0 m H)/\∀i m H,W i m H->((Itl K a).stop i H/\Q (.ref D) H)\/((Itl K a).go i H/\∀x H',(Itl K a).yld i H x H'->g x (compσ k fr σ) H' λσ2 H2 =>
  σ2.drop k=(compσ k fr σ).drop k/\tc σ2 H2 λb H3=>if b=true then te σ2 H3 (λy H4=>∃ys,H4 D=some (.lst ys)/\ys.length<sizeLine/\∃m',m'<m/\W (i+1) m' (upd H4 D (.lst (ys++[y])))) else ∃m',m'<m/\W (i+1) m' H3):=by
 refine⟨λi m H=>m=xs.length - i/\i<=xs.length/\Pv i H,⟨xs.length,by simp,zero_le _,h0⟩,?_⟩
 rintro i m H' ⟨rfl,hi,p⟩
 have q:=hl i H' hi p
 by_cases hlt:i<xs.length
 ·refine .inr ⟨⟨xs,xs[i],q,by simp [hlt]⟩,λx H'' y=>?_⟩
  obtain⟨e,y⟩:=y
  subst e
  exact hs i x _ (λH''=>∃m',m'<xs.length - i/\m'=xs.length - (i+1)/\i+1<=xs.length/\Pv (i+1) H'') (y xs q) p λH'' p'=>⟨_,by omega,rfl,hlt,p'⟩
 ·have e:i=xs.length:=by omega
  subst e
  exact .inl ⟨⟨xs,q,Nat.le_refl _⟩,hd H' p⟩
section
variable {X:Cx}{K':Frag}
theorem Gv(K':Frag)(h:X.K=K':=by rfl):IxR X (Xg K'):=by subst h;exact Yw
theorem Bw(K':Frag)(h:X.K=K':=by rfl):IxR X (Xd K'):=by subst h;exact AdD
theorem AdR(K':Frag)(hu:X.A.units+64<cLine)(h:X.K=K':=by rfl):OpR X (compareOp .Eq) (AaY K' false):=by subst h;exact Ae7 hu
theorem Dl(K':Frag)(h:X.K=K':=by rfl):Gc X (.builtin "len") (λxs H Q=>∃p ys,xs=[.ref p]/\(SqL K' H p ys\/SqT K' H p ys)/\Q (.int ys.length) H):=by subst h;exact Np
end
theorem Same.laid{H:Hp}{p:Addr}{o:HO}(h:H p=none):Same H (upd H p o):=λq u e=>by rw[Bj (by intro z;subst z;rw[h] at e;cases e)];exact e
def Chg(a:Addr)(H H':Hp):Prop:=∀q o,H q=some o->q≠a->H' q=some o
theorem Chg.put{H:Hp}{a:Addr}{o:HO}:Chg a H (upd H a o):=λq u e n=>by rw[Bj n];exact e
theorem Same.chg{a:Addr}{H H1 H2:Hp}(x:Same H H1)(y:Chg a H1 H2)(f:H a=none):Same H H2:=λq o h=>y q o (x q o h) (by intro z;subst z;rw[f] at h;cases h)
section
variable {X:Cx}{es:List Expr}{t:TA}{pos:Pos}
def Ab4(t:TA):TE:=λσ H Q=>t σ H λxs H1=>xs.length<=sizeLine/\∀p H2,H1 p=none->Same H1 H2->H2 p=some (.tup xs)->Q (.ref p) H2
def Acu(t:TA):TE:=λσ H Q=>t σ H λxs H1=>xs.length<=sizeLine/\∀p H2,H1 p=none->Same H1 H2->H2 p=some (.lst xs)->Q (.ref p) H2
theorem By{x1}(h:PA X es t):PE X (.Tuple es x1 pos) (Ab4 t):=by
 intro pins s σ H Q I hq
 refine wpAny_Tuple_spliced (thn (h pos pins s σ H _ I hq) λus s1 ⟨xs,H1,I1,r,z,q⟩=>⟨by rw[<- r.length];exact z,?_⟩)
 have hf:H1 s1.heap.objs.size=none:=I1.hok.fresh (Nat.le_refl _)
 refine⟨.ref s1.heap.objs.size,upd H1 s1.heap.objs.size (.tup xs),I1.laid (t':=s1.toks) (λb u e=>get?_push_of_some _ e) (Nat.le_refl _) ?_,rfl,q _ _ hf (Same.laid hf) Bn⟩
 exact⟨z,us,r,⟨_,get?_push_size _ rfl,rfl,_,rfl⟩⟩
theorem Cr(h:PA X es t):PE X (.List es pos) (Acu t):=by
 intro pins s σ H Q I hq
 refine wpAny_List_spliced (thn (h pos pins s σ H _ I hq) λus s1 ⟨xs,H1,I1,r,z,q⟩=>⟨by rw[<- r.length];exact z,?_⟩)
 have hf:H1 s1.heap.objs.size=none:=I1.hok.fresh (Nat.le_refl _)
 refine⟨.ref s1.heap.objs.size,upd H1 s1.heap.objs.size (.lst xs),I1.laid (t':=s1.toks) (λb u e=>get?_push_of_some _ e) (Nat.le_refl _) ?_,rfl,q _ _ hf (Same.laid hf) Bn⟩
 exact⟨z,us,0,r,get?_push_size _ rfl⟩
def AcK:R2:=λx y H Q=>∃l b xs zs,x=.ref l/\y=.ref b/\H l=some (.lst xs)/\H b=some (.lst zs)/\xs.length+zs.length<=sizeLine/\∀p H',H p=none->Same H H'->H' p=some (.lst (xs++zs))->Q (.ref p) H'
theorem Gg:OpR X (binaryOp .Add) AcK:=λpins s σ H x y v u Q I r1 r2 ⟨l,b,xs,zs,e1,e2,h1,h2,hz,q⟩=>AeE pins s σ H x y v u Q I r1 r2 ⟨l,b,xs,zs,e1,e2,h1,h2,hz,λp hp=>q p _ hp (Same.laid hp) Bn⟩
def Tp:V->List V->Hp->VK->Prop:=λx vs H Q=>∃l xs y,x=.ref l/\vs=[y]/\H l=some (.lst xs)/\xs.length<sizeLine/\∀H',Chg l H H'->H' l=some (.lst (xs++[y]))->Q .non H'
theorem Ct:MtR X "list.append" Tp:=λpins s σ H x vs v us Q I rx rv ⟨l,xs,y,e1,e2,h1,hz,q⟩=>Se pins s σ H x vs v us Q I rx rv ⟨l,xs,y,e1,e2,h1,hz,q _ Chg.put Bn⟩
variable {K':Frag}
theorem Nb(K':Frag)(h:X.K=K':=by rfl):Gc X (.type "list") (λxs H Q=>∃p ys,xs=[.ref p]/\(SqL K' H p ys\/SqT K' H p ys)/\∀l H',H l=none->Same H H'->H' l=some (.lst ys)->Q (.ref l) H'):=by
 subst h
 exact λpins s σ H xs us Q I r ⟨p,ys,e,hx,q⟩=>Tt pins s σ H xs us Q I r ⟨p,ys,e,hx,λl hl=>q l _ hl (Same.laid hl) Bn⟩
end
section
variable {σ:St}{H:Hp}{Q:VK}{K:Frag}
end
def CP(J:It)(D:Addr)(g:TG)(tc:TT)(te:TE)(k:Nat)(fr:List Nat)(σ:St)(H1:Hp)(Q:VK):Prop :=
 ∃W:Nat->Nat->Hp->Prop,(∃m,W 0 m H1)/\∀i m H,W i m H->(J.stop i H/\Q (.ref D) H)\/(J.go i H/\∀x H',J.yld i H x H'->g x (compσ k fr σ) H' λσ2 H2 =>
  σ2.drop k=(compσ k fr σ).drop k/\tc σ2 H2 λb H3=>if b=true then te σ2 H3 (λy H4=>∃ys,H4 D=some (.lst ys)/\ys.length<sizeLine/\∃m',m'<m/\W (i+1) m' (upd H4 D (.lst (ys++[y])))) else ∃m',m'<m/\W (i+1) m' H3)
theorem Up{σ:St}{H:Hp}{Q:VK}{wi:TI}{g:TG}{tc:TT}{te:TE}{k:Nat}{fr:List Nat}(q:wi σ H λJ H1=>∀D,H1 D=none->CP J D g tc te k fr σ (upd H1 D (.lst [])) Q):Oo wi g tc te k fr σ H Q:=q
theorem CP.list{K:Frag}{σ:St}{H:Hp}{Q:VK}{D a:Addr}{g:TG}{tc:TT}{te:TE}{k:Nat}{fr:List Nat}(xs:List V)(Pv:Nat->Hp->Prop)
  (h0:Pv 0 H) (hl:∀i H',i<=xs.length->Pv i H'->SqL K H' a xs)
  (hs:∀i x H' (N:Hp->Prop),xs[i]? = some x->Pv i H'->(∀H'',Pv (i+1) H''->N H'')->g x (compσ k fr σ) H' λσ2 H2=>σ2.drop k=(compσ k fr σ).drop k/\tc σ2 H2 λb H3 =>
   if b=true then te σ2 H3 (λy H4=>∃ys,H4 D=some (.lst ys)/\ys.length<sizeLine/\N (upd H4 D (.lst (ys++[y])))) else N H3)
  (hd:∀H',Pv xs.length H'->Q (.ref D) H'):CP (Itl K a) D g tc te k fr σ H Q:=Yj Pv h0 hl hs hd
section
variable {X:Cx}
end
section
variable {X:Cx}
def Sv:V->List V->Hp->VK->Prop:=λx vs H Q=>∃l xs,∃k:Nat,∃y,x=.ref l/\vs=[.int (k:Int),y]/\k<=xs.length/\H l=some (.lst xs)/\xs.length<1000/\∀H',Chg l H H'->H' l=some (.lst (xs.take k++y::xs.drop k))->Q .non H'
theorem Wg:MtR X "list.insert" Sv:=by
 intro pins s σ H x vs v us Q I rx rv h
 obtain⟨l,xs,k,y,rfl,rfl,hk,hH,hz,q⟩:=h
 cases rx
 obtain⟨u,us',rfl,ru,rv'⟩:∃u us',us=u::us'/\RelV (.int (k:Int)) u/\Vals [y] us':=by
  cases rv with
  | cons a b=>exact⟨_,_,rfl,a,b⟩
 obtain⟨yv,rfl,ry⟩:=rv'.one
 obtain⟨t,rfl⟩:=ru
 obtain⟨z,its,n,r,hl,e⟩:=I.lstM hH
 have hk2:k<=its.length:=by rw[<- hl];exact hk
 have hz2:its.length<sizeLine:=by rw[<- hl];exact Fx (by omega)
 have hf:Builtin.List.listFitsIndex (k:Int)=true:=by
  unfold Builtin.List.listFitsIndex
  simp only [and_eq_true,decide_eq_true_eq]
  omega
 have hf':¬(!Builtin.List.listFitsIndex (k:Int))=true:=λw=>by rw[hf] at w;cases w
 have hs':its.toArray.size<=sizeLine:=by rw[size_toArray];exact Nat.le_of_lt hz2
 generalize ek:(k:Int)=kk at hf'
 have M0:=λ(a:¬(!Builtin.List.listFitsIndex kk)=true)=>PySem.AutoSeq1.list_insert_list_int_val_1 l its.toArray n kk t yv a
 have M1:=M0 hf'
 have M:=M1 hs'
 refine call_meets F.slot_list_insert ⟨_,e,rfl⟩ F.entry_list_insert (F.args_list_insert_3 _ _ _) M ⟨e,?_⟩
 refine⟨.non,_,I.lset (its':=its.take k++yv::its.drop k) hH e ?_ (Vals.append (r.take _) (.cons ry (r.drop _))) ?_,rfl,q _ Chg.put Bn⟩
 ·show (its.toArray.extract 0 (if kk<0 then (kk+((its.toArray.size:Nat):Int)).toNat else min kk.toNat its.toArray.size)).push yv++its.toArray.extract (if kk<0 then (kk+((its.toArray.size:Nat):Int)).toNat else min kk.toNat its.toArray.size)=_
  have ek2:kk.toNat=k:=by omega
  rw[if_neg (by omega),size_toArray,ek2,Nat.min_eq_left hk2]
  apply Array.toList_inj.mp
  simp
  exact List.take_of_length_le (by simp)
 ·simp [length_take,length_drop]
  have:=Fx (n:=xs.length) (by omega)
  omega
end
structure Lft(fs xs:List Addr)(h h':Heap):Prop where
 keep:∀b o,h.get? b=some o->b∉xs->b∉fs->h'.get? b=some o
 slot:∀b o,h.get? b=some o->b∉xs->∃sl,h'.get? b=some { o with slots:=sl }
def Trk(T e:Addr)(cls:Value)(h:Heap):Prop :=
 ∃oe vs oT ts,h.get? e=some oe/\oe.cls=cls/\oe.dict=none/\oe.data=.fields vs/\vs[1]? = some (.ref T)/\T≠e/\h.get? T=some oT/\oT.data=.fields ts/\ts[3]? = some .none
theorem Obj.dict_mapFields(f:Array Value->Array Value)(o:Obj):(o.mapFields f).dict=o.dict:=by
 unfold Obj.mapFields
 split <;> rfl
section
variable {M:Model}{A:Around}{E:Value->Shared->Prop}{s:Shared}{base:Heap}{env:Env}{outer:List Env}{L e:Addr}{Q:Unit->Shared->Prop}
theorem Rg{oe:Obj}{vs:Array Value}{hd0:Value}{nx:Bool}(ha:A.frames=some (env::outer))(ff:s.heap.FunFrames base (env::outer))(hL:env.frame=some L)(ge:s.heap.get? e=some oe)(dn:oe.dict=none)(de:oe.data=.fields vs)(n1:1<vs.size)
  (q:∀h' T,s.heap.objs.size<=T->Lft (frs (env::outer)) [e] s.heap h'->Trk T e oe.cls h'->Q () { s with heap:=h' }) :
  wpAny M A (do let a <- frameOf env;let pl <- entryPlaceOf L nx;let b <- EntryCells.newEntry hd0 a .none (rawInt L) .none pl;setField (.ref e) 1 b) (λ_ s'=>wpAny M A (setFlight (.ref e) none) Q E s') E s:=by
 have out:e∉frs (env::outer):=λz=>by
  obtain⟨_,o,go,nf⟩:=ff.mem z
  rw[ge] at go
  cases go
  exact nf vs de
 refine wpAny_bind (wpAny_frameOf_fun ha ff hL λk sk=>?_)
 refine wpAny_bind (wpAny_entryPlaceOf λpl ip=>?_)
 unfold EntryCells.newEntry;unfold newFields
 refine wpAny_bind (wpAny_newObj_type ?_ (ip.sizeOk5 _ _ _ _ _))
 have gk:k.get? e=some oe:=(sk.2.1 e out).trans ge
 generalize hob:({ cls:=.type "traceback",dict:=none,data:=.fields ([hd0,.ref L,.none,rawInt L,.none]++(if pl.isEmpty then replicate 6 Value.none else pl)).toArray }:Obj)=ob
 have dob:ob.data=.fields ([hd0,.ref L,.none,rawInt L,.none]++(if pl.isEmpty then replicate 6 Value.none else pl)).toArray:=by rw[<- hob]
 have g2:=get?_push_of_some (h:=k) ob gk
 refine wpAny_setField g2 de n1 ?_
 have nTe:k.objs.size≠e:=Nat.ne_of_gt (lt_size gk)
 have d3:=Obj.data_mapFields de (·.setIfInBounds 1 (Value.ref k.objs.size))
 have g3:=Heap.get?_update_self (Obj.mapFields (·.setIfInBounds 1 (Value.ref k.objs.size))) g2 (Obj.isFreed_of_fields d3)
 have t2:(k.push ob).get? k.objs.size=some ob:=get?_push_size k (by rw[<- hob];rfl)
 have t3:=(Heap.get?_update_other (k.push ob) (Obj.mapFields (·.setIfInBounds 1 (Value.ref k.objs.size))) nTe.symm).trans t2
 unfold setFlight
 refine wpAny_bind (wpAny_field g3 d3 (x:=.ref k.objs.size) (by simp [n1]) ?_)
 rw[if_pos (by simp)]
 have n3:3<([hd0,.ref L,.none,rawInt L,.none]++(if pl.isEmpty then replicate 6 Value.none else pl)).toArray.size:=by simp only [size_toArray,length_append,length_cons,length_nil];omega
 refine wpAny_setField t3 dob n3 (q _ k.objs.size ?_ ⟨λb o gb nb fb=>?_,λb o gb nb=>?_⟩ ?_)
 ·exact Nat.le_of_eq sk.1.symm
 ·have gb':k.get? b=some o:=(sk.2.1 b fb).trans gb
  rw[Heap.get?_update_other _ _ (Nat.ne_of_gt (lt_size gb')),Heap.get?_update_other _ _ (λz=>nb (by rw[z];exact mem_cons_self))]
  exact get?_push_of_some _ gb'
 ·obtain⟨sl,gb'⟩:=sk.2.2 b o gb
  refine⟨sl,?_⟩
  rw[Heap.get?_update_other _ _ (Nat.ne_of_gt (lt_size gb')),Heap.get?_update_other _ _ (λz=>nb (by rw[z];exact mem_cons_self))]
  exact get?_push_of_some _ gb'
 ·refine⟨_,_,_,_,(Heap.get?_update_other _ _ nTe).trans g3,Obj.cls_mapFields _ _,(Obj.dict_mapFields _ _).trans dn,d3,by simp [n1],nTe,Heap.get?_update_self _ t3 (Obj.isFreed_of_fields (Obj.data_mapFields dob _)),Obj.data_mapFields dob _,?_⟩
  simp
theorem Uh{oe:Obj}{vs:Array Value}(ha:A.frames=some (env::outer))(ff:s.heap.FunFrames base (env::outer))(hL:env.frame=some L)(ge:s.heap.get? e=some oe)(dn:oe.dict=none)(de:oe.data=.fields vs)(v1:vs[1]? = some .none)
  (q:∀h' T,s.heap.objs.size<=T->Lft (frs (env::outer)) [e] s.heap h'->Trk T e oe.cls h'->Q () { s with heap:=h' }):wpAny M A (noteFrame (.ref e) env) (λ_ s'=>wpAny M A (setFlight (.ref e) none) Q E s') E s:=by
 unfold noteFrame
 simp only [hL]
 refine wpAny_bind (wpAny_field ge de v1 ?_)
 rw[if_neg (by decide)]
 exact Rg ha ff hL ge dn de (Array.getElem?_eq_some_iff.mp v1).1 q
theorem Rh{T0:Addr}{cls:Value}(ha:A.frames=some (env::outer))(ff:s.heap.FunFrames base (env::outer))(hL:env.frame=some L)(tr:Trk T0 e cls s.heap)
  (q:∀h' T,s.heap.objs.size<=T->Lft (frs (env::outer)) [e,T0] s.heap h'->Trk T e cls h'->Q () { s with heap:=h' }):wpAny M A (noteFrame (.ref e) env) (λ_ s'=>wpAny M A (setFlight (.ref e) none) Q E s') E s:=by
 obtain⟨oe,vs,oT,ts,ge,rfl,dn,de,v1,nTe,gT,dT,t3⟩:=tr
 unfold noteFrame
 simp only [hL]
 refine wpAny_bind (wpAny_field ge de v1 ?_)
 rw[if_pos (by simp)]
 refine wpAny_bind (wpAny_field gT dT t3 ?_)
 rw[if_neg (by simp [rawInt])]
 refine wpAny_bind (wpAny_setField gT dT (Array.getElem?_eq_some_iff.mp t3).1 ?_)
 have oth:∀b,b≠T0->(s.heap.update T0 (Obj.mapFields (·.setIfInBounds 3 Value.none))).get? b=s.heap.get? b:=λb nb=>Heap.get?_update_other _ _ nb.symm
 have nrec:∀b o,s.heap.get? b=some o->(∀us,o.data≠.fields us)->b≠T0:=λb o gb nf z=>by
  rw[z,gT] at gb
  cases gb
  exact nf ts dT
 have sz:(s.heap.update T0 (Obj.mapFields (·.setIfInBounds 3 Value.none))).objs.size=s.heap.objs.size:=by simp [Heap.update]
 refine Rg (s:={ s with heap:=s.heap.update T0 (Obj.mapFields (·.setIfInBounds 3 Value.none)) }) ha (ff.of_keeps λb o gb nf=>⟨o,(oth b (nrec b o gb nf)).trans gb,rfl⟩) hL ((oth e nTe.symm).trans ge) dn de (Array.getElem?_eq_some_iff.mp v1).1 λh' T hT lf tk=>q h' T (by rw[<- sz];exact hT) ⟨λb o gb nb fb=>?_,λb o gb nb=>?_⟩ tk
 ·exact lf.keep b o ((oth b λz=>nb (by rw[z];exact mem_cons_of_mem _ mem_cons_self)).trans gb) (λz=>nb (by rw[mem_singleton.mp z];exact mem_cons_self)) fb
 ·exact lf.slot b o ((oth b λz=>nb (by rw[z];exact mem_cons_of_mem _ mem_cons_self)).trans gb) λz=>nb (by rw[mem_singleton.mp z];exact mem_cons_self)
end
section
variable {P:Program}{w:World}{H:Hp}{h h':Heap}{a:Addr}{o:HO}
theorem ObjOk.obj(x:ObjOk P w H h a o):∃ob,h.get? a=some ob:=by
 cases o with
 | lst xs=>obtain⟨_,_,_,_,e⟩:=x;exact⟨_,e⟩
 | tup xs=>obtain⟨_,_,_,_,e,_⟩:=x;exact⟨_,e⟩
 | dK kvs=>obtain⟨_,_,_,_,_,_,_,e,_⟩:=x;exact⟨_,e⟩
 | dT kvs=>obtain⟨_,_,_,_,_,_,_,e,_⟩:=x;exact⟨_,e⟩
 | set S n=>obtain⟨_,_,_,_,e,_⟩:=x;exact⟨_,e⟩
 | ins C dx fs=>obtain⟨_,_,_,e,_⟩:=x;exact⟨_,e⟩
 | own y=>obtain⟨_,e⟩:=x;exact⟨_,e⟩
 | xd fs=>obtain⟨_,⟨_,_,_,e,_⟩,_⟩:=x;exact⟨_,e⟩
 | rng lo hi=>obtain⟨_,_,_,e⟩:=x;exact⟨_,e⟩
 | frz ob u=>exact⟨_,x.1⟩
 | tbl ps=>exact⟨_,x⟩
 | met f y=>exact⟨_,x⟩
 | ext φ=>exact x.2.1
theorem HOk.none_of(x:HOk P w H h)(e:h.get? a=none):H a=none:=by
 cases q:H a with
 | none=>rfl
 | some u =>
  obtain⟨ob,z⟩:=(x a u q).obj
  rw[e] at z;cases z
end
def CX1(P:Program)(w:World):CXT:=λouter H s E e s'=>∃x T C H',e=.ref x/\Trk T x (.ref C) s'.heap/\s.heap.get? x=none/\s.heap.get? T=none/\H' x=none/\H' T=none /\
 s'.os=s.os/\AllBare s'.gens/\Un (frs outer) [] H H' s.heap s'.heap/\HOk P w H' s'.heap/\E (.ref C) none H'
section
variable {P:Program}{w:World}{K:Frag}{mg:Str->Option Value}{base:Heap}{N:List Str}{qual:Str}{scope:Scope}{f:Addr}{cd:Value}{A:Around}{outer:List Env}{s0:Shared}{H0:Hp}{E:XK}
theorem Aaw{pins:List (Addr×Obj)}{σ:St}{H:Hp}{s:Shared}{x T C:Addr}{xs:List Addr}{h':Heap}(I:Inv (Gh (CX1 P w) P w K mg base N qual scope f cd A outer s0 H0 E) pins σ H s)
  (lf:Lft (frs (envOfC qual scope s0.heap.objs.size f cd::outer)) xs s.heap h') (hxs:∀y∈xs,s0.heap.get? y=none/\H y=none) (hx:x∈xs) (tk:Trk T x (.ref C) h') (hT:s.heap.objs.size<=T) (hE:E (.ref C) none H) :
  CX1 P w outer H0 s0 E (.ref x) { s with heap:=h' }:=by
 have old:∀b o,s0.heap.get? b=some o->b∉xs:=λb o e z=>by rw[(hxs b z).1] at e;cases e
 have trk:∀b u,H b=some u->b∉xs:=λb u e z=>by rw[(hxs b z).2] at e;cases e
 have nfr:∀b o,s0.heap.get? b=some o->b∉frs outer->b∉frs (envOfC qual scope s0.heap.objs.size f cd::outer):=λb o e n z=>by
  rcases mem_cons.mp (I.stkSub b z) with q | q
  ·have:=lt_size e
   rw[q] at this
   exact Nat.lt_irrefl _ this
  ·exact n q
 have ne0:∀b:Addr,b∉([]:List Addr):=λb z=>by cases z
 refine⟨x,T,C,H,rfl,tk,(hxs x hx).1,Heap.get?_none_of_le (Nat.le_trans I.sz hT),(hxs x hx).2,I.hok.fresh hT,I.os,I.bare,⟨λb o e n nf _=>?_,λb o e n hf _=>?_,λb o e n z=>I.base.free b o e n z,λb o e _=>?_,I.base.tups,I.base.frzs,I.base.tbls⟩,λb u e=>?_,hE⟩
 ·exact lf.keep b o (I.base.keep b o e n nf (ne0 b)) (old b o e) (nfr b o e nf)
 ·obtain⟨sl,z⟩:=I.base.slot b o e n hf (ne0 b)
  obtain⟨sl',z'⟩:=lf.slot b _ z (old b o e)
  exact⟨sl',z'⟩
 ·obtain⟨o',z⟩:=I.base.there b o e (ne0 b)
  obtain⟨sl',z'⟩:=lf.slot b _ z (old b o e)
  exact⟨_,z'⟩
 ·refine (I.hok b u e).stay (λc v hc q'=>?_) (λ_ q'=>q') λ_ _ q'=>q'
  have hc':∃u',H c=some u':=by
   rcases hc with z | z
   ·exact⟨u,by rw[z];exact e⟩
   ·exact⟨_,z⟩
  obtain⟨u',hu⟩:=hc'
  exact lf.keep c v q' (trk c u' hu) λz=>by rw[I.stkFree c z] at hu;cases hu
theorem Bs:Lj (CX1 P w) (Gh (CX1 P w) P w K mg base N qual scope f cd A outer s0 H0 E) E:=by
 intro pins σ H s e s' I hc
 obtain⟨x,T,C,H',rfl,tk,gx,gT,nx,nT,os,bare,un,hok,hE⟩:=hc
 obtain⟨hh,g,d,t,os'⟩:=s'
 obtain rfl:os'=s.os:=os
 have I':=I.call (h':=hh) (g':=g) (d':=d) (t':=t) (ch:=[]) un hok bare (λb z=>absurd z (by simp))
 have old:∀y,s.heap.get? y=none->s0.heap.get? y=none:=λy e=>by
  cases q:s0.heap.get? y with
  | none=>rfl
  | some o =>
   obtain⟨o',z⟩:=I.base.there y o q (λz=>by cases z)
   rw[e] at z;cases z
 show wpAny _ _ (leaving (envOfC qual scope s0.heap.objs.size f cd) (.ref x)) _ _ _
 unfold leaving
 refine wpAny_bind (Rh (base:=base) (outer:=outer) (L:=s0.heap.objs.size) I'.ok.frames I'.stack rfl tk λh' T' hT' lf tk'=>?_)
 exact Aaw I' lf (λy hy=>by
  rcases mem_cons.mp hy with q | q
  ·rw[q];exact⟨old _ gx,nx⟩
  ·rw[mem_singleton.mp q];exact⟨old _ gT,nT⟩) mem_cons_self tk' hT' hE
end
theorem Tx{K:Frag}{h:Heap}{mg:Str->Option Value}{x:Str}{C:Addr}{bmB:List Value}{newId:String}(X:K.In h)(b:mg x=some (.ref C))(q:PySem.W.excIn K C bmB newId=true):OwnCls x C bmB newId mg h:=by
 refine⟨b,?_⟩
 unfold PySem.W.excIn at q
 split at q
 ·rename_i d1 c1 s1 l1
  split at q
  ·rename_i C2 m2 z0 z1 z2 z3 nw z5 e1 e2
   simp only [beq_iff_eq,and_eq_true,Bool.not_eq_true'] at q
   obtain⟨⟨⟨⟨⟨a1,a2⟩,a3⟩,a4⟩,a5⟩,a6⟩:=q
   subst a1 a2
   obtain⟨n1,b1,mr,nsp,qn,hd,sn,sub,ab,col,del⟩:=c1
   dsimp only at e1 a3 a5 a6
   subst e1 a3
   have es:s1 = #[z0,z1,z2,z3,some (.builtin nw),z5]:=by
    obtain⟨ls⟩:=s1
    dsimp only at e2
    rw[e2]
   subst es
   exact⟨m2,nsp,n1,qn,b1,hd,sn,sub,ab,col,d1,z0,z1,z2,z3,z5,_,X _ _ l1,.of_isNs (PySem.W.isNs_of_in X a5),PySem.W.nsMap_none_of_in X a5 a6,PySem.W.tail_of_in X a4⟩
  ·cases q
 ·cases q
def Aag(C:Addr)(E:XK)(t:TA):TS:=λ_ σ H=>t σ H λvs H1=>vs.length<=sizeLine/\E (.ref C) none H1
section
variable {P:Program}{w:World}{K:Frag}{mg:Str->Option Value}{base:Heap}{N:List Str}{qual:Str}{scope:Scope}{f:Addr}{cd:Value}{A:Around}{outer:List Env}{s0:Shared}{H0:Hp}{E:XK}
theorem Abz{x:Str}{C:Addr}{B newId initId:String}{bmB:List Value}{np cpos pos:Pos}{e:Expr}{es:List Expr}{t:TA}(FB:ExcBaseFacts B newId initId bmB)(q:PySem.W.excIn K C bmB newId=true)(hm:mg x=some (.ref C))(hh:A.handled=none)
  (hg:Gl (Gh (CX1 P w) P w K mg base N qual scope f cd A outer s0 H0 E) x) (ha:PA (Gh (CX1 P w) P w K mg base N qual scope f cd A outer s0 H0 E) (e::es) t)
  (hdb:(x==("__debug__" : Str))=false:=by decide)
  (he:starEach (e::es) (envOfC qual scope s0.heap.objs.size f cd)=(false,eval e (envOfC qual scope s0.heap.objs.size f cd))::starEach es (envOfC qual scope s0.heap.objs.size f cd):=by rfl)
  (hpl:(backTo cpos (starEach es (envOfC qual scope s0.heap.objs.size f cd))).any (·.1)=false:=by rfl) :
  PS (Gh (CX1 P w) P w K mg base N qual scope f cd A outer s0 H0 E) (.Raise (some (.Call (.Name x np) (e::es) [] cpos)) none pos) (Aag C E t):=by
 intro pins s σ H D I h
 have O:OwnCls x C bmB newId mg base:=Tx I.ok.mod.kin hm q
 obtain⟨tl,N',nm,qn,bs,hdct,sn,sub,ab,col,dd,k0,k1,k2,k3,k5,mN,hC,hN,hni,T⟩:=O.obj
 refine wpAny_Raise_call_subT (C:=C) (nm:=nm) (q:=qn) (N:=N') (bs:=bs) (bm:=tl) (hdct:=hdct) (sn:=sn) (sub:=sub) (ab:=ab) (col:=col) (dd:=dd) (k0:=k0) (k1:=k1) (k2:=k2) (k3:=k3) (k5:=k5) FB (mN:=mN) (T.hasType FB.hasBase) hh (by
  show (backTo cpos (starEach (e::es) (envOfC qual scope s0.heap.objs.size f cd))).any (·.1)=false
  rw[he]
  show (false || (backTo cpos (starEach es (envOfC qual scope s0.heap.objs.size f cd))).any (·.1))=false
  rw[hpl];rfl) hni (Gw I hg hm ⟨rfl,?_⟩ hdb)
 have ha':=ha cpos pins s σ H _ I h
 show wpAny _ _ (evalArgs (.ref C) true (backTo cpos (starEach (e::es) (envOfC qual scope s0.heap.objs.size f cd))) []) _ _ _
 have ha2:wpAny (model P w) (A.deeper (envOfC qual scope s0.heap.objs.size f cd)) (spliced (backTo cpos (starEach (e::es) (envOfC qual scope s0.heap.objs.size f cd)))) _ _ s:=ha'
 rw[he] at ha2 ⊢
 refine Calls.evalArgs_plain (thn ha2 λus s1 z=>?_)
 obtain⟨vs,H1,I1,r,z1,z2⟩:=z
 refine⟨rfl,by rw[<- r.length];exact z1,I1.bk _ _ hC,hN.keeps I1.bk,T.keeps I1.bk,λh' ex mk=>?_⟩
 obtain⟨tt,ge,_,_⟩:=mk.there
 have I2:Inv (Gh (CX1 P w) P w K mg base N qual scope f cd A outer s0 H0 E) pins σ H1 { s1 with heap:=h' }:=Inv.call I1 (h':=h') (g':=s1.gens) (d':=s1.drawn) (t':=s1.toks) (ch:=[]) (Un.kept mk.keeps) (I1.hok.kept mk.keeps) I1.bare (λb z=>absurd z (by simp))
 have old:s0.heap.get? ex=none:=by
  cases q:s0.heap.get? ex with
  | none=>rfl
  | some o =>
   obtain⟨o',z⟩:=I1.base.there ex o q (λz=>by cases z)
   rw[mk.new] at z;cases z
 show wpAny _ _ (leaving (envOfC qual scope s0.heap.objs.size f cd) (.ref ex)) _ _ _
 unfold leaving
 refine wpAny_bind (Uh (base:=base) (outer:=outer) (L:=s0.heap.objs.size) I2.ok.frames I2.stack rfl ge rfl rfl rfl λh'' T' hT' lf tk'=>?_)
 exact Aaw I2 lf (λy hy=>by rw[mem_singleton.mp hy];exact⟨old,I1.hok.none_of mk.new⟩) mem_cons_self tk' hT' z2
end
theorem Fun.ok1{P:Program}{w:World}{K:Frag}{mg:Str->Option Value}{base:Heap}{x qual:Str}{st:Stmt}{f:Addr}{fd:FuncData}{N ps:List Str}{k:Nat}{sp:Sp}(F:Fun K x qual st f fd)(S:Cj N ps (Cc st))(len:∀vs H Q E,sp vs H Q E->vs.length=ps.length)
  (hbody:∀(cdv:Value) (A:Around) (outer:List Env) (s:Shared) (H:Hp) (vs:List V) (Q:VK) (E:XK),Room k (A.deeper (envOfC qual (Cc st) s.heap.objs.size f cdv))->sp vs H Q E ->
   ∃t,PSs (Gh (CX1 P w) P w K mg base N qual (Cc st) f cdv A outer s H E) (Gu st) t/\t { nx:=λ_ H'=>Q .non H',rt:=Q } (Jo N vs) H):FnOk P w K mg base (CX1 P w) (k+1) f fd ps sp:=by
 obtain⟨oc,od,kV,doc,pm,an,cdv,ct,osl,rfl,lk,hcd⟩:=F.ex
 exact Agh lk hcd S len λA outer s H vs Q E hr hsp=>hbody cdv A outer s H vs Q E hr hsp
def Nw(X:Cx)(pins:List (Addr×Obj))(b:Addr):Prop:=X.s₀.heap.get? b=none/\b≠X.env.locals/\(∀y c,X.env.cells.lookup y=some c->c≠b)/\∀p∈X.pn++pins,p.1≠b
section
variable {X:Cx}{pins:List (Addr×Obj)}{σ:St}{H:Hp}{s:Shared}
theorem Inv.nw(hex:X.ex=[])(I:Inv X pins σ H s){b:Addr}(e:s.heap.get? b=none):Nw X pins b:=by
 refine⟨?_,λz=>?_,λy c l z=>?_,λp hp z=>?_⟩
 ·cases q:X.s₀.heap.get? b with
  | none=>rfl
  | some o =>
   obtain⟨o',z⟩:=I.base.there b o q (by rw[hex];intro w;cases w)
   rw[e] at z;cases z
 ·obtain⟨_,⟨o,_,_,ho,_⟩,_⟩:=I.loc
  rw[<- z,e] at ho;cases ho
 ·obtain⟨v,o,ho,_⟩:=I.cell y c l
  rw[z,e] at ho;cases ho
 ·have:=(I.pin p hp).1
  rw[z,e] at this;cases this
theorem Inv.touch(I:Inv X pins σ H s){xs:List Addr}{h':Heap}(lf:Lft (frs X.stack) xs s.heap h')(hx:∀b∈xs,Nw X pins b/\H b=none):Inv X pins σ H { s with heap:=h' }:=by
 have old:∀b o,X.s₀.heap.get? b=some o->b∉xs:=λb o e z=>by rw[(hx b z).1.1] at e;cases e
 have trk:∀b u,H b=some u->b∉xs:=λb u e z=>by rw[(hx b z).2] at e;cases e
 have nloc:X.env.locals∉xs:=λz=>(hx _ z).1.2.1 rfl
 have ncell:∀y c,X.env.cells.lookup y=some c->c∉xs:=λy c l z=>(hx _ z).1.2.2.1 y c l rfl
 have nfr:∀b o,X.s₀.heap.get? b=some o->b∉X.fs->b∉frs X.stack:=λb o e n z=>by
  rcases mem_cons.mp (I.stkSub b z) with q | q
  ·have:=Nat.lt_of_lt_of_le (lt_size e) I.ok.above
   rw[q] at this
   exact Nat.lt_irrefl _ this
  ·exact n q
 have cellOk:∀c v,s.heap.IsCell c v->c∉xs->h'.IsCell c v:=λc v ⟨o,ho,hd⟩ n=>by
  obtain⟨sl,z⟩:=lf.slot c o ho n
  exact⟨_,z,hd⟩
 refine⟨I.ok,I.os,I.bare,⟨λb o e n nf nx=>?_,λb o e n hf nx=>?_,λb o e n z=>I.base.free b o e n z,λb o e nx=>?_,I.base.tups,I.base.frzs,I.base.tbls⟩,?_,λy c l=>?_,I.free,I.freeC,λp hp=>?_,λb u e=>?_,I.len⟩
 ·exact lf.keep b o (I.base.keep b o e n nf nx) (old b o e) (nfr b o e nf)
 ·obtain⟨sl,z⟩:=I.base.slot b o e n hf nx
  obtain⟨sl',z'⟩:=lf.slot b _ z (old b o e)
  exact⟨sl',z'⟩
 ·obtain⟨o',z⟩:=I.base.there b o e nx
  obtain⟨sl',z'⟩:=lf.slot b _ z (old b o e)
  exact⟨_,z'⟩
 ·obtain⟨m,⟨o,es,ep,ho,hd,r⟩,hl⟩:=I.loc
  obtain⟨sl,z⟩:=lf.slot _ o ho nloc
  refine⟨m,⟨_,es,ep,z,hd,r⟩,λi x v e1 e2 e3=>?_⟩
  obtain⟨u,ru,l⟩:=hl i x v e1 e2 e3
  refine⟨u,ru,?_⟩
  rcases l with l | ⟨l1,c,l2,l3⟩
  ·exact .inl l
  ·exact .inr ⟨l1,c,l2,cellOk c _ l3 (ncell x c l2)⟩
 ·obtain⟨v,z⟩:=I.cell y c l
  exact⟨v,cellOk c v z (ncell y c l)⟩
 ·obtain⟨p1,p2,p3,p4,p5⟩:=I.pin p hp
  refine⟨lf.keep p.1 p.2 p1 (λz=>(hx _ z).1.2.2.2 p hp rfl) (λz=>?_),p2,p3,p4,p5⟩
  rcases mem_cons.mp (I.stkSub _ z) with q | q
  ·exact p3 q
  ·exact p4 q
 ·refine (I.hok b u e).stay (λc v hc q'=>?_) (λ_ q'=>q') λ_ _ q'=>q'
  have hc':∃u',H c=some u':=by
   rcases hc with z | z
   ·exact⟨u,by rw[z];exact e⟩
   ·exact⟨_,z⟩
  obtain⟨u',hu⟩:=hc'
  exact lf.keep c v q' (trk c u' hu) λz=>by rw[I.stkFree c z] at hu;cases hu
end
def XP(X:Cx)(pins:List (Addr×Obj))(σ:St)(Ex:Addr->Hp->Prop)(e:Value)(s':Shared):Prop :=
 ∃x T C H',e=.ref x/\Inv X pins σ H' s'/\Trk T x (.ref C) s'.heap/\Nw X pins x/\Nw X pins T/\H' x=none/\H' T=none/\Ex C H'
def exK(Ex:Addr->Hp->Prop):XK:=λcls _ H=>∃C,cls=.ref C/\Ex C H
theorem Agg{X:Cx}{P:Program}{w:World}(hex:X.ex=[])(hP:X.prog=P)(hw:X.w=w){pins:List (Addr×Obj)}{σ:St}{H:Hp}{s s':Shared}{Ex:Addr->Hp->Prop}{e:Value}(I:Inv X pins σ H s)(h:CX1 P w X.stack H s (exK Ex) e s'):XP X pins σ Ex e s':=by
 obtain⟨x,T,C,H',rfl,tk,gx,gT,nx,nT,os,bare,un,hok,C',ec,hE⟩:=h
 cases ec
 obtain⟨hh,g,d,t,os'⟩:=s'
 obtain rfl:os'=s.os:=os
 subst hP hw
 exact⟨x,T,C,H',rfl,I.call (h':=hh) (g':=g) (d':=d) (t':=t) (ch:=[]) un hok bare (λb z=>absurd z (by simp)),tk,I.nw hex gx,I.nw hex gT,nx,nT,hE⟩
theorem Adh{M:Model}{A:Around}{E:Value->Shared->Prop}{h:Heap}{g:Array GenState}{d:Drawn}{t:Nat}{os:OsState}{e C D:Addr}{oe:Obj}{Q:Bool->Shared->Prop}
  {nm q:Str} {N:Addr} {bs bm:List Value} {hdct:Bool} {sn:List Str} {sub:List Value} {ab:Bool} {col:Option Bool} {dd:Option Addr} {k0 k1 k2 k3 k5:Option Value} {newId:String}
  {nm' q':Str} {N':Addr} {bs' bm':List Value} {hdct':Bool} {sn':List Str} {sub':List Value} {ab':Bool} {col':Option Bool} {dd':Option Addr} {k0' k1' k2' k3' k5':Option Value} {newId':String}
  (gC:h.get? C=some (excClassObj nm q C N bs bm hdct sn sub ab col dd k0 k1 k2 k3 k5 newId)) (gD:h.get? D=some (excClassObj nm' q' D N' bs' bm' hdct' sn' sub' ab' col' dd' k0' k1' k2' k3' k5' newId'))
  (ge:h.get? e=some oe) (ce:oe.cls=.ref C) (bD:bm'.contains (.type "BaseException")=true) (hCD:(Value.ref C::bm).contains (.ref D)=true) (hq:Q true ⟨h,g,d,t,os⟩):wpAny M A (excMatches (.ref e) (.ref D)) Q E ⟨h,g,d,t,os⟩:=by
 have b2:(Value.ref D::bm').contains (.type "BaseException")=true:=by rw[List.contains_cons,bD,Bool.or_true]
 have ft:=tc_notTuple
 unfold excMatches
 repeat (first
  | (with_reducible refine wpAny_loadPart_at ge ?_;rw[ce])
  | with_reducible refine wpAny_loadPart_at gD ?_
  | (with_reducible refine wpAny_isSubtype_exc gD ?_;rw[b2])
  | (with_reducible refine wpAny_isSubtype_exc gC ?_;rw[hCD])
  | wp_step)
 exact hq
theorem Aar{α:Type}:∀{l:List α},l.Nodup->∀{i j:Nat} {x:α},l[i]? = some x->l[j]? = some x->i=j
 | [],_,_,_,_,h,_=>by simp at h
 | a::r,nd,0,0,_,_,_=>rfl
 | a::r,nd,0,j+1,x,h1,h2=>by
  have e:a=x:=Option.some.inj h1
  exact absurd (mem_of_getElem? (show r[j]? = some a by rw[e];exact h2)) (nodup_cons.mp nd).1
 | a::r,nd,i+1,0,x,h1,h2=>by
  have e:a=x:=Option.some.inj h2
  exact absurd (mem_of_getElem? (show r[i]? = some a by rw[e];exact h1)) (nodup_cons.mp nd).1
 | a::r,nd,i+1,j+1,x,h1,h2=>congrArg (· + 1) (Aar (nodup_cons.mp nd).2 (show r[i]? = some x from h1) (show r[j]? = some x from h2))
def excF(x C:Addr):Heap->Prop:=λh=>∃o vs,h.get? x=some o/\o.cls=.ref C/\o.dict=none/\o.data=.fields vs
section
variable {X:Cx}{pins:List (Addr×Obj)}{σ:St}{H:Hp}{s:Shared}
theorem Inv.track(I:Inv X pins σ H s){x C:Addr}{oe:Obj}(nw:Nw X pins x)(hx:H x=none){vs:Array Value}(ge:s.heap.get? x=some oe)(ce:oe.cls=.ref C)(dn:oe.dict=none)(de:oe.data=.fields vs):Inv X pins σ (upd H x (.ext (excF x C))) s:=by
 have ne:∀b u,H b=some u->b≠x:=λb u e z=>by rw[z,hx] at e;cases e
 refine⟨I.ok,I.os,I.bare,⟨I.base.keep,I.base.slot,λb o e n z=>?_,I.base.there,λb xs e=>?_,λb o u e=>?_,λb ps e=>?_⟩,I.loc,I.cell,?_,λy c l=>?_,λp hp=>?_,λb u e=>?_,I.len⟩
 ·rw[Bj (λw=>by rw[w,nw.1] at e;cases e)]
  exact I.base.free b o e n z
 ·have z:=I.base.tups b xs e
  rw[Bj (ne _ _ z)];exact z
 ·have z:=I.base.frzs b o u e
  rw[Bj (ne _ _ z)];exact z
 ·obtain⟨more,z⟩:=I.base.tbls b ps e
  exact⟨more,by rw[Bj (ne _ _ z)];exact z⟩
 ·rw[Bj nw.2.1.symm];exact I.free
 ·rw[Bj (nw.2.2.1 y c l)];exact I.freeC y c l
 ·obtain⟨p1,p2,p3⟩:=I.pin p hp
  exact⟨p1,by rw[Bj (nw.2.2.2 p hp)];exact p2,p3⟩
 ·by_cases z:b=x
  ·subst z
   rw[Bn] at e
   cases e
   exact⟨⟨oe,vs,ge,ce,dn,de⟩,⟨oe,ge⟩,λh h' ⟨o,vs,g1,g2⟩ k=>⟨o,vs,k o g1,g2⟩⟩
  ·rw[Bj z] at e
   exact (I.hok b u e).stay (λc v _ q'=>q') (λc q'=>by rw[Bj (ne _ _ q')];exact q') λc xs q'=>by rw[Bj (ne _ _ q')];exact q'
def mkX(X:Cx)(v:Value):Cx:={ X with A:=X.A.mark (some v),calm:=false,xe:=λ_ _=>False }
theorem Inv.mark(I:Inv X pins σ H s)(v:Value):Inv (mkX X v) pins σ H s :=
 ⟨⟨I.ok.mod,I.ok.kind,I.ok.glob,I.ok.blt,I.ok.above,I.ok.inj,I.ok.has,I.ok.cab,λz=>Bool.noConfusion z,I.ok.frames,I.ok.stk,I.ok.exf,I.ok.bs,I.ok.bsz,I.ok.noex,I.ok.exfs,I.ok.funs,I.ok.frf⟩,I.os,I.bare,I.base,I.loc,I.cell,I.free,I.freeC,I.pin,I.hok,I.len⟩
theorem Inv.unmark{v:Value}(ok:X.Ok)(I:Inv (mkX X v) pins σ H s):Inv X pins σ H s:=⟨ok,I.os,I.bare,I.base,I.loc,I.cell,I.free,I.freeC,I.pin,I.hok,I.len⟩
theorem Lu{M:Model}{A:Around}{E:Value->Shared->Prop}{i:Nat}{n:Str}{pos:Pos}{Q:Unit->Shared->Prop}(I:Inv X pins σ H s)(hN:X.N.Nodup)(hi:X.N[i]? = some n)(hl:X.env.kindOf n=some .local)
  (q:∀s',Inv X pins (σ.set i none) H s'->Q () s'):wpAny M A (do bindName X.env n .none;unbindBehindTheSuite X.env n pos) Q E s:=by
 obtain⟨m,hn,hlo⟩:=id I.loc
 have hcls:(X.env.scope.kind==.class || (X.env.scope.kind==.module&&X.env.locals != X.env.globals))=false:=by rw[I.ok.kind];rfl
 refine wpAny_nameGoes_keeps hl hn hcls λh' v hn' sb=>q _ ?_
 have cne:=I.cne
 have nl:∀b o,X.s₀.heap.get? b=some o->b≠X.env.locals:=λb o e z=>by
  have:=Nat.lt_of_lt_of_le (lt_size e) I.ok.above
  rw[z] at this
  exact Nat.lt_irrefl _ this
 refine⟨I.ok,I.os,I.bare,⟨λb o e n nf nx=>(sb.2 b (nl b o e)).trans (I.base.keep b o e n nf nx),λb o e n hf nx=>?_,I.base.free,λb o e nx=>?_,I.base.tups,I.base.frzs,I.base.tbls⟩,⟨_,hn',λj y v' e1 e2 e3=>?_⟩,λy c l=>?_,I.free,I.freeC,λp hp=>?_,λb u e=>?_,by rw[length_set];exact I.len⟩
 ·obtain⟨sl,z⟩:=I.base.slot b o e n hf nx
  exact⟨sl,(sb.2 b (nl b o e)).trans z⟩
 ·obtain⟨o',z⟩:=I.base.there b o e nx
  exact⟨o',(sb.2 b (nl b o e)).trans z⟩
 ·have hj:j≠i:=λz=>by
   subst z
   have hlt:j<σ.length:=by rw[I.len];exact (List.getElem?_eq_some_iff.mp e1).1
   rw[getElem?_set_self hlt] at e2
   cases e2
  have hy:y≠n:=λz=>by
   subst z
   exact hj (Aar hN e1 hi)
  rw[getElem?_set_ne (Ne.symm hj)] at e2
  obtain⟨u,ru,l⟩:=hlo j y v' e1 e2 e3
  refine⟨u,ru,?_⟩
  rcases l with ⟨l1,l2⟩ | ⟨l1,c,l2,o,l3,l4⟩
  ·exact .inl ⟨l1,by show (if y=n then v else m y)=_;rw[if_neg hy];exact l2⟩
  ·exact .inr ⟨l1,c,l2,o,(sb.2 c (cne y c l2)).trans l3,l4⟩
 ·obtain⟨v,o,l3,l4⟩:=I.cell y c l
  exact⟨v,o,(sb.2 c (cne y c l)).trans l3,l4⟩
 ·obtain⟨p1,p2,p3,p4⟩:=I.pin p hp
  exact⟨(sb.2 _ p3).trans p1,p2,p3,p4⟩
 ·have ne:∀c u',H c=some u'->c≠X.env.locals:=λc u' e z=>by rw[z,I.free] at e;cases e
  refine (I.hok b u e).stay (λc v hc q'=>(sb.2 c ?_).trans q') (λ_ q'=>q') λ_ _ q'=>q'
  rcases hc with z | z
  ·rw[z];exact ne b u e
  ·exact ne c _ z
theorem Xa{M:Model}{A:Around}{E:Value->Shared->Prop}{T e:Addr}{cls:Value}{fs:List Addr}{Q:Unit->Shared->Prop}(tk:Trk T e cls s.heap)(q:∀h',Lft fs [T] s.heap h'->Trk T e cls h'->Q () { s with heap:=h' }):wpAny M A (setFlight (.ref e) none) Q E s:=by
 obtain⟨oe,vs,oT,ts,ge,ce,dn,de,v1,nTe,gT,dT,t3⟩:=tk
 have n3:3<ts.size:=(Array.getElem?_eq_some_iff.mp t3).1
 unfold setFlight
 refine wpAny_bind (wpAny_field ge de v1 ?_)
 rw[if_pos (by simp)]
 have oth:∀b,b∉[T]->b≠T:=λb z w=>z (by rw[w];exact mem_cons_self)
 refine wpAny_setField gT dT n3 (q _ ⟨λb o gb nb _=>?_,λb o gb nb=>⟨o.slots,?_⟩⟩ ?_)
 ·rw[Heap.get?_update_other _ _ (oth b nb).symm];exact gb
 ·rw[Heap.get?_update_other _ _ (oth b nb).symm];exact gb
 ·refine⟨oe,vs,_,_,(Heap.get?_update_other _ _ nTe).trans ge,ce,dn,de,v1,nTe,Heap.get?_update_self _ gT (Obj.isFreed_of_fields (Obj.data_mapFields dT _)),Obj.data_mapFields dT _,?_⟩
  simp [n3]
end
abbrev TSx:=Ends->(Addr->Hp->Prop)->St->Hp->Prop
def PSx(X:Cx)(b:List Stmt)(t:TSx):Prop :=
 ∀(pins:List (Addr×Obj)) (s:Shared) (σ:St) (H:Hp) (D:Ends) (Ex:Addr->Hp->Prop),Inv X pins σ H s->t D Ex σ H->wpAny (model X.prog X.w) X.A (execs b X.env) (SP X pins D) (XP X pins σ Ex) s
def Tz(i:Nat)(D:Ends):Ends where
 nx:=λσ H=>D.nx (σ.set i none) H
 rt:=D.rt
 bk:=λσ H=>D.bk (σ.set i none) H
 ct:=λσ H=>D.ct (σ.set i none) H
def Ae4(tb:TSx)(S:Addr->Prop)(i:Nat)(ts:TS):TS:=λD σ H=>tb D (λC H1=>S C/\∀x,H1 x=none->ts (Tz i D) (σ.set i (some (.ref x))) (upd H1 x (.ext (excF x C)))) σ H
theorem Ad9{X:Cx}{body:List Stmt}{b0:Stmt}{suite:List Stmt}{y n:Str}{np hpos pos:Pos}{Dc:Addr}{tb:TSx}{ts:TS}{S:Addr->Prop}{i:Nat}{bmB:List Value}{newId:String}
  (hst:X.stack=X.env::X.outer) (hfr:X.env.frame=some X.env.locals) (hb:PSx X body tb) (hs:∀v,PSs (mkX X v) (b0::suite) ts)
  (hg:Gl X y) (hm:X.mg y=some (.ref Dc)) (qD:PySem.W.excIn X.K Dc bmB newId=true) (hbase:bmB.contains (.type "BaseException")=true)
  (hS:∀C,S C->∃z bmC nC,X.mg z=some (.ref C)/\PySem.W.excIn X.K C bmC nC=true/\mroIn X.K C (.ref Dc)=some true)
  (hN:X.N.Nodup) (hi:X.N[i]? = some n) (hl:X.env.kindOf n=some .local) (hdb:(y==("__debug__" : Str))=false:=by decide) :
  PS X (.Try body [.ExceptHandler (some (.Name y np)) (some n) (b0::suite) hpos] [] [] pos) (Ae4 tb S i ts):=by
 intro pins s σ H D I h
 refine wpAny_Try_except (wpAny_mono (hb pins s σ H D _ I h) (λf s1 q=>?_) (λe s1 q=>?_))
 ·cases f with
  | next=>exact wpAny_execs_nil q
  | ret v=>exact q
  | brk=>exact q
  | cont=>exact q
 ·obtain⟨x,T,C,H1,rfl,I1,tk,nx,nT,hx,hT,hSC,q⟩:=q
  refine Rh (base:=X.base) (outer:=X.outer) (L:=X.env.locals) (hst▸I1.ok.frames) (hst▸I1.stack) hfr tk λh2 T2 hT2 lf tk2=>?_
  have xs1:∀b∈[x,T],Nw X pins b/\H1 b=none:=λb hb=>by
   rcases mem_cons.mp hb with z | z
   ·rw[z];exact⟨nx,hx⟩
   ·rw[mem_singleton.mp z];exact⟨nT,hT⟩
  have I2:Inv X pins σ H1 { s1 with heap:=h2 }:=I1.touch (by rw[hst];exact lf) xs1
  have nT2:Nw X pins T2:=by
   refine⟨Heap.get?_none_of_le (Nat.le_trans I1.sz hT2),λz=>?_,λy c l z=>?_,λp hp z=>?_⟩
   ·have:=I1.lt
    rw[<- z] at this
    exact absurd (Nat.lt_of_lt_of_le this hT2) (Nat.lt_irrefl _)
   ·obtain⟨v,o,ho,_⟩:=I1.cell y c l
    have:=lt_size ho
    rw[z] at this
    exact absurd (Nat.lt_of_lt_of_le this hT2) (Nat.lt_irrefl _)
   ·have:=lt_size (I1.pin p hp).1
    rw[z] at this
    exact absurd (Nat.lt_of_lt_of_le this hT2) (Nat.lt_irrefl _)
  have fT2:H1 T2=none:=I1.hok.fresh hT2
  obtain⟨zc,bmC,nC,mC,qC,rC⟩:=hS C hSC
  have OC:=Tx (h:=X.base) I1.ok.mod.kin mC qC
  have OD:=Tx (h:=X.base) I1.ok.mod.kin hm qD
  obtain⟨tl,N1,nm,qn,bs,hdct,sn,sub,ab,col,dd,k0,k1,k2,k3,k5,mN,gC,_⟩:=OC.obj
  obtain⟨tl',N1',nm',qn',bs',hdct',sn',sub',ab',col',dd',k0',k1',k2',k3',k5',mN',gD,_,_,TD⟩:=OD.obj
  have cCD:(Value.ref C::tl).contains (.ref Dc)=true:=by
   obtain⟨cdm,a1,a2⟩:=Option.bind_eq_some_iff.mp rC
   split at a2
   ·cases a2
   ·have a3:=Option.some.inj a2
    unfold PySem.W.clsIn at a1
    split at a1
    ·rename_i lk
     cases a1
     have:=(I1.ok.mod.kin _ _ lk).symm.trans gC
     cases this
     exact a3
    ·cases a1
  obtain⟨oe2,vs2,oT2',ts2,ge2,ce2,rest2⟩:=id tk2
  have I2m:=I2.mark (.ref x)
  refine wpAny_handleBy_cons (codeAny_handlers_test (Gw I2m (show Gl (mkX X (.ref x)) y from hg) (show (mkX X (.ref x)).mg y=_ from hm) ?_ hdb)) (by intro z;cases z)
  refine Adh (C:=C) (I2.bk _ _ gC) (I2.bk _ _ gD) ge2 ce2 (TD.hasType hbase) cCD ?_
  refine codeAny_handlers_suite_as (Xa (fs:=frs X.stack) tk2 λh3 lf3 tk3=>?_)
  have I3:Inv X pins σ H1 { s1 with heap:=h3 }:=I2.touch lf3 λb hb=>by rw[mem_singleton.mp hb];exact⟨nT2,fT2⟩
  obtain⟨oe3,vs3,oT3,ts3,ge3,ce3,dn3,de3,rest3⟩:=id tk3
  have I4:=(I3.track nx hx ge3 ce3 dn3 de3).mark (.ref x)
  refine Qf (X:=mkX X (.ref x)) I4 hN hi (.inl hl) (v:=.ref x) rfl (λs4 I5=>?_) (.inr hl)
  refine wpAny_mono (hs (.ref x) pins s4 _ _ (Tz i D) I5 (q x hx)) (λf s5 q5=>?_) λ_ _ z=>z.elim
  cases f with
  | next =>
   obtain⟨σ',H',I6,q6⟩:=q5
   exact Lu (I6.unmark I.ok) hN hi hl λs6 I7=>⟨_,H',I7,q6⟩
  | brk =>
   obtain⟨σ',H',I6,q6⟩:=q5
   exact Lu (I6.unmark I.ok) hN hi hl λs6 I7=>⟨_,H',I7,q6⟩
  | cont =>
   obtain⟨σ',H',I6,q6⟩:=q5
   exact Lu (I6.unmark I.ok) hN hi hl λs6 I7=>⟨_,H',I7,q6⟩
  | ret u =>
   obtain⟨v,σ',H',I6,r6,q6⟩:=q5
   exact Lu (I6.unmark I.ok) hN hi hl λs6 I7=>⟨v,_,H',I7,r6,q6⟩
abbrev TEx:=St->Hp->VK->(Addr->Hp->Prop)->Prop
def PEx(X:Cx)(e:Expr)(t:TEx):Prop :=
 ∀(pins:List (Addr×Obj)) (s:Shared) (σ:St) (H:Hp) (Q:VK) (Ex:Addr->Hp->Prop),Inv X pins σ H s->t σ H Q Ex->wpAny (model X.prog X.w) X.A (eval e X.env) (EP X pins σ Q) (XP X pins σ Ex) s
section
variable {X:Cx}{k:Nat}{f C:Addr}{fd:FuncData}{ps:List Str}{sp:Sp}{dvs:List V}{ds:List Value}{x m:Str}{p pos apos:Pos}{e o:Expr}{es:List Expr}{ta:TE}{t:TA}
theorem Zi{pins:List (Addr×Obj)}{σ:St}{H:Hp}{s:Shared}{Q:VK}{Ex:Addr->Hp->Prop}{us:List Value}{vs:List V}(hex:X.ex=[])(M:Mk X.K C f)(F:FnOk X.prog X.w X.K X.mg X.base (CX1 X.prog X.w) k f fd ps sp)(hr:Room (k+1) X.A)(hb:Binds X.K fd ps ds)(hd:Vals dvs ds)
  (I:Inv X pins σ H s) (r:Vals vs us)
  (h:∀x dx,H x=none->H dx=none->dx≠x->sp (.ref x::(vs++dvs)) (upd (upd H dx (.own x)) x (.ins C dx [])) (λv H2=>v=.non/\Q (.ref x) H2) (exK Ex)) :
  wpAny (model X.prog X.w) X.A (call (.ref C) us) (EP X pins σ Q) (XP X pins σ Ex) s:=by
 have hq:=h (s.heap.objs.size+1) s.heap.objs.size (I.hok.fresh (le_succ _)) (I.hok.fresh (Nat.le_refl _)) (ne_of_lt (lt_succ_self _))
 have I2:=Inv.made (C:=C) I
 have r2:Vals (V.ref (s.heap.objs.size+1)::(vs++dvs)) (Value.ref (s.heap.objs.size+1)::(us++ds)):=.cons rfl (r.append hd)
 have hl:(Value.ref (s.heap.objs.size+1)::us++ds).length=ps.length:=by
  have e:=r2.length
  rw[F.len _ _ _ _ hq] at e
  exact e.symm
 refine wpAny_call (Ta (f:=f) I.kIn M.makes M.init (beq_iff_eq.mp M.fn) (codeAny_mono (F.run _ X.stack _ _ ⟨Value.ref (s.heap.objs.size+1)::us,[]⟩ (Value.ref (s.heap.objs.size+1)::(us++ds)) _ _ (exK Ex) (hr.make C us [])
  (I2.env0.make C us []) (hb _ (Value.ref (s.heap.objs.size+1)::us) I2.kIn hl) r2 hq) λr s' hq'=>?_))
 cases r with
 | error e=>exact Agg hex rfl rfl I2 hq'
 | ok fl =>
  cases fl with
  | ret u =>
   obtain⟨v,H',I3,rv,ev,q3⟩:=I2.after hq'
   subst ev
   exact⟨rv,⟨V.ref (s.heap.objs.size+1),H',I3,rfl,q3⟩⟩
  | next=>exact False.elim hq'
  | brk=>exact False.elim hq'
  | cont=>exact False.elim hq'
theorem AaE{pins:List (Addr×Obj)}{σ:St}{H:Hp}{s:Shared}{R:List V->Hp->Prop}{E:Value->Shared->Prop}(ha:PA X.nox es t)(I:Inv X pins σ H s)(h:t σ H R) :
  wpAny (model X.prog X.w) X.A (spliced (backTo pos (starEach es X.env))) (λus s'=>∃xs H',Inv X pins σ H' s'/\Vals xs us/\R xs H') E s :=
 wpAny_mono (ha pos pins s σ H R (I.wish _) h) (λus s' ⟨xs,H',I',r,q⟩=>⟨xs,H',I'.unwish,r,q⟩) λ_ _ z=>False.elim z
def Xv(C:Addr)(sp:Sp)(dvs:List V)(t:TA):TEx:=λσ H Q Ex=>t σ H λvs H1=>∀x dx,H1 x=none->H1 dx=none->dx≠x ->
 sp (.ref x::(vs++dvs)) (upd (upd H1 dx (.own x)) x (.ins C dx [])) (λv H2=>v=.non/\Q (.ref x) H2) (exK Ex)
theorem AbD(hex:X.ex=[])(M:Mk X.K C f)(F:FnOk X.prog X.w X.K X.mg X.base (CX1 X.prog X.w) k f fd ps sp)(hr:Room (k+1) X.A)(hg:Gl X x)(hm:X.mg x=some (.ref C))(hb:Binds X.K fd ps ds)(hd:Vals dvs ds)
  (ha:PA X.nox (e::es) t) (hdb:(x==("__debug__" : Str))=false:=by decide) (he:starEach (e::es) X.env=(false,eval e X.env)::starEach es X.env:=by rfl) (hpl:(backTo pos (starEach es X.env)).any (·.1)=false:=by rfl) :
  PEx X (.Call (.Name x p) (e::es) [] pos) (Xv C sp dvs t):=by
 intro pins s σ H Q Ex I h
 refine wpAny_Call_Name_kw (Gw I hg hm ?_ hdb)
 exact callWith_K (h₀:=X.base) I.ok.mod.kin M.kp (thn (AaE ha I h) λus s1 ⟨vs,H1,I1,r,q⟩=>⟨I1.kIn,Zi hex M F hr hb hd I1 r q⟩) he hpl
def Yr(t:TEx):TSx:=λD Ex σ H=>t σ H (λ_ H1=>D.nx σ H1) Ex
theorem Abx{t:TEx}(he:PEx X e t)(hs:swapsWith e none pos.line X.env=pure false:=by rfl):PSx X [.Expr e pos] (Yr t):=by
 intro pins s σ H D Ex I h
 refine wpAny_execs_cons (wpAny_mono (wpAny_Expr_any (Q:=SP X pins D) (thn (he pins s σ H _ Ex I h) λv s1 ⟨x,H1,I1,r1,q1⟩=>⟨σ,H1,I1,q1⟩) I.quiet hs) (λf s1 q=>?_) λ_ _ z=>z)
 cases f with
 | next=>exact wpAny_execs_nil q
 | ret v=>exact q
 | brk=>exact q
 | cont=>exact q
end
section
variable {σ:St}{H:Hp}{Q:VK}{D:Ends}{Ex:Addr->Hp->Prop}
end
theorem Abv{M:Model}{A:Around}{E:Value->Shared->Prop}{s:Shared}{x C:Addr}{nv:Value}{R:Unit->Shared->Prop}(L0:Looks M s.heap (typeOf (.ref x)) (.ref C))(LB:Looks M s.heap (isSubtype (.ref C) (.type "BaseException")) true)(h:R () s) :
  wpAny M A (checkBuiltinCall "BaseException.__getattribute__" ⟨[.ref x,nv],[]⟩) R E s:=by
 have hk:builtinKind "BaseException.__getattribute__"=some .slot:=by decide +kernel
 have hsplit:splitId "BaseException.__getattribute__"=some ("BaseException","__getattribute__"):=by decide +kernel
 have ha:=PySem.F.args_bexc_ga (.ref x) nv
 unfold argsOk at ha
 simp only [checkBuiltinCall,hk,hsplit]
 refine wpAny_bind ?_
 unfold isInstance
 refine wpAny_bind (L0.at ?_)
 refine LB.at ?_
 rw[if_neg (by simp)]
 generalize Manifest.signature? "BaseException.__getattribute__"=sg at ha ⊢
 cases sg with
 | none=>exact wpAny_pure h
 | some sig =>
  dsimp only at ha ⊢
  rw[ha]
  exact wpAny_pure h
theorem Aam{K:Frag}{C x:Addr}{ox:Obj}{prog:Program}{w:World}{A:Around}{E:Value->Shared->Prop}{s:Shared}{Q:Option Value->Shared->Prop}(X:K.In s.heap)(I:PySem.W.InstAt s.heap x ox C none)
  (hga:findIn K (.ref C) "__getattribute__"=some (some (.builtin "BaseException.__getattribute__"))) (hgx:findIn K (.ref C) "__getattr__"=some none)
  (hcl:PySem.W.findObj K C none "__class__"=some (.bind (.builtin "getset_descriptor.__get__") (.builtin "object.__class__"))) (hmB:mroIn K C (.type "BaseException")=some true) (hmO:mroIn K C (.type "object")=some true)
  (h:Q (some (.ref C)) { s with toks:=s.toks+1 }):wpAny (model prog w) A (getAttr? (.ref x) "__class__") Q E s:=by
 obtain⟨hh,g,d,t,os⟩:=s
 have L0:=I.type (M:=model prog w)
 have L1:=PySem.W.looks_findIn (M:=model prog w) X hga
 have L2':=PySem.W.looks_findIn (M:=model prog w) X hgx
 have LB:=PySem.W.looks_mroIn (M:=model prog w) X hmB
 have LF:=PySem.W.looks_find (M:=model prog w) X I hcl
 unfold getAttr? getAttrBy? getAttrBy
 refine wpAny_bind (wpAny_mkText (wpAny_bind (wpAny_attempt (wpAny_holding (wpAny_bind (L0.at (wpAny_bind (L1.at ?_))))))))
 dsimp only
 rw[if_neg (by rw[show (Value.builtin "BaseException.__getattribute__"==Value.builtin "object.__getattribute__")=false by decide +kernel,Bool.and_false];exact Bool.false_ne_true)]
 unfold getAttrByItsOwn hookBefore
 rw[if_pos (by rfl)]
 refine wpAny_bind (L2'.at ?_)
 refine wpAny_bind (wpAny_attempt (wpAny_holding ?_))
 unfold callGetattribute
 rw[if_neg (by simp)]
 unfold boundAndCalled
 rw[PySem.F.excAttr_ValueError.ga.bind (.ref x)]
 refine wpAny_bind (wpAny_pure ?_)
 dsimp only [cons_append,nil_append]
 refine wpAny_call (codeAny_call_builtin PySem.F.excAttr_ValueError.ga.plain PySem.F.entry_bexc_ga (Abv L0 LB ?_))
 unfold Builtin.«object.__getattribute__»
 refine wpAny_bind (wpAny_pure ?_)
 dsimp only
 refine wpAny_bind (wpAny_pure ?_)
 refine wpAny_bind (L0.at ?_)
 refine wpAny_bind (LF.at ?_)
 dsimp only
 unfold Builtin.ObjectAttr.bindTo
 dsimp only
 refine wpAny_bind (wpAny_holding (wpAny_call (PySem.W.class_get (od:=none) (ox:=ox) X I hmO ?_)))
 refine wpAny_pure ?_
 exact PySem.W.handed_on rfl (wpAny_pure h)
structure Lr(K:Frag)(C:Addr):Prop where
 cd:PySem.W.isClsIn K C=true
 ga:findIn K (.ref C) "__getattribute__"=some (some (.builtin "BaseException.__getattribute__"))
 gx:findIn K (.ref C) "__getattr__"=some none
 cl:findIn K (.ref C) "__class__"=some (some (.builtin "object.__class__"))
 sg:PySem.W.specialIn K (.builtin "object.__class__") "__get__"=some (some (.builtin "getset_descriptor.__get__"))
 tk:PySem.W.takesIn K (.builtin "object.__class__")=some true
 mB:mroIn K C (.type "BaseException")=some true
 mO:mroIn K C (.type "object")=some true
theorem No{K:Frag}{C:Addr}(h:PySem.W.isClsIn K C=true):∃c d cd sl,K.lookup C=some ⟨c,d,.cls cd,sl⟩/\PySem.W.clsIn K C=some cd:=by
 have h':(PySem.W.clsIn K C).isSome=true:=h
 cases e:PySem.W.clsIn K C with
 | none=>rw[e] at h';cases h'
 | some cd =>
  have e':=e
  unfold PySem.W.clsIn at e'
  split at e'
  ·cases e';exact⟨_,_,_,_,by assumption,rfl⟩
  ·cases e'
theorem Aax{K:Frag}{C:Addr}{name:Str}{a g:Value}(hc:PySem.W.isClsIn K C=true)(ha:findIn K (.ref C) name=some (some a))(hg:PySem.W.specialIn K a "__get__"=some (some g))(ht:PySem.W.takesIn K a=some true):PySem.W.findObj K C none name=some (.bind g a):=by
 obtain⟨_,_,_,_,_,e⟩:=No hc
 simp [PySem.W.findObj,e,ha,hg,ht]
theorem excF.inst{x C:Addr}{h:Heap}(p:excF x C h):∃ox,PySem.W.InstAt h x ox C none:=by
 obtain⟨o,vs,g,c,d,e⟩:=p
 refine⟨o,g,c,?_,?_⟩
 ·unfold PySem.W.notCls;rw[e]
 ·rw[d];trivial
theorem AbE{K:Frag}{x C:Addr}(N:Lr K C):PySem.W.KitX K (.ref x) (.ref C) (excF x C) where
 ty:=λ_ _ _ p=>by obtain⟨_,I⟩:=p.inst;exact I.type
 it:=λM h X _ A' Q' E' s' kk hq=>by
  obtain⟨_,_,_,_,l,_⟩:=No N.cd
  have there:=kk _ _ (X _ _ l)
  unfold isType loadHead
  refine wpAny_bind (wpAny_loadPart there ?_)
  exact wpAny_pure hq
 ne:=λh tp _ _ _ _ X at_tp=>by
  obtain⟨_,_,_,_,l,_⟩:=No N.cd
  cases hb:(Value.ref C==Value.ref tp) with
  | false=>rfl
  | true =>
   cases Value.ref.inj (beq_iff_eq.mp hb)
   have both:=(X _ _ l).symm.trans at_tp
   cases both
 ca:=λX p k=>by obtain⟨_,I⟩:=p.inst;exact Aam X I N.ga N.gx (Aax N.cd N.cl N.sg N.tk) N.mB N.mO k
theorem Tk{X:Cx}:Gc X (.builtin "isinstance") (λvs H Q=>∃x C v b,vs=[.ref x,v]/\H x=some (.ext (excF x C))/\Lr X.K C/\(∀u,RelV v u->kitOne X.K (.ref C) u=some b)/\Q (.bl b) H):=by
 intro pins s σ H vs us Q I r h
 obtain⟨x,C,v,b,rfl,hx,kn,hk,q⟩:=h
 obtain⟨u,u2,rfl,rx,ry⟩:=Wm r
 cases (show u=Value.ref x from rx)
 obtain⟨hf,_,_⟩:=(show ObjOk X.prog X.w H s.heap x (.ext (excF x C)) from I.hok x _ hx)
 exact kia_one (AbE kn) I.kIn hf (hk u2 ry) (λz=>nomatch z) λtk=>⟨.bl b,H,I.tok tk,rfl,q⟩
theorem Du{X:Cx}(K':Frag)(h:X.K=K':=by rfl):Gc X (.builtin "isinstance") (λvs H Q=>∃x C v b,vs=[.ref x,v]/\H x=some (.ext (excF x C))/\Lr K' C/\(∀u,RelV v u->kitOne K' (.ref C) u=some b)/\Q (.bl b) H):=by subst h;exact Tk
theorem Acl:bootBuiltins "ValueError"=some (.type "ValueError"):=by decide +kernel
section
variable {X:Cx}{pos:Pos}{a b:Expr}{op op' op2:CmpOp}{ops:List CmpOp}{es:List Expr}{e2:Expr}{ta tb:TE}{r:R2}{u:V->TE}
end
section
variable {a:Array Keyed}
end
section
variable {prog:Program}{w:World}{A:Around}{E:Value->Shared->Prop}{s:Shared}{z:Array Keyed}
end
section
variable {X:Cx}{pins:List (Addr×Obj)}{σ:St}{H:Hp}{s:Shared}
end
section
variable {X:Cx}{CX:CXT}{pins:List (Addr×Obj)}{σ:St}{H:Hp}{s:Shared}{k:Nat}{f:Addr}{fd:FuncData}{ps:List Str}{sp:Sp}
end
section
variable {X:Cx}{CX:CXT}{pins:List (Addr×Obj)}{σ:St}{H:Hp}{s:Shared}{k:Nat}{f C a dx:Addr}{fd:FuncData}{ps:List Str}{sp:Sp}{fs:List (Str×V)}{m x:Str}{A:Around}{E:Value->Shared->Prop}{o e ke:Expr}{to te:TE}{t tk:TA}{pos p kpos:Pos}
end
section
variable {X:Cx}{elts:List Expr}{x1:Nat}{tp p pos:Pos}
end
section
variable {X:Cx}{e de:Expr}{t tk:TA}{pos p kpos:Pos}
end
section
variable {prog:Program}{w:World}{A:Around}{E:Value->Shared->Prop}{s:Shared}{R:Result->Shared->Prop}{I:Addr}{fp wr:List Addr}{G:Array GenState->Array GenState->Prop}{n:Nat}{P:Nat->Value->Prop}{St:Nat->Shared->Prop}
end
section
variable {X:Cx}{p p2 pos pos2:Pos}{tg:Expr}
end
section
variable {X:Cx}{elts:List Expr}{x1:Nat}{tp p pos:Pos}
end
theorem Bq{X:Cx}{es':List Expr}{n:Nat}{pos:Pos}{es:List Expr}{te:TE}{t:TA}(h:PE X (.Tuple es' n pos) te)(h2:PA X es t):PA X (.Tuple es' n pos::es) (Dx te t):=Ba h h2 rfl
theorem Qa{X:Cx}{es':List Expr}{pos:Pos}{es:List Expr}{te:TE}{t:TA}(h:PE X (.List es' pos) te)(h2:PA X es t):PA X (.List es' pos::es) (Dx te t):=Ba h h2 rfl
theorem Bk{X:Cx}{c:Const}{n:Nat}{pos:Pos}{es:List Expr}{te:TE}{t:TA}(h:PE X (.Constant c n pos) te)(h2:PA X es t):PA X (.Constant c n pos::es) (Dx te t):=Ba h h2 rfl
theorem Dw{X:Cx}{a:Expr}{o:Operator}{b:Expr}{pos:Pos}{es:List Expr}{te:TE}{t:TA}(h:PE X (.BinOp a o b pos) te)(h2:PA X es t):PA X (.BinOp a o b pos::es) (Dx te t):=Ba h h2 rfl
theorem Abo{X:Cx}{o:UnaryOp}{a:Expr}{pos:Pos}{es:List Expr}{te:TE}{t:TA}(h:PE X (.UnaryOp o a pos) te)(h2:PA X es t):PA X (.UnaryOp o a pos::es) (Dx te t):=Ba h h2 rfl
theorem Bg{X:Cx}{x:Str}{pos:Pos}{es:List Expr}{te:TE}{t:TA}(h:PE X (.Name x pos) te)(h2:PA X es t):PA X (.Name x pos::es) (Dx te t):=Ba h h2 rfl
theorem Qg{X:Cx}{ks:List (Option Expr)}{vs:List Expr}{pos:Pos}{es:List Expr}{te:TE}{t:TA}(h:PE X (.Dict ks vs pos) te)(h2:PA X es t):PA X (.Dict ks vs pos::es) (Dx te t):=Ba h h2 rfl
section
variable {X:Cx}
end
section
variable {P:Program}{w:World}{K:Frag}{mg:Str->Option Value}{base:Heap}
end
end L2
namespace My
open PySem L2
local macro_rules | `(tactic| walk_at "k")=>`(tactic| exact⟨rfl,rfl,rfl,by decide +kernel,rfl,by decide +kernel,by decide +kernel⟩)
local macro_rules | `(tactic| walk_at "b1")=>`(tactic| exact fun _ _ _ _ _ _ us hl=>match us,hl with | [_],_=>rfl)
local macro_rules | `(tactic| walk_at "b2")=>`(tactic| exact fun _ _ _ _ _ _ us hl=>match us,hl with | [_,_],_=>rfl)
local macro_rules | `(tactic| walk_at "b3")=>`(tactic| exact fun _ _ _ _ _ _ us hl=>match us,hl with | [_,_,_],_=>rfl)
def top(i:Nat):Stmt:=PySem.Challenge.pw_bothhands_k04_no_book.main.body.getD i (.Pass ⟨0,0,0,0⟩)
abbrev AbH:Stmt:=top 30
theorem Agk:Cj ["_law_script","_law_k"] ["_law_script","_law_k"] (Cc AbH):=by walk_at "k"
abbrev Xk:Stmt:=top 31
theorem sc_qbc:Cj ["_law_script","_law_k","_law_low","_law_step"] ["_law_script","_law_k"] (Cc Xk):=by walk_at "k"
abbrev Wl:Stmt:=top 32
theorem sc_qba:Cj ["_law_script","_law_told","_law_kind","_law_mates","_law_joins","_law_k","_law_cell","_law_sign_here","_law_mark"] ["_law_script"] (Cc Wl):=by walk_at "k"
abbrev Abb:Stmt:=top 15
theorem AfW:Cj ["held","words"] ["held","words"] (Cc Abb):=by walk_at "k"
abbrev AaH:Stmt:=top 16
theorem sc_qd:Cj ["rows","length","row"] ["rows","length"] (Cc AaH):=by walk_at "k"
abbrev Abl:Stmt:=top 9
theorem Af1:Cj ["thing"] ["thing"] (Cc Abl):=by walk_at "k"
abbrev Wk:Stmt:=top 10
theorem Afb:Cj ["thing"] ["thing"] (Cc Wk):=by walk_at "k"
abbrev Wr:Stmt:=top 20
theorem Aee:Cj ["kinds","sign","kind"] ["kinds","sign","kind"] (Cc Wr):=by walk_at "k"
abbrev AaV:Stmt:=top 17
theorem AfO:Cj ["thing"] ["thing"] (Cc AaV):=by walk_at "k"
abbrev AaC:Stmt:=top 18
theorem AfH:Cj ["kind","thing"] ["kind","thing"] (Cc AaC):=by walk_at "k"
abbrev Aa9:Stmt:=top 21
theorem sc_qs:Cj ["signs","mates","kinds","sign","kind","rank","first","second"] ["signs","mates"] (Cc Aa9):=by walk_at "k"
abbrev Aa2:Stmt:=top 22
theorem sc_qu:Cj ["signs","ranks","sign","kind","rank"] ["signs"] (Cc Aa2):=by walk_at "k"
abbrev Abw:Stmt:=top 23
theorem sc_qz:Cj ["mates","found","first","second"] ["mates"] (Cc Abw):=by walk_at "k"
abbrev AaR:Stmt:=top 19
theorem AfV:Cj ["kinds","sign"] ["kinds","sign"] (Cc AaR):=by walk_at "k"
abbrev AaZ:Stmt:=top 24
theorem sc_qp:Cj ["kinds","whole","base","mark","kind"] ["kinds","whole","base","mark"] (Cc AaZ):=by walk_at "k"
abbrev Abh:Stmt:=top 25
theorem sc_qe:Cj ["pairs","whole","sign","going"] ["pairs","whole"] (Cc Abh):=by walk_at "k"
abbrev AbL:Stmt:=top 26
theorem sc_qt:Cj ["kinds","joins","pairs","whole","base","mark"] ["kinds","joins"] (Cc AbL):=by walk_at "k"
abbrev AaF:Stmt:=top 27
theorem sc_qn:Cj ["pairs","wholes","whole","pair"] ["pairs"] (Cc AaF):=by walk_at "k"
abbrev Wp:Stmt:=Ur (top 28) 0
theorem Agj:Cj ["self","signs","mates","joins"] ["self","signs","mates","joins"] (Cc Wp):=by walk_at "k"
abbrev Wx:Stmt:=Ur (top 28) 1
theorem Af5:Cj ["self","sign"] ["self","sign"] (Cc Wx):=by walk_at "k"
abbrev Aa6:Stmt:=top 38
theorem sc_ql:Cj ["_law_lists_here","_law_told","e"] ["_law_lists_here"] (Cc Aa6):=by walk_at "k"
abbrev AaX:Stmt:=top 33
theorem AfK:Cj ["_law_cell"] ["_law_cell"] (Cc AaX):=by walk_at "k"
abbrev AaU:Stmt:=top 34
theorem sc_qh:Cj ["_law_lists_here","_law_script","_law_cell","_law_new","_law_rank","_law_some"] ["_law_lists_here","_law_script","_law_cell"] (Cc AaU):=by walk_at "k"
abbrev AaJ:Stmt:=top 35
theorem sc_qb:Cj ["_law_lists_here","_law_script","_law_cell","_law_new","_law_other","_law_odd","_law_known","_law_some"] ["_law_lists_here","_law_script","_law_cell"] (Cc AaJ):=by walk_at "k"
abbrev Aa4:Stmt:=top 36
theorem sc_qg:Cj ["_law_lists_here","_law_script","_law_cell","_law_new","_law_bare","_law_fore","_law_mark","_law_odd","_law_one","_law_other","_law_some"] ["_law_lists_here","_law_script","_law_cell"] (Cc Aa4):=by walk_at "k"
abbrev AaW:Stmt:=top 37
theorem sc_qm:Cj ["_law_lists_here","_law_script","_law_cell","_law_at","_law_one","_law_place","_law_found"] ["_law_lists_here","_law_script","_law_cell"] (Cc AaW):=by walk_at "k"
abbrev Qr:Stmt:=top 39
theorem sc_qbf:Cj ["_law_script","_law_lists_here","_law_kept","_law_sign_here","_law_kind","_law_rank","_law_k","_law_again"] ["_law_script"] (Cc Qr):=by walk_at "k"
structure Adr where
 f_qj:Addr
 d_qj:FuncData
 f_qbc:Addr
 d_qbc:FuncData
 f_qba:Addr
 d_qba:FuncData
 f_qc:Addr
 d_qc:FuncData
 f_qd:Addr
 d_qd:FuncData
 f_qa:Addr
 d_qa:FuncData
 f_qbd:Addr
 d_qbd:FuncData
 f_qbb:Addr
 d_qbb:FuncData
 f_qf:Addr
 d_qf:FuncData
 f_qq:Addr
 d_qq:FuncData
 f_qs:Addr
 d_qs:FuncData
 f_qu:Addr
 d_qu:FuncData
 f_qz:Addr
 d_qz:FuncData
 f_qr:Addr
 d_qr:FuncData
 f_qp:Addr
 d_qp:FuncData
 f_qe:Addr
 d_qe:FuncData
 f_qt:Addr
 d_qt:FuncData
 f_qn:Addr
 d_qn:FuncData
 f_qv:Addr
 d_qv:FuncData
 f_qw:Addr
 d_qw:FuncData
 f_ql:Addr
 d_ql:FuncData
 f_qk:Addr
 d_qk:FuncData
 f_qh:Addr
 d_qh:FuncData
 f_qb:Addr
 d_qb:FuncData
 f_qg:Addr
 d_qg:FuncData
 f_qm:Addr
 d_qm:FuncData
 f_qbf:Addr
 d_qbf:FuncData
 C_Book:Addr
 a_JOINED_KINDS:Addr
 a_TOLD_KINDS:Addr
 C_HandsError:Addr
 C_NoBook:Addr
 C_NoPlace:Addr
 C_NoStep:Addr
 C_NoWhat:Addr
 C_NoWidth:Addr
structure Txt(K:Frag)(mg:Str->Option Value)(t:Adr):Prop where
 F_qj:Fun K "_law_cell_at" "_law_cell_at" AbH t.f_qj t.d_qj
 m_qj:mg "_law_cell_at"=some (.ref t.f_qj)
 F_qbc:Fun K "_law_sign" "_law_sign" Xk t.f_qbc t.d_qbc
 m_qbc:mg "_law_sign"=some (.ref t.f_qbc)
 F_qba:Fun K "_law_lists" "_law_lists" Wl t.f_qba t.d_qba
 m_qba:mg "_law_lists"=some (.ref t.f_qba)
 F_qc:Fun K "refuse_unless" "refuse_unless" Abb t.f_qc t.d_qc
 m_qc:mg "refuse_unless"=some (.ref t.f_qc)
 F_qd:Fun K "check_tuples" "check_tuples" AaH t.f_qd t.d_qd
 m_qd:mg "check_tuples"=some (.ref t.f_qd)
 F_qa:Fun K "is_whole_number" "is_whole_number" Abl t.f_qa t.d_qa
 m_qa:mg "is_whole_number"=some (.ref t.f_qa)
 F_qbd:Fun K "is_sign" "is_sign" Wk t.f_qbd t.d_qbd
 m_qbd:mg "is_sign"=some (.ref t.f_qbd)
 F_qbb:Fun K "add_kind" "add_kind" Wr t.f_qbb t.d_qbb
 m_qbb:mg "add_kind"=some (.ref t.f_qbb)
 F_qf:Fun K "is_told_kind" "is_told_kind" AaV t.f_qf t.d_qf
 m_qf:mg "is_told_kind"=some (.ref t.f_qf)
 F_qq:Fun K "is_rank_of" "is_rank_of" AaC t.f_qq t.d_qq
 m_qq:mg "is_rank_of"=some (.ref t.f_qq)
 F_qs:Fun K "kinds_told" "kinds_told" Aa9 t.f_qs t.d_qs
 m_qs:mg "kinds_told"=some (.ref t.f_qs)
 F_qu:Fun K "ranks_told" "ranks_told" Aa2 t.f_qu t.d_qu
 m_qu:mg "ranks_told"=some (.ref t.f_qu)
 F_qz:Fun K "both_ways" "both_ways" Abw t.f_qz t.d_qz
 m_qz:mg "both_ways"=some (.ref t.f_qz)
 F_qr:Fun K "kind_among" "kind_among" AaR t.f_qr t.d_qr
 m_qr:mg "kind_among"=some (.ref t.f_qr)
 F_qp:Fun K "check_join" "check_join" AaZ t.f_qp t.d_qp
 m_qp:mg "check_join"=some (.ref t.f_qp)
 F_qe:Fun K "ends_in_time" "ends_in_time" Abh t.f_qe t.d_qe
 m_qe:mg "ends_in_time"=some (.ref t.f_qe)
 F_qt:Fun K "pairs_told" "pairs_told" AbL t.f_qt t.d_qt
 m_qt:mg "pairs_told"=some (.ref t.f_qt)
 F_qn:Fun K "wholes_told" "wholes_told" AaF t.f_qn t.d_qn
 m_qn:mg "wholes_told"=some (.ref t.f_qn)
 F_qv:Fun K "__init__" "Book.__init__" Wp t.f_qv t.d_qv
 F_qw:Fun K "kind" "Book.kind" Wx t.f_qw t.d_qw
 M_qw:Aa1 K t.C_Book "kind" t.f_qw
 F_ql:Fun K "_law_refused" "_law_refused" Aa6 t.f_ql t.d_ql
 m_ql:mg "_law_refused"=some (.ref t.f_ql)
 F_qk:Fun K "_law_no_sign" "_law_no_sign" AaX t.f_qk t.d_qk
 m_qk:mg "_law_no_sign"=some (.ref t.f_qk)
 F_qh:Fun K "_law_bad_told" "_law_bad_told" AaU t.f_qh t.d_qh
 m_qh:mg "_law_bad_told"=some (.ref t.f_qh)
 F_qb:Fun K "_law_bad_mates" "_law_bad_mates" AaJ t.f_qb t.d_qb
 m_qb:mg "_law_bad_mates"=some (.ref t.f_qb)
 F_qg:Fun K "_law_bad_join" "_law_bad_join" Aa4 t.f_qg t.d_qg
 m_qg:mg "_law_bad_join"=some (.ref t.f_qg)
 F_qm:Fun K "_law_spoiled" "_law_spoiled" AaW t.f_qm t.d_qm
 m_qm:mg "_law_spoiled"=some (.ref t.f_qm)
 F_qbf:Fun K "law" "law" Qr t.f_qbf t.d_qbf
 m_qbf:mg "law"=some (.ref t.f_qbf)
 m_Book:mg "Book"=some (.ref t.C_Book)
 cl_Book:Cls K t.C_Book
 K_Book:Mk K t.C_Book t.f_qv
 n_Book_kinds:NoAttr K t.C_Book "kinds"
 n_Book_ranks:NoAttr K t.C_Book "ranks"
 n_Book_mates:NoAttr K t.C_Book "mates"
 n_Book_pairs:NoAttr K t.C_Book "pairs"
 n_Book_wholes:NoAttr K t.C_Book "wholes"
 m_HandsError:mg "HandsError"=some (.ref t.C_HandsError)
 x_HandsError:PySem.W.excIn K t.C_HandsError [.type "ValueError",.type "Exception",.type "BaseException",.type "object"] "ValueError.__new__"=true
 m_NoBook:mg "NoBook"=some (.ref t.C_NoBook)
 x_NoBook:PySem.W.excIn K t.C_NoBook [.type "ValueError",.type "Exception",.type "BaseException",.type "object"] "ValueError.__new__"=true
 m_NoPlace:mg "NoPlace"=some (.ref t.C_NoPlace)
 x_NoPlace:PySem.W.excIn K t.C_NoPlace [.type "ValueError",.type "Exception",.type "BaseException",.type "object"] "ValueError.__new__"=true
 m_NoStep:mg "NoStep"=some (.ref t.C_NoStep)
 x_NoStep:PySem.W.excIn K t.C_NoStep [.type "ValueError",.type "Exception",.type "BaseException",.type "object"] "ValueError.__new__"=true
 m_NoWhat:mg "NoWhat"=some (.ref t.C_NoWhat)
 x_NoWhat:PySem.W.excIn K t.C_NoWhat [.type "ValueError",.type "Exception",.type "BaseException",.type "object"] "ValueError.__new__"=true
 m_NoWidth:mg "NoWidth"=some (.ref t.C_NoWidth)
 x_NoWidth:PySem.W.excIn K t.C_NoWidth [.type "ValueError",.type "Exception",.type "BaseException",.type "object"] "ValueError.__new__"=true
 r_NoBook_HandsError:mroIn K t.C_NoBook (.ref t.C_HandsError)=some true
 N_NoBook:Lr K t.C_NoBook
 i_NoBook_NoBook:kitOne K (.ref t.C_NoBook) (.ref t.C_NoBook)=some true
 i_NoBook_ValueError:kitOne K (.ref t.C_NoBook) (.type "ValueError")=some true
 i_NoBook_NoStep:kitOne K (.ref t.C_NoBook) (.ref t.C_NoStep)=some false
 i_NoBook_NoPlace:kitOne K (.ref t.C_NoBook) (.ref t.C_NoPlace)=some false
 i_NoBook_NoWidth:kitOne K (.ref t.C_NoBook) (.ref t.C_NoWidth)=some false
 i_NoBook_NoWhat:kitOne K (.ref t.C_NoBook) (.ref t.C_NoWhat)=some false
 z_ValueError:mg "ValueError"=none
 z_bool:mg "bool"=none
 z_int:mg "int"=none
 z_isinstance:mg "isinstance"=none
 z_len:mg "len"=none
 z_list:mg "list"=none
 z_min:mg "min"=none
 z_range:mg "range"=none
 z_str:mg "str"=none
 z_tuple:mg "tuple"=none
 g_JOINED_KINDS:mg "JOINED_KINDS"=some (.ref t.a_JOINED_KINDS)
 q_JOINED_KINDS:∀H,SqT K H t.a_JOINED_KINDS [.str "fore",.str "back",.str "num",.str "blank",.str "plain"]
 g_MOST_GOINGS:∃u,mg "MOST_GOINGS"=some u/\RelV (.int 7) u
 g_TOLD_KINDS:mg "TOLD_KINDS"=some (.ref t.a_TOLD_KINDS)
 q_TOLD_KINDS:∀H,SqT K H t.a_TOLD_KINDS [.str "fore",.str "back",.str "num",.str "blank",.str "mark",.str "forein",.str "backin",.str "out"]
abbrev Sg:=Int×Str×Int
def toldK:List Str:=["fore","back","num","blank","mark","forein","backin","out"]
def Jf(k:Str)(r:Int):Prop:=(k="mark"/\1<=r)\/(¬k="mark"/\r=0)
def TripAt(H:Hp)(x:V)(s:Sg):Prop:=∃p,x=.ref p/\H p=some (.tup [.int s.1,.str s.2.1,.int s.2.2])
def PairAt(H:Hp)(x:V)(m:Int×Int):Prop:=∃p,x=.ref p/\H p=some (.tup [.int m.1,.int m.2])
def LAt{β α:Type}(R:Hp->β->α->Prop)(H:Hp)(xs:List β)(ys:List α):Prop:=xs.length=ys.length/\∀(i:Nat) (x:β) (y:α),xs[i]? = some x->ys[i]? = some y->R H x y
theorem LAt.get{β α:Type}{R:Hp->β->α->Prop}{H:Hp}{xs:List β}{ys:List α}(h:LAt R H xs ys){i:Nat}{x:β}(e:xs[i]? = some x):∃y,ys[i]? = some y/\R H x y:=by
 have hi:i<xs.length:=(List.getElem?_eq_some_iff.mp e).1
 have hy:i<ys.length:=by rw[<- h.1];exact hi
 exact⟨ys[i],getElem?_eq_getElem hy,h.2 i x _ e (getElem?_eq_getElem hy)⟩
theorem LAt.mono{β α:Type}{R R':Hp->β->α->Prop}{H H':Hp}{xs:List β}{ys:List α}(h:LAt R H xs ys)(m:∀x y,R H x y->R' H' x y):LAt R' H' xs ys:=⟨h.1,λi x y e1 e2=>m x y (h.2 i x y e1 e2)⟩
theorem LAt.snoc{β α:Type}{R:Hp->β->α->Prop}{H:Hp}{xs:List β}{ys:List α}{x:β}{y:α}(h:LAt R H xs ys)(r:R H x y):LAt R H (xs++[x]) (ys++[y]):=by
 refine⟨by simp [h.1],λi u v e1 e2=>?_⟩
 by_cases hi:i<xs.length
 ·rw[getElem?_append_left hi] at e1
  rw[getElem?_append_left (by rw[<- h.1];exact hi)] at e2
  exact h.2 i u v e1 e2
 ·rw[getElem?_append_right (by omega)] at e1
  rw[getElem?_append_right (by rw[<- h.1];omega),<- h.1] at e2
  have hz:i - xs.length=0:=by
   have:=(List.getElem?_eq_some_iff.mp e1).1
   simp at this;omega
  rw[hz] at e1 e2
  simp at e1 e2
  rw[<- e1,<- e2];exact r
theorem LAt.nil{β α:Type}{R:Hp->β->α->Prop}{H:Hp}:LAt R H ([]:List β) ([]:List α):=⟨rfl,λi x y e=>by simp at e⟩
structure Lv(s:Sg):Prop where
 nn:0<=s.1
 kd:s.2.1∈toldK
 rk:Jf s.2.1 s.2.2
def kK(signs:List Sg):List (Key×V):=signs.map λs=>(.inl s.1,.str s.2.1)
def kR(signs:List Sg):List (Key×V):=signs.map λs=>(.inl s.1,.int s.2.2)
def kM:List (Int×Int)->List (Key×V)
 | []=>[]
 | m::r=>(.inl m.1,.str "open")::(.inl m.2,.str "shut")::kM r
def kB:List (Int×Int)->List (Key×V)
 | []=>[]
 | m::r=>(.inl m.1,.int m.2)::(.inl m.2,.int m.1)::kB r
def Cn:List (Int×Int)->List Int
 | []=>[]
 | m::r=>m.1::m.2::Cn r
theorem Yp(xs ys:List (Int×Int)):kM (xs++ys)=kM xs++kM ys:=by
 induction xs with
 | nil=>rfl
 | cons x r ih=>simp [kM,ih]
theorem Rw(xs ys:List (Int×Int)):kB (xs++ys)=kB xs++kB ys:=by
 induction xs with
 | nil=>rfl
 | cons x r ih=>simp [kB,ih]
theorem Adb(xs:List (Int×Int)):(kM xs).map (·.1)=(Cn xs).map Sum.inl:=by
 induction xs with
 | nil=>rfl
 | cons x r ih=>simp [kM,Cn,ih]
theorem AdL(xs:List (Int×Int)):(kB xs).map (·.1)=(Cn xs).map Sum.inl:=by
 induction xs with
 | nil=>rfl
 | cons x r ih=>simp [kB,Cn,ih]
theorem Aeb(xs:List (Int×Int)):(kM xs).length=2*xs.length:=by
 induction xs with
 | nil=>rfl
 | cons x r ih=>simp [kM,ih];omega
theorem Afd(xs:List (Int×Int)):(kB xs).length=2*xs.length:=by
 induction xs with
 | nil=>rfl
 | cons x r ih=>simp [kB,ih];omega
theorem Lm{kvs:List (Key×V)}{n:Int}(h:¬(Sum.inl n:Key)∈kvs.map (·.1)):Ck kvs (Sum.inl n)=none:=by
 cases e:Ck kvs (Sum.inl n:Key) with
 | none=>rfl
 | some v=>exact absurd (Ut e) h
theorem Ot{kvs:List (Key×V)}(nd:(kvs.map (·.1)).Nodup){k:Key}{v:V}(h:(k,v)∈kvs):Ck kvs k=some v:=by
 induction kvs with
 | nil=>cases h
 | cons p r ih =>
  have nd':(p.1::r.map (·.1)).Nodup:=nd
  obtain⟨h1,h2⟩:=nodup_cons.mp nd'
  rcases mem_cons.mp h with e | e
  ·subst e;exact Ji rfl
  ·have:¬p.1=k:=λz=>h1 (by rw[z];exact mem_map.mpr ⟨_,e,rfl⟩)
   rw[Jb this];exact ih h2 e
theorem Nk{l:List Int}(h:l.Nodup):(l.map (Sum.inl:Int->Key)).Nodup:=by
 induction l with
 | nil=>exact nodup_nil
 | cons a r ih =>
  obtain⟨h1,h2⟩:=nodup_cons.mp h
  refine nodup_cons.mpr ⟨λm=>h1 ?_,ih h2⟩
  obtain⟨b,hb,e⟩:=mem_map.mp m
  cases e;exact hb
theorem Jz{n:Nat}(h:n<=1000):n<sizeLine:=Fx h
theorem Dj{α:Type}{l:List α}{i:Nat}{x:α}(h:l[i]? = some x):l.take (i+1)=l.take i++[x]:=by
 obtain⟨hi,e⟩:=List.getElem?_eq_some_iff.mp h
 rw[List.take_add_one,getElem?_eq_getElem hi,e]
 rfl
theorem Same.new{d:Addr}{H:Hp}{o:HO}(h:H d=none):Same H (upd H d o):=λq u e=>by rw[Bj (Bp e h)];exact e
theorem TripAt.mono{H H':Hp}{x:V}{s:Sg}(h:TripAt H x s)(k:∀q xs,H q=some (.tup xs)->H' q=some (.tup xs)):TripAt H' x s:=by
 obtain⟨p,e,hp⟩:=h
 exact⟨p,e,k p _ hp⟩
theorem PairAt.mono{H H':Hp}{x:V}{s:Int×Int}(h:PairAt H x s)(k:∀q xs,H q=some (.tup xs)->H' q=some (.tup xs)):PairAt H' x s:=by
 obtain⟨p,e,hp⟩:=h
 exact⟨p,e,k p _ hp⟩
theorem Cv{CX:CXT}{P:Program}{w:World}{K:Frag}{mg:Str->Option Value}{base:Heap}{N:List Str}{qual:Str}{sc:Scope}{f:Addr}{cd:Value}{A:Around}{outer:List Env}{s:Shared}{H:Hp}{E:XK}:(Gh CX P w K mg base N qual sc f cd A outer s H E).K=K:=rfl
section
variable {σ:St}{H:Hp}{Q:VK}{K:Frag}{a d:Addr}{n:Int}
theorem Wz{A B:Prop}(h:B):if (!true)=true then A else B:=Jv h
theorem Wo{A B:Prop}(h:A):if (!false)=true then A else B:=Js h
theorem Abq{P:Bool->Prop}(q:P true):∃x m t b,[V.int n,V.ty "int"]=[x,V.ty m]/\Fb K H x t/\kitOne K t (.type m)=some b/\P b:=⟨_,_,_,_,rfl,.int n,Uf,q⟩
theorem Aaa{P:Bool->Prop}(q:P false):∃x m t b,[V.int n,V.ty "bool"]=[x,V.ty m]/\Fb K H x t/\kitOne K t (.type m)=some b/\P b:=⟨_,_,_,_,rfl,.int n,Ti,q⟩
theorem AaQ{z:Str}{P:Bool->Prop}(q:P true):∃x m t b,[V.str z,V.ty "str"]=[x,V.ty m]/\Fb K H x t/\kitOne K t (.type m)=some b/\P b:=⟨_,_,_,_,rfl,.str z,Ue,q⟩
theorem Ad0{xs:List V}(h:H a=some (.lst xs)){P:Bool->Prop}(q:P true):∃x m t b,[V.ref a,V.ty "list"]=[x,V.ty m]/\Fb K H x t/\kitOne K t (.type m)=some b/\P b:=⟨_,_,_,_,rfl,.lst h,Sh,q⟩
theorem Aga{xs:List V}(h:H a=some (.tup xs)){P:Bool->Prop}(q:P true):∃x m t b,[V.ref a,V.ty "tuple"]=[x,V.ty m]/\Fb K H x t/\kitOne K t (.type m)=some b/\P b:=⟨_,_,_,_,rfl,.tup h,Uc,q⟩
theorem Aeg{xs:List V}(h:H a=some (.tup xs)){P:List V->Prop}(q:P xs):∃p ys,[V.ref a]=[V.ref p]/\(SqL K H p ys\/SqT K H p ys)/\P ys:=⟨a,xs,rfl,.inr (SqT.of h),q⟩
theorem Afv{kvs:List (Key×V)}(h:H d=some (.dK kvs)){P:Option V->Prop}(q:P (Ck kvs (.inl n))):∃a o,V.ref d=V.ref a/\DGet H a (.int n) o/\P o:=⟨d,_,rfl,DGet.k (k:=Sum.inl n) h,q⟩
theorem Aaf{kvs:List (Key×V)}{v:V}{R:Hp->Prop}(h:H d=some (.dK kvs))(q:R (upd H d (.dK (Fr kvs (.inl n) v))))(hl:kvs.length<sizeLine):∃a H4,V.ref d=V.ref a/\DPut H a (.int n) v H4/\R H4:=⟨d,_,rfl,DPut.k (k:=Sum.inl n) h hl,q⟩
theorem AfX{kvs:List (Key×V)}{P:Addr->Prop}(h:H d=some (.dK kvs))(q:P d):∃a,V.ref d=V.ref a/\IsD H a/\P a:=⟨d,rfl,.inl ⟨_,.inl h⟩,q⟩
theorem Aes{kvs:List (Key×V)}{P:Option V->Prop}(h:H d=some (.dK kvs))(q:P (Ck kvs (.inl n))):∃o,DGet H d (.int n) o/\P o:=⟨_,DGet.k (k:=Sum.inl n) h,q⟩
theorem AfD{xs:List V}{i:Int}{v:V}(h:H a=some (.tup xs))(q:Q v H)(hv:atI xs i=some v):Xg K (.ref a) (.int i) H Q:=⟨a,xs,i,v,rfl,rfl,SqT.of h,hv,q⟩
end
abbrev Jn:=Int×Int×Int
def joinedK:List Str:=["fore","back","num","blank","plain"]
def TrjAt(H:Hp)(x:V)(j:Jn):Prop:=∃p,x=.ref p/\H p=some (.tup [.int j.1,.int j.2.1,.int j.2.2])
def KvAt(H:Hp)(kv:Key×V)(j:Jn):Prop:=kv.1=Sum.inl j.1/\∃p,kv.2=.ref p/\H p=some (.tup [.int j.2.1,.int j.2.2])
theorem TrjAt.mono{H H':Hp}{x:V}{j:Jn}(h:TrjAt H x j)(k:∀q xs,H q=some (.tup xs)->H' q=some (.tup xs)):TrjAt H' x j:=by
 obtain⟨p,e,hp⟩:=h
 exact⟨p,e,k p _ hp⟩
theorem KvAt.mono{H H':Hp}{x:Key×V}{j:Jn}(h:KvAt H x j)(k:∀q xs,H q=some (.tup xs)->H' q=some (.tup xs)):KvAt H' x j:=by
 obtain⟨e1,p,e,hp⟩:=h
 exact⟨e1,p,e,k p _ hp⟩
theorem LAt.tripS{H H':Hp}{xs:List V}{S:List Sg}(h:LAt TripAt H xs S)(s:Same H H'):LAt TripAt H' xs S:=h.mono λ_ _ z=>z.mono λ_ _ e=>s _ _ e
theorem LAt.pairS{H H':Hp}{xs:List V}{S:List (Int×Int)}(h:LAt PairAt H xs S)(s:Same H H'):LAt PairAt H' xs S:=h.mono λ_ _ z=>z.mono λ_ _ e=>s _ _ e
theorem LAt.trjS{H H':Hp}{xs:List V}{S:List Jn}(h:LAt TrjAt H xs S)(s:Same H H'):LAt TrjAt H' xs S:=h.mono λ_ _ z=>z.mono λ_ _ e=>s _ _ e
theorem LAt.kvS{H H':Hp}{xs:List (Key×V)}{S:List Jn}(h:LAt KvAt H xs S)(s:Same H H'):LAt KvAt H' xs S:=h.mono λ_ _ z=>z.mono λ_ _ e=>s _ _ e
theorem LAt.take{β α:Type}{R:Hp->β->α->Prop}{H:Hp}{xs:List β}{ys:List α}(h:LAt R H xs ys)(n:Nat):LAt R H (xs.take n) (ys.take n) :=
 ⟨by rw[length_take,length_take,h.1],λi x y e1 e2=>by
  rw[List.getElem?_take] at e1 e2
  split at e1
  ·rename_i hi
   rw[if_pos hi] at e2
   exact h.2 i x y e1 e2
  ·cases e1⟩
theorem LAt.drop{β α:Type}{R:Hp->β->α->Prop}{H:Hp}{xs:List β}{ys:List α}(h:LAt R H xs ys)(n:Nat):LAt R H (xs.drop n) (ys.drop n) :=
 ⟨by rw[length_drop,length_drop,h.1],λi x y e1 e2=>by
  rw[List.getElem?_drop] at e1 e2
  exact h.2 _ x y e1 e2⟩
theorem LAt.append{β α:Type}{R:Hp->β->α->Prop}{H:Hp}{xs xs':List β}{ys ys':List α}(h:LAt R H xs ys)(h':LAt R H xs' ys'):LAt R H (xs++xs') (ys++ys') :=
 ⟨by rw[length_append,length_append,h.1,h'.1],λi x y e1 e2=>by
  by_cases hi:i<xs.length
  ·rw[getElem?_append_left hi] at e1
   rw[getElem?_append_left (by rw[<- h.1];exact hi)] at e2
   exact h.2 i x y e1 e2
  ·rw[getElem?_append_right (by omega)] at e1
   rw[getElem?_append_right (by rw[<- h.1];omega),<- h.1] at e2
   exact h'.2 _ x y e1 e2⟩
theorem LAt.uncons{β α:Type}{R:Hp->β->α->Prop}{H:Hp}{x:β}{xs:List β}{y:α}{ys:List α}(h:LAt R H (x::xs) (y::ys)):R H x y/\LAt R H xs ys :=
 ⟨h.2 0 x y rfl rfl,by simpa using h.1,λi u v e1 e2=>h.2 (i+1) u v e1 e2⟩
def Do:List Jn->Int->Option (Int×Int)
 | [],_=>none
 | j::r,n=>if j.1=n then some j.2 else Do r n
def Gt(J:List Jn)(n:Int):Int:=match Do J n with | some m=>m.1 | none=>n
def jGo(J:List Jn):Nat->Int->Int
 | 0,n=>n
 | k+1,n=>Gt J (jGo J k n)
theorem Rt{J:List Jn}(nd:(J.map (·.1)).Nodup){j:Jn}(h:j∈J):Do J j.1=some j.2:=by
 induction J with
 | nil=>cases h
 | cons x r ih =>
  obtain⟨h1,h2⟩:=nodup_cons.mp (show (x.1::r.map (·.1)).Nodup from nd)
  unfold Do
  rcases mem_cons.mp h with e | e
  ·subst e;rw[if_pos rfl]
  ·rw[if_neg λz=>h1 (mem_map.mpr ⟨j,e,z.symm⟩)]
   exact ih h2 e
theorem Qz{J:List Jn}{n:Int}{m:Int×Int}(h:Do J n=some m):(n,m)∈J:=by
 induction J with
 | nil=>cases h
 | cons x r ih =>
  unfold Do at h
  split at h
  ·rename_i e
   cases h
   rw[<- e];exact mem_cons_self
  ·exact mem_cons_of_mem _ (ih h)
theorem Vz{J:List Jn}{n:Int}(h:¬n∈J.map (·.1)):Do J n=none:=by
 cases e:Do J n with
 | none=>rfl
 | some m=>exact absurd (mem_map.mpr ⟨_,Qz e,rfl⟩) h
theorem Qu{H:Hp}{kvs:List (Key×V)}{J:List Jn}(h:LAt KvAt H kvs J)(n:Int) :
  (Do J n=none/\Ck kvs (Sum.inl n)=none)\/∃m p,Do J n=some m/\Ck kvs (Sum.inl n)=some (.ref p)/\H p=some (.tup [.int m.1,.int m.2]):=by
 induction kvs generalizing J with
 | nil =>
  cases J with
  | nil=>exact .inl ⟨rfl,rfl⟩
  | cons j r=>have:=h.1;simp at this
 | cons kv ks ih =>
  cases J with
  | nil=>have:=h.1;simp at this
  | cons j r =>
   obtain⟨⟨h1,p,e,hp⟩,h3⟩:=h.uncons
   unfold Do
   by_cases z:j.1=n
   ·rw[if_pos z]
    exact .inr ⟨j.2,p,rfl,by rw[Ji (by rw[h1,z]),e],hp⟩
   ·rw[if_neg z,Jb (by rw[h1];intro w;exact z (Sum.inl.inj w))]
    exact ih h3
def kW(J:List Jn):List (List Key×V):=J.map λj=>([Sum.inl j.2.1,Sum.inl j.2.2],V.int j.1)
theorem AfA{J:List Jn}{a b:Int}(h:¬(a,b)∈J.map (·.2)):Ck (kW J) [Sum.inl a,Sum.inl b]=none:=by
 cases e:Ck (kW J) ([Sum.inl a,Sum.inl b]:List Key) with
 | none=>rfl
 | some v =>
  have:=Ut e
  unfold kW at this
  rw[map_map] at this
  obtain⟨j,hj,z⟩:=mem_map.mp this
  have z':([Sum.inl j.2.1,Sum.inl j.2.2]:List Key)=[Sum.inl a,Sum.inl b]:=z
  injection z' with z1 z2
  injection z2 with z3 z4
  exact absurd (mem_map.mpr ⟨j,hj,Prod.ext (Sum.inl.inj z1) (Sum.inl.inj z3)⟩) h
def knd(kk:List (Key×V))(n:Int):V:=(Ck kk (Sum.inl n)).getD (.str "plain")
structure Abj(kk:List (Key×V))(J:List Jn):Prop where
 nn:∀j∈J,0<=j.1/\0<=j.2.1/\0<=j.2.2
 mr:∀j∈J,knd kk j.2.2=.str "mark"
 kd:∀j∈J,∃k∈joinedK,knd kk j.1=.str k/\knd kk j.2.1=.str k
 nw:(J.map (·.1)).Nodup
 np:(J.map (·.2)).Nodup
 en:∀j∈J,Do J (jGo J 7 j.1)=none
 ln:J.length<=400
theorem AaN{H:Hp}{a:Addr}{u o:HO}(h:H a=some u):upd (upd H a o) a u=H:=by
 rw[Fv];funext b;unfold upd;split
 ·rename_i e;rw[e,h]
 ·rfl
theorem AeN{H:Hp}{a:Addr}{u:HO}{o:Obj}:Rd (upd H a (.frz o u)) a u:=.inr ⟨o,Bn⟩
theorem Wn{α:Type}{l:List α}{i:Nat}{x:α}(nd:l.Nodup)(h:l[i]? = some x):¬x∈l.take i:=by
 obtain⟨hi,e⟩:=List.getElem?_eq_some_iff.mp h
 rw[<- take_append_drop i l,List.drop_eq_getElem_cons hi,e] at nd
 intro m
 exact (nodup_append.mp nd).2.2 _ m _ mem_cons_self rfl
theorem Jc{α β:Type}{l:List α}{f:α->β}{i:Nat}{x:α}(nd:(l.map f).Nodup)(h:l[i]? = some x):¬f x∈(l.take i).map f:=by
 rw[map_take]
 exact Wn nd (by rw[getElem?_map,h];rfl)
def bkF(dk dr dm dp dw:Addr):List (Str×V):=Bt "wholes" (.ref dw) (Bt "pairs" (.ref dp) (Bt "mates" (.ref dm) (Bt "ranks" (.ref dr) (Bt "kinds" (.ref dk) []))))
theorem Zo{dk dr dm dp dw:Addr}:(bkF dk dr dm dp dw).lookup ("kinds" : Str)=some (.ref dk):=by
 unfold bkF
 rw[Co,if_neg (by decide +kernel),Co,if_neg (by decide +kernel),Co,if_neg (by decide +kernel),Co,if_neg (by decide +kernel),Co,if_pos rfl]
theorem Aec{dk dr dm dp dw:Addr}{m:Str}(h1:¬m="wholes")(h2:¬m="pairs")(h3:¬m="mates")(h4:¬m="ranks")(h5:¬m="kinds"):(bkF dk dr dm dp dw).lookup m=none:=by
 unfold bkF
 rw[Co,if_neg h1,Co,if_neg h2,Co,if_neg h3,Co,if_neg h4,Co,if_neg h5]
 rfl
theorem Tr{dk dr dm dp dw:Addr}:(bkF dk dr dm dp dw).lookup ("kind" : Str)=none:=Aec (by decide +kernel) (by decide +kernel) (by decide +kernel) (by decide +kernel) (by decide +kernel)
def BookAt(C:Addr)(H:Hp)(b:Addr)(k r m p:List (Key×V))(w:List (List Key×V)):Prop :=
 ∃dx dk dr dm dp dw,H b=some (.ins C dx (bkF dk dr dm dp dw))/\H dk=some (.dK k)/\H dr=some (.dK r)/\H dm=some (.dK m)/\H dp=some (.dK p)/\H dw=some (.dT w)
theorem BookAt.mono{C:Addr}{H H':Hp}{b:Addr}{k r m p:List (Key×V)}{w:List (List Key×V)}(h:BookAt C H b k r m p w)(s:∀q o,H q=some o->(∀xs,o≠.lst xs)->H' q=some o):BookAt C H' b k r m p w:=by
 obtain⟨dx,dk,dr,dm,dp,dw,h1,h2,h3,h4,h5,h6⟩:=h
 exact⟨dx,dk,dr,dm,dp,dw,s _ _ h1 (λ_ z=>nomatch z),s _ _ h2 (λ_ z=>nomatch z),s _ _ h3 (λ_ z=>nomatch z),s _ _ h4 (λ_ z=>nomatch z),s _ _ h5 (λ_ z=>nomatch z),s _ _ h6 (λ_ z=>nomatch z)⟩
theorem Yt{C b:Addr}{H:Hp}{k r m p:List (Key×V)}{w:List (List Key×V)}{nm:Str}{P:Prop}(h:BookAt C H b k r m p w)(hm:∀{dk dr dm dp dw:Addr},(bkF dk dr dm dp dw).lookup nm=none)(q:P) :
  ∃a dx fs,V.ref b=V.ref a/\H a=some (.ins C dx fs)/\fs.lookup nm=none/\P:=by
 obtain⟨dx,dk,dr,dm,dp,dw,h1,_⟩:=h
 exact⟨b,dx,_,rfl,h1,hm,q⟩
def Keep(p:Addr)(H H':Hp):Prop:=∀q o,H q=some o->q≠p->H' q=some o
theorem Keep.trans{p:Addr}{H H1 H2:Hp}(a:Keep p H H1)(b:Keep p H1 H2):Keep p H H2:=λq o h n=>b q o (a q o h n) n
theorem Keep.new{p d:Addr}{H:Hp}{o:HO}(h:H d=none):Keep p H (upd H d o):=λq u e _=>by rw[Bj (Bp e h)];exact e
theorem Keep.put{p:Addr}{H:Hp}{o:HO}:Keep p H (upd H p o):=λq u e n=>by rw[Bj n];exact e
theorem Keep.free{p:Addr}{H H':Hp}{o:HO}(k:Keep p H H')(hp:H' p=some o){d:Addr}(h:H' d=none):H d=none:=by
 cases e:H d with
 | none=>rfl
 | some u =>
  by_cases z:d=p
  ·subst z;rw[hp] at h;cases h
  ·rw[k _ _ e z] at h;cases h
def AdT(C:Addr):Sp:=λvs H Q _=>∃p dx a b cc xs ys zs signs mates J,vs=[.ref p,.ref a,.ref b,.ref cc]/\H p=some (.ins C dx [])/\H a=some (.lst xs)/\H b=some (.lst ys)/\H cc=some (.lst zs)/\LAt TripAt H xs signs/\LAt PairAt H ys mates/\LAt TrjAt H zs J /\
 (∀s∈signs,Lv s)/\(∀m∈mates,0<=m.1/\0<=m.2)/\(signs.map (·.1)++Cn mates).Nodup/\Abj (kK signs++kM mates) J/\signs.length+2*mates.length<=400 /\
 ∀H' kvs dx dk dr dm dp dw,Keep p H H'->H dk=none->H dr=none->H dm=none->H dp=none->H dw=none->H' p=some (.ins C dx (bkF dk dr dm dp dw))->H' dk=some (.dK (kK signs++kM mates))->H' dr=some (.dK (kR signs))->H' dm=some (.dK (kB mates))->H' dp=some (.dK kvs)->H' dw=some (.dT (kW J))->LAt KvAt H' kvs J->Q .non H'
def Vf(C:Addr):Sp:=λvs H Q _=>∃b n k r m p w,vs=[.ref b,.int n]/\BookAt C H b k r m p w/\Q ((Ck k (Sum.inl n)).getD (.str "plain")) H
inductive PV where
 | non | bl (b:Bool) | int (i:Int) | str (x:Str)
 | lst (xs:List PV) | tup (xs:List PV) | ctp (xs:List PV)
 | dk (kvs:List (Key×PV)) | dt (kvs:List (List Key×PV))
 | bk (S:List Sg) (M:List (Int×Int)) (J:List Jn)
 | scr (ns:List Int)
 | exc (c:Addr) | cls (c:Addr) | ty (n:String)
inductive Rep(K:Frag)(C:Addr)(G:Hp):V->PV->Prop where
 | non:Rep K C G .non .non
 | bl (b:Bool):Rep K C G (.bl b) (.bl b)
 | int (i:Int):Rep K C G (.int i) (.int i)
 | str (x:Str):Rep K C G (.str x) (.str x)
 | lst {a:Addr} {vs:List V} {ps:List PV} (e:G a=some (.lst vs)) (l:vs.length=ps.length) (h:∀(i:Nat) (v:V) (p:PV),vs[i]? = some v->ps[i]? = some p->Rep K C G v p):Rep K C G (.ref a) (.lst ps)
 | tup {a:Addr} {vs:List V} {ps:List PV} (e:G a=some (.tup vs)) (l:vs.length=ps.length) (h:∀(i:Nat) (v:V) (p:PV),vs[i]? = some v->ps[i]? = some p->Rep K C G v p):Rep K C G (.ref a) (.tup ps)
 | ctp {a:Addr} {vs:List V} {ps:List PV} (e:∀H,SqT K H a vs) (l:vs.length=ps.length) (h:∀(i:Nat) (v:V) (p:PV),vs[i]? = some v->ps[i]? = some p->Rep K C G v p):Rep K C G (.ref a) (.ctp ps)
 | dk {a:Addr} {kvs:List (Key×V)} {ps:List (Key×PV)} (e:G a=some (.dK kvs)) (l:kvs.length=ps.length) (hk:∀(i:Nat) (v:Key×V) (p:Key×PV),kvs[i]? = some v->ps[i]? = some p->v.1=p.1)
   (h:∀(i:Nat) (v:Key×V) (p:Key×PV),kvs[i]? = some v->ps[i]? = some p->Rep K C G v.2 p.2):Rep K C G (.ref a) (.dk ps)
 | dt {a:Addr} {kvs:List (List Key×V)} {ps:List (List Key×PV)} (e:G a=some (.dT kvs)) (l:kvs.length=ps.length) (hk:∀(i:Nat) (v:List Key×V) (p:List Key×PV),kvs[i]? = some v->ps[i]? = some p->v.1=p.1)
   (h:∀(i:Nat) (v:List Key×V) (p:List Key×PV),kvs[i]? = some v->ps[i]? = some p->Rep K C G v.2 p.2):Rep K C G (.ref a) (.dt ps)
 | bk {b:Addr} {S:List Sg} {M:List (Int×Int)} {J:List Jn} {kvs:List (Key×V)} (h:BookAt C G b (kK S++kM M) (kR S) (kB M) kvs (kW J)) (l:LAt KvAt G kvs J):Rep K C G (.ref b) (.bk S M J)
 | scr {a:Addr} {ns:List Int} (h:SqL K G a (ns.map V.int)):Rep K C G (.ref a) (.scr ns)
 | exc {a c:Addr} (e:G a=some (.ext (excF a c))):Rep K C G (.ref a) (.exc c)
 | cls {c:Addr}:Rep K C G (.ref c) (.cls c)
 | ty {n:String}:Rep K C G (.ty n) (.ty n)
section
variable {K:Frag}{C:Addr}{ω:Om}{G G' H H':Hp}{v:V}{p:PV}{a:Addr}
theorem Rep.mono(h:Rep K C G v p)(s:Same G G'):Rep K C G' v p:=by
 induction h with
 | non=>exact .non
 | bl b=>exact .bl b
 | int i=>exact .int i
 | str x=>exact .str x
 | lst e l _ ih=>exact .lst (s _ _ e) l ih
 | tup e l _ ih=>exact .tup (s _ _ e) l ih
 | ctp e l _ ih=>exact .ctp e l ih
 | dk e l hk _ ih=>exact .dk (s _ _ e) l hk ih
 | dt e l hk _ ih=>exact .dt (s _ _ e) l hk ih
 | bk h l=>exact .bk (h.mono λ_ _ e _=>s _ _ e) (l.kvS s)
 | scr h=>exact .scr (s.seq h)
 | exc e=>exact .exc (s _ _ e)
 | cls=>exact .cls
 | ty=>exact .ty
def KRep{κ:Type}(K:Frag)(C:Addr)(G:Hp)(v:κ×V)(p:κ×PV):Prop:=v.1=p.1/\Rep K C G v.2 p.2
theorem KRep.mono{κ:Type}{v:κ×V}{p:κ×PV}(h:KRep K C G v p)(s:Same G G'):KRep K C G' v p:=⟨h.1,h.2.mono s⟩
abbrev Reps(K:Frag)(C:Addr)(G:Hp)(vs:List V)(ps:List PV):Prop:=LAt (Rep K C) G vs ps
theorem Reps.mono{vs:List V}{ps:List PV}(h:Reps K C G vs ps)(s:Same G G'):Reps K C G' vs ps:=LAt.mono h λ_ _ z=>z.mono s
theorem KReps.mono{κ:Type}{vs:List (κ×V)}{ps:List (κ×PV)}(h:LAt (KRep K C) G vs ps)(s:Same G G'):LAt (KRep K C) G' vs ps:=LAt.mono h λ_ _ z=>z.mono s
theorem Rep.ofL{vs:List V}{ps:List PV}(e:G a=some (.lst vs))(h:Reps K C G vs ps):Rep K C G (.ref a) (.lst ps):=.lst e h.1 h.2
theorem Rep.ofT{vs:List V}{ps:List PV}(e:G a=some (.tup vs))(h:Reps K C G vs ps):Rep K C G (.ref a) (.tup ps):=.tup e h.1 h.2
theorem Rep.ofD{vs:List (Key×V)}{ps:List (Key×PV)}(e:G a=some (.dK vs))(h:LAt (KRep K C) G vs ps):Rep K C G (.ref a) (.dk ps):=.dk e h.1 (λi v p h1 h2=>(h.2 i v p h1 h2).1) (λi v p h1 h2=>(h.2 i v p h1 h2).2)
theorem Rep.ofDt{vs:List (List Key×V)}{ps:List (List Key×PV)}(e:G a=some (.dT vs))(h:LAt (KRep K C) G vs ps):Rep K C G (.ref a) (.dt ps):=.dt e h.1 (λi v p h1 h2=>(h.2 i v p h1 h2).1) (λi v p h1 h2=>(h.2 i v p h1 h2).2)
def Oi(o:HO):Prop:=∀xs,o≠.tup xs
def OwnA(K:Frag)(C:Addr)(G H:Hp)(a:Addr):PV->Prop
 | .lst ps=>∃vs,H a=some (.lst vs)/\Reps K C G vs ps
 | .dk ps=>∃kvs,H a=some (.dK kvs)/\LAt (KRep K C) G kvs ps
 | .dt ps=>∃kvs,H a=some (.dT kvs)/\LAt (KRep K C) G kvs ps
 | _=>False
theorem OwnA.ofL{vs:List V}{ps:List PV}(e:H a=some (.lst vs))(r:Reps K C G vs ps):OwnA K C G H a (.lst ps):=⟨vs,e,r⟩
theorem OwnA.ofD{vs:List (Key×V)}{ps:List (Key×PV)}(e:H a=some (.dK vs))(r:LAt (KRep K C) G vs ps):OwnA K C G H a (.dk ps):=⟨vs,e,r⟩
theorem OwnA.here(h:OwnA K C G H a p):H a≠none:=by
 cases p <;> first | exact h.elim | (obtain⟨_,e,_⟩:=h;rw[e];exact λz=>nomatch z)
theorem OwnA.thing(h:OwnA K C G H a p):∃o,H a=some o/\Oi o:=by
 cases p <;> first | exact h.elim | (obtain⟨_,e,_⟩:=h;exact⟨_,e,λ_ z=>nomatch z⟩)
theorem OwnA.mono(h:OwnA K C G H a p)(s:Same G G')(e:H' a=H a):OwnA K C G' H' a p:=by
 cases p <;> first | exact h.elim | (obtain⟨vs,e1,l⟩:=h;exact⟨vs,by rw[e];exact e1,l.mono s⟩) | (obtain⟨vs,e1,l⟩:=h;exact⟨vs,by rw[e];exact e1,KReps.mono l s⟩)
def RepB(K:Frag)(C:Addr)(G H:Hp)(v:V)(p:PV):Prop:=Rep K C G v p\/∃a,v=.ref a/\OwnA K C G H a p
structure Grow(G H G' H':Hp):Prop where
 g:Same G G'
 h:Same H H'
 i:Same G' H'
 n:∀a o,H a=some o->Oi o->G a=none->G' a=none
theorem Grow.refl(s:Same G H):Grow G H G H:=⟨Same.refl _,Same.refl _,s,λ_ _ _ _ h=>h⟩
theorem _root_.L2.Same.eq(s:Same H H'){a:Addr}(h:H a≠none):H' a=H a:=by
 cases e:H a with
 | none=>exact absurd e h
 | some o=>exact s _ _ e
theorem Grow.trans{G1 H1:Hp}(x:Grow G H G1 H1)(y:Grow G1 H1 G' H'):Grow G H G' H':=⟨x.g.trans y.g,x.h.trans y.h,y.i,λa o h1 t h2=>y.n a o (x.h _ _ h1) t (x.n a o h1 t h2)⟩
theorem RepB.grow(h:RepB K C G H v p)(w:Grow G H G' H'):RepB K C G' H' v p:=by
 rcases h with h | ⟨a,e,h⟩
 ·exact .inl (h.mono w.g)
 ·exact .inr ⟨a,e,h.mono w.g (w.h.eq h.here)⟩
theorem Grow.put{o:HO}(s:Same G H)(n:H a=none)(s2:Same H H')(e:H' a=some o):Grow G H (upd G a o) H':=by
 have gn:G a=none:=s.free n
 refine⟨Same.new gn,s2,λb u h=>?_,λb u h1 _ h2=>?_⟩
 ·by_cases z:b=a
  ·subst z;rw[Bn] at h;rw[e];exact h
  ·rw[Bj z] at h;exact s2 _ _ (s _ _ h)
 ·rw[Bj (by intro z;subst z;rw[n] at h1;cases h1)];exact h2
theorem Grow.own(s:Same G H)(s2:Same H H'):Grow G H G H':=⟨Same.refl _,s2,s.trans s2,λ_ _ _ _ h=>h⟩
end
inductive Sl where
 | un | sh (p:PV) | bo (p:PV) | ow (p:PV) | fz (z:Addr×Obj×List (Key×V)) (kvs:List (Key×PV)) | bz (kvs:List (Key×PV)) | fl (z:Addr×List V) (ps:List PV) | om (a:Addr) (p:PV)
abbrev Bo:=List Sl
def SlOk(K:Frag)(C:Addr)(G0 H0:Hp)(own:Nat->Option Addr)(G:Hp)(σ:St)(H:Hp)(i:Nat):Sl->Prop
 | .un=>True
 | .sh p=>∃v,σ[i]? = some (some v)/\Rep K C G v p
 | .bo p=>∃v,σ[i]? = some (some v)/\RepB K C G0 H0 v p
 | .ow p=>∃a,σ[i]? = some (some (.ref a))/\own i=some a/\OwnA K C G H a p
 | .fz z kvs=>σ[i]? = some (some (.ref z.1))/\own i=some z.1/\H z.1=some (.frz z.2.1 (.dK z.2.2))/\LAt (KRep K C) G z.2.2 kvs
 | .bz kvs=>∃a o vs,σ[i]? = some (some (.ref a))/\H0 a=some (.frz o (.dK vs))/\LAt (KRep K C) G vs kvs
 | .fl z ps=>σ[i]? = some (some (.ref z.1))/\own i=some z.1/\H z.1=some (.lst z.2)/\Reps K C G z.2 ps
 | .om a p=>σ[i]? = some (some (.ref a))/\own i=some a/\OwnA K C G H a p
structure Om where
 E:XK
 X:Nat->Prop
 ca:Nat->Addr
def Om.no:Om:=⟨λ_ _ _=>False,λ_=>False,λ_=>0⟩
structure Sat(K:Frag)(C:Addr)(ω:Om)(B G0 H0:Hp)(own:Nat->Option Addr)(G:Hp)(σ:St)(H:Hp)(ρ:Bo):Prop where
 kb:Same B G
 gr:Grow G0 H0 G H
 len:σ.length=ρ.length
 inj:∀i j a,own i=some a->own j=some a->i=j
 fr:∀i a,own i=some a->H0 a=none/\G a=none/\∃o,H a=some o/\Oi o
 sl:∀i s,ρ[i]? = some s->SlOk K C G0 H0 own G σ H i s
 ex:∀x H',Same H0 H'->ω.X x->ω.E (.ref (ω.ca x)) none H'
abbrev UE:=Bo->(PV->Prop)->Prop
abbrev UT:=Bo->(Bool->Prop)->Prop
abbrev UA:=Bo->(List PV->Prop)->Prop
structure Fj where
 nx:Bo->Prop
 rt:PV->Prop
 bk:Bo->Prop
 ct:Bo->Prop
abbrev US:=Fj->Bo->Prop
section
variable (K:Frag)(C:Addr)(ω:Om)
def EB(t:TE)(u:UE):Prop:=∀(B G0 H0:Hp) (own:Nat->Option Addr) (G:Hp) (σ:St) (H:Hp) (ρ:Bo) (P:PV->Prop) (Q:VK),Sat K C ω B G0 H0 own G σ H ρ->u ρ P->(∀v p G' H',Grow G H G' H'->RepB K C G' H' v p->P p->Q v H')->t σ H Q
def EU(t:TE)(u:UE):Prop:=∀(B G0 H0:Hp) (own:Nat->Option Addr) (G:Hp) (σ:St) (H:Hp) (ρ:Bo) (P:PV->Prop) (Q:VK),Sat K C ω B G0 H0 own G σ H ρ->u ρ P->(∀v p G' H',Grow G H G' H'->Rep K C G' v p->P p->Q v H')->t σ H Q
def EF(t:TE)(u:UE):Prop:=∀(B G0 H0:Hp) (own:Nat->Option Addr) (G:Hp) (σ:St) (H:Hp) (ρ:Bo) (P:PV->Prop) (Q:VK),Sat K C ω B G0 H0 own G σ H ρ->u ρ P->(∀a p G' H',Grow G H G' H'->H a=none->G' a=none->OwnA K C G' H' a p->P p->Q (.ref a) H')->t σ H Q
def TU(t:TT)(u:UT):Prop:=∀(B G0 H0:Hp) (own:Nat->Option Addr) (G:Hp) (σ:St) (H:Hp) (ρ:Bo) (P:Bool->Prop) (Q:Bool->Hp->Prop),Sat K C ω B G0 H0 own G σ H ρ->u ρ P->(∀b G' H',Grow G H G' H'->P b->Q b H')->t σ H Q
def ArgsOk(G H:Hp):List Bool->List V->List PV->Prop
 | [],[],[]=>True
 | true::ms,v::vs,p::ps=>Rep K C G v p/\ArgsOk G H ms vs ps
 | false::ms,v::vs,p::ps=>RepB K C G H v p/\ArgsOk G H ms vs ps
 | _,_,_=>False
def AU(ms:List Bool)(t:TA)(u:UA):Prop:=∀(B G0 H0:Hp) (own:Nat->Option Addr) (G:Hp) (σ:St) (H:Hp) (ρ:Bo) (P:List PV->Prop) (Q:List V->Hp->Prop),Sat K C ω B G0 H0 own G σ H ρ->u ρ P->(∀vs ps G' H',Grow G H G' H'->ArgsOk K C G' H' ms vs ps->P ps->Q vs H')->t σ H Q
inductive Rm where
 | sh | fr | mu (a:Addr)
def ROk(rm:Rm)(H0 G H:Hp)(v:V)(p:PV):Prop:=match rm with
 | .sh=>Rep K C G v p
 | .fr=>∃a,v=.ref a/\H0 a=none/\G a=none/\OwnA K C G H a p
 | .mu b=>∃p1 p2 a,p=.tup [p1,p2]/\v=.ref a/\H0 a=none/\a≠b/\G a=none/\OwnA K C G H a p1/\G b=none/\OwnA K C G H b p2
structure Fits(rm:Rm)(B G0 H0:Hp)(D:Ends)(d:Fj):Prop where
 nx:∀own G σ H ρ,Sat K C ω B G0 H0 own G σ H ρ->d.nx ρ->D.nx σ H
 rt:∀G H v p,Grow G0 H0 G H->ROk K C rm H0 G H v p->d.rt p->D.rt v H
 bk:∀own G σ H ρ,Sat K C ω B G0 H0 own G σ H ρ->d.bk ρ->D.bk σ H
 ct:∀own G σ H ρ,Sat K C ω B G0 H0 own G σ H ρ->d.ct ρ->D.ct σ H
def SU(rm:Rm)(t:TS)(u:US):Prop:=∀(B G0 H0:Hp) (own:Nat->Option Addr) (G:Hp) (σ:St) (H:Hp) (ρ:Bo) (D:Ends) (d:Fj),Sat K C ω B G0 H0 own G σ H ρ->Fits K C ω rm B G0 H0 D d->u d ρ->t D σ H
def GU(top:Nat)(g:TG)(u:PV->Bo->(Bo->Prop)->Prop):Prop:=∀(B G0 H0:Hp) (own:Nat->Option Addr) (G:Hp) (σ:St) (H:Hp) (ρ:Bo) (v:V) (p:PV) (P:Bo->Prop) (R:St->Hp->Prop),Sat K C ω B G0 H0 own G σ H ρ->Rep K C G v p->u p ρ P ->
 (∀own' σ' ρ',Sat K C ω B G0 H0 own' G σ' H ρ'->σ'.drop top=σ.drop top->P ρ'->R σ' H)->g v σ H R
def GsU(top:Nat)(g:TGs)(u:List PV->Bo->(Bo->Prop)->Prop):Prop:=∀(B G0 H0:Hp) (own:Nat->Option Addr) (G:Hp) (σ:St) (H:Hp) (ρ:Bo) (vs:List V) (ps:List PV) (P:Bo->Prop) (R:St->Hp->Prop),Sat K C ω B G0 H0 own G σ H ρ->Reps K C G vs ps->u ps ρ P ->
 (∀own' σ' ρ',Sat K C ω B G0 H0 own' G σ' H ρ'->σ'.drop top=σ.drop top->P ρ'->R σ' H)->g vs σ H R
end
section
variable {K:Frag}{C:Addr}{ω:Om}{B G0 H0 G G' H H':Hp}{own:Nat->Option Addr}{σ:St}{ρ:Bo}
theorem SlOk.grow{i:Nat}{s:Sl}(h:SlOk K C G0 H0 own G σ H i s)(w:Grow G H G' H'):SlOk K C G0 H0 own G' σ H' i s:=by
 cases s with
 | un=>trivial
 | sh p=>obtain⟨v,e,r⟩:=h;exact⟨v,e,r.mono w.g⟩
 | bo p=>exact h
 | ow p=>obtain⟨a,e,o,r⟩:=h;exact⟨a,e,o,r.mono w.g (w.h.eq r.here)⟩
 | fz z kvs=>obtain⟨e,o,h1,h2⟩:=h;exact⟨e,o,w.h _ _ h1,KReps.mono h2 w.g⟩
 | bz kvs=>obtain⟨a,o,vs,e,h1,h2⟩:=h;exact⟨a,o,vs,e,h1,KReps.mono h2 w.g⟩
 | fl z ps=>obtain⟨e,o,h1,h2⟩:=h;exact⟨e,o,w.h _ _ h1,h2.mono w.g⟩
 | om a p=>obtain⟨e,o,r⟩:=h;exact⟨e,o,r.mono w.g (w.h.eq r.here)⟩
theorem Sat.grow(S:Sat K C ω B G0 H0 own G σ H ρ)(w:Grow G H G' H'):Sat K C ω B G0 H0 own G' σ H' ρ :=
 ⟨S.kb.trans w.g,S.gr.trans w,S.len,S.inj,λi a e=>let ⟨f0,fg,o,ho,ht⟩:=S.fr i a e;⟨f0,w.n a o ho ht fg,o,w.h _ _ ho,ht⟩,λi s e=>(S.sl i s e).grow w,S.ex⟩
theorem Sat.base{B':Hp}(S:Sat K C ω B G0 H0 own G σ H ρ)(h:Same B' G):Sat K C ω B' G0 H0 own G σ H ρ:=⟨h,S.gr,S.len,S.inj,S.fr,S.sl,S.ex⟩
def Fq(own:Nat->Option Addr)(i:Nat):Nat->Option Addr:=λj=>if j=i then none else own j
def Nr(own:Nat->Option Addr)(i:Nat)(a:Addr):Nat->Option Addr:=λj=>if j=i then some a else own j
theorem Dn{own:Nat->Option Addr}{i j:Nat}{a:Addr}(h:Fq own i j=some a):j≠i/\own j=some a:=by
 unfold Fq at h
 split at h
 ·cases h
 ·rename_i z;exact⟨z,h⟩
theorem Lf{α:Type}{l:List α}{i j:Nat}{x s:α}(h:(l.set i x)[j]? = some s):(j=i/\s=x/\i<l.length)\/(j≠i/\l[j]? = some s):=by
 by_cases z:j=i
 ·subst z
  rw[List.getElem?_set_self'] at h
  cases e:l[j]? with
  | none=>rw[e] at h;cases h
  | some y=>rw[e] at h;cases h;exact .inl ⟨rfl,rfl,(List.getElem?_eq_some_iff.mp e).1⟩
 ·rw[getElem?_set_ne (Ne.symm z)] at h;exact .inr ⟨z,h⟩
theorem Ol{α:Type}{l:List α}{i j:Nat}{x:α}(z:j≠i):(l.set i x)[j]? = l[j]?:=getElem?_set_ne (Ne.symm z)
theorem Jy{α:Type}{l:List α}{i:Nat}{x:α}(h:i<l.length):(l.set i x)[i]? = some x:=by rw[getElem?_set_self h]
theorem SlOk.other{own':Nat->Option Addr}{σ':St}{i:Nat}{s:Sl}(h:SlOk K C G0 H0 own G σ H i s)(e1:σ'[i]? = σ[i]?)(e2:own' i=own i):SlOk K C G0 H0 own' G σ' H i s:=by
 cases s with
 | un=>trivial
 | sh p=>obtain⟨v,e,r⟩:=h;exact⟨v,e1.trans e,r⟩
 | bo p=>obtain⟨v,e,r⟩:=h;exact⟨v,e1.trans e,r⟩
 | ow p=>obtain⟨a,e,o,r⟩:=h;exact⟨a,e1.trans e,e2.trans o,r⟩
 | fz z kvs=>obtain⟨e,o,r⟩:=h;exact⟨e1.trans e,e2.trans o,r⟩
 | bz kvs=>obtain⟨a,o,vs,e,r⟩:=h;exact⟨a,o,vs,e1.trans e,r⟩
 | fl z ps=>obtain⟨e,o,r⟩:=h;exact⟨e1.trans e,e2.trans o,r⟩
 | om a p=>obtain⟨e,o,r⟩:=h;exact⟨e1.trans e,e2.trans o,r⟩
theorem Sat.setS(S:Sat K C ω B G0 H0 own G σ H ρ){i:Nat}{v:V}{p:PV}(r:Rep K C G v p):Sat K C ω B G0 H0 (Fq own i) G (σ.set i (some v)) H (ρ.set i (.sh p)):=by
 refine⟨S.kb,S.gr,by rw[length_set,length_set,S.len],λj k a h1 h2=>S.inj j k a (Dn h1).2 (Dn h2).2,λj a h=>S.fr j a (Dn h).2,λj s h=>?_,S.ex⟩
 rcases Lf h with ⟨rfl,rfl,hl⟩ | ⟨z,h⟩
 ·exact⟨v,Jy (by rw[S.len];exact hl),r⟩
 ·exact (S.sl j s h).other (Ol z) (by unfold Fq;rw[if_neg z])
theorem Sat.setO(S:Sat K C ω B G0 H0 own G σ H ρ){i:Nat}{a:Addr}{p:PV}(r:OwnA K C G H a p)(f0:H0 a=none)(fg:G a=none)(fo:∀j,own j≠some a):Sat K C ω B G0 H0 (Nr own i a) G (σ.set i (some (.ref a))) H (ρ.set i (.ow p)):=by
 refine⟨S.kb,S.gr,by rw[length_set,length_set,S.len],λj k b h1 h2=>?_,λj b h=>?_,λj s h=>?_,S.ex⟩
 ·unfold Nr at h1 h2
  split at h1 <;> split at h2
  ·rename_i z1 z2;rw[z1,z2]
  ·cases h1;exact absurd h2 (fo k)
  ·cases h2;exact absurd h1 (fo j)
  ·exact S.inj j k b h1 h2
 ·unfold Nr at h
  split at h
  ·cases h;exact⟨f0,fg,r.thing⟩
  ·exact S.fr j b h
 ·rcases Lf h with ⟨rfl,rfl,hl⟩ | ⟨z,h⟩
  ·exact⟨a,Jy (by rw[S.len];exact hl),by unfold Nr;rw[if_pos rfl],r⟩
  ·exact (S.sl j s h).other (Ol z) (by unfold Nr;rw[if_neg z])
theorem Sat.chg(S:Sat K C ω B G0 H0 own G σ H ρ){i:Nat}{a:Addr}{p:PV}(e:own i=some a)(hi:σ[i]? = some (some (.ref a)))(c:Chg a H H')(r:OwnA K C G H' a p):Sat K C ω B G0 H0 own G σ H' (ρ.set i (.ow p)):=by
 obtain⟨f0,fg,fh⟩:=S.fr i a e
 have ng:∀b o,G b=some o->b≠a:=λb o h z=>by subst z;rw[fg] at h;cases h
 refine⟨S.kb,⟨S.gr.g,λb o h=>c _ _ (S.gr.h _ _ h) (by intro z;subst z;rw[f0] at h;cases h),λb o h=>c _ _ (S.gr.i _ _ h) (ng b o h),S.gr.n⟩,by rw[length_set,S.len],S.inj,λj b h=>?_,λj s h=>?_,S.ex⟩
 ·obtain⟨q0,qg,o,qh,qt⟩:=S.fr j b h
  refine⟨q0,qg,?_⟩
  by_cases z:b=a
  ·subst z;exact r.thing
  ·exact⟨o,c _ _ qh z,qt⟩
 ·rcases Lf h with ⟨rfl,rfl,hl⟩ | ⟨z,h⟩
  ·exact⟨a,hi,e,r⟩
  ·have q:=S.sl j s h
   cases s with
   | un=>trivial
   | sh p=>exact q
   | bo p=>exact q
   | bz kvs=>exact q
   | fz y kvs =>
    obtain⟨e1,o,h1,h2⟩:=q
    exact⟨e1,o,c _ _ h1 λw=>z (S.inj j i a (by rw[<- w];exact o) e),h2⟩
   | fl y ps =>
    obtain⟨e1,o,h1,h2⟩:=q
    exact⟨e1,o,c _ _ h1 λw=>z (S.inj j i a (by rw[<- w];exact o) e),h2⟩
   | om b p' =>
    obtain⟨e1,o,r1⟩:=q
    refine⟨e1,o,r1.mono (Same.refl _) ?_⟩
    cases w:H b with
    | none=>exact absurd w r1.here
    | some o'=>exact c _ _ w λw=>z (S.inj j i a (by rw[<- w];exact o) e)
   | ow p' =>
    obtain⟨b,e1,o,r1⟩:=q
    have nb:b≠a:=λw=>z (S.inj j i a (by rw[<- w];exact o) e)
    refine⟨b,e1,o,r1.mono (Same.refl _) ?_⟩
    cases w:H b with
    | none=>exact absurd w r1.here
    | some o=>exact c _ _ w nb
def Ll:Sl->Sl
 | .ow p=>.sh p
 | s=>s
def Fz(i:Nat)(ρ:Bo):Bo:=match ρ[i]? with
 | some s=>ρ.set i (Ll s)
 | none=>ρ
theorem Sat.share(S:Sat K C ω B G0 H0 own G σ H ρ)(i:Nat):∃own' G',Sat K C ω B G0 H0 own' G' σ H (Fz i ρ):=by
 cases e:ρ[i]? with
 | none=>exact⟨own,G,by unfold Fz;rw[e];exact S⟩
 | some s =>
  have hl:i<ρ.length:=(List.getElem?_eq_some_iff.mp e).1
  have same:Ll s=s->∃own' G',Sat K C ω B G0 H0 own' G' σ H (Fz i ρ):=λz=>⟨own,G,by
   unfold Fz;rw[e]
   have:ρ.set i (Ll s)=ρ:=by
    rw[z]
    refine ext_getElem? λj=>?_
    by_cases w:j=i
    ·subst w;rw[Jy hl,e]
    ·rw[Ol w]
   simp only [this];exact S⟩
  cases s with
  | un=>exact same rfl
  | sh p=>exact same rfl
  | bo p=>exact same rfl
  | fz _ _=>exact same rfl
  | bz _=>exact same rfl
  | fl _ _=>exact same rfl
  | om _ _=>exact same rfl
  | ow p =>
   obtain⟨a,e1,o,r⟩:=S.sl i _ e
   obtain⟨f0,fg,ob,hob,_⟩:=S.fr i a o
   have sg:Same G (upd G a ob):=Same.new fg
   have rp:Rep K C (upd G a ob) (.ref a) p:=by
    cases p <;> first | exact r.elim | skip
    ·obtain⟨vs,h1,h2⟩:=r;rw[hob] at h1;cases h1;exact Rep.ofL Bn (h2.mono sg)
    ·obtain⟨vs,h1,h2⟩:=r;rw[hob] at h1;cases h1;exact Rep.ofD Bn (KReps.mono h2 sg)
    ·obtain⟨vs,h1,h2⟩:=r;rw[hob] at h1;cases h1;exact Rep.ofDt Bn (KReps.mono h2 sg)
   have gi:Same (upd G a ob) H:=λb u h=>by
    by_cases z:b=a
    ·subst z;rw[Bn] at h;rw[hob];exact h
    ·rw[Bj z] at h;exact S.gr.i _ _ h
   have ge:∀b,b≠a->upd G a ob b=G b:=λb z=>Bj z
   refine⟨Fq own i,upd G a ob,S.kb.trans sg,⟨S.gr.g.trans sg,S.gr.h,gi,λb u h1 t h2=>?_⟩,?_,λj k b h1 h2=>S.inj j k b (Dn h1).2 (Dn h2).2,λj b h=>?_,λj s h=>?_,S.ex⟩
   ·rw[ge b (by intro z;subst z;rw[f0] at h1;cases h1)];exact S.gr.n b u h1 t h2
   ·unfold Fz;rw[e];simp only [length_set];exact S.len
   ·obtain⟨nj,h⟩:=Dn h
    obtain⟨q0,qg,qh⟩:=S.fr j b h
    exact⟨q0,by rw[ge b (by intro z;subst z;exact nj (S.inj j i b h o))];exact qg,qh⟩
   ·have h':(ρ.set i (.sh p))[j]? = some s:=by
     unfold Fz at h;rw[e] at h;exact h
    rcases Lf h' with ⟨rfl,rfl,_⟩ | ⟨z,h2⟩
    ·exact⟨_,e1,rp⟩
    ·have q:=S.sl j s h2
     cases s with
     | un=>trivial
     | sh p'=>obtain⟨v,w1,w2⟩:=q;exact⟨v,w1,w2.mono sg⟩
     | bo p'=>exact q
     | fz y kvs=>obtain⟨w0,w1,w2,w3⟩:=q;exact⟨w0,by unfold Fq;rw[if_neg z];exact w1,w2,KReps.mono w3 sg⟩
     | bz kvs=>obtain⟨b,o,vs,w0,w1,w2⟩:=q;exact⟨b,o,vs,w0,w1,KReps.mono w2 sg⟩
     | fl y ps=>obtain⟨w0,w1,w2,w3⟩:=q;exact⟨w0,by unfold Fq;rw[if_neg z];exact w1,w2,w3.mono sg⟩
     | om b p'=>obtain⟨w0,w1,w2⟩:=q;exact⟨w0,by unfold Fq;rw[if_neg z];exact w1,w2.mono sg rfl⟩
     | ow p' =>
      obtain⟨b,w1,w2,w3⟩:=q
      exact⟨b,w1,by unfold Fq;rw[if_neg z];exact w2,w3.mono sg rfl⟩
end
section
variable {K:Frag}{C:Addr}{ω:Om}
theorem EU.eb{t:TE}{u:UE}(h:EU K C ω t u):EB K C ω t u:=λB G0 H0 own G σ H ρ P Q S hu k=>h B G0 H0 own G σ H ρ P Q S hu λv p G' H' w r hp=>k v p G' H' w (.inl r) hp
theorem EF.eb{t:TE}{u:UE}(h:EF K C ω t u):EB K C ω t u:=λB G0 H0 own G σ H ρ P Q S hu k=>h B G0 H0 own G σ H ρ P Q S hu λa p G' H' w _ _ r hp=>k _ p G' H' w (.inr ⟨a,rfl,r⟩) hp
theorem Aao{G H G' H':Hp}{a:Addr}{p:PV}(w:Grow G H G' H')(n:H a=none)(g:G' a=none)(r:OwnA K C G' H' a p):∃G'',Grow G H G'' H'/\Rep K C G'' (.ref a) p:=by
 obtain⟨ob,hob⟩:∃ob,H' a=some ob:=by
  cases e:H' a with
  | none=>exact absurd e r.here
  | some x=>exact⟨x,rfl⟩
 have sg:Same G' (upd G' a ob):=Same.new g
 refine⟨upd G' a ob,⟨w.g.trans sg,w.h,λb u h=>?_,λb u h1 t h2=>?_⟩,?_⟩
 ·by_cases z:b=a
  ·subst z;rw[Bn] at h;rw[hob];exact h
  ·rw[Bj z] at h;exact w.i _ _ h
 ·rw[Bj (by intro z;subst z;rw[n] at h1;cases h1)];exact w.n b u h1 t h2
 ·cases p <;> first | exact r.elim | skip
  ·obtain⟨vs,h1,h2⟩:=r;rw[hob] at h1;cases h1;exact Rep.ofL Bn (h2.mono sg)
  ·obtain⟨vs,h1,h2⟩:=r;rw[hob] at h1;cases h1;exact Rep.ofD Bn (KReps.mono h2 sg)
  ·obtain⟨vs,h1,h2⟩:=r;rw[hob] at h1;cases h1;exact Rep.ofDt Bn (KReps.mono h2 sg)
theorem EF.eu{t:TE}{u:UE}(h:EF K C ω t u):EU K C ω t u:=λB G0 H0 own G σ H ρ P Q S hu k=>h B G0 H0 own G σ H ρ P Q S hu λa p G' H' w n g r hp =>
 let ⟨G'',w2,r2⟩:=Aao w n g r
 k _ p G'' H' w2 r2 hp
def Sl.val:Sl->Option PV
 | .un=>none
 | .sh p=>some p
 | .bo p=>some p
 | .ow p=>some p
 | .fz _ _=>none
 | .bz _=>none
 | .fl _ ps=>some (.lst ps)
 | .om _ p=>some p
def AeJ(i:Nat):UE:=λρ P=>∃s p,ρ[i]? = some s/\s.val=some p/\P p
def AcL(i:Nat):UE:=λρ P=>∃p,ρ[i]? = some (.sh p)/\P p
theorem Bi{i:Nat}:EB K C ω (Ff i) (AeJ i):=λB G0 H0 own G σ H ρ P Q S ⟨s,p,h1,h2,h3⟩ k=>by
 have q:=S.sl i s h1
 have w:=Grow.refl S.gr.i
 cases s with
 | un=>cases h2
 | sh p'=>cases h2;obtain⟨v,e,r⟩:=q;exact⟨v,e,k v _ G H w (.inl r) h3⟩
 | bo p'=>cases h2;obtain⟨v,e,r⟩:=q;exact⟨v,e,k v _ G H w (r.grow S.gr) h3⟩
 | ow p'=>cases h2;obtain⟨a,e,_,r⟩:=q;exact⟨_,e,k _ _ G H w (.inr ⟨a,rfl,r⟩) h3⟩
 | fz _ _=>cases h2
 | bz _=>cases h2
 | fl z ps=>cases h2;obtain⟨e,_,h1,r⟩:=q;exact⟨_,e,k _ _ G H w (.inr ⟨z.1,rfl,OwnA.ofL h1 r⟩) h3⟩
 | om a p'=>cases h2;obtain⟨e,_,r⟩:=q;exact⟨_,e,k _ _ G H w (.inr ⟨a,rfl,r⟩) h3⟩
theorem Bm{i:Nat}:EU K C ω (Ff i) (AcL i):=λB G0 H0 own G σ H ρ P Q S ⟨p,h1,h3⟩ k=>by
 obtain⟨v,e,r⟩:=S.sl i _ h1
 exact⟨v,e,k v _ G H (Grow.refl S.gr.i) r h3⟩
def uC(p:PV):UE:=λ_ P=>P p
theorem Ju{v:V}{p:PV}(h:∀G,Rep K C G v p):EU K C ω (tC v) (uC p):=λB G0 H0 own G σ H ρ P Q S hu k=>k v p G H (Grow.refl S.gr.i) (h G) hu
theorem Bf{i:Int}:EU K C ω (tC (.int i)) (uC (.int i)):=Ju λ_=>.int i
theorem Jm{b:Bool}:EU K C ω (tC (.bl b)) (uC (.bl b)):=Ju λ_=>.bl b
theorem Cl{x:Str}:EU K C ω (tC (.str x)) (uC (.str x)):=Ju λ_=>.str x
theorem Rf:EU K C ω (tC .non) (uC .non):=Ju λ_=>.non
theorem RepB.int{G H:Hp}{v:V}{i:Int}(h:RepB K C G H v (.int i)):v=.int i:=by
 rcases h with h | ⟨a,_,h⟩
 ·cases h;rfl
 ·exact h.elim
theorem RepB.bl{G H:Hp}{v:V}{b:Bool}(h:RepB K C G H v (.bl b)):v=.bl b:=by
 rcases h with h | ⟨a,_,h⟩
 ·cases h;rfl
 ·exact h.elim
theorem RepB.str{G H:Hp}{v:V}{b:Str}(h:RepB K C G H v (.str b)):v=.str b:=by
 rcases h with h | ⟨a,_,h⟩
 ·cases h;rfl
 ·exact h.elim
theorem RepB.lst{G H:Hp}{v:V}{ps:List PV}(i:Same G H)(h:RepB K C G H v (.lst ps)):∃a vs,v=.ref a/\H a=some (.lst vs)/\Reps K C G vs ps:=by
 rcases h with h | ⟨a,e,vs,h1,h2⟩
 ·cases h with
  | lst e l q=>exact⟨_,_,rfl,i _ _ e,l,q⟩
 ·exact⟨a,vs,e,h1,h2⟩
theorem RepB.tup{G H:Hp}{v:V}{ps:List PV}(i:Same G H)(h:RepB K C G H v (.tup ps)):∃a vs,v=.ref a/\H a=some (.tup vs)/\Reps K C G vs ps:=by
 rcases h with h | ⟨a,e,h⟩
 ·cases h with
  | tup e l q=>exact⟨_,_,rfl,i _ _ e,l,q⟩
 ·exact h.elim
theorem RepB.scr{G H:Hp}{v:V}{ns:List Int}(i:Same G H)(h:RepB K C G H v (.scr ns)):∃a,v=.ref a/\SqL K H a (ns.map V.int):=by
 rcases h with h | ⟨a,e,h⟩
 ·cases h with
  | scr e=>exact⟨_,rfl,i.seq e⟩
 ·exact h.elim
theorem two{ta tb:TE}{ua ub:UE}{r:R2}(ha:EB K C ω ta ua)(hb:EB K C ω tb ub){B G0 H0:Hp}{own:Nat->Option Addr}{G:Hp}{σ:St}{H:Hp}{ρ:Bo}{Q:VK}{P:PV->PV->Prop}(S:Sat K C ω B G0 H0 own G σ H ρ)
  (hu:ua ρ λp=>ub ρ λq=>P p q) (k:∀v w p q G' H',Grow G H G' H'->RepB K C G' H' v p->RepB K C G' H' w q->P p q->r v w H' Q):tOp r ta tb σ H Q :=
 ha B G0 H0 own G σ H ρ _ _ S hu λv p G1 H1 w1 r1 h1=>hb B G0 H0 own G1 σ H1 ρ _ _ (S.grow w1) h1 λw q G2 H2 w2 r2 h2=>k v w p q G2 H2 (w1.trans w2) (r1.grow w2) r2 h2
def bI0(g:Int->Int->PV)(p q:PV)(P:PV->Prop):Prop:=∃i j,p=.int i/\q=.int j/\P (g i j)
def uI0(g:Int->Int->PV)(ua ub:UE):UE:=λρ P=>ua ρ λp=>ub ρ λq=>bI0 g p q P
def bI(c:Int->Int->Prop)(g:Int->Int->PV)(p q:PV)(P:PV->Prop):Prop:=∃i j,p=.int i/\q=.int j/\c i j/\P (g i j)
def uI(c:Int->Int->Prop)(g:Int->Int->PV)(ua ub:UE):UE:=λρ P=>ua ρ λp=>ub ρ λq=>bI c g p q P
theorem Fn{g:Int->Int->V}{g':Int->Int->PV}{ta tb:TE}{ua ub:UE}(hg:∀G i j,Rep K C G (g i j) (g' i j))(ha:EB K C ω ta ua)(hb:EB K C ω tb ub):EU K C ω (tOp (rI0 g) ta tb) (uI0 g' ua ub) :=
 λB G0 H0 own G σ H ρ P Q S hu k=>two ha hb S hu λv w p q G' H' gr r1 r2 ⟨i,j,e1,e2,h⟩=>by
  subst e1 e2
  exact⟨i,j,r1.int,r2.int,k _ _ G' H' gr (hg G' i j) h⟩
theorem Ch{c:Int->Int->Prop}{g:Int->Int->V}{g':Int->Int->PV}{ta tb:TE}{ua ub:UE}(hg:∀G i j,Rep K C G (g i j) (g' i j))(ha:EB K C ω ta ua)(hb:EB K C ω tb ub):EU K C ω (tOp (rI c g) ta tb) (uI c g' ua ub) :=
 λB G0 H0 own G σ H ρ P Q S hu k=>two ha hb S hu λv w p q G' H' gr r1 r2 ⟨i,j,e1,e2,hc,h⟩=>by
  subst e1 e2
  exact⟨i,j,r1.int,r2.int,hc,k _ _ G' H' gr (hg G' i j) h⟩
def bU(g:Int->PV)(p:PV)(P:PV->Prop):Prop:=∃i,p=.int i/\P (g i)
def uU(g:Int->PV)(ua:UE):UE:=λρ P=>ua ρ λp=>bU g p P
theorem Abu{g:Int->V}{g':Int->PV}{ta:TE}{ua:UE}(hg:∀G i,Rep K C G (g i) (g' i))(ha:EB K C ω ta ua):EU K C ω (tUn (rU g) ta) (uU g' ua) :=
 λB G0 H0 own G σ H ρ P Q S hu k=>ha B G0 H0 own G σ H ρ _ _ S hu λv p G' H' w r ⟨i,e,h⟩=>by
  subst e
  exact⟨i,r.int,k _ _ G' H' w (hg G' i) h⟩
def Tm(neg:Bool)(p q:PV)(P:PV->Prop):Prop:=(∃i j,p=.int i/\q=.int j/\P (.bl (if neg then !decide (i=j) else decide (i=j))))\/(∃i j,p=.str i/\q=.str j/\P (.bl (if neg then !decide (i=j) else decide (i=j))))
def Aa5(neg:Bool)(ua ub:UE):UE:=λρ P=>ua ρ λp=>ub ρ λq=>Tm neg p q P
theorem Qx{ta tb:TE}{ua ub:UE}(ha:EB K C ω ta ua)(hb:EB K C ω tb ub):EU K C ω (tOp rEq ta tb) (Aa5 false ua ub) :=
 λB G0 H0 own G σ H ρ P Q S hu k=>two ha hb S hu λv w p q G' H' gr r1 r2 h=>by
  rcases h with ⟨i,j,e1,e2,h⟩ | ⟨i,j,e1,e2,h⟩
  ·subst e1 e2;rw[r1.int,r2.int];exact AcM (k _ _ G' H' gr (.bl _) h)
  ·subst e1 e2;rw[r1.str,r2.str];exact Ach (k _ _ G' H' gr (.bl _) h)
theorem Agd{ta tb:TE}{ua ub:UE}(ha:EB K C ω ta ua)(hb:EB K C ω tb ub):EU K C ω (tOp rNe ta tb) (Aa5 true ua ub) :=
 λB G0 H0 own G σ H ρ P Q S hu k=>two ha hb S hu λv w p q G' H' gr r1 r2 h=>by
  rcases h with ⟨i,j,e1,e2,h⟩ | ⟨i,j,e1,e2,h⟩
  ·subst e1 e2;rw[r1.int,r2.int];exact AbV (k _ _ G' H' gr (.bl _) h)
  ·subst e1 e2;rw[r1.str,r2.str];exact AcT (k _ _ G' H' gr (.bl _) h)
def bB(p:PV)(P:Bool->Prop):Prop:=∃b,p=.bl b/\P b
def uB(ua:UE):UT:=λρ P=>ua ρ λp=>bB p P
theorem Ri{ta:TE}{ua:UE}(ha:EB K C ω ta ua):TU K C ω (tB ta) (uB ua) :=
 λB G0 H0 own G σ H ρ P Q S hu k=>ha B G0 H0 own G σ H ρ _ _ S hu λv p G' H' w r ⟨b,e,h⟩=>by subst e;exact⟨b,r.bl,k b G' H' w h⟩
theorem Ac9{ta:TE}{ua:UE}(ha:EB K C ω ta ua):TU K C ω (Wc ta) (uB ua) :=
 λB G0 H0 own G σ H ρ P Q S hu k=>ha B G0 H0 own G σ H ρ _ _ S hu λv p G' H' w r ⟨b,e,h⟩=>by subst e;exact⟨b,r.bl,k b G' H' w h⟩
def Afs(ua:UT):UT:=λρ P=>ua ρ λb=>P (!b)
theorem AeA{ta:TT}{ua:UT}(ha:TU K C ω ta ua):TU K C ω (AbJ ta) (Afs ua) :=
 λB G0 H0 own G σ H ρ P Q S hu k=>ha B G0 H0 own G σ H ρ _ _ S hu λb G' H' w h=>k _ G' H' w h
def AcE(ua ub:UE):UE:=λρ P=>ua ρ λp=>bB p λb=>if b=true then ub ρ P else P (.bl false)
def Acn(ua:UE):UE:=λρ P=>ua ρ λp=>bB p λb=>P (.bl (!b))
theorem Gz{ta tb:TE}{ua ub:UE}(ha:EB K C ω ta ua)(hb:EU K C ω tb ub):EU K C ω (Wq ta tb) (AcE ua ub) :=
 λB G0 H0 own G σ H ρ P Q S hu k=>ha B G0 H0 own G σ H ρ _ _ S hu λv p G' H' w r ⟨b,e,h⟩=>by
  subst e
  refine⟨b,r.bl,?_⟩
  cases b with
  | true=>exact Js (hb B G0 H0 own G' σ H' ρ P Q (S.grow w) (by simpa using h) λc p2 G2 H2 w2 h2=>k c p2 G2 H2 (w.trans w2) h2)
  | false=>exact Jv (k _ _ G' H' w (.bl _) (by simpa using h))
theorem Of{ta:TE}{ua:UE}(ha:EB K C ω ta ua):EU K C ω (Wd ta) (Acn ua) :=
 λB G0 H0 own G σ H ρ P Q S hu k=>ha B G0 H0 own G σ H ρ _ _ S hu λv p G' H' w r ⟨b,e,h⟩=>by subst e;exact⟨b,r.bl,k _ _ G' H' w (.bl _) h⟩
end
section
variable {K:Frag}{C:Addr}{ω:Om}
theorem ArgsOk.len{G H:Hp}:∀{ms:List Bool} {vs:List V} {ps:List PV},ArgsOk K C G H ms vs ps->vs.length=ms.length/\ps.length=ms.length
 | [],[],[],_=>⟨rfl,rfl⟩
 | true::_,_::_,_::_,h=>⟨congrArg Nat.succ h.2.len.1,congrArg Nat.succ h.2.len.2⟩
 | false::_,_::_,_::_,h=>⟨congrArg Nat.succ h.2.len.1,congrArg Nat.succ h.2.len.2⟩
 | [],_::_,_,h=>h.elim
 | [],[],_::_,h=>h.elim
 | true::_,[],_,h=>by cases h
 | false::_,[],_,h=>by cases h
 | true::_,_::_,[],h=>by cases h
 | false::_,_::_,[],h=>by cases h
theorem ArgsOk.reps{G H:Hp}:∀{n:Nat} {vs:List V} {ps:List PV},ArgsOk K C G H (replicate n true) vs ps->Reps K C G vs ps
 | 0,[],[],_=>LAt.nil
 | 0,_::_,_,h=>by cases h
 | 0,[],_::_,h=>by cases h
 | _+1,[],_,h=>by cases h
 | _+1,_::_,[],h=>by cases h
 | n+1,v::vs,p::ps,h=>by
  have h1:Rep K C G v p:=h.1
  have h2:Reps K C G vs ps:=ArgsOk.reps (n:=n) h.2
  exact⟨congrArg Nat.succ h2.1,λi x y e1 e2=>by
   cases i with
   | zero=>cases e1;cases e2;exact h1
   | succ i=>exact h2.2 i x y (by simpa using e1) (by simpa using e2)⟩
def Aew:UA:=λ_ P=>P []
def Wh(ua:UE)(ur:UA):UA:=λρ P=>ua ρ λp=>ur ρ λps=>P (p::ps)
theorem Be:AU K C ω [] Qj Aew:=λB G0 H0 own G σ H ρ P Q S hu k=>k [] [] G H (Grow.refl S.gr.i) trivial hu
theorem Bc{ms:List Bool}{ta:TE}{tr:TA}{ua:UE}{ur:UA}(ha:EU K C ω ta ua)(hr:AU K C ω ms tr ur):AU K C ω (true::ms) (Dx ta tr) (Wh ua ur) :=
 λB G0 H0 own G σ H ρ P Q S hu k=>ha B G0 H0 own G σ H ρ _ _ S hu λv p G1 H1 w1 r1 h1=>hr B G0 H0 own G1 σ H1 ρ _ _ (S.grow w1) h1 λvs ps G2 H2 w2 r2 h2=>k (v::vs) (p::ps) G2 H2 (w1.trans w2) ⟨r1.mono w2.g,r2⟩ h2
theorem Br{ms:List Bool}{ta:TE}{tr:TA}{ua:UE}{ur:UA}(ha:EB K C ω ta ua)(hr:AU K C ω ms tr ur):AU K C ω (false::ms) (Dx ta tr) (Wh ua ur) :=
 λB G0 H0 own G σ H ρ P Q S hu k=>ha B G0 H0 own G σ H ρ _ _ S hu λv p G1 H1 w1 r1 h1=>hr B G0 H0 own G1 σ H1 ρ _ _ (S.grow w1) h1 λvs ps G2 H2 w2 r2 h2=>k (v::vs) (p::ps) G2 H2 (w1.trans w2) ⟨r1.grow w2,r2⟩ h2
def Ad1(u:UA):UE:=λρ P=>u ρ λps=>P (.lst ps)
def AeZ(u:UA):UE:=λρ P=>u ρ λps=>P (.tup ps)
theorem Cz(n:Nat){t:TA}{u:UA}(h:AU K C ω (replicate n true) t u)(hn:n<=1000:=by decide):EF K C ω (Acu t) (Ad1 u) :=
 λB G0 H0 own G σ H ρ P Q S hu k=>h B G0 H0 own G σ H ρ _ _ S hu λvs ps G1 H1 w1 r1 h1=>by
  have hl:vs.length=n:=by rw[r1.len.1,length_replicate]
  refine⟨Nat.le_of_lt (Fx (by omega)),λa H2 ha s2 e2=>?_⟩
  have w2:=w1.trans (Grow.own w1.i s2)
  exact k a _ G1 H2 w2 (w1.h.free ha) (w1.i.free ha) (OwnA.ofL e2 r1.reps) h1
theorem Bz(n:Nat){t:TA}{u:UA}(h:AU K C ω (replicate n true) t u)(hn:n<=1000:=by decide):EU K C ω (Ab4 t) (AeZ u) :=
 λB G0 H0 own G σ H ρ P Q S hu k=>h B G0 H0 own G σ H ρ _ _ S hu λvs ps G1 H1 w1 r1 h1=>by
  have hl:vs.length=n:=by rw[r1.len.1,length_replicate]
  refine⟨Nat.le_of_lt (Fx (by omega)),λa H2 ha s2 e2=>?_⟩
  have w2:=Grow.put w1.i ha s2 e2
  exact k _ _ _ H2 (w1.trans w2) (Rep.ofT Bn (r1.reps.mono w2.g)) h1
theorem LAt.get'{β α:Type}{R:Hp->β->α->Prop}{H:Hp}{xs:List β}{ys:List α}(h:LAt R H xs ys){i:Nat}{y:α}(e:ys[i]? = some y):∃x,xs[i]? = some x/\R H x y:=by
 have hi:i<ys.length:=(List.getElem?_eq_some_iff.mp e).1
 have hx:i<xs.length:=by rw[h.1];exact hi
 exact⟨xs[i],getElem?_eq_getElem hx,h.2 i _ y (getElem?_eq_getElem hx) e⟩
theorem LAt.atI{β α:Type}{R:Hp->β->α->Prop}{H:Hp}{xs:List β}{ys:List α}(h:LAt R H xs ys){i:Int}{y:α}(e:L2.atI ys i=some y):∃x,L2.atI xs i=some x/\R H x y:=by
 unfold L2.atI at e ⊢
 rw[h.1]
 cases z:ixN ys.length i with
 | none=>rw[z] at e;cases e
 | some j=>rw[z] at e;exact h.get' e
theorem Jp{G:Hp}(ns:List Int):Reps K C G (ns.map V.int) (ns.map PV.int) :=
 ⟨by simp,λi v p h1 h2=>by
  rw[getElem?_map] at h1 h2
  cases e:ns[i]? with
  | none=>rw[e] at h1;cases h1
  | some n=>rw[e] at h1 h2;cases h1;cases h2;exact .int n⟩
def Nv(p q:PV)(P:PV->Prop):Prop:=∃i ps x,q=.int i/\(p=.lst ps\/∃ns,p=.scr ns/\ps=ns.map .int)/\atI ps i=some x/\P x
def AeY(ua ub:UE):UE:=λρ P=>ua ρ λp=>ub ρ λq=>Nv p q P
theorem Ce{ta tb:TE}{ua ub:UE}(ha:EB K C ω ta ua)(hb:EB K C ω tb ub):EU K C ω (tOp (Xd K) ta tb) (AeY ua ub) :=
 λB G0 H0 own G σ H ρ P Q S hu k=>two ha hb S hu λv w p q G' H' gr r1 r2 ⟨i,ps,x,e1,e2,e3,h⟩=>by
  subst e1
  rcases e2 with e2 | ⟨ns,e2,e4⟩
  ·subst e2
   obtain⟨a,vs,rfl,ea,l⟩:=r1.lst gr.i
   obtain⟨y,hy,ry⟩:=l.atI e3
   exact⟨a,vs,i,y,rfl,r2.int,SqL.of ea,hy,k y x G' H' gr ry h⟩
  ·subst e2 e4
   obtain⟨a,rfl,ea⟩:=r1.scr gr.i
   obtain⟨y,hy,ry⟩:=(Jp (K:=K) (C:=C) (G:=G') ns).atI e3
   exact⟨a,_,i,y,rfl,r2.int,ea,hy,k y x G' H' gr ry h⟩
def We(p q:PV)(P:PV->Prop):Prop:=∃i ps x,q=.int i/\p=.tup ps/\atI ps i=some x/\P x
def Ae3(ua ub:UE):UE:=λρ P=>ua ρ λp=>ub ρ λq=>We p q P
theorem Lk{ta tb:TE}{ua ub:UE}(ha:EB K C ω ta ua)(hb:EB K C ω tb ub):EU K C ω (tOp (Xg K) ta tb) (Ae3 ua ub) :=
 λB G0 H0 own G σ H ρ P Q S hu k=>two ha hb S hu λv w p q G' H' gr r1 r2 ⟨i,ps,x,e1,e2,e3,h⟩=>by
  subst e1 e2
  obtain⟨a,vs,rfl,ea,l⟩:=r1.tup gr.i
  obtain⟨y,hy,ry⟩:=l.atI e3
  exact⟨a,vs,i,y,rfl,r2.int,SqT.of ea,hy,k y x G' H' gr ry h⟩
theorem Aa3{G:Hp}{vs ws:List V}{ps qs:List PV}(h:Reps K C G vs ps)(h':Reps K C G ws qs):Reps K C G (vs++ws) (ps++qs):=LAt.append h h'
def Abn(p q:PV)(P:PV->Prop):Prop:=∃ps qs,p=.lst ps/\q=.lst qs/\ps.length+qs.length<=100000/\P (.lst (ps++qs))
def Aeu(ua ub:UE):UE:=λρ P=>ua ρ λp=>ub ρ λq=>Abn p q P
theorem Abk{n:Nat}(h:n<=100000):n<sizeLine:=Nat.lt_of_le_of_lt h (by decide)
theorem Jh{ta tb:TE}{ua ub:UE}(ha:EB K C ω ta ua)(hb:EB K C ω tb ub):EF K C ω (tOp AcK ta tb) (Aeu ua ub) :=
 λB G0 H0 own G σ H ρ P Q S hu k=>two ha hb S hu λv w p q G' H' gr r1 r2 ⟨ps,qs,e1,e2,hl,h⟩=>by
  subst e1 e2
  obtain⟨a,vs,rfl,ea,l⟩:=r1.lst gr.i
  obtain⟨b,ws,rfl,eb,l2⟩:=r2.lst gr.i
  exact⟨a,b,vs,ws,rfl,rfl,ea,eb,Nat.le_of_lt (Abk (by rw[l.1,l2.1];exact hl)),λc H4 hc s4 e4=>k c _ G' H4 (gr.trans (Grow.own gr.i s4)) (gr.h.free hc) (gr.i.free hc) (OwnA.ofL e4 (Aa3 l l2)) h⟩
def uCB(ur:List PV->(PV->Prop)->Prop)(u:UA):UE:=λρ P=>u ρ λps=>ur ps P
theorem Sj{ms:List Bool}{r:List V->Hp->VK->Prop}{ur:List PV->(PV->Prop)->Prop}{t:TA}{u:UA}
  (hr:∀G H vs ps P Q,Same G H->ArgsOk K C G H ms vs ps->ur ps P->(∀v p,Rep K C G v p->P p->Q v H)->r vs H Q) (ha:AU K C ω ms t u):EU K C ω (tCB r t) (uCB ur u) :=
 λB G0 H0 own G σ H ρ P Q S hu k=>ha B G0 H0 own G σ H ρ _ _ S hu λvs ps G1 H1 w1 r1 h1=>hr G1 H1 vs ps P Q w1.i r1 h1 λv p rv hp=>k v p G1 H1 w1 rv hp
theorem Qq{G H:Hp}{m:Bool}{vs:List V}{ps:List PV}(h:ArgsOk K C G H [m] vs ps):∃v p,vs=[v]/\ps=[p]/\RepB K C G H v p:=by
 match vs,ps,m,h with
 | [v],[p],true,h=>exact⟨v,p,rfl,rfl,.inl h.1⟩
 | [v],[p],false,h=>exact⟨v,p,rfl,rfl,h.1⟩
 | [],_,true,h=>cases h
 | [],_,false,h=>cases h
 | _::_,[],true,h=>cases h
 | _::_,[],false,h=>cases h
 | _::_::_,[_],true,h=>cases h.2
 | _::_::_,[_],false,h=>cases h.2
 | [_],_::_::_,true,h=>cases h.2
 | [_],_::_::_,false,h=>cases h.2
 | _::_::_,_::_::_,true,h=>cases h.2
 | _::_::_,_::_::_,false,h=>cases h.2
theorem Qy{G H:Hp}{m n:Bool}{vs:List V}{ps:List PV}(h:ArgsOk K C G H [m,n] vs ps):∃v w p q,vs=[v,w]/\ps=[p,q]/\RepB K C G H v p/\RepB K C G H w q:=by
 match vs,ps,m,h with
 | v::vs,p::ps,true,h=>obtain⟨w,q,rfl,rfl,r⟩:=Qq h.2;exact⟨v,w,p,q,rfl,rfl,.inl h.1,r⟩
 | v::vs,p::ps,false,h=>obtain⟨w,q,rfl,rfl,r⟩:=Qq h.2;exact⟨v,w,p,q,rfl,rfl,h.1,r⟩
 | [],_,true,h=>cases h
 | [],_,false,h=>cases h
 | _::_,[],true,h=>cases h
 | _::_,[],false,h=>cases h
def Xc(ps:List PV)(P:PV->Prop):Prop:=∃n:Nat,(ps=[.scr []]/\n=0\/(∃xs,ps=[.lst xs]/\n=xs.length)\/(∃xs,ps=[.tup xs]/\n=xs.length)\/∃ns,ps=[.scr ns]/\n=ns.length)/\P (.int n)
theorem Je{m:Bool}{t:TA}{u:UA}(ha:AU K C ω [m] t u):EU K C ω (tCB (λxs H Q=>∃p ys,xs=[.ref p]/\(SqL K H p ys\/SqT K H p ys)/\Q (.int ys.length) H) t) (uCB Xc u) :=
 Sj (λG H vs ps P Q i ok h k=>by
  obtain⟨v,p,rfl,rfl,r⟩:=Qq ok
  obtain⟨n,h1,h2⟩:=h
  rcases h1 with ⟨e,rfl⟩ | ⟨xs,e,rfl⟩ | ⟨xs,e,rfl⟩ | ⟨ns,e,rfl⟩
  ·cases e
   obtain⟨a,rfl,ea⟩:=r.scr i
   exact⟨a,_,rfl,.inl ea,k _ _ (.int _) h2⟩
  ·cases e
   obtain⟨a,vs,rfl,ea,l⟩:=r.lst i
   exact⟨a,vs,rfl,.inl (SqL.of ea),by rw[l.1];exact k _ _ (.int _) h2⟩
  ·cases e
   obtain⟨a,vs,rfl,ea,l⟩:=r.tup i
   exact⟨a,vs,rfl,.inr (SqT.of ea),by rw[l.1];exact k _ _ (.int _) h2⟩
  ·cases e
   obtain⟨a,rfl,ea⟩:=r.scr i
   exact⟨a,_,rfl,.inl ea,by rw[length_map];exact k _ _ (.int _) h2⟩) ha
def AcD(ps:List PV)(P:PV->Prop):Prop:=∃i j:Int,ps=[.int i,.int j]/\P (.int (if j<i then j else i))
theorem AeL{m n:Bool}{t:TA}{u:UA}(ha:AU K C ω [m,n] t u):EU K C ω (tCB (λxs H Q=>∃i j,xs=[.int i,.int j]/\Q (.int (if j<i then j else i)) H) t) (uCB AcD u) :=
 Sj (λG H vs ps P Q i ok h k=>by
  obtain⟨v,w,p,q,rfl,rfl,r1,r2⟩:=Qy ok
  obtain⟨x,y,e,h⟩:=h
  cases e
  exact⟨x,y,by rw[r1.int,r2.int],k _ _ (.int _) h⟩) ha
def Acs(ps:List PV)(P:PV->Prop):Prop:=(∃i:Int,ps=[.int i]/\P (.int i))\/∃b:Bool,ps=[.bl b]/\P (.int (if b then 1 else 0))
theorem Adm{m:Bool}{t:TA}{u:UA}(ha:AU K C ω [m] t u):EU K C ω (tCB (λxs H Q=>(∃i,xs=[.int i]/\Q (.int i) H)\/∃k,xs=[.bl k]/\Q (.int (if k then 1 else 0)) H) t) (uCB Acs u) :=
 Sj (λG H vs ps P Q i ok h k=>by
  obtain⟨v,p,rfl,rfl,r⟩:=Qq ok
  rcases h with ⟨x,e,h⟩ | ⟨x,e,h⟩
  ·cases e;exact .inl ⟨x,by rw[r.int],k _ _ (.int _) h⟩
  ·cases e;exact .inr ⟨x,by rw[r.bl],k _ _ (.int _) h⟩) ha
def Za(ps:List PV)(P:PV->Prop):Prop:=∃xs,(ps=[.lst xs]\/ps=[.tup xs]\/∃ns,ps=[.scr ns]/\xs=ns.map .int)/\P (.lst xs)
theorem Adx{m:Bool}{t:TA}{u:UA}(ha:AU K C ω [m] t u):EF K C ω (tCB (λxs H Q=>∃p ys,xs=[.ref p]/\(SqL K H p ys\/SqT K H p ys)/\∀l H',H l=none->Same H H'->H' l=some (.lst ys)->Q (.ref l) H') t) (uCB Za u) :=
 λB G0 H0 own G σ H ρ P Q S hu k=>ha B G0 H0 own G σ H ρ _ _ S hu λvs ps G1 H1 w1 r1 h1=>by
  obtain⟨v,p,rfl,rfl,r⟩:=Qq r1
  obtain⟨xs,h1,h2⟩:=h1
  rcases h1 with e | e | ⟨ns,e,rfl⟩
  ·cases e
   obtain⟨a,vs,rfl,ea,l⟩:=r.lst w1.i
   exact⟨a,vs,rfl,.inl (SqL.of ea),λb H4 hb s4 e4=>k b _ G1 H4 (w1.trans (Grow.own w1.i s4)) (w1.h.free hb) (w1.i.free hb) (OwnA.ofL e4 l) h2⟩
  ·cases e
   obtain⟨a,vs,rfl,ea,l⟩:=r.tup w1.i
   exact⟨a,vs,rfl,.inr (SqT.of ea),λb H4 hb s4 e4=>k b _ G1 H4 (w1.trans (Grow.own w1.i s4)) (w1.h.free hb) (w1.i.free hb) (OwnA.ofL e4 l) h2⟩
  ·cases e
   obtain⟨a,rfl,ea⟩:=r.scr w1.i
   exact⟨a,_,rfl,.inl ea,λb H4 hb s4 e4=>k b _ G1 H4 (w1.trans (Grow.own w1.i s4)) (w1.h.free hb) (w1.i.free hb) (OwnA.ofL e4 (Jp ns)) h2⟩
end
section
variable {K:Frag}{C:Addr}{ω:Om}{rm:Rm}
def Acp:US:=λd ρ=>d.nx ρ
def AeO(u w:US):US:=λd ρ=>u { d with nx:=w d } ρ
theorem Lg:SU K C ω rm Xe Acp:=λB G0 H0 own G σ H ρ D d S F h=>F.nx own G σ H ρ S h
theorem Bv{t t':TS}{u u':US}(h:SU K C ω rm t u)(h':SU K C ω rm t' u'):SU K C ω rm (Rp t t') (AeO u u'):=λB G0 H0 own G σ H ρ D d S F hu =>
 h B G0 H0 own G σ H ρ { D with nx:=t' D } { d with nx:=u' d } S ⟨λown' G' σ' H' ρ' S' q=>h' B G0 H0 own' G' σ' H' ρ' D d S' F q,F.rt,F.bk,F.ct⟩ hu
def Th(i:Nat)(u:US):US:=λd ρ=>u d (Fz i ρ)
theorem Qi(i:Nat){t:TS}{u:US}(h:SU K C ω rm t u):SU K C ω rm t (Th i u):=λB G0 H0 own G σ H ρ D d S F hu =>
 let ⟨own',G',S'⟩:=S.share i
 h B G0 H0 own' G' σ H _ D d S' F hu
def AbP(ua:UE):US:=λd ρ=>ua ρ d.rt
theorem Fg{ta:TE}{ua:UE}(ha:EU K C ω ta ua):SU K C ω .sh (Tv ta) (AbP ua):=λB G0 H0 own G σ H ρ D d S F hu =>
 ha B G0 H0 own G σ H ρ _ _ S hu λv p G' H' w r h=>F.rt G' H' v p (S.gr.trans w) r h
theorem AdA{ta:TE}{ua:UE}(ha:EF K C ω ta ua):SU K C ω .fr (Tv ta) (AbP ua):=λB G0 H0 own G σ H ρ D d S F hu =>
 ha B G0 H0 own G σ H ρ _ _ S hu λa p G' H' w n g r h=>F.rt G' H' _ p (S.gr.trans w) ⟨a,rfl,S.gr.h.free n,g,r⟩ h
def AeF(uc:UT)(u w:US):US:=λd ρ=>uc ρ λb=>if b=true then u d ρ else w d ρ
theorem Ly{tc:TT}{t t':TS}{uc:UT}{u u':US}(hc:TU K C ω tc uc)(h:SU K C ω rm t u)(h':SU K C ω rm t' u'):SU K C ω rm (Abg tc t t') (AeF uc u u'):=λB G0 H0 own G σ H ρ D d S F hu =>
 hc B G0 H0 own G σ H ρ _ _ S hu λb G' H' w q=>by
  cases b with
  | true=>exact Js (h B G0 H0 own G' σ H' ρ D d (S.grow w) F (by simpa using q))
  | false=>exact Jv (h' B G0 H0 own G' σ H' ρ D d (S.grow w) F (by simpa using q))
def Aea(i:Nat)(ua:UE):US:=λd ρ=>ua ρ λp=>d.nx (ρ.set i (.sh p))
theorem Cq{i:Nat}{ta:TE}{ua:UE}(ha:EU K C ω ta ua):SU K C ω rm (Jt ta (Gd i)) (Aea i ua):=λB G0 H0 own G σ H ρ D d S F hu =>
 ha B G0 H0 own G σ H ρ _ _ S hu λv p G' H' w r h=>F.nx _ G' _ H' _ ((S.grow w).setS r) h
def Ab8(i:Nat)(ua:UE):US:=λd ρ=>ua ρ λp=>d.nx (ρ.set i (.ow p))
theorem Dq{i:Nat}{ta:TE}{ua:UE}(ha:EF K C ω ta ua):SU K C ω rm (Jt ta (Gd i)) (Ab8 i ua):=λB G0 H0 own G σ H ρ D d S F hu =>
 ha B G0 H0 own G σ H ρ _ _ S hu λa p G' H' w n g r h=>F.nx _ G' _ H' _ ((S.grow w).setO r (S.gr.h.free n) g λj z=>(let ⟨_,_,o,ho,_⟩:=S.fr j a z;by rw[n] at ho;cases ho)) h
def Zv(i:Nat):PV->Bo->(Bo->Prop)->Prop:=λp ρ P=>P (ρ.set i (.sh p))
theorem Sw{α:Type}:∀{l:List α} {i top:Nat} {x:α},i<top->(l.set i x).drop top=l.drop top
 | [],_,_,_,_=>rfl
 | _::_,_,0,_,h=>by omega
 | _::_,0,_+1,_,_=>rfl
 | _::l,i+1,t+1,x,h=>Sw (l:=l) (i:=i) (top:=t) (by omega)
theorem Fy{top i:Nat}(hi:i<top:=by decide):GU K C ω top (Gd i) (Zv i):=λB G0 H0 own G σ H ρ v p P R S r h k=>k _ _ _ (S.setS r) (Sw hi) h
def Xu:List PV->Bo->(Bo->Prop)->Prop:=λps ρ P=>ps=[]/\P ρ
def Vk(u:PV->Bo->(Bo->Prop)->Prop)(us:List PV->Bo->(Bo->Prop)->Prop):List PV->Bo->(Bo->Prop)->Prop:=λps ρ P=>∃p r,ps=p::r/\u p ρ λρ'=>us r ρ' P
theorem Ve{top:Nat}:GsU K C ω top AbO Xu:=λB G0 H0 own G σ H ρ vs ps P R S r ⟨e,h⟩ k=>by
 subst e
 exact⟨List.eq_nil_of_length_eq_zero r.1,k _ _ _ S rfl h⟩
theorem Jd{top:Nat}{g:TG}{gs:TGs}{u:PV->Bo->(Bo->Prop)->Prop}{us:List PV->Bo->(Bo->Prop)->Prop}(hg:GU K C ω top g u)(hs:GsU K C ω top gs us):GsU K C ω top (Vx g gs) (Vk u us):=λB G0 H0 own G σ H ρ vs ps P R S r ⟨p,q,e,h⟩ k=>by
 subst e
 match vs,r with
 | [],r=>have:=r.1;simp at this
 | v::vs,r =>
  obtain⟨r1,r2⟩:=r.uncons
  exact⟨v,vs,rfl,hg B G0 H0 own G σ H ρ v p _ _ S r1 h λown' σ' ρ' S' dr h'=>hs B G0 H0 own' G σ' H ρ' vs q P R S' r2 h' λown2 σ2 ρ2 S2 dr2 h2=>k own2 σ2 ρ2 S2 (dr2.trans dr) h2⟩
def Acx(n:Nat)(us:List PV->Bo->(Bo->Prop)->Prop):PV->Bo->(Bo->Prop)->Prop:=λp ρ P=>∃ps,p=.tup ps/\ps.length=n/\us ps ρ P
theorem Zt{top n:Nat}{gs:TGs}{us:List PV->Bo->(Bo->Prop)->Prop}(hs:GsU K C ω top gs us):GU K C ω top (Sy K n gs) (Acx n us):=λB G0 H0 own G σ H ρ v p P R S r ⟨ps,e,hl,h⟩ k=>by
 subst e
 cases r with
 | tup e l q=>exact⟨_,_,rfl,SqT.of (S.gr.i _ _ e),by rw[l];exact hl,hs B G0 H0 own G σ H ρ _ ps P R S ⟨l,q⟩ h k⟩
def Ae6(ua:UE)(ug:PV->Bo->(Bo->Prop)->Prop):US:=λd ρ=>ua ρ λp=>ug p ρ d.nx
theorem Ya{top:Nat}{ta:TE}{ua:UE}{g:TG}{ug:PV->Bo->(Bo->Prop)->Prop}(ha:EU K C ω ta ua)(hg:GU K C ω top g ug):SU K C ω rm (Jt ta g) (Ae6 ua ug):=λB G0 H0 own G σ H ρ D d S F hu =>
 ha B G0 H0 own G σ H ρ _ _ S hu λv p G' H' w r h=>hg B G0 H0 own G' σ H' ρ v p _ _ (S.grow w) r h λown' σ' ρ' S' _ q=>F.nx own' G' σ' H' ρ' S' q
theorem Sb{G:Hp}{vs:List V}{ps:List PV}{v:V}{p:PV}(h:Reps K C G vs ps)(r:Rep K C G v p):Reps K C G (vs++[v]) (ps++[p]):=LAt.snoc h r
theorem Sat.list{B G0 H0 G H:Hp}{own:Nat->Option Addr}{σ:St}{ρ:Bo}{i:Nat}{ps:List PV}(S:Sat K C ω B G0 H0 own G σ H ρ)(e:ρ[i]? = some (.ow (.lst ps))):∃a vs,σ[i]? = some (some (.ref a))/\own i=some a/\H a=some (.lst vs)/\Reps K C G vs ps:=by
 obtain⟨a,e1,o,vs,h1,h2⟩:=S.sl i _ e
 exact⟨a,vs,e1,o,h1,h2⟩
theorem Ac5{B G0 H0 G H:Hp}{own:Nat->Option Addr}{σ:St}{ρ:Bo}{i:Nat}{r:V->List V->Hp->VK->Prop}{t:TA}{Q:VK}{ps:List PV}(S:Sat K C ω B G0 H0 own G σ H ρ)(e:ρ[i]? = some (.ow (.lst ps)))
  (k:∀a vs,σ[i]? = some (some (.ref a))->own i=some a->H a=some (.lst vs)->Reps K C G vs ps->t σ H λxs H2=>r (.ref a) xs H2 Q):tBM K "list" r (Ff i) t σ H Q:=by
 obtain⟨a,vs,e1,o,h1,h2⟩:=S.list e
 exact⟨_,e1,.inl ⟨rfl,_,SqL.of h1⟩,k a vs e1 o h1 h2⟩
def AbF(i:Nat)(ρ:Bo)(N:Bo->Prop)(qs:List PV):Prop:=∃q ps,qs=[q]/\ρ[i]? = some (.ow (.lst ps))/\ps.length<100000/\N (ρ.set i (.ow (.lst (ps++[q]))))
def AcU(i:Nat)(u:UA):US:=λd ρ=>(∃ps,ρ[i]? = some (.ow (.lst ps)))/\u ρ λqs=>AbF i ρ d.nx qs
theorem Dk{i:Nat}{t:TA}{u:UA}(ha:AU K C ω [true] t u):SU K C ω rm (Si (tBM K "list" Tp (Ff i) t)) (AcU i u):=λB G0 H0 own G σ H ρ D d S F ⟨⟨ps0,e0⟩,hu⟩ =>
 Ac5 S e0 λa vs0 e1 o _ _=>ha B G0 H0 own G σ H ρ _ _ S hu λxs qs G' H' w ok ⟨q,ps,eq,ep,hl,h⟩=>by
  have S':=S.grow w
  obtain⟨a',vs,e1',o',h1,h2⟩:=S'.list ep
  rw[o] at o';cases o'
  subst eq
  match xs,ok with
  | [x],ok =>
   have rx:Rep K C G' x q:=ok.1
   exact⟨a,vs,x,rfl,rfl,h1,Abk (by rw[h2.1];omega),λH2 c e2=>F.nx own G' σ H2 _ (S'.chg o e1 c (OwnA.ofL e2 (Sb h2 rx))) h⟩
  | [],ok=>cases ok
  | _::_::_,ok=>cases ok.2
theorem Rk:EF K C ω Tf (λ_ P=>P (.dk [])):=λB G0 H0 own G σ H ρ P Q S hu k p hp =>
 k p _ G _ (Grow.own S.gr.i (Same.new hp)) hp (S.gr.i.free hp) (by first | exact OwnA.ofD Bn LAt.nil | exact OwnA.ofDt Bn LAt.nil) hu
end
section
variable {K:Frag}{C:Addr}{ω:Om}{rm:Rm}
end
section
variable {K:Frag}{C:Addr}{ω:Om}{rm:Rm}
abbrev UI:=Bo->(List PV->Prop)->Prop
def AcZ(ps:List PV)(ug:PV->Bo->(Bo->Prop)->Prop)(ub:US):US:=λd ρ=>∃I:Nat->Bo->Prop,I 0 ρ/\(∀k p ρ,ps[k]? = some p->I k ρ->ug p ρ λρ'=>ub { d with nx:=I (k+1),ct:=I (k+1),bk:=d.nx } ρ')/\∀ρ,I ps.length ρ->d.nx ρ
def AeT(ui:UI)(ug:PV->Bo->(Bo->Prop)->Prop)(ub:US):US:=λd ρ=>ui ρ λps=>AcZ ps ug ub d ρ
def bL(p:PV)(R:List PV->Prop):Prop:=∃ps,(p=.lst ps\/∃ns,p=.scr ns/\ps=ns.map .int)/\R ps
def uiL(ua:UE):UI:=λρ R=>ua ρ λp=>bL p R
theorem Rz{B B1 G0 H0:Hp}{D:Ends}{d:Fj}{N:Bo->Prop}{M:St->Hp->Prop}(F:Fits K C ω rm B G0 H0 D d)(hb:Same B B1)(hM:∀own G σ H ρ,Sat K C ω B1 G0 H0 own G σ H ρ->N ρ->M σ H) :
  Fits K C ω rm B1 G0 H0 { D with nx:=M,ct:=M,bk:=D.nx } { d with nx:=N,ct:=N,bk:=d.nx } :=
 ⟨hM,F.rt,λown G σ H ρ S h=>F.nx own G σ H ρ (S.base (hb.trans S.kb)) h,hM⟩
theorem Ad8{top:Nat}{ta:TE}{ua:UE}{g:TG}{ug:PV->Bo->(Bo->Prop)->Prop}{tb:TS}{ub:US}(ha:EU K C ω ta ua)(hg:GU K C ω top g ug)(hb:SU K C ω rm tb ub):SU K C ω rm (Oz (Oe K ta) g tb) (AeT (uiL ua) ug ub) :=
 λB G0 H0 own G σ H ρ D d S F hu=>ha B G0 H0 own G σ H ρ _ _ S hu λv p G1 H1 w1 r1 ⟨ps,e,I,i0,ist,iend⟩=>by
  have S1:=S.grow w1
  obtain⟨a,vs,rfl,sq,rp⟩:∃a vs,v=.ref a/\SqL K G1 a vs/\Reps K C G1 vs ps:=by
   rcases e with e | ⟨ns,e,e2⟩
   ·subst e
    cases r1 with
    | lst e l q=>exact⟨_,_,rfl,SqL.of e,l,q⟩
   ·subst e e2
    cases r1 with
    | scr e=>exact⟨_,_,rfl,e,Jp ns⟩
  refine⟨a,rfl,⟨vs,w1.i.seq sq⟩,Sq (xs:=vs) (λk σ' H'=>∃own' G' ρ',Sat K C ω G1 G0 H0 own' G' σ' H' ρ'/\I k ρ') ⟨own,G1,ρ,S1.base (Same.refl _),i0⟩ (λk σ' H' _ ⟨own',G',ρ',S',_⟩=>(S'.kb.trans S'.gr.i).seq sq) (λk x σ' H' hx ⟨own',G',ρ',S',hi⟩=>?_) λσ' H' ⟨own',G',ρ',S',hi⟩=>?_⟩
  ·obtain⟨q,hq,rq⟩:=rp.get hx
   exact hg G1 G0 H0 own' G' σ' H' ρ' x q _ _ S' (rq.mono S'.kb) (ist k q ρ' hq hi) λown2 σ2 ρ2 S2 _ h2=>hb G1 G0 H0 own2 G' σ2 H' ρ2 _ _ S2 (Rz F S1.kb λown3 G3 σ3 H3 ρ3 S3 h3=>⟨own3,G3,ρ3,S3,h3⟩) h2
  ·rw[rp.1] at hi
   exact F.nx own' G' σ' H' ρ' (S'.base (S1.kb.trans S'.kb)) (iend ρ' hi)
def Vy(lo:Int)(n:Nat)(ug:PV->Bo->(Bo->Prop)->Prop)(ub:US):US:=λd ρ=>∃I:Nat->Bo->Prop,I 0 ρ/\(∀k ρ,k<n->I k ρ->ug (.int (lo+k)) ρ λρ'=>ub { d with nx:=I (k+1),ct:=I (k+1),bk:=d.nx } ρ')/\∀ρ,I n ρ->d.nx ρ
def bR2(R:Int->Nat->Prop)(ps:List PV):Prop:=∃i j:Int,ps=[.int i,.int j]/\(-(2^62)<=i/\i<2^62/\-(2^62)<=j/\j<2^62)/\R i (j - i).toNat
def Ab5(u:UA)(ug:PV->Bo->(Bo->Prop)->Prop)(ub:US):US:=λd ρ=>u ρ λps=>bR2 (λi n=>Vy i n ug ub d ρ) ps
theorem Af3{top:Nat}{B G0 H0 G H:Hp}{own:Nat->Option Addr}{σ:St}{ρ:Bo}{D:Ends}{d:Fj}{lo:Int}{n:Nat}{g:TG}{ug:PV->Bo->(Bo->Prop)->Prop}{tb:TS}{ub:US}(hg:GU K C ω top g ug)(hb:SU K C ω rm tb ub)(S:Sat K C ω B G0 H0 own G σ H ρ)(F:Fits K C ω rm B G0 H0 D d)(h:Vy lo n ug ub d ρ) :
  ∃W:Nat->Nat->St->Hp->Prop,(∃m,W 0 m σ H)/\∀i m σ H,W i m σ H->((Itr lo n).stop i H/\D.nx σ H)\/((Itr lo n).go i H/\∃N:St->Hp->Prop,(∀σ' H',N σ' H'->∃m',m'<m/\W (i+1) m' σ' H')/\∀x H',(Itr lo n).yld i H x H'->g x σ H' λσ2 H2=>tb { D with nx:=N,ct:=N,bk:=D.nx } σ2 H2):=by
 obtain⟨I,i0,ist,iend⟩:=h
 refine Ry (λk σ' H'=>∃own' G' ρ',Sat K C ω B G0 H0 own' G' σ' H' ρ'/\I k ρ') ⟨own,G,ρ,S,i0⟩ (λk σ' H' hk ⟨own',G',ρ',S',hi⟩=>?_) λσ' H' ⟨own',G',ρ',S',hi⟩=>F.nx own' G' σ' H' ρ' S' (iend ρ' hi)
 exact hg B G0 H0 own' G' σ' H' ρ' _ _ _ _ S' (.int _) (ist k ρ' hk hi) λown2 σ2 ρ2 S2 _ h2=>hb B G0 H0 own2 G' σ2 H' ρ2 _ _ S2 (Rz F (Same.refl _) λown3 G3 σ3 H3 ρ3 S3 h3=>⟨own3,G3,ρ3,S3,h3⟩) h2
theorem Ado{top:Nat}{m n:Bool}{t:TA}{u:UA}{g:TG}{ug:PV->Bo->(Bo->Prop)->Prop}{tb:TS}{ub:US}(ha:AU K C ω [m,n] t u)(hg:GU K C ω top g ug)(hb:SU K C ω rm tb ub):SU K C ω rm (Oz (AbU t) g tb) (Ab5 u ug ub) :=
 λB G0 H0 own G σ H ρ D d S F hu=>ha B G0 H0 own G σ H ρ _ _ S hu λvs ps G1 H1 w1 ok ⟨i,j,e,h1,h⟩=>by
  obtain⟨v,w,p,q,rfl,e2,r1,r2⟩:=Qy ok
  rw[e] at e2;cases e2
  exact⟨i,j,by rw[r1.int,r2.int],h1,Af3 hg hb (S.grow w1) F h⟩
end
section
variable {K:Frag}{C:Addr}{ω:Om}
def boS:Sl->Sl
 | .ow p=>.bo p
 | .fz _ kvs=>.bz kvs
 | .fl _ ps=>.bo (.lst ps)
 | .om _ p=>.bo p
 | s=>s
def compρ(k:Nat)(fr:List Nat)(ρ:Bo):Bo:=replicate k .un++fr.map λi=>boS ((ρ[i]?).getD .un)
theorem Sat.comp{B G0 H0 G1 H1:Hp}{own:Nat->Option Addr}{σ:St}{ρ:Bo}(S:Sat K C ω B G0 H0 own G1 σ H1 ρ)(k:Nat)(fr:List Nat){G H:Hp}(w:Grow G1 H1 G H):Sat K C Om.no G1 G1 H1 (λ_=>none) G (compσ k fr σ) H (compρ k fr ρ):=by
 refine⟨w.g,w,?_,λi j a h=>(by cases h),λi a h=>(by cases h),λi s h=>?_,λ_ _ _ z=>z.elim⟩
 ·unfold compσ compρ;simp
 ·by_cases hk:i<k
  ·unfold compρ at h
   rw[getElem?_append_left (by rw[length_replicate];exact hk),getElem?_replicate,if_pos hk] at h
   cases h;trivial
  ·unfold compρ at h
   rw[getElem?_append_right (by rw[length_replicate];omega),length_replicate,getElem?_map] at h
   obtain⟨j,hj,e⟩:=map_eq_some_iff.mp h
   have hσ:(compσ k fr σ)[i]? = some (σ[j]?).join:=by
    unfold compσ
    rw[getElem?_append_right (by rw[length_replicate];omega),length_replicate,getElem?_map,hj];rfl
   cases e2:ρ[j]? with
   | none=>rw[e2] at e;cases e;trivial
   | some s0 =>
    rw[e2] at e
    have q:=S.sl j s0 e2
    cases s0 with
    | un=>cases e;trivial
    | sh p=>cases e;obtain⟨v,ev,r⟩:=q;exact⟨v,by rw[hσ,ev];rfl,r.mono w.g⟩
    | bo p=>cases e;obtain⟨v,ev,r⟩:=q;exact⟨v,by rw[hσ,ev];rfl,r.grow S.gr⟩
    | ow p=>cases e;obtain⟨a,ev,_,r⟩:=q;exact⟨_,by rw[hσ,ev];rfl,.inr ⟨a,rfl,r⟩⟩
    | fz z kvs=>cases e;obtain⟨ev,_,h1,h2⟩:=q;exact⟨z.1,z.2.1,z.2.2,by rw[hσ,ev];rfl,h1,KReps.mono h2 w.g⟩
    | bz kvs=>cases e;obtain⟨a,o,vs,ev,h1,h2⟩:=q;exact⟨a,o,vs,by rw[hσ,ev];rfl,S.gr.h _ _ h1,KReps.mono h2 w.g⟩
    | fl z ps=>cases e;obtain⟨ev,_,h1,h2⟩:=q;exact⟨_,by rw[hσ,ev];rfl,.inr ⟨z.1,rfl,OwnA.ofL h1 h2⟩⟩
    | om a p=>cases e;obtain⟨ev,_,r⟩:=q;exact⟨_,by rw[hσ,ev];rfl,.inr ⟨a,rfl,r⟩⟩
def AbZ:UT:=λ_ P=>P true
theorem AdE:TU K C ω Vu AbZ:=λB G0 H0 own G σ H ρ P Q S hu k=>k true G H (Grow.refl S.gr.i) hu
def To(ps:List PV)(ug:PV->Bo->(Bo->Prop)->Prop)(uc:UT)(ue:UE)(ρ':Bo)(P:PV->Prop):Prop:=∃I:Nat->List PV->Prop,I 0 []/\(∀n p rs,ps[n]? = some p->I n rs->ug p ρ' λρ2=>uc ρ2 λb=>if b=true then ue ρ2 λq=>I (n+1) (rs++[q]) else I (n+1) rs)/\∀rs,I ps.length rs->P (.lst rs)
def CSt(K:Frag)(C:Addr)(G1 H1:Hp)(D:Addr)(I:Nat->List PV->Prop)(n:Nat)(H:Hp):Prop:=∃G ys rs,Grow G1 H1 G H/\G D=none/\H D=some (.lst ys)/\Reps K C G ys rs/\rs.length<=n/\I n rs
theorem Ym{B G0 H0 G1 H1:Hp}{own:Nat->Option Addr}{σ:St}{ρ:Bo}(S:Sat K C ω B G0 H0 own G1 σ H1 ρ){k:Nat}{fr:List Nat}{g:TG}{ug:PV->Bo->(Bo->Prop)->Prop}{tc:TT}{uc:UT}{te:TE}{ue:UE}(hg:GU K C Om.no k g ug)(hc:TU K C Om.no tc uc)(he:EU K C Om.no te ue){D:Addr}(hD:H1 D=none){I:Nat->List PV->Prop}{n:Nat}(hn:n<100000){x:V}{p:PV}{H':Hp}{N:Hp->Prop}
  (rx:∀G,Same G1 G->Rep K C G x p) (st:CSt K C G1 H1 D I n H') (hN:∀H'',CSt K C G1 H1 D I (n+1) H''->N H'') (hs:∀rs,I n rs->ug p (compρ k fr ρ) λρ2=>uc ρ2 λb=>if b=true then ue ρ2 λq=>I (n+1) (rs++[q]) else I (n+1) rs) :
  g x (compσ k fr σ) H' λσ2 H2=>σ2.drop k=(compσ k fr σ).drop k/\tc σ2 H2 λb H3=>if b=true then te σ2 H3 (λy H4=>∃ys,H4 D=some (.lst ys)/\ys.length<sizeLine/\N (upd H4 D (.lst (ys++[y])))) else N H3:=by
 obtain⟨G,ys,rs,w,gD,eD,ry,hl,hi⟩:=st
 refine hg G1 G1 H1 _ G _ H' _ x p _ _ (S.comp k fr w) (rx G w.g) (hs rs hi) λown' σ' ρ' S' dr h=>⟨dr,hc G1 G1 H1 own' G σ' H' ρ' _ _ S' h λb G3 H3 w3 h3=>?_⟩
 cases b with
 | false=>exact Jv (hN _ ⟨G3,ys,rs,w.trans w3,w3.n D _ eD (λ_ z=>nomatch z) gD,w3.h _ _ eD,ry.mono w3.g,by omega,by simpa using h3⟩)
 | true =>
  refine Js (he G1 G1 H1 own' G3 σ' H3 ρ' _ _ (S'.grow w3) (by simpa using h3) λy q G4 H4 w4 r4 h4=>?_)
  have w34:=w3.trans w4
  have g4:G4 D=none:=w34.n D _ eD (λ_ z=>nomatch z) gD
  have e4:H4 D=some (.lst ys):=w34.h _ _ eD
  refine⟨ys,e4,Abk (by rw[ry.1];omega),hN _ ⟨G4,_,_,⟨(w.trans w34).g,λb u h=>?_,λb u h=>?_,(w.trans w34).n⟩,g4,Bn,Sb (ry.mono w34.g) r4,by rw[length_append];simp;omega,h4⟩⟩
  ·rw[Bj (by intro z;subst z;rw[hD] at h;cases h)];exact (w.trans w34).h _ _ h
  ·rw[Bj (by intro z;subst z;rw[g4] at h;cases h)];exact w34.i _ _ h
theorem Aad{G1 H1:Hp}{D:Addr}{I:Nat->List PV->Prop}(i:Same G1 H1)(hD:H1 D=none)(h:I 0 []):CSt K C G1 H1 D I 0 (upd H1 D (.lst [])) :=
 ⟨G1,[],[],Grow.own i (Same.new hD),i.free hD,Bn,LAt.nil,by simp,h⟩
def AcP(ua:UE)(ug:PV->Bo->(Bo->Prop)->Prop)(uc:UT)(ue:UE)(k:Nat)(fr:List Nat):UE:=λρ P=>ua ρ λp=>bL p λps=>ps.length<=100000/\To ps ug uc ue (compρ k fr ρ) P
theorem Adf{ta:TE}{ua:UE}{k:Nat}{fr:List Nat}{g:TG}{ug:PV->Bo->(Bo->Prop)->Prop}{tc:TT}{uc:UT}{te:TE}{ue:UE}(ha:EB K C ω ta ua)(hg:GU K C Om.no k g ug)(hc:TU K C Om.no tc uc)(he:EU K C Om.no te ue):EF K C ω (Oo (Oe K ta) g tc te k fr) (AcP ua ug uc ue k fr) :=
 λB G0 H0 own G σ H ρ P Q S hu kk=>Up (Agt (ha B G0 H0 own G σ H ρ _ _ S hu λv p G1 H1 w1 r1 ⟨ps,e,hl,I,i0,ist,iend⟩=>by
  have S1:=S.grow w1
  obtain⟨a,vs,rfl,sq,rp⟩:∃a vs,v=.ref a/\SqL K H1 a vs/\Reps K C G1 vs ps:=by
   rcases e with e | ⟨ns,e,e2⟩
   ·subst e
    obtain⟨a,vs,rfl,ea,l⟩:=r1.lst w1.i
    exact⟨a,vs,rfl,SqL.of ea,l⟩
   ·subst e e2
    obtain⟨a,rfl,ea⟩:=r1.scr w1.i
    exact⟨a,_,rfl,ea,Jp ns⟩
  refine⟨a,rfl,⟨vs,sq⟩,λD hD=>CP.list vs (CSt K C G1 H1 D I) (Aad w1.i hD i0) (λn H' _ ⟨G',_,_,w,_⟩=>w.h.seq sq) (λn x H' N hx st hN=>?_) λH' st=>?_⟩
  ·obtain⟨q,hq,rq⟩:=rp.get hx
   have hn:n<ps.length:=(List.getElem?_eq_some_iff.mp hq).1
   exact Ym S1 hg hc he hD (by omega) (λG' s=>rq.mono s) st hN λrs hi=>ist n q rs hq hi
  ·obtain⟨G',ys,rs,w,gD,eD,ry,_,hi⟩:=st
   rw[rp.1] at hi
   exact kk D _ G' H' (w1.trans w) (w1.h.free hD) gD (OwnA.ofL eD ry) (iend rs hi)))
end
section
variable {K:Frag}{C:Addr}{ω:Om}
abbrev PSp:=List PV->(PV->Prop)->Prop
def spOf(K:Frag)(C:Addr)(ms:List Bool)(rm:Rm)(psp:PSp):Sp:=λvs H Q _=>∃G ps P,Same G H/\ArgsOk K C G H ms vs ps/\psp ps P/\∀G' H' v p,Grow G H G' H'->ROk K C rm H G' H' v p->P p->Q v H'
def Wj(psp:PSp)(u:UA):UE:=λρ P=>u ρ λps=>psp ps P
theorem Cd{ms:List Bool}{psp:PSp}{E:XK}{t:TA}{u:UA}(ha:AU K C ω ms t u):EU K C ω (Sm (spOf K C ms .sh psp) [] E t) (Wj psp u) :=
 λB G0 H0 own G σ H ρ P Q S hu k=>ha B G0 H0 own G σ H ρ _ _ S hu λvs ps G1 H1 w1 ok h=>by
  rw[append_nil]
  exact⟨G1,ps,P,w1.i,ok,h,λG' H' v p w r hp=>k v p G' H' (w1.trans w) r hp⟩
theorem Ac0{ms:List Bool}{psp:PSp}{E:XK}{t:TA}{u:UA}(ha:AU K C ω ms t u):EF K C ω (Sm (spOf K C ms .fr psp) [] E t) (Wj psp u) :=
 λB G0 H0 own G σ H ρ P Q S hu k=>ha B G0 H0 own G σ H ρ _ _ S hu λvs ps G1 H1 w1 ok h=>by
  rw[append_nil]
  exact⟨G1,ps,P,w1.i,ok,h,λG' H' v p w ⟨a,e,n,g,r⟩ hp=>by subst e;exact k a p G' H' (w1.trans w) (w1.h.free n) g r hp⟩
def Rb(n:Nat)(ms:List Bool)(ps:List PV):Bo:=zipWith (λm p=>if m=true then Sl.sh p else Sl.bo p) ms ps++replicate (n - ps.length) .un
def Abi(rm:Rm)(P:PV->Prop):Bo->Prop:=match rm with
 | .sh=>λ_=>P .non
 | .fr=>λ_=>False
 | .mu _=>λ_=>False
theorem ArgsOk.slots{G H:Hp}{own:Nat->Option Addr}:∀{ms:List Bool} {vs:List V} {ps:List PV} {i:Nat} {s:Sl} {σ:St} (k:Nat),ArgsOk K C G H ms vs ps->(∀j v,vs[j]? = some v->σ[k+j]? = some (some v))->(zipWith (λm p=>if m=true then Sl.sh p else Sl.bo p) ms ps)[i]? = some s->SlOk K C G H own G σ H (k+i) s
 | true::ms,v::vs,p::ps,0,s,σ,k,ok,hσ,h=>by cases h;exact⟨v,hσ 0 v rfl,ok.1⟩
 | false::ms,v::vs,p::ps,0,s,σ,k,ok,hσ,h=>by cases h;exact⟨v,hσ 0 v rfl,ok.1⟩
 | true::ms,v::vs,p::ps,i+1,s,σ,k,ok,hσ,h=>by
  have:=ArgsOk.slots (i:=i) (s:=s) (σ:=σ) (own:=own) (k+1) ok.2 (λj w hj=>by rw[show k+1+j=k+(j+1) by omega];exact hσ (j+1) w (by simpa using hj)) (by simpa using h)
  rwa [show k+1+i=k+(i+1) by omega] at this
 | false::ms,v::vs,p::ps,i+1,s,σ,k,ok,hσ,h=>by
  have:=ArgsOk.slots (i:=i) (s:=s) (σ:=σ) (own:=own) (k+1) ok.2 (λj w hj=>by rw[show k+1+j=k+(j+1) by omega];exact hσ (j+1) w (by simpa using hj)) (by simpa using h)
  rwa [show k+1+i=k+(i+1) by omega] at this
 | [],_,_,_,_,_,_,_,_,h=>by simp at h
 | _::_,_,[],_,_,_,_,_,_,h=>by simp at h
 | true::_,[],_::_,_,_,_,_,ok,_,_=>by cases ok
 | false::_,[],_::_,_,_,_,_,ok,_,_=>by cases ok
theorem Dv{ms:List Bool}{rm:Rm}{psp:PSp}{N:List Str}{vs:List V}{H:Hp}{Q:VK}{E:XK}{t:TS}{u:US}(h:spOf K C ms rm psp vs H Q E)(hn:ms.length<=N.length)(hs:SU K C Om.no rm t u)
  (hp:∀ps P,psp ps P->u ⟨Abi rm P,P,λ_=>False,λ_=>False⟩ (Rb N.length ms ps)):t { nx:=λ_ H'=>Q .non H',rt:=Q } (L2.Jo N vs) H:=by
 obtain⟨G,ps,P,i,ok,hq,k⟩:=h
 obtain⟨l1,l2⟩:=ok.len
 have hz:(zipWith (λm p=>if m=true then Sl.sh p else Sl.bo p) ms ps).length=ps.length:=by rw[List.length_zipWith,l2];omega
 refine hs G G H (λ_=>none) G _ H _ _ ⟨Abi rm P,P,λ_=>False,λ_=>False⟩ ⟨Same.refl _,Grow.refl i,?_,λi j a z=>(by cases z),λi a z=>(by cases z),λj s hj=>?_,λ_ _ _ z=>z.elim⟩ ⟨λown' G' σ' H' ρ' S' q=>?_,λG' H' v p w r hp=>k G' H' v p w r hp,λ_ _ _ _ _ _ q=>q.elim,λ_ _ _ _ _ _ q=>q.elim⟩ (hp ps P hq)
 ·unfold L2.Jo Rb
  rw[length_append,length_append,length_map,hz,length_replicate,length_replicate,l1,l2]
 ·unfold Rb at hj
  by_cases z:j<ps.length
  ·rw[getElem?_append_left (by rw[hz];exact z)] at hj
   have q:=ArgsOk.slots (own:=λ_=>none) (σ:=L2.Jo N vs) 0 ok (λj v hv=>by
    unfold L2.Jo
    rw[Nat.zero_add,getElem?_append_left (by rw[length_map];exact (List.getElem?_eq_some_iff.mp hv).1),getElem?_map,hv];rfl) hj
   rwa [Nat.zero_add] at q
  ·rw[getElem?_append_right (by rw[hz];omega),getElem?_replicate] at hj
   split at hj
   ·cases hj;trivial
   ·cases hj
 ·cases rm with
  | sh=>exact k G' H' .non .non S'.gr .non q
  | fr=>exact q.elim
  | mu _=>exact q.elim
theorem spOf.len{ms:List Bool}{rm:Rm}{psp:PSp}{vs:List V}{H:Hp}{Q:VK}{E:XK}(h:spOf K C ms rm psp vs H Q E):vs.length=ms.length:=by
 obtain⟨G,ps,P,i,ok,_⟩:=h
 exact ok.len.1
end
section
variable {K:Frag}{C:Addr}{ω:Om}
def Od:PV->Bool
 | .non=>true
 | .int _=>true
 | .str _=>true
 | _=>false
theorem Uv{G:Hp}{v:V}{p:PV}(h:Rep K C G v p)(f:Od p=true):Gf v=true:=by
 cases h <;> first | rfl | (cases f;done)
theorem AdO{G:Hp}{v w:V}{p q:PV}(h1:Rep K C G v p)(h2:Rep K C G w q)(f1:Od p=true)(f2:Od q=true):eqV v w=true↔p=q:=by
 cases h1 <;> first | (cases f1;done) | (cases h2 <;> first | (cases f2;done) | (simp [eqV]))
inductive Cmp:Nat->PV->PV->Prop where
 | flat {n:Nat} {p q:PV} (hp:Od p=true) (hq:Od q=true):Cmp n p q
 | bl {n:Nat} {x y:Bool}:Cmp n (.bl x) (.bl y)
 | lst {n:Nat} {xs ys:List PV} (h:xs.length=ys.length->∀(i:Nat) (x y:PV),xs[i]? = some x->ys[i]? = some y->Cmp n x y):Cmp (n+1) (.lst xs) (.lst ys)
 | tup {n:Nat} {xs ys:List PV} (h:∀(i:Nat) (x y:PV),xs[i]? = some x->ys[i]? = some y->Cmp n x y):Cmp (n+1) (.tup xs) (.tup ys)
theorem Nn{α:Type}{xs ys:List α}(hl:xs.length=ys.length)(h:∀(i:Nat) (x y:α),xs[i]? = some x->ys[i]? = some y->x=y):xs=ys:=by
 refine ext_getElem? λi=>?_
 cases e1:xs[i]? with
 | none=>rw[getElem?_eq_none (by have:=List.getElem?_eq_none_iff.mp e1;omega)]
 | some x =>
  have hi:i<ys.length:=by have:=(List.getElem?_eq_some_iff.mp e1).1;omega
  rw[getElem?_eq_getElem hi,h i x _ e1 (getElem?_eq_getElem hi)]
theorem Cmp.fn{G:Hp}{n:Nat}{p q:PV}(c:Cmp n p q):∀{v:V},Rep K C G v p->Rep K C G v q->p=q:=by
 induction c with
 | flat hp hq=>intro v h1 h2;cases h1 <;> first | (cases hp;done) | (cases h2 <;> first | (cases hq;done) | rfl)
 | bl=>intro v h1 h2;cases h1;cases h2;rfl
 | @lst n xs ys h ih =>
  intro v h1 h2
  cases h1 with
  | lst e1 l1 q1=>cases h2 with
   | lst e2 l2 q2 =>
    rw[e1] at e2;cases e2
    have hl:xs.length=ys.length:=l1.symm.trans l2
    refine congrArg _ (Nn hl λi x y hx hy=>?_)
    have hi:=(List.getElem?_eq_some_iff.mp hx).1
    obtain⟨w,hw⟩:=(⟨_,getElem?_eq_getElem (by rw[l1];exact hi)⟩:∃w,_=some w)
    exact ih hl i x y hx hy (q1 i w x hw hx) (q2 i w y hw hy)
 | @tup n xs ys h ih =>
  intro v h1 h2
  cases h1 with
  | tup e1 l1 q1=>cases h2 with
   | tup e2 l2 q2 =>
    rw[e1] at e2;cases e2
    have hl:xs.length=ys.length:=l1.symm.trans l2
    refine congrArg _ (Nn hl λi x y hx hy=>?_)
    have hi:=(List.getElem?_eq_some_iff.mp hx).1
    obtain⟨w,hw⟩:=(⟨_,getElem?_eq_getElem (by rw[l1];exact hi)⟩:∃w,_=some w)
    exact ih i x y hx hy (q1 i w x hw hx) (q2 i w y hw hy)
noncomputable def pd(a:Prop):Bool:=@decide a (Classical.propDecidable a)
theorem pd_iff{a:Prop}:pd a=true↔a:=by unfold pd;exact @decide_eq_true_iff a (Classical.propDecidable a)
theorem Nu{n:Nat}{e:Nat->Bool}:(range n).all e=true↔∀i,i<n->e i=true:=by
 rw[List.all_eq_true]
 exact⟨λh i hi=>h i (mem_range.mpr hi),λh i hi=>h i (mem_range.mp hi)⟩
theorem Jw{a b:Bool}(h:a=true↔b=true):a=b:=by
 cases a <;> cases b <;> simp_all
theorem Cmp.eqD{G H:Hp}(s:Same G H){n:Nat}{p q:PV}(c:Cmp n p q):∀{v w:V} {b:Bool},Rep K C G v p->Rep K C G w q->(b=true↔p=q)->EqD K H n v w b:=by
 induction c with
 | flat hp hq =>
  intro v w b h1 h2 hb
  have e:b=eqV v w:=Jw (hb.trans (AdO h1 h2 hp hq).symm)
  rw[e]
  exact EqD.flat (Uv h1 hp) (Uv h2 hq)
 | @bl n x y =>
  intro v w b h1 h2 hb
  cases h1
  cases h2
  have e:b=eqV (.bl x) (.bl y):=Jw (by rw[hb];cases x <;> cases y <;> simp [eqV])
  rw[e]
  exact EqD.flat rfl rfl
 | @lst n xs ys h ih =>
  intro v w b h1 h2 hb
  have cc:Cmp (n+1) (.lst xs) (.lst ys):=.lst h
  have h1':=h1
  have h2':=h2
  cases h1 with
  | @lst a1 vs1 _ e1 l1 q1=>cases h2 with
   | @lst a2 vs2 _ e2 l2 q2 =>
    by_cases z:a1=a2
    ·subst z
     rw[show b=true from hb.mpr (cc.fn h1' h2')]
     exact EqD.same _
    ·by_cases hl:xs.length=ys.length
     ·have e:b=(range vs1.length).all (λi=>pd (xs[i]? = ys[i]?)):=Jw (by
       rw[hb,Nu]
       constructor
       ·intro e i _;rw[pd_iff,PV.lst.inj e]
       ·intro e
        refine congrArg _ (ext_getElem? λi=>?_)
        by_cases hi:i<vs1.length
        ·exact pd_iff.mp (e i hi)
        ·rw[getElem?_eq_none (by omega),getElem?_eq_none (by omega)])
      rw[e]
      refine EqD.lst _ z (SqL.of (s _ _ e1)) (SqL.of (s _ _ e2)) (by omega) λi x y hx hy=>?_
      have hi:=(List.getElem?_eq_some_iff.mp hx).1
      have hx':xs[i]? = some xs[i]:=getElem?_eq_getElem (by omega)
      have hy':ys[i]? = some ys[i]:=getElem?_eq_getElem (by omega)
      refine ih hl i _ _ hx' hy' (q1 i x _ hx hx') (q2 i y _ hy hy') ?_
      rw[pd_iff,hx',hy']
      exact⟨λz=>Option.some.inj z,λz=>congrArg some z⟩
     ·have e:b=false:=by
       cases b with
       | false=>rfl
       | true=>exact absurd (congrArg length (PV.lst.inj (hb.mp rfl))) hl
      rw[e]
      exact EqD.lstN z (SqL.of (s _ _ e1)) (SqL.of (s _ _ e2)) (by omega)
 | @tup n xs ys h ih =>
  intro v w b h1 h2 hb
  have cc:Cmp (n+1) (.tup xs) (.tup ys):=.tup h
  have h1':=h1
  have h2':=h2
  cases h1 with
  | @tup a1 vs1 _ e1 l1 q1=>cases h2 with
   | @tup a2 vs2 _ e2 l2 q2 =>
    by_cases z:a1=a2
    ·subst z
     rw[show b=true from hb.mpr (cc.fn h1' h2')]
     exact EqD.same _
    ·have e:b=((range (min vs1.length vs2.length)).all (λi=>pd (xs[i]? = ys[i]?))&&vs1.length==vs2.length):=Jw (by
      rw[hb,and_eq_true,Nu]
      constructor
      ·intro e
       have e':=PV.tup.inj e
       exact⟨λi _=>by rw[pd_iff,e'],by rw[l1,l2,e'];exact beq_self_eq_true _⟩
      ·rintro ⟨e,el⟩
       have el':vs1.length=vs2.length:=by simpa using el
       refine congrArg _ (ext_getElem? λi=>?_)
       by_cases hi:i<vs1.length
       ·exact pd_iff.mp (e i (by omega))
       ·rw[getElem?_eq_none (by omega),getElem?_eq_none (by omega)])
     rw[e]
     refine EqD.tup _ z (SqT.of (s _ _ e1)) (SqT.of (s _ _ e2)) λi x y hx hy=>?_
     have hi:=(List.getElem?_eq_some_iff.mp hx).1
     have hj:=(List.getElem?_eq_some_iff.mp hy).1
     have hx':xs[i]? = some xs[i]:=getElem?_eq_getElem (by omega)
     have hy':ys[i]? = some ys[i]:=getElem?_eq_getElem (by omega)
     refine ih i _ _ hx' hy' (q1 i x _ hx hx') (q2 i y _ hy hy') ?_
     rw[pd_iff,hx',hy']
     exact⟨λz=>Option.some.inj z,λz=>congrArg some z⟩
def CmpL(xs ys:List PV):Prop:=xs.length=ys.length->∀(i:Nat) (x y:PV),xs[i]? = some x->ys[i]? = some y->Cmp 40 x y
theorem CmpL.leq{G H:Hp}(s:Same G H){vs ws:List V}{xs ys:List PV}(c:CmpL xs ys)(h1:Reps K C G vs xs)(h2:Reps K C G ws ys){b:Bool}(hb:b=true↔xs=ys):LEq K H vs ws b:=by
 by_cases hl:xs.length=ys.length
 ·refine .inr ⟨by rw[h1.1,h2.1,hl],λi=>pd (xs[i]? = ys[i]?),λi x y hx hy=>?_,Jw ?_⟩
  ·obtain⟨p,hp,rp⟩:=h1.get hx
   obtain⟨q,hq,rq⟩:=h2.get hy
   refine (c hl i p q hp hq).eqD s rp rq ?_
   rw[pd_iff,hp,hq]
   exact⟨λz=>Option.some.inj z,λz=>congrArg some z⟩
  ·rw[hb,Nu,h1.1]
   constructor
   ·intro e i _;rw[pd_iff,e]
   ·intro e
    refine ext_getElem? λi=>?_
    by_cases hi:i<xs.length
    ·exact pd_iff.mp (e i hi)
    ·rw[getElem?_eq_none (by omega),getElem?_eq_none (by omega)]
 ·refine .inl ⟨by rw[h1.1,h2.1];exact hl,?_⟩
  cases b with
  | false=>rfl
  | true=>exact absurd (congrArg length (hb.mp rfl)) hl
def AbN(neg:Bool)(p q:PV)(P:PV->Prop):Prop:=∃xs ys,p=.lst xs/\q=.lst ys/\CmpL xs ys/\∀b:Bool,(b=true↔xs=ys)->P (.bl (if neg then !b else b))
def Aeo(neg:Bool)(ua ub:UE):UE:=λρ P=>ua ρ λp=>ub ρ λq=>AbN neg p q P
theorem Aev{neg:Bool}{ta tb:TE}{ua ub:UE}(ha:EB K C ω ta ua)(hb:EB K C ω tb ub):EU K C ω (tOp (AaY K neg) ta tb) (Aeo neg ua ub) :=
 λB G0 H0 own G σ H ρ P Q S hu k=>two ha hb S hu λv w p q G' H' gr r1 r2 ⟨xs,ys,e1,e2,c,h⟩=>by
  subst e1 e2
  obtain⟨a,vs,rfl,ea,l⟩:=r1.lst gr.i
  obtain⟨b,ws,rfl,eb,l2⟩:=r2.lst gr.i
  exact⟨a,b,vs,ws,pd (xs=ys),rfl,rfl,SqL.of ea,SqL.of eb,c.leq gr.i l l2 pd_iff,k _ _ G' H' gr (.bl _) (h _ pd_iff)⟩
end
section
variable {K:Frag}{C:Addr}{ω:Om}
def vP:V->PV
 | .int i=>.int i
 | .str x=>.str x
 | .bl b=>.bl b
 | _=>.non
def scV:V->Bool
 | .int _=>true
 | .str _=>true
 | .bl _=>true
 | .non=>true
 | _=>false
theorem AdZ{G:Hp}{v w:V}(hs:scV w=true)(h:Rep K C G v (vP w)):v=w:=by
 cases w <;> first | (cases hs;done) | (cases h;rfl)
theorem AeC{G:Hp}{w:V}(hs:scV w=true):Rep K C G w (vP w):=by
 cases w <;> first | (cases hs;done) | constructor
theorem Zc{G:Hp}{vs ws:List V}(hs:∀w∈ws,scV w=true)(h:Reps K C G vs (ws.map vP)):vs=ws:=by
 refine Nn (by rw[h.1,length_map]) λi x y hx hy=>?_
 exact AdZ (hs y (mem_of_getElem? hy)) (h.2 i x (vP y) hx (by rw[getElem?_map,hy];rfl))
theorem Yi{G:Hp}{ws:List V}(hs:∀w∈ws,scV w=true):Reps K C G ws (ws.map vP) :=
 ⟨by rw[length_map],λi v p h1 h2=>by
  rw[getElem?_map,h1] at h2
  cases h2
  exact AeC (hs v (mem_of_getElem? h1))⟩
theorem Qh{G:Hp}{v:V}{ws:List V}(hs:∀w∈ws,scV w=true)(h:Rep K C G v (.tup (ws.map vP))):∃p,v=.ref p/\G p=some (.tup ws):=by
 cases h with
 | tup e l q=>rw[Zc hs ⟨l,q⟩] at e;exact⟨_,rfl,e⟩
theorem Qm{G:Hp}{p:Addr}{ws:List V}(hs:∀w∈ws,scV w=true)(e:G p=some (.tup ws)):Rep K C G (.ref p) (.tup (ws.map vP)):=Rep.ofT e (Yi hs)
def sgW(s:Sg):List V:=[.int s.1,.str s.2.1,.int s.2.2]
def prW(m:Int×Int):List V:=[.int m.1,.int m.2]
def jnW(j:Jn):List V:=[.int j.1,.int j.2.1,.int j.2.2]
def sgP(s:Sg):PV:=.tup [.int s.1,.str s.2.1,.int s.2.2]
def prP(m:Int×Int):PV:=.tup [.int m.1,.int m.2]
def jnP(j:Jn):PV:=.tup [.int j.1,.int j.2.1,.int j.2.2]
theorem Yf(s:Sg):∀w∈sgW s,scV w=true:=by intro w hw;simp [sgW] at hw;rcases hw with rfl | rfl | rfl <;> rfl
theorem Yl(s:Int×Int):∀w∈prW s,scV w=true:=by intro w hw;simp [prW] at hw;rcases hw with rfl | rfl <;> rfl
theorem Zk(s:Jn):∀w∈jnW s,scV w=true:=by intro w hw;simp [jnW] at hw;rcases hw with rfl | rfl | rfl <;> rfl
theorem AaI{G:Hp}{v:V}{s:Sg}:Rep K C G v (sgP s)↔TripAt G v s:=⟨λh=>let ⟨p,e,hp⟩:=Qh (Yf s) h;⟨p,e,hp⟩,λ⟨p,e,hp⟩=>by subst e;exact Qm (Yf s) hp⟩
theorem AbS{G:Hp}{v:V}{s:Int×Int}:Rep K C G v (prP s)↔PairAt G v s:=⟨λh=>let ⟨p,e,hp⟩:=Qh (Yl s) h;⟨p,e,hp⟩,λ⟨p,e,hp⟩=>by subst e;exact Qm (Yl s) hp⟩
theorem Adk{G:Hp}{v:V}{s:Jn}:Rep K C G v (jnP s)↔TrjAt G v s:=⟨λh=>let ⟨p,e,hp⟩:=Qh (Zk s) h;⟨p,e,hp⟩,λ⟨p,e,hp⟩=>by subst e;exact Qm (Zk s) hp⟩
theorem Qe{α:Type}{R:Hp->V->α->Prop}{f:α->PV}(hf:∀{G:Hp} {v:V} {s:α},Rep K C G v (f s)↔R G v s){G:Hp}{vs:List V}{S:List α}:Reps K C G vs (S.map f)↔LAt R G vs S:=by
 constructor
 ·intro h
  refine⟨by rw[h.1,length_map],λi x y hx hy=>hf.mp (h.2 i x (f y) hx (by rw[getElem?_map,hy];rfl))⟩
 ·intro h
  refine⟨by rw[h.1,length_map],λi x y hx hy=>?_⟩
  rw[getElem?_map] at hy
  obtain⟨s,hs,e⟩:=map_eq_some_iff.mp hy
  rw[<- e]
  exact hf.mpr (h.2 i x s hx hs)
def Jq(G H H':Hp):Hp:=λa=>match H' a with
 | some (.tup xs)=>some (.tup xs)
 | o=>match H a with
  | none=>o
  | some _=>G a
theorem Oa{G H H':Hp}{a:Addr}{xs:List V}(e:H' a=some (.tup xs)):Jq G H H' a=some (.tup xs):=by unfold Jq;rw[e]
theorem Dp{G H H':Hp}{a:Addr}{o:HO}(n:H a=none)(e:H' a=some o):Jq G H H' a=some o:=by
 unfold Jq;rw[e,n];cases o <;> rfl
theorem Ni{G H H':Hp}{a:Addr}{o:HO}(h:H a=some o)(s:Same H H')(t:Oi o):Jq G H H' a=G a:=by
 unfold Jq;rw[s _ _ h,h]
 cases o <;> first | rfl | exact absurd rfl (t _)
theorem Ls{G H H':Hp}(i:Same G H)(s:Same H H'):Grow G H (Jq G H H') H':=by
 refine⟨λa o h=>?_,s,λa o h=>?_,λa o h t hg=>by rw[Ni h s t];exact hg⟩
 ·have h1:=i _ _ h
  by_cases t:Oi o
  ·rw[Ni h1 s t];exact h
  ·have:∃xs,o=.tup xs:=Classical.byContradiction λz=>t λxs w=>z ⟨xs,w⟩
   obtain⟨xs,rfl⟩:=this
   exact Oa (s _ _ h1)
 ·cases e:H' a with
  | none =>
   unfold Jq at h;rw[e] at h
   cases e2:H a with
   | none=>rw[e2] at h;cases h
   | some u=>rw[s _ _ e2] at e;cases e
  | some u =>
   by_cases t:Oi u
   ·cases e2:H a with
    | none=>rw[Dp e2 e] at h;exact h
    | some w =>
     have:=s _ _ e2
     rw[e] at this;cases this
     rw[Ni e2 s t] at h
     rw[i _ _ h] at e2;cases e2;rfl
   ·have:∃xs,u=.tup xs:=Classical.byContradiction λz=>t λxs w=>z ⟨xs,w⟩
    obtain⟨xs,rfl⟩:=this
    rw[Oa e] at h;exact h
theorem AcQ{G H:Hp}{l m n:Bool}{vs:List V}{ps:List PV}(h:ArgsOk K C G H [l,m,n] vs ps):∃v w x p q r,vs=[v,w,x]/\ps=[p,q,r]/\RepB K C G H v p/\RepB K C G H w q/\RepB K C G H x r:=by
 match vs,ps,l,h with
 | v::vs,p::ps,true,h=>obtain⟨w,x,q,r,rfl,rfl,h1,h2⟩:=Qy h.2;exact⟨v,w,x,p,q,r,rfl,rfl,.inl h.1,h1,h2⟩
 | v::vs,p::ps,false,h=>obtain⟨w,x,q,r,rfl,rfl,h1,h2⟩:=Qy h.2;exact⟨v,w,x,p,q,r,rfl,rfl,h.1,h1,h2⟩
 | [],_,true,h=>cases h
 | [],_,false,h=>cases h
 | _::_,[],true,h=>cases h
 | _::_,[],false,h=>cases h
def bMk(P:PV->Prop)(ps:List PV):Prop:=∃S M J,ps=[.lst (S.map sgP),.lst (M.map prP),.lst (J.map jnP)]/\(∀s∈S,Lv s)/\(∀m∈M,0<=m.1/\0<=m.2)/\(S.map (·.1)++Cn M).Nodup/\Abj (kK S++kM M) J/\S.length+2*M.length<=400/\P (.bk S M J)
def uMk(u:UA):UE:=λρ P=>u ρ λps=>bMk P ps
def Agz:V->Str
 | .str x=>x
 | _=>"plain"
def Tn(S:List Sg)(M:List (Int×Int))(n:Int):Str:=Agz ((Ck (kK S++kM M) (Sum.inl n)).getD (.str "plain"))
theorem Adg{κ:Type} [DecidableEq κ] {kvs:List (κ×V)} {k:κ} {v:V} (h:Ck kvs k=some v):∃x,(x,v)∈kvs:=by
 unfold Ck at h
 obtain⟨kv,h1,h2⟩:=map_eq_some_iff.mp h
 exact⟨kv.1,by rw[<- h2];exact List.mem_of_find?_eq_some h1⟩
theorem Ac7{M:List (Int×Int)}{x:Key}{v:V}(h:(x,v)∈kM M):∃s,v=.str s:=by
 induction M with
 | nil=>cases h
 | cons m r ih =>
  rcases mem_cons.mp h with e | h
  ·cases e;exact⟨_,rfl⟩
  ·rcases mem_cons.mp h with e | h
   ·cases e;exact⟨_,rfl⟩
   ·exact ih h
theorem AeP(S:List Sg)(M:List (Int×Int))(n:Int):(Ck (kK S++kM M) (Sum.inl n)).getD (.str "plain")=.str (Tn S M n):=by
 unfold Tn
 cases e:Ck (kK S++kM M) (Sum.inl n) with
 | none=>rfl
 | some v =>
  obtain⟨x,hx⟩:=Adg e
  rcases mem_append.mp hx with h | h
  ·obtain⟨s,_,e2⟩:=mem_map.mp h;cases e2;rfl
  ·obtain⟨s,rfl⟩:=Ac7 h;rfl
def bBk(p:PV)(R:List Sg->List (Int×Int)->List Jn->Prop):Prop:=∃S M J,p=.bk S M J/\R S M J
def uM1(f:List Sg->List (Int×Int)->List Jn->Int->PV)(ua ub:UE):UE:=λρ P=>ua ρ λp=>bBk p λS M J=>ub ρ λq=>bU (λn=>f S M J n) q P
theorem RepB.bk{G H:Hp}{v:V}{S:List Sg}{M:List (Int×Int)}{J:List Jn}(h:RepB K C G H v (.bk S M J)):∃b kvs,v=.ref b/\BookAt C G b (kK S++kM M) (kR S) (kB M) kvs (kW J)/\LAt KvAt G kvs J:=by
 rcases h with h | ⟨a,_,h⟩
 ·cases h with
  | bk h l=>exact⟨_,_,rfl,h,l⟩
 ·exact h.elim
theorem AfN{nm:Str}{E:XK}{sp:Sp}{f:List Sg->List (Int×Int)->List Jn->Int->PV}{ta tb:TE}{ua ub:UE}(hm:∀{dk dr dm dp dw:Addr},(bkF dk dr dm dp dw).lookup nm=none)
  (hs:∀G H b S M J kvs n Q,Same G H->BookAt C G b (kK S++kM M) (kR S) (kB M) kvs (kW J)->LAt KvAt G kvs J->(∀v,Rep K C G v (f S M J n)->Q v H)->sp [.ref b,.int n] H Q E)
  (ha:EB K C ω ta ua) (hb:EB K C ω tb ub):EU K C ω (Vp C nm sp [] E ta (Dx tb Qj)) (uM1 f ua ub) :=
 λB G0 H0 own G σ H ρ P Q St hu k=>ha B G0 H0 own G σ H ρ _ _ St hu λv p G1 H1 w1 r1 ⟨S,M,J,e,h1⟩=>by
  subst e
  obtain⟨b,kvs,rfl,bk,l⟩:=r1.bk
  refine Yt (bk.mono λ_ _ e _=>w1.i _ _ e) hm (hb B G0 H0 own G1 σ H1 ρ _ _ (St.grow w1) h1 λw q G2 H2 w2 r2 ⟨n,e,h⟩=>?_)
  subst e
  rw[r2.int]
  exact hs G2 H2 b S M J kvs n Q w2.i (bk.mono λ_ _ e _=>w2.g _ _ e) (l.kvS w2.g) λv rv=>k v _ G2 H2 (w1.trans w2) rv h
theorem Vm{E:XK}{ta tb:TE}{ua ub:UE}(ha:EB K C ω ta ua)(hb:EB K C ω tb ub):EU K C ω (Vp C "kind" (Vf C) [] E ta (Dx tb Qj)) (uM1 (λS M _ n=>.str (Tn S M n)) ua ub) :=
 AfN Tr (λG H b S M J kvs n Q i bk l k=>⟨b,n,_,_,_,_,_,rfl,bk.mono λ_ _ e _=>i _ _ e,by rw[AeP];exact k _ (.str _)⟩) ha hb
end
section
variable {ρ:Bo}{P:PV->Prop}{B:Bool->Prop}{R:Bo->Prop}{d:Fj}{ua ub uc:UE}{ta tb:UT}{u w:US}{x y:PV}
theorem AfG(q:u { d with nx:=w d } ρ):AeO u w d ρ:=q
theorem Zh(q:d.nx ρ):Acp d ρ:=q
theorem Vd{i:Nat}{s:Sl}(h:ρ[i]? = some s)(q:u d (ρ.set i (Ll s))):Th i u d ρ:=by unfold Th Fz;rw[h];exact q
theorem AcX(q:ua ρ d.rt):AbP ua d ρ:=q
theorem AeS(q:ta ρ λb=>if b=true then u d ρ else w d ρ):AeF ta u w d ρ:=q
theorem AcG{i:Nat}(q:ua ρ λp=>d.nx (ρ.set i (.sh p))):Aea i ua d ρ:=q
theorem Zm{i:Nat}(q:ua ρ λp=>d.nx (ρ.set i (.ow p))):Ab8 i ua d ρ:=q
theorem AbX{ug:PV->Bo->(Bo->Prop)->Prop}(q:ua ρ λp=>ug p ρ d.nx):Ae6 ua ug d ρ:=q
theorem Vc{i:Nat}(q:R (ρ.set i (.sh x))):Zv i x ρ R:=q
theorem Zp{n:Nat}{ps:List PV}{us:List PV->Bo->(Bo->Prop)->Prop}(hl:ps.length=n)(q:us ps ρ R):Acx n us (.tup ps) ρ R:=⟨ps,rfl,hl,q⟩
theorem Uq{r:List PV}{ug:PV->Bo->(Bo->Prop)->Prop}{us:List PV->Bo->(Bo->Prop)->Prop}(q:ug x ρ λρ'=>us r ρ' R):Vk ug us (x::r) ρ R:=⟨x,r,rfl,q⟩
theorem Yu(q:R ρ):Xu [] ρ R:=⟨rfl,q⟩
theorem Ab9{i:Nat}{s:Sl}(h1:ρ[i]? = some s)(h2:s.val=some x)(q:P x):AeJ i ρ P:=⟨s,x,h1,h2,q⟩
theorem Aaj{i:Nat}(h1:ρ[i]? = some (.sh x))(q:P x):AcL i ρ P:=⟨x,h1,q⟩
theorem p_c(q:P x):uC x ρ P:=q
theorem Aej{g:Int->Int->PV}(q:ua ρ λp=>ub ρ λq=>bI0 g p q P):uI0 g ua ub ρ P:=q
theorem Aek{g:Int->Int->PV}{i j:Int}(q:P (g i j)):bI0 g (.int i) (.int j) P:=⟨i,j,rfl,rfl,q⟩
theorem p_i{c:Int->Int->Prop}{g:Int->Int->PV}(q:ua ρ λp=>ub ρ λq=>bI c g p q P):uI c g ua ub ρ P:=q
theorem Acq{g:Int->Int->PV}{i j:Int}(q:P (g i j))(hc:0<j):bI (λ_ j=>0<j) g (.int i) (.int j) P:=⟨i,j,rfl,rfl,hc,q⟩
theorem Acg{g:Int->Int->PV}{i j:Int}(q:P (g i j))(hc:Wi i j):bI Wi g (.int i) (.int j) P:=⟨i,j,rfl,rfl,hc,q⟩
theorem AcR{g:Int->Int->PV}{i j:Int}(q:P (g i j))(hc:CMul i j):bI CMul g (.int i) (.int j) P:=⟨i,j,rfl,rfl,hc,q⟩
theorem AcA{g:Int->Int->PV}{i j:Int}(q:P (g i j))(hc:Wu i j):bI Wu g (.int i) (.int j) P:=⟨i,j,rfl,rfl,hc,q⟩
theorem p_u{g:Int->PV}(q:ua ρ λp=>bU g p P):uU g ua ρ P:=q
theorem b_u{g:Int->PV}{i:Int}(q:P (g i)):bU g (.int i) P:=⟨i,rfl,q⟩
theorem Acj{neg:Bool}(q:ua ρ λp=>ub ρ λq=>Tm neg p q P):Aa5 neg ua ub ρ P:=q
theorem Ab0{i j:Int}(q:P (.bl (decide (i=j)))):Tm false (.int i) (.int j) P:=.inl ⟨i,j,rfl,rfl,q⟩
theorem AbY{i j:Str}(q:P (.bl (decide (i=j)))):Tm false (.str i) (.str j) P:=.inr ⟨i,j,rfl,rfl,q⟩
theorem AcC{i j:Str}(q:P (.bl (!decide (i=j)))):Tm true (.str i) (.str j) P:=.inr ⟨i,j,rfl,rfl,q⟩
theorem p_b(q:ua ρ λp=>bB p B):uB ua ρ B:=q
theorem b_b{b:Bool}(q:B b):bB (.bl b) B:=⟨b,rfl,q⟩
theorem AcV(q:ta ρ λb=>B (!b)):Afs ta ρ B:=q
theorem Yy(q:ua ρ λp=>bB p λb=>if b=true then ub ρ P else P (.bl false)):AcE ua ub ρ P:=q
theorem Aae(q:ua ρ λp=>bB p λb=>P (.bl (!b))):Acn ua ρ P:=q
theorem Acr{L:List PV->Prop}(q:L []):Aew ρ L:=q
theorem Aav{L:List PV->Prop}{ur:UA}(q:ua ρ λp=>ur ρ λps=>L (p::ps)):Wh ua ur ρ L:=q
theorem Acf{ur:UA}(q:ur ρ λps=>P (.lst ps)):Ad1 ur ρ P:=q
theorem AcO{ur:UA}(q:ur ρ λps=>P (.tup ps)):AeZ ur ρ P:=q
theorem AcB(q:ua ρ λp=>ub ρ λq=>Nv p q P):AeY ua ub ρ P:=q
theorem Fc{ps:List PV}{i:Int}(h:atI ps i=some x)(q:P x):Nv (.lst ps) (.int i) P:=⟨i,ps,x,rfl,.inl rfl,h,q⟩
theorem Af8{ns:List Int}{i n:Int}(h:atI ns i=some n)(q:P (.int n)):Nv (.scr ns) (.int i) P:=⟨i,_,_,rfl,.inr ⟨ns,rfl,rfl⟩,by
 unfold L2.atI at h ⊢
 rw[length_map]
 cases e:ixN ns.length i with
 | none=>rw[e] at h;cases h
 | some j=>rw[e] at h;show (ns.map PV.int)[j]? = _;rw[getElem?_map,show ns[j]? = some n from h];rfl,q⟩
theorem Acz(q:ua ρ λp=>ub ρ λq=>We p q P):Ae3 ua ub ρ P:=q
theorem Aak{a:PV}{r:List PV}(q:P a):We (.tup (a::r)) (.int 0) P:=⟨0,_,_,rfl,rfl,Dz (j:=0) rfl,q⟩
theorem Zl{a b:PV}{r:List PV}(q:P b):We (.tup (a::b::r)) (.int 1) P:=⟨1,_,_,rfl,rfl,Dz (j:=1) rfl,q⟩
theorem Acd(q:ua ρ λp=>ub ρ λq=>Abn p q P):Aeu ua ub ρ P:=q
theorem Aca{xs ys:List PV}(q:P (.lst (xs++ys)))(hl:xs.length+ys.length<=100000):Abn (.lst xs) (.lst ys) P:=⟨xs,ys,rfl,rfl,hl,q⟩
theorem Afh{ur:List PV->(PV->Prop)->Prop}{us:UA}(q:us ρ λps=>ur ps P):uCB ur us ρ P:=q
theorem Aan{xs:List PV}(q:P (.int (xs.length:Nat))):Xc [.lst xs] P:=⟨_,.inr (.inl ⟨xs,rfl,rfl⟩),q⟩
theorem Xq{ns:List Int}(q:P (.int (ns.length:Nat))):Xc [.scr ns] P:=⟨_,.inr (.inr (.inr ⟨ns,rfl,rfl⟩)),q⟩
theorem AcJ{i j:Int}(q:P (.int (if j<i then j else i))):AcD [.int i,.int j] P:=⟨i,j,rfl,q⟩
theorem Yg{b:Bool}(q:P (.int (if b then 1 else 0))):Acs [.bl b] P:=.inr ⟨b,rfl,q⟩
theorem Uk{xs:List PV}(q:P (.lst xs)):Za [.lst xs] P:=⟨xs,.inl rfl,q⟩
theorem AcH{i:Nat}{us:UA}{ps:List PV}(h:ρ[i]? = some (.ow (.lst ps)))(q:us ρ λqs=>AbF i ρ d.nx qs):AcU i us d ρ:=⟨⟨ps,h⟩,q⟩
theorem AcW{i:Nat}{N:Bo->Prop}{ps:List PV}(h:ρ[i]? = some (.ow (.lst ps)))(q:N (ρ.set i (.ow (.lst (ps++[x])))))(hl:ps.length<100000):AbF i ρ N [x]:=⟨x,ps,rfl,h,hl,q⟩
theorem AcS{ui:UI}{ug:PV->Bo->(Bo->Prop)->Prop}(q:ui ρ λps=>AcZ ps ug u d ρ):AeT ui ug u d ρ:=q
theorem Act{L:List PV->Prop}(q:ua ρ λp=>bL p L):uiL ua ρ L:=q
theorem b_L{L:List PV->Prop}{ps:List PV}(q:L ps):bL (.lst ps) L:=⟨ps,.inl rfl,q⟩
theorem Zx{us:UA}{ug:PV->Bo->(Bo->Prop)->Prop}(q:us ρ λps=>bR2 (λi n=>Vy i n ug u d ρ) ps):Ab5 us ug u d ρ:=q
theorem Ys{ug:PV->Bo->(Bo->Prop)->Prop}{k:Nat}{fr:List Nat}(q:ua ρ λp=>bL p λps=>ps.length<=100000/\To ps ug ta ue (compρ k fr ρ) P):AcP ua ug ta ue k fr ρ P:=q
theorem Xx(q:B true):AbZ ρ B:=q
theorem Yv{psp:PSp}{us:UA}(q:us ρ λps=>psp ps P):Wj psp us ρ P:=q
theorem Acy{neg:Bool}(q:ua ρ λp=>ub ρ λq=>AbN neg p q P):Aeo neg ua ub ρ P:=q
theorem Aex{L:Int->Nat->Prop}{i j:Int}(q:L i (j - i).toNat)(h:-(2^62)<=i/\i<2^62/\-(2^62)<=j/\j<2^62):bR2 L [.int i,.int j]:=⟨i,j,rfl,h,q⟩
theorem Aat{a:PV}{r:List PV}(q:P a):Nv (.lst (a::r)) (.int 0) P:=⟨0,_,_,rfl,.inl rfl,Dz (j:=0) rfl,q⟩
theorem Gs{α:Type}{f:α->PV}{l:List α}{j:Nat}{a:α}{i:Int}(h:l[j]? = some a)(e:i=(j:Int))(q:P (f a)):Nv (.lst (l.map f)) (.int i) P:=by
 subst e
 exact⟨_,_,_,rfl,.inl rfl,Dz (by rw[getElem?_map,h];rfl),q⟩
theorem Afk{us:UA}(q:us ρ λps=>bMk P ps):uMk us ρ P:=q
theorem Afc{f:List Sg->List (Int×Int)->List Jn->Int->PV}(q:ua ρ λp=>bBk p λS M J=>ub ρ λq=>bU (λn=>f S M J n) q P):uM1 f ua ub ρ P:=q
theorem Aem{S:List Sg}{M:List (Int×Int)}{J:List Jn}{L:List Sg->List (Int×Int)->List Jn->Prop}(q:L S M J):bBk (.bk S M J) L:=⟨S,M,J,rfl,q⟩
theorem Afe{xs:List PV}(c:CmpL xs xs)(q:P (.bl true)):AbN false (.lst xs) (.lst xs) P:=⟨xs,xs,rfl,rfl,c,λb hb=>by rw[hb.mpr rfl];exact q⟩
theorem AdJ{α:Type}{S:List α}{enc:α->PV}{f:α->Option PV}{ug:PV->Bo->(Bo->Prop)->Prop}{ue:UE}{ρ':Bo}(q:P (.lst (S.filterMap f)))(h:∀s∈S,∀Z:Option PV->Prop,Z (f s)->ug (enc s) ρ' λρ2=>ta ρ2 λb=>if b=true then ue ρ2 λq=>Z (some q) else Z none):To (S.map enc) ug ta ue ρ' P:=by
 refine⟨λn rs=>rs=(S.take n).filterMap f,rfl,λn p rs hp hr=>?_,λrs hr=>?_⟩
 ·rw[getElem?_map] at hp
  obtain⟨s,hs,rfl⟩:=map_eq_some_iff.mp hp
  subst hr
  refine h s (mem_of_getElem? hs) (λo=>(match o with | some q=>(S.take n).filterMap f++[q] | none=>(S.take n).filterMap f)=(S.take (n+1)).filterMap f) ?_
  rw[Dj hs,List.filterMap_append]
  cases e:f s with
  | none=>simp [filterMap_cons,e]
  | some x=>simp [filterMap_cons,e]
 ·rw[length_map,take_length] at hr
  rw[hr];exact q
end
section
variable {K:Frag}{C:Addr}{ω:Om}{rm:Rm}
end
def Us:PSp:=λps P=>∃ns,ps=[.scr ns]/\ns.length<=63/\P (.bl true)
def Rc(K:Frag):Sp:=λvs H Q _=>∃(a:Addr) (ns:List Int),vs=[.ref a]/\SqL K H a (ns.map V.int)/\ns.length<=63/\∀H',Q (.bl true) H'
theorem Ads{K:Frag}{C:Addr}:∀vs H Q E,Rc K vs H Q E->spOf K C [false] .sh Us vs H Q E:=λvs H Q E ⟨a,ns,e,hS,hl,q⟩=>by
 subst e
 refine⟨H,[.scr ns],λp=>p=.bl true,Same.refl _,⟨.inl (.scr hS),trivial⟩,⟨ns,rfl,hl,rfl⟩,λG' H' v p w r hp=>?_⟩
 subst hp
 have r':Rep K C G' v (.bl true):=r
 cases r'
 exact q H'
section
variable {K:Frag}{C:Addr}
def asU(i:Nat)(d:Fj):Fj where
 nx:=λρ=>d.nx (ρ.set i .un)
 rt:=d.rt
 bk:=λρ=>d.bk (ρ.set i .un)
 ct:=λρ=>d.ct (ρ.set i .un)
theorem Sat.unset{ω:Om}{B G0 H0 G H:Hp}{own:Nat->Option Addr}{σ:St}{ρ:Bo}(S:Sat K C ω B G0 H0 own G σ H ρ)(i:Nat):Sat K C ω B G0 H0 (Fq own i) G (σ.set i none) H (ρ.set i .un):=by
 refine⟨S.kb,S.gr,by rw[length_set,length_set,S.len],λj k a h1 h2=>S.inj j k a (Dn h1).2 (Dn h2).2,λj a h=>S.fr j a (Dn h).2,λj s h=>?_,S.ex⟩
 rcases Lf h with ⟨rfl,rfl,hl⟩ | ⟨z,h⟩
 ·trivial
 ·exact (S.sl j s h).other (Ol z) (by unfold Fq;rw[if_neg z])
theorem Fits.as{ω:Om}{rm:Rm}{B G0 H0:Hp}{D:Ends}{d:Fj}(F:Fits K C ω rm B G0 H0 D d)(i:Nat):Fits K C ω rm B G0 H0 (Tz i D) (asU i d) :=
 ⟨λown G σ H ρ S q=>F.nx _ _ _ _ _ (S.unset i) q,F.rt,λown G σ H ρ S q=>F.bk _ _ _ _ _ (S.unset i) q,λown G σ H ρ S q=>F.ct _ _ _ _ _ (S.unset i) q⟩
theorem Sat.caught{ω:Om}{B G0 H0 G H H1:Hp}{own:Nat->Option Addr}{σ:St}{ρ:Bo}(S:Sat K C ω B G0 H0 own G σ H ρ)(s:Same H H1){i:Nat}{x c:Addr}(n:H1 x=none) :
  Sat K C ω B G0 H0 (Fq own i) (upd G x (.ext (excF x c))) (σ.set i (some (.ref x))) (upd H1 x (.ext (excF x c))) (ρ.set i (.sh (.exc c))):=by
 have w1:Grow G H G H1:=Grow.own S.gr.i s
 have w2:Grow G H1 (upd G x (.ext (excF x c))) (upd H1 x (.ext (excF x c))):=Grow.put w1.i n (Same.new n) Bn
 exact ((S.grow w1).grow w2).setS (.exc Bn)
abbrev UX:=Fj->(Addr->Prop)->Bo->Prop
def SX(K:Frag)(C:Addr)(ω:Om)(rm:Rm)(t:TSx)(u:UX):Prop:=∀(B G0 H0:Hp) (own:Nat->Option Addr) (G:Hp) (σ:St) (H:Hp) (ρ:Bo) (D:Ends) (d:Fj) (Ex:Addr->Hp->Prop) (X:Addr->Prop),Sat K C ω B G0 H0 own G σ H ρ->Fits K C ω rm B G0 H0 D d ->
 (∀c H',Same H H'->X c->Ex c H')->u d X ρ->t D Ex σ H
def Aen(ub:UX)(S:Addr->Prop)(i:Nat)(us:US):US:=λd ρ=>ub d (λc=>S c/\us (asU i d) (ρ.set i (.sh (.exc c)))) ρ
theorem Aey{ω:Om}{rm:Rm}{tb:TSx}{ub:UX}{S:Addr->Prop}{i:Nat}{ts:TS}{us:US}(hb:SX K C ω rm tb ub)(hs:SU K C ω rm ts us):SU K C ω rm (Ae4 tb S i ts) (Aen ub S i us) :=
 λB G0 H0 own G σ H ρ D d Z F hu=>hb B G0 H0 own G σ H ρ D d _ _ Z F (λc H' s hx=>⟨hx.1,λx n=>hs B G0 H0 _ _ _ _ _ _ _ (Z.caught s n) (F.as i) hx.2⟩) hu
def isX(K:Frag)(c:Addr)(b:Bool):PV->Prop
 | .cls D=>Lr K c/\kitOne K (.ref c) (.ref D)=some b
 | .ty n=>Lr K c/\kitOne K (.ref c) (.type n)=some b
 | _=>False
def AaA(K:Frag)(p q:PV)(P:PV->Prop):Prop:=∃c b,p=.exc c/\isX K c b q/\P (.bl b)
def Ab1(K:Frag)(ps:List PV)(P:PV->Prop):Prop:=∃p q,ps=[p,q]/\AaA K p q P
theorem AaO{G H:Hp}{v:V}{c:Addr}(i:Same G H)(r:RepB K C G H v (.exc c)):∃x,v=.ref x/\H x=some (.ext (excF x c)):=by
 rcases r with r | ⟨a,_,r⟩
 ·cases r with
  | exc e=>exact⟨_,rfl,i _ _ e⟩
 ·exact r.elim
theorem Jx{ω:Om}{m n:Bool}{t:TA}{u:UA}(ha:AU K C ω [m,n] t u):EU K C ω (tCB (λvs H Q=>∃x C v b,vs=[.ref x,v]/\H x=some (.ext (excF x C))/\Lr K C/\(∀u,RelV v u->kitOne K (.ref C) u=some b)/\Q (.bl b) H) t) (uCB (Ab1 K) u) :=
 Sj (λG H vs ps P Q i ok ⟨p,q,e,c,b,e1,hx,h⟩ k=>by
  subst e e1
  obtain⟨v,w,p,q',rfl,eq,r1,r2⟩:=Qy ok
  cases eq
  obtain⟨x,rfl,hH⟩:=AaO i r1
  cases q with
  | cls D =>
   rcases r2 with r2 | ⟨a,_,r2⟩
   ·cases r2 with
    | cls=>exact⟨x,c,_,b,rfl,hH,hx.1,λu ru=>by cases (show u=Value.ref D from ru);exact hx.2,k _ _ (.bl b) h⟩
   ·exact r2.elim
  | ty n =>
   rcases r2 with r2 | ⟨a,_,r2⟩
   ·cases r2 with
    | ty=>exact⟨x,c,_,b,rfl,hH,hx.1,λu ru=>by cases (show u=Value.type n from ru);exact hx.2,k _ _ (.bl b) h⟩
   ·exact r2.elim
  | _=>exact hx.elim) ha
theorem AcN{ub:UX}{S:Addr->Prop}{i:Nat}{us:US}{ρ:Bo}{d:Fj}(q:ub d (λc=>S c/\us (asU i d) (ρ.set i (.sh (.exc c)))) ρ):Aen ub S i us d ρ:=q
theorem Aco{i:Nat}{ρ:Bo}{d:Fj}(q:d.nx (ρ.set i .un)):(asU i d).nx ρ:=q
theorem Acb{p q:PV}{P:PV->Prop}(h:AaA K p q P):Ab1 K [p,q] P:=⟨p,q,rfl,h⟩
theorem Oj{q:PV}{c:Addr}{b:Bool}{P:PV->Prop}(h:isX K c b q)(z:P (.bl b)):AaA K (.exc c) q P:=⟨c,b,rfl,h,z⟩
end
section
variable {K:Frag}{C:Addr}{ω:Om}
end
section
variable {K:Frag}{C:Addr}{ω:Om}{rm:Rm}
end
section
variable {K:Frag}{C:Addr}{ω:Om}{rm:Rm}
end
section
variable {K:Frag}{C:Addr}{ω:Om}{rm:Rm}
end
section
variable {K:Frag}{C:Addr}{ω:Om}{rm:Rm}
end
section
variable {K:Frag}{C:Addr}{ω:Om}
end
section
variable {K:Frag}{C:Addr}{ω:Om}{rm:Rm}
theorem Ael{a b:PV}{r:List PV}{P:PV->Prop}(q:P b):Nv (.lst (a::b::r)) (.int 1) P:=⟨1,_,_,rfl,.inl rfl,Dz (j:=1) rfl,q⟩
theorem AeX{a b c:PV}{r:List PV}{P:PV->Prop}(q:P c):Nv (.lst (a::b::c::r)) (.int 2) P:=⟨2,_,_,rfl,.inl rfl,Dz (j:=2) rfl,q⟩
end
section
variable {K:Frag}{C:Addr}{ω:Om}{rm:Rm}
end
inductive Thg(H:Hp):V->Prop
 | non:Thg H .non
 | bl (b:Bool):Thg H (.bl b)
 | int (n:Int):Thg H (.int n)
 | str (s:Str):Thg H (.str s)
 | lst {a:Addr} {xs:List V} (e:H a=some (.lst xs)):Thg H (.ref a)
 | tup {a:Addr} {xs:List V} (e:H a=some (.tup xs)):Thg H (.ref a)
 | dk {a:Addr} {kvs:List (Key×V)} (e:H a=some (.dK kvs)):Thg H (.ref a)
theorem Thg.mono{H H':Hp}{v:V}(h:Thg H v)(s:Same H H'):Thg H' v:=by
 cases h with
 | non=>exact .non
 | bl b=>exact .bl b
 | int n=>exact .int n
 | str s=>exact .str s
 | lst e=>exact .lst (s _ _ e)
 | tup e=>exact .tup (s _ _ e)
 | dk e=>exact .dk (s _ _ e)
def whV:V->Bool
 | .int _=>true
 | _=>false
def sgV:V->Bool
 | .int n=>decide (0<=n)
 | _=>false
def tkV:V->Bool
 | .str k=>decide (k∈toldK)
 | _=>false
def rkV(k:Str):V->Bool
 | .int r=>if k="mark" then decide (1<=r) else decide (r=0)
 | _=>false
theorem AbM{k:Str}:inV (V.str k) [V.str "fore",V.str "back",V.str "num",V.str "blank",V.str "mark",V.str "forein",V.str "backin",V.str "out"]=decide (k∈toldK):=by
 refine Bool.eq_iff_iff.mpr ?_
 rw[decide_eq_true_iff]
 show inV (V.str k) (toldK.map V.str)=true↔_
 unfold inV
 rw[any_map,any_eq_true]
 constructor
 ·rintro ⟨x,hx,e⟩
  have:(x==k)=true:=e
  rw[<- eq_of_beq this];exact hx
 ·intro h
  exact⟨k,h,beq_self_eq_true k⟩
local macro_rules | `(tactic| walk_at "rd")=>`(tactic| repeat (first
 | (with_reducible first | refine Wa ?_ | refine AfP rfl ?_ | refine i_c ?_ | refine AgL ?_ | refine Afx ?_ | refine AcM ?_ | refine Ach ?_ | refine AbV ?_ | refine AcT ?_ | refine AgP ?_ | refine Ae5 ?_ | refine AfQ ?_ | refine AfC ?_ | refine Afj ?_ | refine AeQ ?_ | refine i_notN ?_ | refine AgM ?_ | refine AeB ?_ | refine Agl ?_ | refine AgK ?_ | refine Afy ?_ | refine AdH ?_ | refine AeU (SqT.of (by assumption)) rfl ?_ | refine Adv ?_ | refine AeD ?_ | refine AdX ?_ | refine i_make ?_ | refine Aft ?_ | refine Aez ?_ | refine Agf ?_ | refine AfM ?_ | refine AgJ ?_ | refine Af6 ?_ | refine AaK ?_ | refine Ad2 ?_ | refine AdN ?_ | refine Ae8 ?_ | refine Ae0 ?_ | refine i_bm ?_ | refine i_int1 ?_ | refine AdW ?_ | refine AeR ?_ | refine Js ?_ | refine Jv ?_ | refine Wz ?_ | refine Wo ?_ | refine Abq ?_ | refine Aaa ?_ | refine AaQ ?_ | refine Ad0 (by assumption) ?_ | refine Aga (by assumption) ?_ | refine j_lenL (SqL.of (by assumption)) ?_ | refine Aeg (by assumption) ?_ | refine j_min ?_ | refine Afv (by assumption) ?_ | refine Aaf (by assumption) ?_ ?_ | refine AfX (by assumption) ?_ | refine Aes (by assumption) ?_ | refine j_clear (by assumption) ?_)
 | walk_at "u" | dsimp only [List.set,cons_append,nil_append,append_nil]))
local macro_rules | `(tactic| walk_at "cs")=>`(tactic| dsimp only [compσ,replicate,map_cons,map_nil,List.getElem?_cons_succ,List.getElem?_cons_zero,Option.join_some,cons_append,nil_append])
local macro_rules | `(tactic| walk_at "ma")=>`(tactic| (all_goals try (first | decide | exact⟨by decide,by decide⟩)))
local macro_rules | `(tactic| walk_at "mb")=>`(tactic| (all_goals try (first | decide | exact⟨by decide,by decide⟩ | exact⟨by decide,by decide,by decide⟩)))
local macro_rules | `(tactic| walk_at "s")=>`(tactic| simp only [Rb,List.zipWith_cons_cons,List.zipWith_nil_left,List.zipWith_nil_right,length_cons,length_nil,Nat.zero_add,Nat.reduceAdd,Nat.reduceSub,List.replicate_succ,List.replicate_zero,Bool.false_eq_true,if_false,if_true,cons_append,nil_append,Abi])
local macro_rules | `(tactic| ext)=>`(tactic| repeat (first
 | (with_reducible first | refine AfG ?_ | refine Ab9 rfl rfl ?_ | refine Aaj rfl ?_ | refine p_c ?_ | refine Aej ?_ | refine Aek ?_ | refine p_i ?_ | refine p_u ?_ | refine b_u ?_ | refine Acj ?_ | refine Ab0 ?_ | refine AbY ?_ | refine AcC ?_ | refine p_b ?_ | refine b_b ?_ | refine AcV ?_ | refine Yy ?_ | refine Aae ?_ | refine p_ifE ?_ | refine Zh ?_ | refine AcX ?_ | refine AeS ?_ | refine AcG ?_ | refine Zm ?_ | refine AbX ?_ | refine Vc ?_ | refine Zp rfl ?_ | refine Uq ?_ | refine Yu ?_ | refine Acr ?_ | refine Aav ?_ | refine Acf ?_ | refine AcO ?_ | refine AcB ?_ | refine Acz ?_ | refine Aak ?_ | refine Zl ?_ | refine b_ixt2 ?_ | refine Acd ?_ | refine Aca ?_ ?_ | refine Acq ?_ ?_ | refine Acg ?_ ?_ | refine AcR ?_ ?_ | refine AcA ?_ ?_ | refine Afh ?_ | refine Aan ?_ | refine Xq ?_ | refine AcJ ?_ | refine Yg ?_ | refine Uk ?_ | refine b_listS ?_ | refine AcH rfl ?_ | refine AcW rfl ?_ ?_ | refine b_dput rfl ?_ ?_ | refine AcS ?_ | refine Act ?_ | refine b_L ?_ | refine Zx ?_ | refine Ys ?_ | refine Xx ?_ | refine Yv ?_ | refine Acy ?_ | refine Aex ?_ ?_ | refine Aat ?_ | refine Afk ?_ | refine Afc ?_ | refine Aem ?_ | refine pf_dnew ?_ | refine AcN ?_ | refine Aco ?_ | refine Acb ?_ | refine b_abs ?_ | refine Vd rfl ?_ | refine Js ?_ | refine Jv ?_ | refine Wz ?_ | refine Wo ?_)
 | walk_at "u" | dsimp only [List.set,cons_append,nil_append,append_nil,Ll]))
local macro_rules | `(tactic| walk_at "u")=>`(tactic| first | with_reducible refine b_ins0 rfl ?_ ?_)
local macro_rules | `(tactic| walk_at "u")=>`(tactic| first | with_reducible refine b_dputT rfl ?_ ?_)
local macro_rules | `(tactic| walk_at "c")=>`(tactic| dsimp only [compρ,replicate,map_cons,map_nil,List.getElem?_cons_succ,List.getElem?_cons_zero,Option.getD_some,boS,cons_append,nil_append])
local macro_rules | `(tactic| walk_at "u")=>`(tactic| first | (with_reducible first | refine Ael ?_ | refine AeX ?_) | with_reducible refine b_neB ?_)
local macro_rules | `(tactic| walk_at "d")=>`(tactic| all_goals try first
 | ((with_reducible show (_:Int)<_);first | decide | omega | (simp only [length_map,length_replicate,length_range,length_append,length_reverse];omega))
 | ((with_reducible show Wi _ _);exact⟨by omega,by omega⟩)
 | ((with_reducible show Wu _ _);exact⟨by decide,by decide,by decide⟩)
 | ((with_reducible show CMul _ _);first | exact .inr ⟨by omega,by omega⟩ | exact .inl ⟨by omega,by omega⟩)
 | ((with_reducible show (_:Nat)<_);first | omega | (simp only [length_map,length_replicate,length_range,length_append,length_reverse];omega))
 | ((with_reducible show (_:Nat)<=_);first | omega | (simp only [length_map,length_replicate,length_range,length_append,length_reverse];omega))
 | ((with_reducible show (_:Int)<=_/\_);first | omega | (simp only [length_map,length_replicate,length_range,length_append,length_reverse];omega)))
local macro_rules | `(tactic| walk_at "u")=>`(tactic| first | with_reducible refine p_frz rfl (fun z=>?_) | with_reducible refine b_aug ?_)
local macro_rules | `(tactic| ext1)=>`(tactic| repeat (first
 | (with_reducible first | refine Ab9 rfl rfl ?_ | refine Aaj rfl ?_ | refine p_c ?_ | refine Aej ?_ | refine Aek ?_ | refine p_i ?_ | refine p_u ?_ | refine b_u ?_ | refine Acj ?_ | refine Ab0 ?_ | refine AbY ?_ | refine AcC ?_ | refine p_b ?_ | refine b_b ?_ | refine AcV ?_ | refine Yy ?_ | refine Aae ?_ | refine p_ifE ?_ | refine Zh ?_ | refine AcX ?_ | refine AeS ?_ | refine AcG ?_ | refine Zm ?_ | refine AbX ?_ | refine Vc ?_ | refine Zp rfl ?_ | refine Uq ?_ | refine Yu ?_ | refine Acr ?_ | refine Aav ?_ | refine Acf ?_ | refine AcO ?_ | refine AcB ?_ | refine Acz ?_ | refine Aak ?_ | refine Zl ?_ | refine b_ixt2 ?_ | refine Acd ?_ | refine Aca ?_ ?_ | refine Acq ?_ ?_ | refine Acg ?_ ?_ | refine AcR ?_ ?_ | refine AcA ?_ ?_ | refine Afh ?_ | refine Aan ?_ | refine Xq ?_ | refine AcJ ?_ | refine Yg ?_ | refine Uk ?_ | refine b_listS ?_ | refine AcH rfl ?_ | refine AcW rfl ?_ ?_ | refine b_dput rfl ?_ ?_ | refine AcS ?_ | refine Act ?_ | refine b_L ?_ | refine Zx ?_ | refine Ys ?_ | refine Xx ?_ | refine Yv ?_ | refine Acy ?_ | refine Aex ?_ ?_ | refine Aat ?_ | refine Afk ?_ | refine Afc ?_ | refine Aem ?_ | refine pf_dnew ?_ | refine AcN ?_ | refine Aco ?_ | refine Acb ?_ | refine b_abs ?_ | refine Vd rfl ?_ | refine Js ?_ | refine Jv ?_ | refine Wz ?_ | refine Wo ?_)
 | walk_at "u" | dsimp only [List.set,cons_append,nil_append,append_nil,Ll]))
section
variable {P:Program}{w:World}{K:Frag}{mg:Str->Option Value}{base:Heap}{t:Adr}
def Nf(C:Addr):Sp:=λvs H Q E=>∃b z,vs=[.bl b,z]/\(b=true->Q .non H)/\(b=false->E (.ref C) none H)
theorem Abf{C:Addr}{b:Bool}{z:V}{H:Hp}{Q:VK}{E:XK}(q:Q .non H)(h:b=true):Nf C [.bl b,z] H Q E:=⟨b,z,rfl,λ_=>q,λw=>by rw[h] at w;cases w⟩
theorem Zn{C:Addr}{z:V}{H:Hp}{Q:VK}{E:XK}(q:Q .non H):Nf C [.bl true,z] H Q E:=⟨true,z,rfl,λ_=>q,λw=>by cases w⟩
theorem AdG{C:Addr}{E:XK}{t:TA}{D:Ends}{σ:St}{H:Hp}(q:t σ H λvs H1=>vs.length<=sizeLine/\E (.ref C) none H1):Aag C E t D σ H:=q
local macro_rules | `(tactic| walk_at "u")=>`(tactic| with_reducible refine AdG ?_)
theorem Gj(T:Txt K mg t):Binds K t.d_qc ["held","words"] []:=T.F_qc.binds (by walk_at "b2")
theorem Fl(T:Txt K mg t):FnOk P w K mg base (CX1 P w) 1 t.f_qc t.d_qc ["held","words"] (Nf t.C_NoBook):=by
 refine T.F_qc.ok1 AfW (λvs H Q E h=>?_) (λcdv A outer s H vs Q E hr h=>?_)
 ·obtain⟨b,z,rfl,q1,q2⟩:=h
  rfl
 ·obtain⟨b,z,rfl,q1,q2⟩:=h
  have hu:=Dg hr
  have hu64:=hr.units
  refine⟨_,(Bx (Ga (Su (Tl (pv 0)))
    (Bx (Abz PySem.F.excBase_ValueError T.x_NoBook T.m_NoBook hr.hd rfl (Ba (pv 1) Bb)))
    Fi)),?_⟩
  try dsimp only [Cv,Ci]
  walk_at "rd"
  refine Afg (λh=>?_) (λh=>?_)
  ·have hb:b=false:=by simpa using h
   walk_at "rd"
   exact⟨by show 1<=sizeLine;decide,q2 hb⟩
  ·have hb:b=true:=by simpa using h
   walk_at "rd"
   exact q1 hb
def AaM:Sp:=λvs H Q _=>∃v,vs=[v]/\Thg H v/\Q (.bl (whV v)) H
local macro_rules | `(tactic| walk_at "u")=>`(tactic| with_reducible refine u_whole ?_)
theorem AeV(T:Txt K mg t):Binds K t.d_qa ["thing"] []:=T.F_qa.binds (by walk_at "b1")
theorem Acm(T:Txt K mg t):FnOk P w K mg base (CX1 P w) 1 t.f_qa t.d_qa ["thing"] (AaM):=by
 refine T.F_qa.ok1 Af1 (λvs H Q E h=>?_) (λcdv A outer s H vs Q E hr h=>?_)
 ·obtain⟨v,rfl,hv,q⟩:=h
  rfl
 ·obtain⟨v,rfl,hv,q⟩:=h
  have hu:=Dg hr
  have hu64:=hr.units
  refine⟨_,(Bx (Cu (Fa (Cw (Fo) rfl T.z_isinstance boot_isinstance (Ba (pv 0) (Ba (Ja (v:=.ty "int") rfl T.z_int boot_int rfl) Bb))) (Ge (Nh (Cw (Fo) rfl T.z_isinstance boot_isinstance (Ba (pv 0) (Ba (Ja (v:=.ty "bool") rfl T.z_bool boot_bool rfl) Bb)))))))),?_⟩
  try dsimp only [Cv,Ci]
  cases hv with
  | int n=>walk_at "rd";exact q
  | bl b =>
   walk_at "rd"
   refine⟨_,_,_,true,rfl,.bl b,rfl,_,rfl,?_⟩
   walk_at "rd"
   refine⟨_,_,_,true,rfl,.bl b,rfl,?_⟩
   walk_at "rd"
   exact q
  | non =>
   walk_at "rd"
   refine⟨_,_,_,false,rfl,.non,rfl,_,rfl,?_⟩
   walk_at "rd"
   exact q
  | str s =>
   walk_at "rd"
   refine⟨_,_,_,false,rfl,.str s,rfl,_,rfl,?_⟩
   walk_at "rd"
   exact q
  | lst e =>
   walk_at "rd"
   refine⟨_,_,_,false,rfl,.lst e,rfl,_,rfl,?_⟩
   walk_at "rd"
   exact q
  | tup e =>
   walk_at "rd"
   refine⟨_,_,_,false,rfl,.tup e,rfl,_,rfl,?_⟩
   walk_at "rd"
   exact q
  | dk e =>
   walk_at "rd"
   refine⟨_,_,_,false,rfl,.dK e,rfl,_,rfl,?_⟩
   walk_at "rd"
   exact q
def AdF:Sp:=λvs H Q _=>∃v,vs=[v]/\Thg H v/\Q (.bl (sgV v)) H
local macro_rules | `(tactic| walk_at "u")=>`(tactic| with_reducible refine u_sign ?_)
theorem Sn(T:Txt K mg t):Binds K t.d_qbd ["thing"] []:=T.F_qbd.binds (by walk_at "b1")
theorem Qv(T:Txt K mg t):FnOk P w K mg base (CX1 P w) 2 t.f_qbd t.d_qbd ["thing"] (AdF):=by
 refine T.F_qbd.ok1 Afb (λvs H Q E h=>?_) (λcdv A outer s H vs Q E hr h=>?_)
 ·obtain⟨v,rfl,hv,q⟩:=h
  rfl
 ·obtain⟨v,rfl,hv,q⟩:=h
  have hu:=Dg hr
  have hu64:=hr.units
  refine⟨_,(Bx (Cu (Fa (Bl (Acm T) (hr.mono (by decide)) rfl T.m_qa T.F_qa.kp (AeV T) .nil Bs (Ba (pv 0) Bb)) (Ge (Dy AcY (pv 0) Bd (Dm _)))))),?_⟩
  try dsimp only [Cv,Ci]
  walk_at "rd"
  refine⟨v,rfl,hv,?_⟩
  cases hw:whV v with
  | false =>
   rw[show sgV v=false by cases v <;> first | rfl | cases hw] at q
   walk_at "rd"
   exact q
  | true =>
   obtain⟨n,rfl⟩:∃n,v=.int n:=by cases v <;> first | exact⟨_,rfl⟩ | cases hw
   walk_at "rd"
   exact q
def Ac4:Sp:=λvs H Q _=>∃v,vs=[v]/\Thg H v/\Q (.bl (tkV v)) H
theorem AgR(T:Txt K mg t):Binds K t.d_qf ["thing"] []:=T.F_qf.binds (by walk_at "b1")
theorem Age(T:Txt K mg t):FnOk P w K mg base (CX1 P w) 1 t.f_qf t.d_qf ["thing"] (Ac4):=by
 refine T.F_qf.ok1 AfO (λvs H Q E h=>?_) (λcdv A outer s H vs Q E hr h=>?_)
 ·obtain⟨v,rfl,hv,q⟩:=h
  rfl
 ·obtain⟨v,rfl,hv,q⟩:=h
  have hu:=Dg hr
  have hu64:=hr.units
  refine⟨_,(Bx (Cu (Fa (Cw (Fo) rfl T.z_isinstance boot_isinstance (Ba (pv 0) (Ba (Ja (v:=.ty "str") rfl T.z_str boot_str rfl) Bb))) (Ge (Dy (Ru) (pv 0) (Fu (v:=.ref t.a_TOLD_KINDS) rfl T.g_TOLD_KINDS rfl) rfl))))),?_⟩
  try dsimp only [Cv,Ci]
  cases hv with
  | str s =>
   walk_at "rd"
   refine⟨_,_,rfl,.inr (T.q_TOLD_KINDS _),rfl,rfl,?_⟩
   rw[show (if false=true then !inV (V.str s) _ else inV (V.str s) [V.str "fore",V.str "back",V.str "num",V.str "blank",V.str "mark",V.str "forein",V.str "backin",V.str "out"])=decide (s∈toldK) from AbM]
   exact q
  | int n =>
   walk_at "rd"
   refine⟨_,_,_,false,rfl,.int n,rfl,_,rfl,?_⟩
   walk_at "rd"
   exact q
  | bl b =>
   walk_at "rd"
   refine⟨_,_,_,false,rfl,.bl b,rfl,_,rfl,?_⟩
   walk_at "rd"
   exact q
  | non =>
   walk_at "rd"
   refine⟨_,_,_,false,rfl,.non,rfl,_,rfl,?_⟩
   walk_at "rd"
   exact q
  | lst e =>
   walk_at "rd"
   refine⟨_,_,_,false,rfl,.lst e,rfl,_,rfl,?_⟩
   walk_at "rd"
   exact q
  | tup e =>
   walk_at "rd"
   refine⟨_,_,_,false,rfl,.tup e,rfl,_,rfl,?_⟩
   walk_at "rd"
   exact q
  | dk e =>
   walk_at "rd"
   refine⟨_,_,_,false,rfl,.dK e,rfl,_,rfl,?_⟩
   walk_at "rd"
   exact q
def Yo:Sp:=λvs H Q _=>∃k v,vs=[.str k,v]/\Thg H v/\Q (.bl (rkV k v)) H
theorem AgO(T:Txt K mg t):Binds K t.d_qq ["kind","thing"] []:=T.F_qq.binds (by walk_at "b2")
theorem Agb(T:Txt K mg t):FnOk P w K mg base (CX1 P w) 2 t.f_qq t.d_qq ["kind","thing"] (Yo):=by
 refine T.F_qq.ok1 AfH (λvs H Q E h=>?_) (λcdv A outer s H vs Q E hr h=>?_)
 ·obtain⟨k,v,rfl,hv,q⟩:=h
  rfl
 ·obtain⟨k,v,rfl,hv,q⟩:=h
  have hu:=Dg hr
  have hu64:=hr.units
  refine⟨_,(Bh (Ga (Su (Tl (Bl (Acm T) (hr.mono (by decide)) rfl T.m_qa T.F_qa.kp (AeV T) .nil Bs (Ba (pv 1) Bb))))
    (Bx (Cu Gq))
    Fi)
   (Bh (Ga (Go Gp (pv 0) Ca (Dm _))
    (Bx (Cu (Dy AcY (pv 1) Bd (Dm _))))
    Fi)
   (Bx (Cu (Dy Gp (pv 1) Bd (Dm _)))))),?_⟩
  try dsimp only [Cv,Ci]
  walk_at "rd"
  refine⟨v,rfl,hv,?_⟩
  cases hw:whV v with
  | false =>
   rw[show rkV k v=false by cases v <;> first | rfl | cases hw] at q
   walk_at "rd"
   exact q
  | true =>
   obtain⟨r,rfl⟩:∃n,v=.int n:=by cases v <;> first | exact⟨_,rfl⟩ | cases hw
   walk_at "rd"
   refine Afg (λh=>?_) (λh=>?_)
   ·have h':k="mark":=of_decide_eq_true h
    rw[show rkV k (.int r)=decide (1<=r) from if_pos h'] at q
    walk_at "rd"
    exact q
   ·have h':¬k="mark":=λz=>h (decide_eq_true z)
    rw[show rkV k (.int r)=decide (r=0) from if_neg h'] at q
    walk_at "rd"
    exact q
def AbK:Sp:=λvs H Q _=>∃a xs n,vs=[.ref a,.int n]/\H a=some (.lst xs)/\(∀x∈xs,∃b ys,x=.ref b/\H b=some (.tup ys)/\((ys.length:Nat):Int)=n)/\Q .non H
theorem AaT(T:Txt K mg t):Binds K t.d_qd ["rows","length"] []:=T.F_qd.binds (by walk_at "b2")
theorem Wy(T:Txt K mg t):FnOk P w K mg base (CX1 P w) 2 t.f_qd t.d_qd ["rows","length"] (AbK):=by
 refine T.F_qd.ok1 sc_qd (λvs H Q E h=>?_) (λcdv A outer s H vs Q E hr h=>?_)
 ·obtain⟨a,xs,n,rfl,hx,hr',q⟩:=h
  rfl
 ·obtain⟨a,xs,n,rfl,hx,hr',q⟩:=h
  have hu:=Dg hr
  have hu64:=hr.units
  refine⟨_,(Bh (Cf (Bl (Fl T) (hr.mono (by decide)) rfl T.m_qc T.F_qc.kp (Gj T) .nil Bs (Ba (Cw (Fo) rfl T.z_isinstance boot_isinstance (Ba (pv 0) (Ba (Ja (v:=.ty "list") rfl T.z_list PyProof.Rows.boot_list rfl) Bb))) (Ba Ca Bb))))
   (Bx (Fe PassesOwn.leaving rfl (Fk (pv 0)) (Cm (i:=2) sc_qd.nd rfl (Or.inl rfl))
    (Bx (Cf (Bl (Fl T) (hr.mono (by decide)) rfl T.m_qc T.F_qc.kp (Gj T) .nil Bs (Ba (Fa (Cw (Fo) rfl T.z_isinstance boot_isinstance (Ba (pv 2) (Ba (Ja (v:=.ty "tuple") rfl T.z_tuple boot_tuple rfl) Bb))) (Ge (Dy Gp (Cw (Np) rfl T.z_len PySem.boot_len (Ba (pv 2) Bb)) (pv 1) (Dm _)))) (Ba Ca Bb)))))))),?_⟩
  try dsimp only [Cv,Ci]
  walk_at "rd"
  refine Zn ?_
  walk_at "rd"
  refine Ld rfl (SqL.of hx) (λi σ H'=>∃v,σ=[some (.ref a),some (.int n),v]/\H'=H) ⟨none,rfl,rfl⟩ (λi σ H' _ ⟨_,_,e⟩=>by subst e;exact SqL.of hx) ?_ ?_
  ·rintro i x σ H' hi ⟨v,rfl,rfl⟩
   obtain⟨b,ys,rfl,hy,hl⟩:=hr' x (mem_of_getElem? hi)
   walk_at "rd"
   refine Abf ?_ (decide_eq_true hl)
   walk_at "rd"
   exact⟨_,rfl,rfl⟩
  ·rintro σ H' ⟨v,rfl,rfl⟩
   exact q
def Ua:Sp:=λvs H Q _=>∃d kvs n,vs=[.ref d,.int n]/\H d=some (.dK kvs)/\Q ((Ck kvs (.inl n)).getD (.str "plain")) H
theorem Adn{d:Addr}{kvs:List (Key×V)}{n:Int}{H:Hp}{Q:VK}{E:XK}(h:H d=some (.dK kvs))(q:Q ((Ck kvs (.inl n)).getD (.str "plain")) H):Ua [.ref d,.int n] H Q E:=⟨d,kvs,n,rfl,h,q⟩
local macro_rules | `(tactic| walk_at "u")=>`(tactic| with_reducible refine Adn (by assumption) ?_)
theorem Wt(T:Txt K mg t):Binds K t.d_qr ["kinds","sign"] []:=T.F_qr.binds (by walk_at "b2")
theorem So(T:Txt K mg t):FnOk P w K mg base (CX1 P w) 1 t.f_qr t.d_qr ["kinds","sign"] (Ua):=by
 refine T.F_qr.ok1 AfV (λvs H Q E h=>?_) (λcdv A outer s H vs Q E hr h=>?_)
 ·obtain⟨d,kvs,n,rfl,hd,q⟩:=h
  rfl
 ·obtain⟨d,kvs,n,rfl,hd,q⟩:=h
  have hu:=Dg hr
  have hu64:=hr.units
  refine⟨_,(Bx (Cu (AbQ hu (pv 0) (pv 1) Ca ⟨rfl,rfl,rfl,rfl⟩))),?_⟩
  try dsimp only [Cv,Ci]
  walk_at "rd"
  exact q
def Ad3(C:Addr):Sp:=λvs H Q E=>∃d kvs v k,vs=[.ref d,v,.str k]/\H d=some (.dK kvs)/\Thg H v/\kvs.length<=1000/\(∀n,v=.int n->0<=n->Ck kvs (Sum.inl n)=none->Q .non (upd H d (.dK (kvs++[(Sum.inl n,.str k)]))))/\((¬ ∃n,v=.int n/\0<=n/\Ck kvs (Sum.inl n)=none)->E (.ref C) none H)
theorem Vw(T:Txt K mg t):Binds K t.d_qbb ["kinds","sign","kind"] []:=T.F_qbb.binds (by walk_at "b3")
theorem Tg(T:Txt K mg t):FnOk P w K mg base (CX1 P w) 3 t.f_qbb t.d_qbb ["kinds","sign","kind"] (Ad3 t.C_NoBook):=by
 refine T.F_qbb.ok1 Aee (λvs H Q E h=>?_) (λcdv A outer s H vs Q E hr h=>?_)
 ·obtain⟨d,kvs,v,k,rfl,hd,hv,hl,q1,q2⟩:=h
  rfl
 ·obtain⟨d,kvs,v,k,rfl,hd,hv,hl,q1,q2⟩:=h
  have hu:=Dg hr
  have hu64:=hr.units
  refine⟨_,(Bh (Cf (Bl (Fl T) (hr.mono (by decide)) rfl T.m_qc T.F_qc.kp (Gj T) .nil Bs (Ba (Bl (Qv T) (hr.mono (by decide)) rfl T.m_qbd T.F_qbd.kp (Sn T) .nil Bs (Ba (pv 1) Bb)) (Ba Ca Bb))))
   (Bh (Cf (Bl (Fl T) (hr.mono (by decide)) rfl T.m_qc T.F_qc.kp (Gj T) .nil Bs (Ba (Re (Jl hu (pv 1) (pv 0))) (Ba Ca Bb))))
   (Bx (Gy hu (pv 0) (pv 1) (pv 2) rfl)))),?_⟩
  try dsimp only [Cv,Ci]
  walk_at "rd"
  refine⟨v,rfl,hv,?_⟩
  walk_at "rd"
  refine⟨_,_,rfl,λhb=>?_,λhb=>?_⟩
  rotate_left
  ·refine q2 (λ⟨n,e,h0,_⟩=>?_)
   subst e
   rw[show sgV (.int n)=true from decide_eq_true h0] at hb
   cases hb
  obtain⟨n,rfl⟩:∃n,v=.int n:=by cases v <;> first | exact⟨_,rfl⟩ | cases hb
  have h0:0<=n:=of_decide_eq_true hb
  walk_at "rd"
  refine⟨_,_,rfl,λhb=>?_,λhb=>?_⟩
  ·have hno:Ck kvs (Sum.inl n)=none:=by
    cases w:Ck kvs (Sum.inl n) with
    | none=>rfl
    | some x=>rw[w] at hb;cases hb
   walk_at "rd"
   ·rw[Gk _ hno]
    exact q1 n rfl h0 hno
   ·exact Jz hl
  ·refine q2 (λ⟨n',e,_,hno⟩=>?_)
   cases e
   rw[hno] at hb
   cases hb
def JOk(kk:List (Key×V))(w b m:V):Prop:=∃wn bn mn k,w=.int wn/\b=.int bn/\m=.int mn/\0<=wn/\0<=bn/\0<=mn/\knd kk mn=.str "mark"/\k∈joinedK/\knd kk wn=.str k/\knd kk bn=.str k
theorem Wf{k:Str}:inV (V.str k) [V.str "fore",V.str "back",V.str "num",V.str "blank",V.str "plain"]=decide (k∈joinedK):=by
 refine Bool.eq_iff_iff.mpr ?_
 rw[decide_eq_true_iff]
 show inV (V.str k) (joinedK.map V.str)=true↔_
 unfold inV
 rw[any_map,any_eq_true]
 constructor
 ·rintro ⟨x,hx,e⟩
  have:(x==k)=true:=e
  rw[<- eq_of_beq this];exact hx
 ·intro h
  exact⟨k,h,beq_self_eq_true k⟩
def Ada(C:Addr):Sp:=λvs H Q E=>∃d kk w b m,vs=[.ref d,w,b,m]/\H d=some (.dK kk)/\(∀n,∃s,knd kk n=.str s)/\Thg H w/\Thg H b/\Thg H m/\(JOk kk w b m->Q .non H)/\(¬JOk kk w b m->E (.ref C) none H)
theorem Ago(T:Txt K mg t):Binds K t.d_qp ["kinds","whole","base","mark"] []:=T.F_qp.binds λ_ _ _ _ _ _ us hl=>match us,hl with | [_,_,_,_],_=>rfl
theorem AfF(T:Txt K mg t):FnOk P w K mg base (CX1 P w) 3 t.f_qp t.d_qp ["kinds","whole","base","mark"] (Ada t.C_NoBook):=by
 refine T.F_qp.ok1 sc_qp (λvs H Q E h=>?_) (λcdv A outer s H vs Q E hr h=>?_)
 ·obtain⟨d,kk,w,b,m,rfl,hd,hs,hw,hb,hm,q1,q2⟩:=h
  rfl
 ·obtain⟨d,kk,w,b,m,rfl,hd,hs,hw,hb,hm,q1,q2⟩:=h
  have hu:=Dg hr
  have hu64:=hr.units
  refine⟨_,(Bh (Cf (Bl (Fl T) (hr.mono (by decide)) rfl T.m_qc T.F_qc.kp (Gj T) .nil Bs (Ba (Fa (Bl (Qv T) (hr.mono (by decide)) rfl T.m_qbd T.F_qbd.kp (Sn T) .nil Bs (Ba (pv 1) Bb)) (Fa (Bl (Qv T) (hr.mono (by decide)) rfl T.m_qbd T.F_qbd.kp (Sn T) .nil Bs (Ba (pv 2) Bb)) (Ge (Bl (Qv T) (hr.mono (by decide)) rfl T.m_qbd T.F_qbd.kp (Sn T) .nil Bs (Ba (pv 3) Bb))))) (Ba Ca Bb))))
   (Bh (Cf (Bl (Fl T) (hr.mono (by decide)) rfl T.m_qc T.F_qc.kp (Gj T) .nil Bs (Ba (Dy Gp (Bl (So T) (hr.mono (by decide)) rfl T.m_qr T.F_qr.kp (Wt T) .nil Bs (Ba (pv 0) (Ba (pv 3) Bb))) Ca (Dm _)) (Ba Ca Bb))))
   (Bh (Cb (i:=4) sc_qp.nd rfl (Or.inl rfl) (Bl (So T) (hr.mono (by decide)) rfl T.m_qr T.F_qr.kp (Wt T) .nil Bs (Ba (pv 0) (Ba (pv 1) Bb))))
   (Bh (Cf (Bl (Fl T) (hr.mono (by decide)) rfl T.m_qc T.F_qc.kp (Gj T) .nil Bs (Ba (Dy (Ru) (pv 4) (Fu (v:=.ref t.a_JOINED_KINDS) rfl T.g_JOINED_KINDS rfl) rfl) (Ba Ca Bb))))
   (Bx (Cf (Bl (Fl T) (hr.mono (by decide)) rfl T.m_qc T.F_qc.kp (Gj T) .nil Bs (Ba (Dy Gp (Bl (So T) (hr.mono (by decide)) rfl T.m_qr T.F_qr.kp (Wt T) .nil Bs (Ba (pv 0) (Ba (pv 2) Bb))) (pv 4) (Dm _)) (Ba Ca Bb))))))))),?_⟩
  try dsimp only [Cv,Ci]
  walk_at "rd"
  refine⟨w,rfl,hw,?_⟩
  walk_at "rd"
  cases cw:sgV w with
  | false =>
   refine Jv ?_
   walk_at "rd"
   exact⟨_,_,rfl,λh=>(by cases h),λ_=>q2 λ⟨wn,_,_,_,e,_,_,h0,_⟩=>by rw[e,show sgV (.int wn)=true from decide_eq_true h0] at cw;cases cw⟩
  | true =>
  obtain⟨wn,rfl⟩:∃n,w=.int n:=by cases w <;> first | exact⟨_,rfl⟩ | cases cw
  refine Js ?_
  walk_at "rd"
  refine⟨b,rfl,hb,?_⟩
  walk_at "rd"
  cases cb:sgV b with
  | false =>
   refine Jv ?_
   walk_at "rd"
   exact⟨_,_,rfl,λh=>(by cases h),λ_=>q2 λ⟨_,bn,_,_,_,e,_,_,h0,_⟩=>by rw[e,show sgV (.int bn)=true from decide_eq_true h0] at cb;cases cb⟩
  | true =>
  obtain⟨bn,rfl⟩:∃n,b=.int n:=by cases b <;> first | exact⟨_,rfl⟩ | cases cb
  refine Js ?_
  walk_at "rd"
  refine⟨m,rfl,hm,?_⟩
  walk_at "rd"
  refine⟨_,_,rfl,λcm=>?_,λcm=>q2 λ⟨_,_,mn,_,_,_,e,_,_,h0,_⟩=>by rw[e,show sgV (.int mn)=true from decide_eq_true h0] at cm;cases cm⟩
  obtain⟨mn,rfl⟩:∃n,m=.int n:=by cases m <;> first | exact⟨_,rfl⟩ | cases cm
  have w0:0<=wn:=of_decide_eq_true cw
  have b0:0<=bn:=of_decide_eq_true cb
  have m0:0<=mn:=of_decide_eq_true cm
  obtain⟨sw,ew⟩:=hs wn
  obtain⟨sb,eb⟩:=hs bn
  obtain⟨sm,em⟩:=hs mn
  have jo:JOk kk (.int wn) (.int bn) (.int mn)↔(sm="mark"/\sw∈joinedK/\sb=sw):=by
   constructor
   ·rintro ⟨w',b',m',k,e1,e2,e3,_,_,_,h1,h2,h3,h4⟩
    cases e1;cases e2;cases e3
    rw[em] at h1;rw[ew] at h3;rw[eb] at h4
    cases h1;cases h3;cases h4
    exact⟨rfl,h2,rfl⟩
   ·rintro ⟨rfl,h2,rfl⟩
    exact⟨wn,bn,mn,sb,rfl,rfl,rfl,w0,b0,m0,em,h2,ew,eb⟩
  unfold knd at ew eb em
  walk_at "rd"
  rw[em]
  walk_at "rd"
  refine⟨_,_,rfl,λh1=>?_,λh1=>q2 λz=>(of_decide_eq_false h1) (jo.mp z).1⟩
  walk_at "rd"
  rw[ew]
  walk_at "rd"
  refine⟨_,_,rfl,.inr (T.q_JOINED_KINDS _),rfl,rfl,?_⟩
  rw[show (if false=true then !inV (V.str sw) _ else inV (V.str sw) [V.str "fore",V.str "back",V.str "num",V.str "blank",V.str "plain"])=decide (sw∈joinedK) from Wf]
  walk_at "rd"
  refine⟨_,_,rfl,λh2=>?_,λh2=>q2 λz=>(of_decide_eq_false h2) (jo.mp z).2.1⟩
  walk_at "rd"
  rw[eb]
  walk_at "rd"
  refine⟨_,_,rfl,λh3=>?_,λh3=>q2 λz=>(of_decide_eq_false h3) (jo.mp z).2.2⟩
  walk_at "rd"
  exact q1 (jo.mpr ⟨of_decide_eq_true h1,of_decide_eq_true h2,of_decide_eq_true h3⟩)
def sV(s:Sg):V×V×V:=(.int s.1,.str s.2.1,.int s.2.2)
def mV(m:Int×Int):V×V:=(.int m.1,.int m.2)
theorem Ny{a b:List Sg}(h:a.map sV=b.map sV):a=b:=by
 induction a generalizing b with
 | nil=>cases b with
  | nil=>rfl
  | cons x r=>cases h
 | cons y s ih=>cases b with
  | nil=>cases h
  | cons x r =>
   rw[map_cons,map_cons] at h
   injection h with h1 h2
   rw[ih h2]
   obtain⟨y1,y2,y3⟩:=y
   obtain⟨x1,x2,x3⟩:=x
   cases h1;rfl
theorem Ft{α β:Type}{f:α->β}{l:List α}{i:Nat}{y:β}(h:(l.map f)[i]? = some y):∃x,l[i]? = some x/\f x=y:=by
 rw[getElem?_map] at h
 exact map_eq_some_iff.mp h
theorem Af2{k:Str}{r:Int}(h:Jf k r):rkV k (.int r)=true:=by
 show (if k="mark" then decide (1<=r) else decide (r=0))=true
 rcases h with ⟨h1,h2⟩ | ⟨h1,h2⟩
 ·rw[if_pos h1];exact decide_eq_true h2
 ·rw[if_neg h1];exact decide_eq_true h2
theorem Agc{k:Str}{r:Int}(h:rkV k (.int r)=true):Jf k r:=by
 have h:(if k="mark" then decide (1<=r) else decide (r=0))=true:=h
 by_cases z:k="mark"
 ·rw[if_pos z] at h;exact .inl ⟨z,of_decide_eq_true h⟩
 ·rw[if_neg z] at h;exact .inr ⟨z,of_decide_eq_true h⟩
theorem Oy(signs:List Sg)(mates:List (Int×Int)):(kK signs++kM mates).map (·.1)=(signs.map (·.1)++Cn mates).map Sum.inl:=by
 rw[map_append,Adb,show (kK signs).map (·.1)=(signs.map (·.1)).map Sum.inl by simp [kK],<- map_append]
theorem Uo{signs:List Sg}{mates:List (Int×Int)}{n:Int}(h:n∉signs.map (·.1)++Cn mates):(Sum.inl n:Key)∉(kK signs++kM mates).map (·.1):=by
 rw[Oy]
 intro z
 obtain⟨x,hx,e⟩:=mem_map.mp z
 injection e with e
 rw[e] at hx
 exact h hx
theorem Uu{signs:List Sg}{mates:List (Int×Int)}{n:Int}(h:n∈signs.map (·.1)++Cn mates):(Sum.inl n:Key)∈(kK signs++kM mates).map (·.1):=by
 rw[Oy]
 exact mem_map.mpr ⟨n,h,rfl⟩
theorem Qn{signs:List Sg}{mates:List (Int×Int)}{n:Int}(h:n∉signs.map (·.1)++Cn mates):Ck (kK signs++kM mates) (Sum.inl n)=none:=Lm (Uo h)
theorem Aac{signs:List Sg}{mates:List (Int×Int)}{n:Int}(h:Ck (kK signs++kM mates) (Sum.inl n)=none):n∉signs.map (·.1)++Cn mates:=λz=>Qo h (Uu z)
theorem Af7{signs:List Sg}{n:Int}(h:Ck (kK signs) (Sum.inl n)=none):n∉signs.map (·.1):=by
 have:=Aac (signs:=signs) (mates:=[]) (n:=n) (by simpa [kM] using h)
 simpa [Cn] using this
theorem AdS{signs:List Sg}{n:Int}(h:n∉signs.map (·.1)):Ck (kK signs) (Sum.inl n)=none:=by
 have:=Qn (signs:=signs) (mates:=[]) (n:=n) (by simpa [Cn] using h)
 simpa [kM] using this
theorem Qt{a b:List (Int×Int)}(h:a.map mV=b.map mV):a=b:=by
 induction a generalizing b with
 | nil=>cases b with
  | nil=>rfl
  | cons x r=>cases h
 | cons y s ih=>cases b with
  | nil=>cases h
  | cons x r =>
   rw[map_cons,map_cons] at h
   injection h with h1 h2
   rw[ih h2]
   obtain⟨y1,y2⟩:=y
   obtain⟨x1,x2⟩:=x
   cases h1;rfl
theorem Lz:∀(a b:List (Int×Int)),Cn (a++b)=Cn a++Cn b
 | [],_=>rfl
 | (x,y)::r,b=>by
  show x::y::Cn (r++b)=x::y::(Cn r++Cn b)
  rw[Lz r b]
theorem Vn{l:List Int}{mt:List (Int×Int)}{i:Nat}{z:Int×Int}(h:(l++Cn mt).Nodup)(ez:mt[i]? = some z):z.1∉l++Cn (mt.take i)/\z.2∉l++Cn (mt.take i)/\z.1≠z.2:=by
 have hi:=(List.getElem?_eq_some_iff.mp ez).1
 have e:mt=mt.take i++z::mt.drop (i+1):=by
  have:=getElem?_eq_getElem hi
  rw[ez] at this
  rw[Option.some.inj this,<- List.drop_eq_getElem_cons hi,take_append_drop]
 have e2:l++Cn mt=(l++Cn (mt.take i))++(z.1::z.2::Cn (mt.drop (i+1))):=by
  conv=>lhs;rw[e,Lz]
  rw[append_assoc];rfl
 rw[e2] at h
 obtain⟨_,h2,h3⟩:=nodup_append.mp h
 refine⟨λw=>h3 _ w _ mem_cons_self rfl,λw=>h3 _ w _ (mem_cons_of_mem _ mem_cons_self) rfl,λw=>(nodup_cons.mp h2).1 (by rw[w];exact mem_cons_self)⟩
theorem AbI{l:List Int}{mates:List (Int×Int)}{n1 n2:Int}(h:(l++Cn mates).Nodup)(h1:n1∉l++Cn mates)(h2:n2∉l++Cn mates)(h3:n2≠n1):(l++Cn (mates++[(n1,n2)])).Nodup:=by
 rw[Lz,<- append_assoc]
 refine nodup_append.mpr ⟨h,?_,λx hx y hy=>?_⟩
 ·show [n1,n2].Nodup
  simp [h3.symm]
 ·have hy:y∈[n1,n2]:=hy
  simp only [mem_cons,not_mem_nil,or_false] at hy
  rcases hy with rfl | rfl
  ·intro z;rw[z] at hx;exact h1 hx
  ·intro z;rw[z] at hx;exact h2 hx
def TrpG(H:Hp)(x:V)(r:V×V×V):Prop:=∃p,x=.ref p/\H p=some (.tup [r.1,r.2.1,r.2.2])/\Thg H r.1/\Thg H r.2.1/\Thg H r.2.2
def PrG(H:Hp)(x:V)(r:V×V):Prop:=∃p,x=.ref p/\H p=some (.tup [r.1,r.2])/\Thg H r.1/\Thg H r.2
def KOk(R:List (V×V×V))(Mt:List (V×V))(signs:List Sg)(mates:List (Int×Int)):Prop:=R=signs.map sV/\Mt=mates.map mV/\(∀s∈signs,Lv s)/\(∀m∈mates,0<=m.1/\0<=m.2)/\(signs.map (·.1)++Cn mates).Nodup/\True
def AbA(C:Addr):Sp:=λvs H Q E=>∃a b xs ys R Mt,vs=[.ref a,.ref b]/\H a=some (.lst xs)/\H b=some (.lst ys)/\LAt TrpG H xs R/\LAt PrG H ys Mt/\R.length+2*Mt.length<=400 /\
 (∀signs mates,KOk R Mt signs mates->∀d H',H d=none->Same H H'->H' d=some (.dK (kK signs++kM mates))->Q (.ref d) H')/\((¬ ∃signs mates,KOk R Mt signs mates)->∀H',Same H H'->E (.ref C) none H')
theorem AgQ(T:Txt K mg t):Binds K t.d_qs ["signs","mates"] []:=T.F_qs.binds (by walk_at "b2")
theorem AfJ(T:Txt K mg t):FnOk P w K mg base (CX1 P w) 4 t.f_qs t.d_qs ["signs","mates"] (AbA t.C_NoBook):=by
 refine T.F_qs.ok1 sc_qs (λvs H Q E h=>?_) (λcdv A outer s H vs Q E hr h=>?_)
 ·obtain⟨a,b,xs,ys,R,Mt,rfl,ha,hb,lr,lm,hl,q1,q2⟩:=h
  rfl
 ·obtain⟨a,b,xs,ys,R,Mt,rfl,ha,hb,lr,lm,hl,q1,q2⟩:=h
  have hu:=Dg hr
  have hu64:=hr.units
  refine⟨_,(Bh (Cb (i:=2) sc_qs.nd rfl (Or.inl rfl) Fs)
   (Bh (Fe PassesOwn.leaving rfl (Fk (pv 0)) (Jj rfl (Cy (Cm (i:=3) sc_qs.nd rfl (Or.inl rfl)) (Cy (Cm (i:=4) sc_qs.nd rfl (Or.inl rfl)) (Cy (Cm (i:=5) sc_qs.nd rfl (Or.inl rfl)) Fw))))
    (Bh (Cf (Bl (Fl T) (hr.mono (by decide)) rfl T.m_qc T.F_qc.kp (Gj T) .nil Bs (Ba (Bl (Age T) (hr.mono (by decide)) rfl T.m_qf T.F_qf.kp (AgR T) .nil Bs (Ba (pv 4) Bb)) (Ba Ca Bb))))
   (Bh (Cf (Bl (Fl T) (hr.mono (by decide)) rfl T.m_qc T.F_qc.kp (Gj T) .nil Bs (Ba (Bl (Agb T) (hr.mono (by decide)) rfl T.m_qq T.F_qq.kp (AgO T) .nil Bs (Ba (pv 4) (Ba (pv 5) Bb))) (Ba Ca Bb))))
   (Bx (Cf (Bl (Tg T) (hr.mono (by decide)) rfl T.m_qbb T.F_qbb.kp (Vw T) .nil Bs (Ba (pv 2) (Ba (pv 3) (Ba (pv 4) Bb)))))))))
   (Bh (Fe PassesOwn.leaving rfl (Fk (pv 1)) (Jj rfl (Cy (Cm (i:=6) sc_qs.nd rfl (Or.inl rfl)) (Cy (Cm (i:=7) sc_qs.nd rfl (Or.inl rfl)) Fw)))
    (Bh (Cf (Bl (Tg T) (hr.mono (by decide)) rfl T.m_qbb T.F_qbb.kp (Vw T) .nil Bs (Ba (pv 2) (Ba (pv 6) (Ba Ca Bb)))))
   (Bx (Cf (Bl (Tg T) (hr.mono (by decide)) rfl T.m_qbb T.F_qbb.kp (Vw T) .nil Bs (Ba (pv 2) (Ba (pv 7) (Ba Ca Bb))))))))
   (Bx (Cu (pv 2)))))),?_⟩
  try dsimp only [Cv,Ci]
  walk_at "rd"
  intro d hd
  have s0:Same H (upd H d (.dK [])):=Same.new hd
  have e0:(upd H d (.dK [])) d=some (.dK []):=Bn
  generalize upd H d (.dK [])=H0 at s0 e0
  walk_at "rd"
  refine Ld rfl (SqL.of (s0 _ _ ha)) (λi σ H'=>∃v3 v4 v5 signs,σ=[some (.ref a),some (.ref b),some (.ref d),v3,v4,v5,none,none]/\Same H H'/\H' d=some (.dK (kK signs))/\signs.map sV=R.take i/\(∀s∈signs,Lv s)/\(signs.map (·.1)).Nodup) ⟨none,none,none,[],rfl,s0,e0,rfl,(λs hs=>by cases hs),nodup_nil⟩ (λi σ H' _ ⟨_,_,_,_,_,s,_⟩=>SqL.of (s _ _ ha)) ?_ ?_
  ·rintro i x σ H' hi ⟨v3,v4,v5,signs,rfl,s,e,eR,so,nd⟩
   obtain⟨⟨u1,u2,u3⟩,er,p,rfl,hp,t1,t2,t3⟩:=lr.get hi
   have hp':=s _ _ hp
   have sl:signs.length=i:=by
    have:=congrArg length eR
    rw[length_map,length_take] at this
    have:=(List.getElem?_eq_some_iff.mp er).1
    omega
   walk_at "rd"
   refine⟨u2,rfl,t2.mono s,?_⟩
   walk_at "rd"
   refine⟨_,_,rfl,λhb2=>?_,λhb2=>?_⟩
   rotate_left
   ·refine q2 (λ⟨sg,mt,e1,_,so',_⟩=>?_) _ s
    obtain⟨z,ez,e3⟩:=Ft (e1▸er)
    cases e3
    rw[show tkV (.str z.2.1)=true from decide_eq_true (so' z (mem_of_getElem? ez)).kd] at hb2
    cases hb2
   obtain⟨k,rfl⟩:∃k,u2=.str k:=by cases u2 <;> first | exact⟨_,rfl⟩ | cases hb2
   have hk:k∈toldK:=of_decide_eq_true hb2
   walk_at "rd"
   refine⟨k,u3,rfl,t3.mono s,?_⟩
   walk_at "rd"
   refine⟨_,_,rfl,λhb3=>?_,λhb3=>?_⟩
   rotate_left
   ·refine q2 (λ⟨sg,mt,e1,_,so',_⟩=>?_) _ s
    obtain⟨z,ez,e3⟩:=Ft (e1▸er)
    cases e3
    rw[Af2 (so' z (mem_of_getElem? ez)).rk] at hb3
    cases hb3
   obtain⟨r,rfl⟩:∃r,u3=.int r:=by cases u3 <;> first | exact⟨_,rfl⟩ | cases hb3
   walk_at "rd"
   refine⟨d,_,u1,k,rfl,e,t1.mono s,by simp only [kK,length_map];have:=(List.getElem?_eq_some_iff.mp er).1;omega,λn e1 h0 hno=>?_,λhno=>?_⟩
   ·subst e1
    have key:n∉signs.map (·.1):=Af7 hno
    refine⟨_,_,_,signs++[(n,k,r)],rfl,?_,?_,?_,?_,?_⟩
    ·exact λq' o z=>by rw[Bj (Bp z hd)];exact s _ _ z
    ·rw[Bn];simp [kK]
    ·rw[map_append,eR,Dj er];rfl
    ·intro z hz
     rcases mem_append.mp hz with hz | hz
     ·exact so z hz
     ·rw[mem_singleton.mp hz]
      exact⟨h0,hk,Agc hb3⟩
    ·rw[map_append]
     exact nodup_append.mpr ⟨nd,by simp,λx hx y hy=>by rw[mem_singleton.mp hy];intro z;rw[z] at hx;exact key hx⟩
   ·refine q2 (λ⟨sg,mt,e1,_,so',_,nd',_⟩=>?_) _ s
    obtain⟨z,ez,e3⟩:=Ft (e1▸er)
    cases e3
    refine hno ⟨z.1,rfl,(so' z (mem_of_getElem? ez)).nn,AdS ?_⟩
    have e4:signs=sg.take i:=Ny (by rw[eR,e1,map_take])
    rw[e4]
    exact Jc (f:=(·.1)) (nodup_append.mp nd').1 ez
  rintro σ H' ⟨v3,v4,v5,signs,rfl,s,e,eR,so,nd⟩
  rw[lr.1,take_length] at eR
  have eR':R=signs.map sV:=eR.symm
  have sl:signs.length=R.length:=by rw[eR',length_map]
  refine Wa ?_
  refine Ld rfl (SqL.of (s _ _ hb)) (λi σ H'=>∃v3 v4 v5 v6 v7 mates,σ=[some (.ref a),some (.ref b),some (.ref d),v3,v4,v5,v6,v7]/\Same H H'/\H' d=some (.dK (kK signs++kM mates))/\mates.map mV=Mt.take i/\(∀m∈mates,0<=m.1/\0<=m.2)/\(signs.map (·.1)++Cn mates).Nodup) ⟨_,_,_,_,_,[],rfl,s,by rw[e];simp [kM],rfl,(λs hs=>by cases hs),by simpa [Cn] using nd⟩ (λi σ H' _ ⟨_,_,_,_,_,_,_,s,_⟩=>SqL.of (s _ _ hb)) ?_ ?_
  ·rintro i x σ H' hi ⟨v3,v4,v5,v6,v7,mates,rfl,s,e,eM,mo,nd⟩
   obtain⟨⟨u1,u2⟩,er,p,rfl,hp,t1,t2⟩:=lm.get hi
   have hp':=s _ _ hp
   have hi2:=(List.getElem?_eq_some_iff.mp er).1
   have ml:mates.length=i:=by
    have:=congrArg length eM
    rw[length_map,length_take] at this
    omega
   have kl:(kK signs++kM mates).length+1<=1000:=by
    rw[length_append,Aeb];simp only [kK,length_map];omega
   walk_at "rd"
   refine⟨d,_,u1,_,rfl,e,t1.mono s,by omega,λn1 e1 h1 no1=>?_,λhno=>?_⟩
   rotate_left
   ·refine q2 (λ⟨sg,mt,eg,em,so',mo',nd',_⟩=>?_) _ s
    obtain⟨z,ez,e3⟩:=Ft (em▸er)
    cases e3
    refine hno ⟨z.1,rfl,(mo' z (mem_of_getElem? ez)).1,Qn ?_⟩
    rw[show signs=sg from Ny (by rw[<- eR',eg]),show mates=mt.take i from Qt (by rw[eM,em,map_take])]
    exact (Vn nd' ez).1
   subst e1
   have no1':=Aac no1
   have s2:Same H (upd H' d (.dK (kK signs++kM mates++[(Sum.inl n1,V.str "open")]))):=λq' o z=>by rw[Bj (Bp z hd)];exact s _ _ z
   have e2:(upd H' d (.dK (kK signs++kM mates++[(Sum.inl n1,V.str "open")]))) d=some (.dK (kK signs++kM mates++[(Sum.inl n1,V.str "open")])):=Bn
   generalize upd H' d (.dK (kK signs++kM mates++[(Sum.inl n1,V.str "open")]))=H2 at s2 e2
   walk_at "rd"
   refine⟨d,_,u2,_,rfl,e2,t2.mono s2,by rw[length_append];exact kl,λn2 e3 h2 no2=>?_,λhno=>?_⟩
   rotate_left
   ·refine q2 (λ⟨sg,mt,eg,em,so',mo',nd',_⟩=>?_) _ s2
    obtain⟨z,ez,e3⟩:=Ft (em▸er)
    have z1:z.1=n1:=by injection (congrArg Prod.fst e3)
    have z2:V.int z.2=u2:=congrArg Prod.snd e3
    have nm:=Vn nd' ez
    refine hno ⟨z.2,z2.symm,(mo' z (mem_of_getElem? ez)).2,Lm λw=>?_⟩
    rw[map_append,mem_append] at w
    rcases w with w | w
    ·refine absurd w (Uo ?_)
     rw[show signs=sg from Ny (by rw[<- eR',eg]),show mates=mt.take i from Qt (by rw[eM,em,map_take])]
     exact nm.2.1
    ·have w:(Sum.inl z.2:Key)=Sum.inl n1:=mem_singleton.mp w
     injection w with w
     exact nm.2.2 (by rw[z1,w])
   subst e3
   have no2':n2∉signs.map (·.1)++Cn mates/\n2≠n1:=by
    have:=Qo no2
    rw[map_append,mem_append] at this
    refine⟨λz=>this (.inl (Uu z)),λz=>this (.inr (by rw[z];exact mem_singleton.mpr rfl))⟩
   refine⟨_,_,_,_,_,mates++[(n1,n2)],rfl,?_,?_,?_,?_,?_⟩
   ·exact λq' o z=>by rw[Bj (Bp z hd)];exact s2 _ _ z
   ·rw[Bn,Yp];simp [kM]
   ·rw[map_append,eM,Dj er];rfl
   ·intro z hz
    rcases mem_append.mp hz with hz | hz
    ·exact mo z hz
    ·rw[mem_singleton.mp hz];exact⟨h1,h2⟩
   ·exact AbI nd no1' no2'.1 no2'.2
  rintro σ H' ⟨v3,v4,v5,v6,v7,mates,rfl,s,e,eM,mo,nd⟩
  rw[lm.1,take_length] at eM
  walk_at "rd"
  exact q1 signs mates ⟨eR',eM.symm,so,mo,nd,trivial⟩ d _ hd s e
def AaP:Sp:=λvs H Q _=>∃a xs signs,vs=[.ref a]/\H a=some (.lst xs)/\LAt TripAt H xs signs/\(signs.map (·.1)).Nodup/\signs.length<=900/\∀d,H d=none->Q (.ref d) (upd H d (.dK (kR signs)))
theorem AgH(T:Txt K mg t):Binds K t.d_qu ["signs"] []:=T.F_qu.binds (by walk_at "b1")
theorem Agi(T:Txt K mg t):FnOk P w K mg base (CX1 P w) 1 t.f_qu t.d_qu ["signs"] (AaP):=by
 refine T.F_qu.ok1 sc_qu (λvs H Q E h=>?_) (λcdv A outer s H vs Q E hr h=>?_)
 ·obtain⟨a,xs,signs,rfl,ha,ls,nd,hl,q⟩:=h
  rfl
 ·obtain⟨a,xs,signs,rfl,ha,ls,nd,hl,q⟩:=h
  have hu:=Dg hr
  have hu64:=hr.units
  refine⟨_,(Bh (Cb (i:=1) sc_qu.nd rfl (Or.inl rfl) Fs)
   (Bh (Fe PassesOwn.leaving rfl (Fk (pv 0)) (Jj rfl (Cy (Cm (i:=2) sc_qu.nd rfl (Or.inl rfl)) (Cy (Cm (i:=3) sc_qu.nd rfl (Or.inl rfl)) (Cy (Cm (i:=4) sc_qu.nd rfl (Or.inl rfl)) Fw))))
    (Bx (Gy hu (pv 1) (pv 2) (pv 4) rfl)))
   (Bx (Cu (pv 1))))),?_⟩
  try dsimp only [Cv,Ci]
  walk_at "rd"
  intro d hd
  walk_at "rd"
  have nda:a≠d:=Bp ha hd
  have ndk:((kR signs).map (·.1)).Nodup:=by rw[show (kR signs).map (·.1)=(signs.map (·.1)).map Sum.inl by simp [kR]];exact Nk nd
  refine Ld rfl (SqL.of (xs:=xs) (by rw[Bj nda];exact ha)) (λi σ H'=>∃v3 v4 v5,σ=[some (.ref a),some (.ref d),v3,v4,v5]/\H'=upd H d (.dK (kR (signs.take i)))) ⟨none,none,none,rfl,rfl⟩ (λi σ H' _ ⟨_,_,_,_,e⟩=>by subst e;exact SqL.of (by rw[Bj nda];exact ha)) ?_ ?_
  ·rintro i x σ H' hi ⟨v3,v4,v5,rfl,rfl⟩
   obtain⟨s,es,p,rfl,hp⟩:=ls.get hi
   have hp':(upd H d (.dK (kR (signs.take i)))) p=some (.tup [.int s.1,.str s.2.1,.int s.2.2]):=by rw[Bj (Bp hp hd)];exact hp
   have hd':(upd H d (.dK (kR (signs.take i)))) d=some (.dK (kR (signs.take i))):=Bn
   have et:=Dj es
   have hlt:i<signs.length:=(List.getElem?_eq_some_iff.mp es).1
   have hno:Ck (kR (signs.take i)) (Sum.inl s.1)=none:=by
    refine Lm λm=>?_
    have q1:kR signs=kR (signs.take i)++((Sum.inl s.1,V.int s.2.2)::kR (signs.drop (i+1))):=by
     rw[show ((Sum.inl s.1,V.int s.2.2)::kR (signs.drop (i+1)):List (Key×V))=kR (s::signs.drop (i+1)) from rfl,kR,kR,kR,<- map_append]
     congr 1
     have:=getElem?_eq_getElem hlt
     rw[es] at this
     rw[Option.some.inj this,<- List.drop_eq_getElem_cons hlt,take_append_drop]
    rw[q1,map_append,map_cons] at ndk
    exact (nodup_append.mp ndk).2.2 _ m _ mem_cons_self rfl
   walk_at "rd"
   ·refine⟨_,_,_,rfl,?_⟩
    rw[Fv,et,Gk _ hno]
    simp [kR]
   ·have:(kR (signs.take i)).length<=signs.length:=by simp [kR];omega
    exact Jz (by omega)
  ·rintro σ H' ⟨v3,v4,v5,rfl,rfl⟩
   rw[ls.1,take_length]
   walk_at "rd"
   exact q d hd
def Adt:Sp:=λvs H Q _=>∃b ys mates,vs=[.ref b]/\H b=some (.lst ys)/\LAt PairAt H ys mates/\(Cn mates).Nodup/\mates.length<=400/\∀d,H d=none->Q (.ref d) (upd H d (.dK (kB mates)))
theorem AgS(T:Txt K mg t):Binds K t.d_qz ["mates"] []:=T.F_qz.binds (by walk_at "b1")
theorem Af9(T:Txt K mg t):FnOk P w K mg base (CX1 P w) 1 t.f_qz t.d_qz ["mates"] (Adt):=by
 refine T.F_qz.ok1 sc_qz (λvs H Q E h=>?_) (λcdv A outer s H vs Q E hr h=>?_)
 ·obtain⟨b,ys,mates,rfl,hb,lm,nd,hl,q⟩:=h
  rfl
 ·obtain⟨b,ys,mates,rfl,hb,lm,nd,hl,q⟩:=h
  have hu:=Dg hr
  have hu64:=hr.units
  refine⟨_,(Bh (Cb (i:=1) sc_qz.nd rfl (Or.inl rfl) Fs)
   (Bh (Fe PassesOwn.leaving rfl (Fk (pv 0)) (Jj rfl (Cy (Cm (i:=2) sc_qz.nd rfl (Or.inl rfl)) (Cy (Cm (i:=3) sc_qz.nd rfl (Or.inl rfl)) Fw)))
    (Bh (Gy hu (pv 1) (pv 2) (pv 3) rfl)
   (Bx (Gy hu (pv 1) (pv 3) (pv 2) rfl))))
   (Bx (Cu (pv 1))))),?_⟩
  try dsimp only [Cv,Ci]
  walk_at "rd"
  intro d hd
  walk_at "rd"
  have ndb:b≠d:=Bp hb hd
  have ndk:((kB mates).map (·.1)).Nodup:=by rw[AdL];exact Nk nd
  refine Ld rfl (SqL.of (xs:=ys) (by rw[Bj ndb];exact hb)) (λi σ H'=>∃v3 v4,σ=[some (.ref b),some (.ref d),v3,v4]/\H'=upd H d (.dK (kB (mates.take i)))) ⟨none,none,rfl,rfl⟩ (λi σ H' _ ⟨_,_,_,e⟩=>by subst e;exact SqL.of (by rw[Bj ndb];exact hb)) ?_ ?_
  ·rintro i x σ H' hi ⟨v3,v4,rfl,rfl⟩
   obtain⟨m,em,p,rfl,hp⟩:=lm.get hi
   have hp':(upd H d (.dK (kB (mates.take i)))) p=some (.tup [.int m.1,.int m.2]):=by rw[Bj (Bp hp hd)];exact hp
   have hd':(upd H d (.dK (kB (mates.take i)))) d=some (.dK (kB (mates.take i))):=Bn
   have et:=Dj em
   have hlt:i<mates.length:=(List.getElem?_eq_some_iff.mp em).1
   have q1:kB mates=kB (mates.take i)++((Sum.inl m.1,V.int m.2)::(Sum.inl m.2,V.int m.1)::kB (mates.drop (i+1))):=by
    rw[show ((Sum.inl m.1,V.int m.2)::(Sum.inl m.2,V.int m.1)::kB (mates.drop (i+1)):List (Key×V))=kB (m::mates.drop (i+1)) from rfl,<- Rw]
    congr 1
    have:=getElem?_eq_getElem hlt
    rw[em] at this
    rw[Option.some.inj this,<- List.drop_eq_getElem_cons hlt,take_append_drop]
   rw[q1,map_append,map_cons,map_cons] at ndk
   have nd1:=(nodup_append.mp ndk).2.2
   have nd2:=(nodup_append.mp ndk).2.1
   have hlen:(kB (mates.take i)).length+1<=1000:=by
    rw[Afd,length_take];omega
   have n1:Ck (kB (mates.take i)) (Sum.inl m.1)=none:=Lm λz=>nd1 _ z _ mem_cons_self rfl
   have n2:Ck (kB (mates.take i)++[(Sum.inl m.1,V.int m.2)]) (Sum.inl m.2)=none:=by
    refine Lm λz=>?_
    rw[map_append,mem_append] at z
    rcases z with z | z
    ·exact nd1 _ z _ (mem_cons_of_mem _ mem_cons_self) rfl
    ·have e:(Sum.inl m.2:Key)=Sum.inl m.1:=mem_singleton.mp z
     have nd3:=(nodup_cons.mp nd2).1
     exact nd3 (mem_cons.mpr (.inl e.symm))
   walk_at "rd"
   ·rw[Gk _ n1]
    have hd2:(upd (upd H d (.dK (kB (mates.take i)))) d (.dK (kB (mates.take i)++[(Sum.inl m.1,.int m.2)]))) d=some (.dK (kB (mates.take i)++[(Sum.inl m.1,.int m.2)])):=Bn
    walk_at "rd"
    ·refine⟨_,_,rfl,?_⟩
     rw[Fv,Fv,et,Rw,Gk _ n2]
     simp [kB]
    ·rw[length_append];exact Jz hlen
   ·exact Jz (by omega)
  ·rintro σ H' ⟨v3,v4,rfl,rfl⟩
   rw[lm.1,take_length]
   walk_at "rd"
   exact q d hd
def Adu:Sp:=λvs H Q _=>∃d kvs J n,vs=[.ref d,.int n]/\Rd H d (.dK kvs)/\LAt KvAt H kvs J/\Q (.bl (!(Do J (jGo J 7 n)).isSome)) H
theorem Agw(T:Txt K mg t):Binds K t.d_qe ["pairs","whole"] []:=T.F_qe.binds (by walk_at "b2")
theorem Afw(T:Txt K mg t):FnOk P w K mg base (CX1 P w) 1 t.f_qe t.d_qe ["pairs","whole"] (Adu):=by
 refine T.F_qe.ok1 sc_qe (λvs H Q E h=>?_) (λcdv A outer s H vs Q E hr h=>?_)
 ·obtain⟨d,kvs,J,n,rfl,hd,lj,q⟩:=h
  rfl
 ·obtain⟨d,kvs,J,n,rfl,hd,lj,q⟩:=h
  have hu:=Dg hr
  have hu64:=hr.units
  refine⟨_,(Bh (Cb (i:=2) sc_qe.nd rfl (Or.inl rfl) (pv 1))
   (Bh (Fe PassesOwn.leaving rfl (Zg rfl T.z_range (Ba (Fu rfl T.g_MOST_GOINGS.choose_spec.1 T.g_MOST_GOINGS.choose_spec.2) Bb)) (Cm (i:=3) sc_qe.nd rfl (Or.inl rfl))
    (Bx (Ga (Afl (Aff hu (pv 2) (pv 0)))
    (Bx (Cb (i:=2) sc_qe.nd rfl (Or.inl rfl) (Cg (Yw) (Ac3 hu (pv 0) (pv 2) (λ_ _=>rfl)) Bd (λ_ _=>rfl))))
    Fi)))
   (Bx (Cu (Re (Jl hu (pv 2) (pv 0))))))),?_⟩
  try dsimp only [Cv,Ci]
  walk_at "rd"
  refine Ac8 (hi:=7) (n:=7) (λR q'=>by walk_at "rd";exact q') ⟨by decide,by decide⟩ rfl (λi σ H'=>∃v3,σ=[some (.ref d),some (.int n),some (.int (jGo J i n)),v3]/\H'=H) ⟨none,rfl,rfl⟩ ?_ ?_
  ·rintro i σ H' hi ⟨v3,rfl,rfl⟩
   walk_at "rd"
   refine⟨d,_,rfl,.inl ⟨kvs,Sum.inl (jGo J i n),hd,rfl,rfl⟩,?_⟩
   walk_at "rd"
   rcases Qu lj (jGo J i n) with ⟨h1,h2⟩ | ⟨m,p,h1,h2,hp⟩
   ·rw[h2]
    refine Jv ?_
    walk_at "rd"
    exact⟨_,by show _=[_,_,some (V.int (Gt J (jGo J i n))),_];unfold Gt;rw[h1],rfl⟩
   ·rw[h2]
    refine Js ?_
    walk_at "rd"
    refine⟨d,.ref p,rfl,.inl ⟨kvs,Sum.inl (jGo J i n),hd,rfl,h2.symm⟩,?_⟩
    walk_at "rd"
    refine AfD hp ?_ rfl
    walk_at "rd"
    exact⟨_,by show _=[_,_,some (V.int (Gt J (jGo J i n))),_];unfold Gt;rw[h1],rfl⟩
  ·rintro σ H' ⟨v3,rfl,rfl⟩
   walk_at "rd"
   refine⟨d,_,rfl,.inl ⟨kvs,Sum.inl (jGo J 7 n),hd,rfl,rfl⟩,?_⟩
   rcases Qu lj (jGo J 7 n) with ⟨h1,h2⟩ | ⟨m,p,h1,h2,hp⟩
   ·rw[h2];rw[h1] at q;exact q
   ·rw[h2];rw[h1] at q;exact q
def jV(j:Jn):V×V×V:=(.int j.1,.int j.2.1,.int j.2.2)
theorem Qw{a b:List Jn}(h:a.map jV=b.map jV):a=b:=by
 induction a generalizing b with
 | nil=>cases b with
  | nil=>rfl
  | cons x r=>cases h
 | cons y s ih=>cases b with
  | nil=>cases h
  | cons x r =>
   rw[map_cons,map_cons] at h
   injection h with h1 h2
   rw[ih h2]
   obtain⟨y1,y2,y3⟩:=y
   obtain⟨x1,x2,x3⟩:=x
   cases h1;rfl
def PJ(kk:List (Key×V))(R:List (V×V×V))(J:List Jn):Prop:=R=J.map jV/\(∀j∈J,JOk kk (.int j.1) (.int j.2.1) (.int j.2.2))/\(J.map (·.1)).Nodup/\∀j∈J,Do J (jGo J 7 j.1)=none
def Abp(C:Addr):Sp:=λvs H Q E=>∃d b kk xs R,vs=[.ref d,.ref b]/\H d=some (.dK kk)/\(∀n,∃s,knd kk n=.str s)/\H b=some (.lst xs)/\LAt TrpG H xs R/\R.length<=400/\(∀J,PJ kk R J->∀p kvs H',H p=none->Same H H'->H' p=some (.dK kvs)->LAt KvAt H' kvs J->Q (.ref p) H')/\((¬ ∃J,PJ kk R J)->∀H',Same H H'->E (.ref C) none H')
theorem Agx(T:Txt K mg t):Binds K t.d_qt ["kinds","joins"] []:=T.F_qt.binds (by walk_at "b2")
theorem AfZ(T:Txt K mg t):FnOk P w K mg base (CX1 P w) 4 t.f_qt t.d_qt ["kinds","joins"] (Abp t.C_NoBook):=by
 refine T.F_qt.ok1 sc_qt (λvs H Q E h=>?_) (λcdv A outer s H vs Q E hr h=>?_)
 ·obtain⟨d,b,kk,xs,R,rfl,hd,hs,hb,lr,hl,q1,q2⟩:=h
  rfl
 ·obtain⟨d,b,kk,xs,R,rfl,hd,hs,hb,lr,hl,q1,q2⟩:=h
  have hu:=Dg hr
  have hu64:=hr.units
  refine⟨_,(Bh (Cb (i:=2) sc_qt.nd rfl (Or.inl rfl) Fs)
   (Bh (Fe PassesOwn.leaving rfl (Fk (pv 1)) (Jj rfl (Cy (Cm (i:=3) sc_qt.nd rfl (Or.inl rfl)) (Cy (Cm (i:=4) sc_qt.nd rfl (Or.inl rfl)) (Cy (Cm (i:=5) sc_qt.nd rfl (Or.inl rfl)) Fw))))
    (Bh (Cf (Bl (AfF T) (hr.mono (by decide)) rfl T.m_qp T.F_qp.kp (Ago T) .nil Bs (Ba (pv 0) (Ba (pv 3) (Ba (pv 4) (Ba (pv 5) Bb))))))
   (Bh (Cf (Bl (Fl T) (hr.mono (by decide)) rfl T.m_qc T.F_qc.kp (Gj T) .nil Bs (Ba (Re (Jl hu (pv 3) (pv 2))) (Ba Ca Bb))))
   (Bx (Gy hu (pv 2) (pv 3) (AdY (Ba (pv 4) (Ba (pv 5) Bb))) rfl)))))
   (Bh (Zr (Fe PassesOwn.leaving rfl (AaD (pv 2)) (Cm (i:=3) sc_qt.nd rfl (Or.inl rfl))
    (Bx (Cf (Bl (Fl T) (hr.mono (by decide)) rfl T.m_qc T.F_qc.kp (Gj T) .nil Bs (Ba (Bl (Afw T) (hr.mono (by decide)) rfl T.m_qe T.F_qe.kp (Agw T) .nil Bs (Ba (pv 2) (Ba (pv 3) Bb))) (Ba Ca Bb)))))))
   (Bx (Cu (pv 2)))))),?_⟩
  try dsimp only [Cv,Ci]
  walk_at "rd"
  intro p hp
  have s0:Same H (upd H p (.dK [])):=Same.new hp
  have e0:(upd H p (.dK [])) p=some (.dK []):=Bn
  generalize upd H p (.dK [])=H0 at s0 e0
  walk_at "rd"
  refine Ld (i:=1) rfl (SqL.of (s0 _ _ hb)) (λi σ H'=>∃v3 v4 v5 kvs J,σ=[some (.ref d),some (.ref b),some (.ref p),v3,v4,v5]/\Same H H'/\H' p=some (.dK kvs)/\LAt KvAt H' kvs J/\J.map jV=R.take i/\(∀j∈J,JOk kk (.int j.1) (.int j.2.1) (.int j.2.2))/\(J.map (·.1)).Nodup) ⟨none,none,none,[],[],rfl,s0,e0,LAt.nil,rfl,(λj hj=>by cases hj),nodup_nil⟩ (λi σ H' _ ⟨_,_,_,_,_,_,s,_⟩=>SqL.of (s _ _ hb)) ?_ ?_
  ·rintro i x σ H' hi ⟨v3,v4,v5,kvs,J,rfl,s,e,lk,eR,jo,nw⟩
   obtain⟨⟨u1,u2,u3⟩,er,a,rfl,ha,t1,t2,t3⟩:=lr.get hi
   have ha':=s _ _ ha
   have hi2:=(List.getElem?_eq_some_iff.mp er).1
   have jl:J.length=i:=by
    have:=congrArg length eR
    rw[length_map,length_take] at this
    omega
   have kl:kvs.length<=400:=by rw[lk.1];omega
   walk_at "rd"
   refine⟨d,kk,u1,u2,u3,rfl,s _ _ hd,hs,t1.mono s,t2.mono s,t3.mono s,λok=>?_,λno=>?_⟩
   rotate_left
   ·refine q2 (λ⟨J',e1,jo',_⟩=>no ?_) _ s
    obtain⟨z,ez,e3⟩:=Ft (e1▸er)
    cases e3
    exact jo' z (mem_of_getElem? ez)
   obtain⟨wn,bn,mn,k,rfl,rfl,rfl,w0,b0,m0,hm,hk,hw,hb'⟩:=ok
   walk_at "rd"
   refine⟨_,_,rfl,λhb2=>?_,λhb2=>?_⟩
   rotate_left
   ·refine q2 (λ⟨J',e1,_,nw',_⟩=>?_) _ s
    obtain⟨z,ez,e3⟩:=Ft (e1▸er)
    have ew:z.1=wn:=by injection (congrArg Prod.fst e3)
    have e4:J=J'.take i:=Qw (by rw[eR,e1,map_take])
    rcases Qu lk wn with ⟨_,h2⟩ | ⟨m,_,h1,_,_⟩
    ·rw[h2] at hb2;cases hb2
    ·refine Jc (f:=(·.1)) nw' ez ?_
     rw[<- e4,ew]
     exact mem_map.mpr ⟨_,Qz h1,rfl⟩
   have hno:Ck kvs (Sum.inl wn)=none:=by
    cases w:Ck kvs (Sum.inl wn) with
    | none=>rfl
    | some x=>rw[w] at hb2;cases hb2
   walk_at "rd"
   refine⟨by show 2<=sizeLine;decide,λt ht=>?_⟩
   walk_at "rd"
   refine Aaf (Same.new ht _ _ e) ?_ (Jz (by omega))
   rw[Gk _ hno]
   have ntp:t≠p:=(Bp e ht).symm
   have kt:∀q' zs,H' q'=some (.tup zs)->(upd (upd H' t (.tup [.int bn,.int mn])) p (.dK (kvs++[(Sum.inl wn,V.ref t)]))) q'=some (.tup zs):=λq' zs z=>by
    rw[Bj (Db z e (by intro w;cases w)),Bj (Bp z ht)];exact z
   refine⟨_,_,_,_,J++[(wn,bn,mn)],rfl,λq' o z=>?_,Bn,?_,?_,?_,?_⟩
   ·rw[Bj (Bp z hp),Bj (Bp (s _ _ z) ht)];exact s _ _ z
   ·exact LAt.snoc (lk.mono λx y h=>h.mono kt) ⟨rfl,t,rfl,by rw[Bj ntp,Bn]⟩
   ·rw[map_append,eR,Dj er];rfl
   ·intro j hj
    rcases mem_append.mp hj with hj | hj
    ·exact jo j hj
    ·rw[mem_singleton.mp hj]
     exact⟨wn,bn,mn,k,rfl,rfl,rfl,w0,b0,m0,hm,hk,hw,hb'⟩
   ·rw[map_append]
    refine nodup_append.mpr ⟨nw,by simp,λx hx y hy=>?_⟩
    rw[mem_singleton.mp hy]
    intro z
    rw[z] at hx
    obtain⟨j,hj,e5⟩:=mem_map.mp hx
    rcases Qu lk wn with ⟨h1,_⟩ | ⟨m,_,_,h2,_⟩
    ·have z2:=Rt nw hj
     rw[show j.1=wn from e5,h1] at z2;cases z2
    ·rw[h2] at hno;cases hno
  rintro σ H' ⟨v3,v4,v5,kvs,J,rfl,s,e,lk,eR,jo,nw⟩
  rw[lr.1,take_length] at eR
  dsimp only
  with_reducible refine Wa ?_
  refine Aed (i:=2) (a:=p) (kvs:=kvs) rfl e (λi σ H''=>∃v3 v4 v5,σ=[some (.ref d),some (.ref b),some (.ref p),v3,v4,v5]/\H''=H'/\∀j∈J.take i,Do J (jGo J 7 j.1)=none) ⟨_,_,_,rfl,rfl,by simp⟩ (λi σ H' _ ⟨_,_,_,_,z,_⟩=>by subst z;exact e) ?_ ?_
  ·rintro o i kv σ H'' hi ⟨v3,v4,v5,rfl,rfl,en⟩
   obtain⟨j,ej,e1,_⟩:=lk.get hi
   have hj:=mem_of_getElem? ej
   obtain⟨key,val⟩:=kv
   dsimp only at e1
   subst e1
   show Gd _ (.int j.1) _ _ _
   walk_at "rd"
   refine⟨p,kvs,J,j.1,rfl,AeN,lk.mono λx y h=>h.mono λq' zs z=>?_,?_⟩
   ·rw[Bj (Db z e (by intro w;cases w))];exact z
   walk_at "rd"
   refine⟨_,_,rfl,λhb=>?_,λhb=>?_⟩
   ·have hz:Do J (jGo J 7 j.1)=none:=by
     cases w:Do J (jGo J 7 j.1) with
     | none=>rfl
     | some m=>rw[w] at hb;cases hb
    refine⟨Bn,_,_,_,rfl,AaN e,λj' hj'=>?_⟩
    rw[Dj ej] at hj'
    rcases mem_append.mp hj' with w | w
    ·exact en j' w
    ·rw[mem_singleton.mp w];exact hz
   ·refine q2 (λ⟨J',e1,_,_,en'⟩=>?_) _ λq' o' z=>?_
    ·have:J=J':=Qw (by rw[eR,e1])
     subst this
     rw[en' j hj] at hb;cases hb
    ·rw[Bj (Bp z hp)];exact s _ _ z
  rintro σ H'' ⟨v3,v4,v5,rfl,rfl,en⟩
  rw[lk.1,take_length] at en
  walk_at "rd"
  exact q1 J ⟨eR.symm,jo,nw,en⟩ p kvs _ hp s e lk
theorem Afz{J:List Jn}{j:Jn}(h:j.2∈J.map (·.2)):∃x,Ck (kW J) [Sum.inl j.2.1,Sum.inl j.2.2]=some x:=by
 cases e:Ck (kW J) [Sum.inl j.2.1,Sum.inl j.2.2] with
 | some x=>exact⟨x,rfl⟩
 | none =>
  refine absurd ?_ (Qo e)
  obtain⟨z,hz,ez⟩:=mem_map.mp h
  exact mem_map.mpr ⟨_,mem_map.mpr ⟨z,hz,rfl⟩,by show [Sum.inl z.2.1,Sum.inl z.2.2]=_;rw[ez]⟩
def Yh(C:Addr):Sp:=λvs H Q E=>∃d kvs J,vs=[.ref d]/\H d=some (.dK kvs)/\LAt KvAt H kvs J/\J.length<=400/\((J.map (·.2)).Nodup->∀p H',H p=none->Same H H'->H' p=some (.dT (kW J))->Q (.ref p) H')/\(¬(J.map (·.2)).Nodup->∀H',(∀q o,H q=some o->q≠d->H' q=some o)->E (.ref C) none H')
theorem AgD(T:Txt K mg t):Binds K t.d_qn ["pairs"] []:=T.F_qn.binds (by walk_at "b1")
theorem Af0(T:Txt K mg t):FnOk P w K mg base (CX1 P w) 2 t.f_qn t.d_qn ["pairs"] (Yh t.C_NoBook):=by
 refine T.F_qn.ok1 sc_qn (λvs H Q E h=>?_) (λcdv A outer s H vs Q E hr h=>?_)
 ·obtain⟨d,kvs,J,rfl,hd,lk,ln,q,q2⟩:=h
  rfl
 ·obtain⟨d,kvs,J,rfl,hd,lk,ln,q,q2⟩:=h
  have hu:=Dg hr
  have hu64:=hr.units
  refine⟨_,(Bh (Cb (i:=1) sc_qn.nd rfl (Or.inl rfl) Aba)
   (Bh (Zr (Fe PassesOwn.leaving rfl (Zz (pv 0)) (Jj rfl (Cy (Cm (i:=2) sc_qn.nd rfl (Or.inl rfl)) (Cy (Cm (i:=3) sc_qn.nd rfl (Or.inl rfl)) Fw)))
    (Bh (Cf (Bl (Fl T) (hr.mono (by decide)) rfl T.m_qc T.F_qc.kp (Gj T) .nil Bs (Ba (Re (Jl hu (pv 3) (pv 1))) (Ba Ca Bb))))
   (Bx (Gy hu (pv 1) (pv 3) (pv 2) rfl)))))
   (Bx (Cu (pv 1))))),?_⟩
  try dsimp only [Cv,Ci]
  walk_at "rd"
  intro p hp
  have s0:Same H (upd H p (.dT [])):=Same.new hp
  have e0:(upd H p (.dT [])) p=some (.dT []):=Bn
  generalize upd H p (.dT [])=H0 at s0 e0
  have ndp:d≠p:=Bp hd hp
  walk_at "rd"
  refine Aeq (i:=0) (a:=d) (kvs:=kvs) rfl (s0 _ _ hd) (λi σ H'=>∃v2 v3,σ=[some (.ref d),some (.ref p),v2,v3]/\Same H H'/\H' p=some (.dT (kW (J.take i)))/\((J.take i).map (·.2)).Nodup) ⟨none,none,rfl,s0,e0,nodup_nil⟩ ?_ ?_
  ·rintro o i kv t σ H' hi ht ntd ⟨v2,v3,rfl,s,e,nd⟩
   obtain⟨j,ej,e1,a,e2,ha⟩:=lk.get hi
   obtain⟨key,val⟩:=kv
   dsimp only at e1 e2
   subst e1 e2
   have ntp:p≠t:=Bp e ht
   have had:a≠d:=Db ha hd (by intro w;cases w)
   have hat:a≠t:=Bp (s _ _ ha) ht
   have hap:a≠p:=Bp ha hp
   have ep:(upd (upd H' d (.frz o (.dK kvs))) t (.tup [.int j.1,.ref a])) p=some (.dT (kW (J.take i))):=by rw[Bj ntp,Bj ndp.symm];exact e
   have ea:(upd (upd H' d (.frz o (.dK kvs))) t (.tup [.int j.1,.ref a])) a=some (.tup ([Sum.inl j.2.1,Sum.inl j.2.2].map kV)):=by rw[Bj hat,Bj had];exact s _ _ ha
   have et:(upd (upd H' d (.frz o (.dK kvs))) t (.tup [.int j.1,.ref a])) t=some (.tup [.int j.1,.ref a]):=Bn
   have ed:(upd (upd H' d (.frz o (.dK kvs))) t (.tup [.int j.1,.ref a])) d=some (.frz o (.dK kvs)):=by rw[Bj ntd.symm,Bn]
   have back:∀q' u,H q'=some u->q'≠d->(upd (upd H' d (.frz o (.dK kvs))) t (.tup [.int j.1,.ref a])) q'=some u:=λq' u z nz=>by
    rw[Bj (Bp (s _ _ z) ht),Bj nz];exact s _ _ z
   show Sy _ _ _ _ _ (upd (upd H' d (.frz o (.dK kvs))) t (.tup [.int j.1,.ref a])) _
   generalize upd (upd H' d (.frz o (.dK kvs))) t (.tup [.int j.1,.ref a])=H2 at ep ea et ed back
   have hlen:(kW (J.take i)).length<=400:=by unfold kW;rw[length_map,length_take];omega
   walk_at "rd"
   refine⟨p,_,rfl,DGet.t ep ea,?_⟩
   by_cases hin:j.2∈(J.take i).map (·.2)
   ·obtain⟨x,hx⟩:=Afz hin
    rw[hx]
    walk_at "rd"
    refine⟨_,_,rfl,λhb=>(by cases hb),λ_=>q2 (λnd=>Jc (f:=(·.2)) nd ej hin) _ λq' u z nz=>back q' u z nz⟩
   have hno:Ck (kW (J.take i)) [Sum.inl j.2.1,Sum.inl j.2.2]=none:=AfA hin
   rw[hno]
   walk_at "rd"
   refine⟨_,_,rfl,λ_=>?_,λhb=>(by cases hb)⟩
   walk_at "rd"
   refine⟨p,_,rfl,DPut.t ep ea (Jz (by omega)),?_⟩
   rw[Gk _ hno]
   refine⟨by rw[Bj ndp];exact ed,_,_,rfl,λq' u z=>?_,?_,?_⟩
   ·by_cases hq:q'=d
    ·subst hq
     rw[Bn]
     rw[hd] at z;exact z
    ·rw[Bj hq,Bj (Bp z hp)];exact back _ _ z hq
   ·rw[Bj ndp.symm,Bn,Dj ej]
    simp [kW]
   ·rw[Dj ej,map_append]
    exact nodup_append.mpr ⟨nd,by simp,λx hx y hy=>by rw[mem_singleton.mp hy];intro z;rw[z] at hx;exact hin hx⟩
  ·rintro σ H' ⟨v2,v3,rfl,s,e,nd⟩
   rw[lk.1,take_length] at e
   walk_at "rd"
   rw[lk.1,take_length] at nd
   exact q nd p _ hp s e
theorem LAt.unmap{α β:Type}{P:Hp->V->β->Prop}{Q:Hp->V->α->Prop}{f:α->β}{H:Hp}{xs:List V}{l:List α}(h:LAt P H xs (l.map f))(k:∀x y,P H x (f y)->Q H x y):LAt Q H xs l:=⟨by rw[h.1,length_map],λi x y hx hy=>k x y (h.2 i x (f y) hx (by rw[getElem?_map,hy];rfl))⟩
theorem LAt.tomap{α β:Type}{P:Hp->V->α->Prop}{Q:Hp->V->β->Prop}{f:α->β}{H:Hp}{xs:List V}{l:List α}(h:LAt P H xs l)(k:∀x y,P H x y->Q H x (f y)):LAt Q H xs (l.map f):=⟨by rw[h.1,length_map],λi x y hx hy=>by
 rw[getElem?_map] at hy
 obtain⟨z,hz,rfl⟩:=map_eq_some_iff.mp hy
 exact k x z (h.2 i x z hx hz)⟩
theorem Thg.keep{p:Addr}{H H':Hp}{C dx:Addr}{fs:_}{v:V}(h:Thg H v)(k:Keep p H H')(hp:H p=some (.ins C dx fs)):Thg H' v:=by
 cases h with
 | non=>exact .non
 | bl b=>exact .bl b
 | int n=>exact .int n
 | str s=>exact .str s
 | lst e=>exact .lst (k _ _ e (Db e hp (by intro z;cases z)))
 | tup e=>exact .tup (k _ _ e (Db e hp (by intro z;cases z)))
 | dk e=>exact .dk (k _ _ e (Db e hp (by intro z;cases z)))
theorem TrpG.keep{p:Addr}{H H':Hp}{C dx:Addr}{fs:_}{x:V}{r:V×V×V}(h:TrpG H x r)(k:Keep p H H')(hp:H p=some (.ins C dx fs)):TrpG H' x r:=by
 obtain⟨q',e,h,t1,t2,t3⟩:=h
 exact⟨q',e,k _ _ h (Db h hp (by intro z;cases z)),t1.keep k hp,t2.keep k hp,t3.keep k hp⟩
theorem Ady(signs:List Sg)(mates:List (Int×Int))(n:Int):∃s,knd (kK signs++kM mates) n=.str s:=by
 unfold knd
 cases e:Ck (kK signs++kM mates) (Sum.inl n) with
 | none=>exact⟨_,rfl⟩
 | some v =>
  obtain⟨kv,hkv,e2⟩:∃kv∈kK signs++kM mates,kv.2=v:=by
   unfold Ck at e
   obtain⟨kv,h1,h2⟩:=map_eq_some_iff.mp e
   exact⟨kv,List.mem_of_find?_eq_some h1,h2⟩
  rcases mem_append.mp hkv with z | z
  ·obtain⟨s,_,rfl⟩:=mem_map.mp z
   exact⟨s.2.1,by rw[<- e2];rfl⟩
  ·have:∀ms:List (Int×Int),kv∈kM ms->∃s:Str,kv.2=.str s:=by
    intro ms
    induction ms with
    | nil=>intro h;cases h
    | cons m r ih =>
     intro h
     have h:kv∈(Sum.inl m.1,V.str "open")::(Sum.inl m.2,V.str "shut")::kM r:=h
     rcases mem_cons.mp h with rfl | h
     ·exact⟨_,rfl⟩
     ·rcases mem_cons.mp h with rfl | h
      ·exact⟨_,rfl⟩
      ·exact ih h
   obtain⟨s,hs⟩:=this mates z
   exact⟨s,by rw[<- e2,hs];rfl⟩
def BOk(R:List (V×V×V))(Mt:List (V×V))(Jr:List (V×V×V))(signs:List Sg)(mates:List (Int×Int))(J:List Jn):Prop:=KOk R Mt signs mates/\PJ (kK signs++kM mates) Jr J/\(J.map (·.2)).Nodup
def Lw(C CE:Addr):Sp:=λvs H Q E=>∃p dx a b cc xs ys zs R Mt Jr,vs=[.ref p,.ref a,.ref b,.ref cc]/\H p=some (.ins C dx [])/\H a=some (.lst xs)/\H b=some (.lst ys)/\H cc=some (.lst zs)/\LAt TrpG H xs R/\LAt PrG H ys Mt/\LAt TrpG H zs Jr/\R.length+2*Mt.length<=400/\Jr.length<=400 /\
 (∀signs mates J,BOk R Mt Jr signs mates J->∀H' kvs dx dk dr dm dp dw,Keep p H H'->H dk=none->H dr=none->H dm=none->H dp=none->H dw=none->H' p=some (.ins C dx (bkF dk dr dm dp dw))->H' dk=some (.dK (kK signs++kM mates))->H' dr=some (.dK (kR signs))->H' dm=some (.dK (kB mates))->H' dp=some (.dK kvs)->H' dw=some (.dT (kW J))->LAt KvAt H' kvs J->Q .non H') /\
 ((¬ ∃signs mates J,BOk R Mt Jr signs mates J)->∀H',Keep p H H'->E (.ref CE) none H')
theorem Abt(T:Txt K mg t):Binds K t.d_qv ["self","signs","mates","joins"] []:=T.F_qv.binds λ_ _ _ _ _ _ us hl=>match us,hl with | [_,_,_,_],_=>rfl
theorem Vs(T:Txt K mg t):FnOk P w K mg base (CX1 P w) 5 t.f_qv t.d_qv ["self","signs","mates","joins"] (Lw t.C_Book t.C_NoBook):=by
 refine T.F_qv.ok1 Agj (λvs H Q E h=>?_) (λcdv A outer s H vs Q E hr h=>?_)
 ·obtain⟨p,dx,a,b,cc,xs,ys,zs,R,Mt,Jr,rfl,hp,ha,hb,hc,ls,lm,lj,hl,hlj,q1,q2⟩:=h
  rfl
 ·obtain⟨p,dx,a,b,cc,xs,ys,zs,R,Mt,Jr,rfl,hp,ha,hb,hc,ls,lm,lj,hl,hlj,q1,q2⟩:=h
  have hu:=Dg hr
  have hu64:=hr.units
  refine⟨_,(Bh (Cf (Bl (Wy T) (hr.mono (by decide)) rfl T.m_qd T.F_qd.kp (AaT T) .nil Bs (Ba (pv 1) (Ba Bd Bb))))
   (Bh (Cf (Bl (Wy T) (hr.mono (by decide)) rfl T.m_qd T.F_qd.kp (AaT T) .nil Bs (Ba (pv 2) (Ba Bd Bb))))
   (Bh (Cf (Bl (Wy T) (hr.mono (by decide)) rfl T.m_qd T.F_qd.kp (AaT T) .nil Bs (Ba (pv 3) (Ba Bd Bb))))
   (Bh (Ng (pv 0) (Bl (AfJ T) (hr.mono (by decide)) rfl T.m_qs T.F_qs.kp (AgQ T) .nil Bs (Ba (pv 1) (Ba (pv 2) Bb))) rfl)
   (Bh (Ng (pv 0) (Bl (Agi T) (hr.mono (by decide)) rfl T.m_qu T.F_qu.kp (AgH T) .nil Bs (Ba (pv 1) Bb)) rfl)
   (Bh (Ng (pv 0) (Bl (Af9 T) (hr.mono (by decide)) rfl T.m_qz T.F_qz.kp (AgS T) .nil Bs (Ba (pv 2) Bb)) rfl)
   (Bh (Ng (pv 0) (Bl (AfZ T) (hr.mono (by decide)) rfl T.m_qt T.F_qt.kp (Agx T) .nil Bs (Ba (Ss (pv 0) rfl) (Ba (pv 3) Bb))) rfl)
   (Bx (Ng (pv 0) (Bl (Af0 T) (hr.mono (by decide)) rfl T.m_qn T.F_qn.kp (AgD T) .nil Bs (Ba (Ss (pv 0) rfl) Bb)) rfl))))))))),?_⟩
  try dsimp only [Cv,Ci]
  have nt:∀q' zs,H q'=some (.tup zs)->q'≠p:=λq' zs h=>Db h hp (by intro z;cases z)
  have nap:a≠p:=Db ha hp (by intro z;cases z)
  have nbp:b≠p:=Db hb hp (by intro z;cases z)
  have ncp:cc≠p:=Db hc hp (by intro z;cases z)
  have c3:∀x∈xs,∃b ys,x=V.ref b/\H b=some (.tup ys)/\((ys.length:Nat):Int)=3:=λx hx=>by
   obtain⟨i,hi⟩:=List.getElem?_of_mem hx
   obtain⟨s,_,q',e,h,_⟩:=ls.get hi
   exact⟨q',_,e,h,rfl⟩
  have c2:∀x∈ys,∃b ys,x=V.ref b/\H b=some (.tup ys)/\((ys.length:Nat):Int)=2:=λx hx=>by
   obtain⟨i,hi⟩:=List.getElem?_of_mem hx
   obtain⟨s,_,q',e,h,_⟩:=lm.get hi
   exact⟨q',_,e,h,rfl⟩
  have c3j:∀x∈zs,∃b ys,x=V.ref b/\H b=some (.tup ys)/\((ys.length:Nat):Int)=3:=λx hx=>by
   obtain⟨i,hi⟩:=List.getElem?_of_mem hx
   obtain⟨s,_,q',e,h,_⟩:=lj.get hi
   exact⟨q',_,e,h,rfl⟩
  have mJ:∀{H'},Keep p H H'->LAt TrpG H' zs Jr:=λk=>lj.mono λx y h=>h.keep k hp
  walk_at "rd"
  refine⟨a,xs,_,rfl,ha,c3,?_⟩
  walk_at "rd"
  refine⟨b,ys,_,rfl,hb,c2,?_⟩
  walk_at "rd"
  refine⟨cc,zs,_,rfl,hc,c3j,?_⟩
  walk_at "rd"
  refine⟨a,b,xs,ys,R,Mt,rfl,ha,hb,ls,lm,by omega,λsigns mates kok dk H1 hk s1 e1=>?_,λno H1 s1=>q2 (λ⟨sg,mt,J,kok,_⟩=>no ⟨sg,mt,kok⟩) H1 (λq' o e n=>s1 _ _ e)⟩
  have kok0:=kok
  obtain⟨eR,eM,so,mo,nd,_⟩:=kok
  have ls':LAt TripAt H xs signs:=LAt.unmap (eR▸ls) λx y ⟨q',e,h,_⟩=>⟨q',e,h⟩
  have lm':LAt PairAt H ys mates:=LAt.unmap (eM▸lm) λx y ⟨q',e,h,_⟩=>⟨q',e,h⟩
  have rl:R.length=signs.length:=by rw[eR,length_map]
  have ml:Mt.length=mates.length:=by rw[eM,length_map]
  have mT:∀{H'},Keep p H H'->LAt TripAt H' xs signs:=λk=>ls'.mono λx y h=>h.mono λq' zs e=>k q' _ e (nt q' zs e)
  have mP:∀{H'},Keep p H H'->LAt PairAt H' ys mates:=λk=>lm'.mono λx y h=>h.mono λq' zs e=>k q' _ e (nt q' zs e)
  have nd1:=(nodup_append.mp nd).1
  have nd2:=(nodup_append.mp nd).2.1
  have fk:H dk=none:=hk
  have k1:Keep p H H1:=λq' o e _=>s1 _ _ e
  have p1:=s1 _ _ hp
  walk_at "rd"
  refine⟨p,_,_,_,rfl,p1,T.cl_Book,T.n_Book_kinds,by show 0<1000;decide,?_⟩
  have k2:Keep p H (upd H1 p (.ins t.C_Book dx (Bt "kinds" (.ref dk) []))):=k1.trans Keep.put
  have p2:(upd H1 p (.ins t.C_Book dx (Bt "kinds" (.ref dk) []))) p=some (.ins t.C_Book dx (Bt "kinds" (.ref dk) [])):=Bn
  have e2:(upd H1 p (.ins t.C_Book dx (Bt "kinds" (.ref dk) []))) dk=some (.dK (kK signs++kM mates)):=by rw[Bj (Db e1 p1 (by intro z;cases z))];exact e1
  generalize upd H1 p (.ins t.C_Book dx (Bt "kinds" (.ref dk) []))=H2 at k2 p2 e2
  walk_at "rd"
  refine⟨a,xs,signs,rfl,k2 _ _ ha nap,mT k2,nd1,by omega,λdr hk=>?_⟩
  have fr':H dr=none:=k2.free p2 hk
  walk_at "rd"
  have k3:Keep p H (upd H2 dr (.dK (kR signs))):=k2.trans (Keep.new hk)
  have p3:(upd H2 dr (.dK (kR signs))) p=some (.ins t.C_Book dx (Bt "kinds" (.ref dk) [])):=by rw[Bj (Bp p2 hk)];exact p2
  have e3:(upd H2 dr (.dK (kR signs))) dk=some (.dK (kK signs++kM mates)):=by rw[Bj (Bp e2 hk)];exact e2
  have r3:(upd H2 dr (.dK (kR signs))) dr=some (.dK (kR signs)):=Bn
  generalize upd H2 dr (.dK (kR signs))=H3 at k3 p3 e3 r3
  refine⟨p,_,_,_,rfl,p3,T.cl_Book,T.n_Book_ranks,Nat.lt_of_le_of_lt (De _ _ _) (by show 0+1<1000;decide),?_⟩
  have k4:Keep p H (upd H3 p (.ins t.C_Book dx (Bt "ranks" (.ref dr) (Bt "kinds" (.ref dk) [])))):=k3.trans Keep.put
  have p4:(upd H3 p (.ins t.C_Book dx (Bt "ranks" (.ref dr) (Bt "kinds" (.ref dk) [])))) p=some (.ins t.C_Book dx (Bt "ranks" (.ref dr) (Bt "kinds" (.ref dk) []))):=Bn
  have e4:(upd H3 p (.ins t.C_Book dx (Bt "ranks" (.ref dr) (Bt "kinds" (.ref dk) [])))) dk=some (.dK (kK signs++kM mates)):=by rw[Bj (Db e3 p3 (by intro z;cases z))];exact e3
  have r4:(upd H3 p (.ins t.C_Book dx (Bt "ranks" (.ref dr) (Bt "kinds" (.ref dk) [])))) dr=some (.dK (kR signs)):=by rw[Bj (Db r3 p3 (by intro z;cases z))];exact r3
  generalize upd H3 p (.ins t.C_Book dx (Bt "ranks" (.ref dr) (Bt "kinds" (.ref dk) [])))=H4 at k4 p4 e4 r4
  walk_at "rd"
  refine⟨b,ys,mates,rfl,k4 _ _ hb nbp,mP k4,nd2,by omega,λdm hk=>?_⟩
  have fm:H dm=none:=k4.free p4 hk
  walk_at "rd"
  have k5:Keep p H (upd H4 dm (.dK (kB mates))):=k4.trans (Keep.new hk)
  have p5:(upd H4 dm (.dK (kB mates))) p=some (.ins t.C_Book dx (Bt "ranks" (.ref dr) (Bt "kinds" (.ref dk) []))):=by rw[Bj (Bp p4 hk)];exact p4
  have e5:(upd H4 dm (.dK (kB mates))) dk=some (.dK (kK signs++kM mates)):=by rw[Bj (Bp e4 hk)];exact e4
  have r5:(upd H4 dm (.dK (kB mates))) dr=some (.dK (kR signs)):=by rw[Bj (Bp r4 hk)];exact r4
  have m5:(upd H4 dm (.dK (kB mates))) dm=some (.dK (kB mates)):=Bn
  generalize upd H4 dm (.dK (kB mates))=H5 at k5 p5 e5 r5 m5
  refine⟨p,_,_,_,rfl,p5,T.cl_Book,T.n_Book_mates,Nat.lt_of_le_of_lt (De _ _ _) (Nat.lt_of_le_of_lt (succ_le_succ (De _ _ _)) (by show 0+1+1<1000;decide)),?_⟩
  have k6:Keep p H (upd H5 p (.ins t.C_Book dx (Bt "mates" (.ref dm) (Bt "ranks" (.ref dr) (Bt "kinds" (.ref dk) []))))):=k5.trans Keep.put
  have p6:(upd H5 p (.ins t.C_Book dx (Bt "mates" (.ref dm) (Bt "ranks" (.ref dr) (Bt "kinds" (.ref dk) []))))) p=some (.ins t.C_Book dx (Bt "mates" (.ref dm) (Bt "ranks" (.ref dr) (Bt "kinds" (.ref dk) [])))):=Bn
  have e6:(upd H5 p (.ins t.C_Book dx (Bt "mates" (.ref dm) (Bt "ranks" (.ref dr) (Bt "kinds" (.ref dk) []))))) dk=some (.dK (kK signs++kM mates)):=by rw[Bj (Db e5 p5 (by intro z;cases z))];exact e5
  have r6:(upd H5 p (.ins t.C_Book dx (Bt "mates" (.ref dm) (Bt "ranks" (.ref dr) (Bt "kinds" (.ref dk) []))))) dr=some (.dK (kR signs)):=by rw[Bj (Db r5 p5 (by intro z;cases z))];exact r5
  have m6:(upd H5 p (.ins t.C_Book dx (Bt "mates" (.ref dm) (Bt "ranks" (.ref dr) (Bt "kinds" (.ref dk) []))))) dm=some (.dK (kB mates)):=by rw[Bj (Db m5 p5 (by intro z;cases z))];exact m5
  generalize upd H5 p (.ins t.C_Book dx (Bt "mates" (.ref dm) (Bt "ranks" (.ref dr) (Bt "kinds" (.ref dk) []))))=H6 at k6 p6 e6 r6 m6
  walk_at "rd"
  refine⟨p,_,_,_,_,rfl,p6,T.cl_Book,T.n_Book_kinds,by rw[Co,if_neg (by decide +kernel),Co,if_neg (by decide +kernel),Co,if_pos rfl],?_⟩
  walk_at "rd"
  refine⟨dk,cc,_,zs,Jr,rfl,e6,Ady signs mates,k6 _ _ hc ncp,mJ k6,by omega,λJ pj dp kvs H7 hk s7 q7 lk7=>?_,λno H7 s7=>q2 (λ⟨sg,mt,J,⟨g1,g2,_⟩,pj,_⟩=>no ⟨J,?_⟩) H7 (λq' o e n=>s7 _ _ (k6 _ _ e n))⟩
  rotate_left
  ·rw[show signs=sg from Ny (by rw[<- eR,g1]),show mates=mt from Qt (by rw[<- eM,g2])];exact pj
  have jl:J.length<=400:=by
   have:=congrArg length pj.1
   rw[length_map] at this
   omega
  have fp:H dp=none:=k6.free p6 hk
  walk_at "rd"
  have k7:Keep p H H7:=λq' o e n=>s7 _ _ (k6 _ _ e n)
  have p7:=s7 _ _ p6
  have e7:=s7 _ _ e6
  have r7:=s7 _ _ r6
  have m7:=s7 _ _ m6
  clear k6 p6 e6 r6 m6 s7
  refine⟨p,_,_,_,rfl,p7,T.cl_Book,T.n_Book_pairs,Nat.lt_of_le_of_lt (De _ _ _) (Nat.lt_of_le_of_lt (succ_le_succ (Nat.le_trans (De _ _ _) (succ_le_succ (De _ _ _)))) (by show 0+1+1+1<1000;decide)),?_⟩
  have k8:Keep p H (upd H7 p (.ins t.C_Book dx (Bt "pairs" (.ref dp) (Bt "mates" (.ref dm) (Bt "ranks" (.ref dr) (Bt "kinds" (.ref dk) [])))))):=k7.trans Keep.put
  have p8:(upd H7 p (.ins t.C_Book dx (Bt "pairs" (.ref dp) (Bt "mates" (.ref dm) (Bt "ranks" (.ref dr) (Bt "kinds" (.ref dk) [])))))) p=some (.ins t.C_Book dx (Bt "pairs" (.ref dp) (Bt "mates" (.ref dm) (Bt "ranks" (.ref dr) (Bt "kinds" (.ref dk) []))))):=Bn
  have e8:(upd H7 p (.ins t.C_Book dx (Bt "pairs" (.ref dp) (Bt "mates" (.ref dm) (Bt "ranks" (.ref dr) (Bt "kinds" (.ref dk) [])))))) dk=some (.dK (kK signs++kM mates)):=by rw[Bj (Db e7 p7 (by intro z;cases z))];exact e7
  have r8:(upd H7 p (.ins t.C_Book dx (Bt "pairs" (.ref dp) (Bt "mates" (.ref dm) (Bt "ranks" (.ref dr) (Bt "kinds" (.ref dk) [])))))) dr=some (.dK (kR signs)):=by rw[Bj (Db r7 p7 (by intro z;cases z))];exact r7
  have m8:(upd H7 p (.ins t.C_Book dx (Bt "pairs" (.ref dp) (Bt "mates" (.ref dm) (Bt "ranks" (.ref dr) (Bt "kinds" (.ref dk) [])))))) dm=some (.dK (kB mates)):=by rw[Bj (Db m7 p7 (by intro z;cases z))];exact m7
  have q8:(upd H7 p (.ins t.C_Book dx (Bt "pairs" (.ref dp) (Bt "mates" (.ref dm) (Bt "ranks" (.ref dr) (Bt "kinds" (.ref dk) [])))))) dp=some (.dK kvs):=by rw[Bj (Db q7 p7 (by intro z;cases z))];exact q7
  have lk8:LAt KvAt (upd H7 p (.ins t.C_Book dx (Bt "pairs" (.ref dp) (Bt "mates" (.ref dm) (Bt "ranks" (.ref dr) (Bt "kinds" (.ref dk) [])))))) kvs J:=lk7.mono λx y h=>h.mono λq' zs z=>by rw[Bj (Db z p7 (by intro z;cases z))];exact z
  generalize upd H7 p (.ins t.C_Book dx (Bt "pairs" (.ref dp) (Bt "mates" (.ref dm) (Bt "ranks" (.ref dr) (Bt "kinds" (.ref dk) [])))))=H8 at k8 p8 e8 r8 m8 q8 lk8
  clear k7 p7 e7 r7 m7 q7 lk7
  walk_at "rd"
  refine⟨p,_,_,_,_,rfl,p8,T.cl_Book,T.n_Book_pairs,by rw[Co,if_pos rfl],?_⟩
  walk_at "rd"
  refine⟨dp,kvs,J,rfl,q8,lk8,jl,λnp dw H9 hk s9 w9=>?_,λno H9 s9=>q2 (λ⟨sg,mt,J',_,pj',np'⟩=>no ?_) H9 (λq' o e n=>s9 _ _ (k8 _ _ e n) (Bp e fp))⟩
  rotate_left
  ·rw[show J=J' from Qw (by rw[<- pj.1,pj'.1])];exact np'
  have fw:H dw=none:=k8.free p8 hk
  walk_at "rd"
  have p9:=s9 _ _ p8
  refine⟨p,_,_,_,rfl,p9,T.cl_Book,T.n_Book_wholes,Nat.lt_of_le_of_lt (De _ _ _) (Nat.lt_of_le_of_lt (succ_le_succ (Nat.le_trans (De _ _ _) (succ_le_succ (Nat.le_trans (De _ _ _) (succ_le_succ (De _ _ _)))))) (by show 0+1+1+1+1<1000;decide)),?_⟩
  refine q1 signs mates J ⟨kok0,pj,np⟩ _ kvs dx dk dr dm dp dw (λq' o e n=>by rw[Bj n];exact s9 _ _ (k8 _ _ e n)) fk fr' fm fp fw Bn ?_ ?_ ?_ ?_ ?_ ?_
  ·rw[Bj (Db e8 p8 (by intro z;cases z))];exact s9 _ _ e8
  ·rw[Bj (Db r8 p8 (by intro z;cases z))];exact s9 _ _ r8
  ·rw[Bj (Db m8 p8 (by intro z;cases z))];exact s9 _ _ m8
  ·rw[Bj (Db q8 p8 (by intro z;cases z))];exact s9 _ _ q8
  ·rw[Bj (Db w9 p9 (by intro z;cases z))];exact w9
  ·exact lk8.mono λx y h=>h.mono λq' zs z=>by rw[Bj (Db z p8 (by intro z;cases z))];exact s9 _ _ z
local macro_rules | `(tactic| walk_at "u")=>`(tactic| with_reducible refine u_sp_kind (by assumption) ?_)
local macro_rules | `(tactic| walk_at "u")=>`(tactic| with_reducible refine Yt (by assumption) Tr ?_)
theorem Ad4(T:Txt K mg t):Binds K t.d_qw ["self","sign"] []:=T.F_qw.binds (by walk_at "b2")
theorem Acw(T:Txt K mg t):FnOk P w K mg base (CX1 P w) 2 t.f_qw t.d_qw ["self","sign"] (Vf t.C_Book):=by
 refine T.F_qw.ok1 Af5 (λvs H Q E h=>?_) (λcdv A outer s H vs Q E hr h=>?_)
 ·obtain⟨b,n,k,r,m,p,w,rfl,⟨dx,dk,dr,dm,dp,dw,h1,h2,h3,h4,h5,h6⟩,q⟩:=h
  rfl
 ·obtain⟨b,n,k,r,m,p,w,rfl,⟨dx,dk,dr,dm,dp,dw,h1,h2,h3,h4,h5,h6⟩,q⟩:=h
  have hu:=Dg hr
  have hu64:=hr.units
  refine⟨_,(Bx (Cu (Bl (So T) (hr.mono (by decide)) rfl T.m_qr T.F_qr.kp (Wt T) .nil Bs (Ba (Ss (pv 0) rfl) (Ba (pv 1) Bb))))),?_⟩
  try dsimp only [Cv,Ci]
  walk_at "rd"
  refine⟨b,_,_,_,_,rfl,h1,T.cl_Book,T.n_Book_kinds,Zo,?_⟩
  walk_at "rd"
  exact q
theorem AbB{C CE:Addr}{vs:List V}{H:Hp}{Q:VK}{E:XK}(h:AdT C vs H Q E):Lw C CE vs H Q E:=by
 obtain⟨p,dx,a,b,cc,xs,ys,zs,S,M,J,rfl,hp,ha,hb,hc,ls,lm,lj,so,mo,nd,jo,hl,q⟩:=h
 have bok:BOk (S.map sV) (M.map mV) (J.map jV) S M J:=⟨⟨rfl,rfl,so,mo,nd,trivial⟩,⟨rfl,λj hj=>?_,jo.nw,jo.en⟩,jo.np⟩
 ·refine⟨p,dx,a,b,cc,xs,ys,zs,S.map sV,M.map mV,J.map jV,rfl,hp,ha,hb,hc,ls.tomap λx y ⟨q',e,h⟩=>⟨q',e,h,.int _,.str _,.int _⟩,lm.tomap λx y ⟨q',e,h⟩=>⟨q',e,h,.int _,.int _⟩,lj.tomap λx y ⟨q',e,h⟩=>⟨q',e,h,.int _,.int _,.int _⟩,by rw[length_map,length_map];exact hl,by rw[length_map];exact jo.ln,λS' M' J' ⟨⟨e1,e2,_⟩,⟨e3,_⟩,_⟩=>?_,λno=>absurd ⟨S,M,J,bok⟩ no⟩
  rw[<- Ny e1,<- Qt e2,<- Qw e3]
  exact q
 ·obtain⟨k,hk,h1,h2⟩:=jo.kd j hj
  obtain⟨n1,n2,n3⟩:=jo.nn j hj
  exact⟨_,_,_,k,rfl,rfl,rfl,n1,n2,n3,jo.mr j hj,hk,h1,h2⟩
theorem Aau{C CE:Addr}{ω:Om}{E:XK}{t:TA}{u:UA}(ha:AU K C ω [false,false,false] t u):EU K C ω (AbW C (Lw C CE) [] E t) (uMk u) :=
 λB G0 H0 own G σ H ρ P Q St hu k=>ha B G0 H0 own G σ H ρ _ _ St hu λvs ps G1 H1 w1 ok ⟨S,M,J,e,so,mo,nd,jo,hl,h⟩=>by
  obtain⟨v,w,y,p,q,r,rfl,e2,r1,r2,r3⟩:=AcQ ok
  rw[e] at e2;cases e2
  obtain⟨a1,xs,rfl,ea1,l1⟩:=r1.lst w1.i
  obtain⟨a2,ys,rfl,ea2,l2⟩:=r2.lst w1.i
  obtain⟨a3,zs,rfl,ea3,l3⟩:=r3.lst w1.i
  intro x dx hx hdx ndx
  have sB:Same H1 (upd (upd H1 dx (.own x)) x (.ins C dx [])):=λq' o e=>by rw[Bj (Bp e hx),Bj (Bp e hdx)];exact e
  have sG:=w1.i.trans sB
  refine AbB ?_
  refine⟨x,dx,a1,a2,a3,xs,ys,zs,S,M,J,rfl,Bn,sB _ _ ea1,sB _ _ ea2,sB _ _ ea3,((Qe AaI).mp l1).tripS sG,((Qe AbS).mp l2).pairS sG,((Qe Adk).mp l3).trjS sG,so,mo,nd,jo,hl,λH2 kvs dx' dk dr dm dp dw kp fk fr fm fp fw e1 e2 e3 e4 e5 e6 lkv=>⟨rfl,?_⟩⟩
  have s2:Same H1 H2:=λq' o e=>kp q' o (sB q' o e) (Bp e hx)
  have g:=Ls w1.i s2
  refine k _ _ _ H2 (w1.trans g) (.bk (kvs:=kvs) ⟨dx',dk,dr,dm,dp,dw,Dp hx e1,Dp (sB.free fk) e2,Dp (sB.free fr) e3,Dp (sB.free fm) e4,Dp (sB.free fp) e5,Dp (sB.free fw) e6⟩ ?_) h
  exact lkv.mono λ_ _ ⟨z1,p,z2,z3⟩=>⟨z1,p,z2,Oa z3⟩
def thP:PV->Bool
 | .non=>true
 | .bl _=>true
 | .int _=>true
 | .str _=>true
 | .lst _=>true
 | .tup _=>true
 | .dk _=>true
 | _=>false
theorem Nd{C:Addr}{G:Hp}{v:V}{p:PV}(h:Rep K C G v p)(t:thP p=true):Thg G v:=by
 cases h with
 | non=>exact .non
 | bl b=>exact .bl b
 | int n=>exact .int n
 | str s=>exact .str s
 | lst e _ _=>exact .lst e
 | tup e _ _=>exact .tup e
 | dk e _ _ _=>exact .dk e
 | _=>cases t
abbrev P3:=PV×PV×PV
abbrev P2:=PV×PV
def t3(r:P3):PV:=.tup [r.1,r.2.1,r.2.2]
def t2(r:P2):PV:=.tup [r.1,r.2]
def Fh(G:Hp)(x:V):V×V×V:=match x with
 | .ref q=>match G q with
  | some (.tup [a,b,c])=>(a,b,c)
  | _=>(.non,.non,.non)
 | _=>(.non,.non,.non)
def Fm(G:Hp)(x:V):V×V:=match x with
 | .ref q=>match G q with
  | some (.tup [a,b])=>(a,b)
  | _=>(.non,.non)
 | _=>(.non,.non)
theorem Agr{C:Addr}{G:Hp}{x:V}{r:P3}(h:Rep K C G x (t3 r)):∃q,x=.ref q/\G q=some (.tup [(Fh G x).1,(Fh G x).2.1,(Fh G x).2.2])/\Rep K C G (Fh G x).1 r.1/\Rep K C G (Fh G x).2.1 r.2.1/\Rep K C G (Fh G x).2.2 r.2.2:=by
 cases h with
 | tup e l h =>
  rename_i a vs
  match vs,l,e,h with
  | [x1,x2,x3],_,e,h =>
   have ev:Fh G (.ref a)=(x1,x2,x3):=by simp only [Fh,e]
   rw[ev]
   exact⟨a,rfl,e,h 0 _ _ rfl rfl,h 1 _ _ rfl rfl,h 2 _ _ rfl rfl⟩
theorem AgT{C:Addr}{G:Hp}{x:V}{r:P2}(h:Rep K C G x (t2 r)):∃q,x=.ref q/\G q=some (.tup [(Fm G x).1,(Fm G x).2])/\Rep K C G (Fm G x).1 r.1/\Rep K C G (Fm G x).2 r.2:=by
 cases h with
 | tup e l h =>
  rename_i a vs
  match vs,l,e,h with
  | [x1,x2],_,e,h =>
   have ev:Fm G (.ref a)=(x1,x2):=by simp only [Fm,e]
   rw[ev]
   exact⟨a,rfl,e,h 0 _ _ rfl rfl,h 1 _ _ rfl rfl⟩
def sQ(s:Sg):P3:=(.int s.1,.str s.2.1,.int s.2.2)
def mQ(m:Int×Int):P2:=(.int m.1,.int m.2)
def jQ(j:Jn):P3:=(.int j.1,.int j.2.1,.int j.2.2)
def Rr(R:List P3)(Mt:List P2)(Jr:List P3):Prop:=∃signs mates J,R=signs.map sQ/\Mt=mates.map mQ/\Jr=J.map jQ/\(∀s∈signs,Lv s)/\(∀m∈mates,0<=m.1/\0<=m.2)/\(signs.map (·.1)++Cn mates).Nodup/\(∀j∈J,JOk (kK signs++kM mates) (.int j.1) (.int j.2.1) (.int j.2.2))/\(J.map (·.1)).Nodup/\(∀j∈J,Do J (jGo J 7 j.1)=none)/\(J.map (·.2)).Nodup
theorem Gn{C:Addr}{G:Hp}{n:Int}{p:PV}(h:Rep K C G (.int n) p):p=.int n:=by cases h;rfl
theorem AdC{C:Addr}{G:Hp}{n:Str}{p:PV}(h:Rep K C G (.str n) p):p=.str n:=by cases h;rfl
def okR(R:List P3):Prop:=∀r∈R,thP r.1=true/\thP r.2.1=true/\thP r.2.2=true
def okM(R:List P2):Prop:=∀r∈R,thP r.1=true/\thP r.2=true
theorem Ab3{C:Addr}{G H:Hp}(i:Same G H){xs:List V}{R:List P3}(l:Reps K C G xs (R.map t3))(ok:okR R):LAt TrpG H xs (xs.map (Fh G))/\(xs.map (Fh G)).length=R.length/\∀(k:Nat) (v:V×V×V) (r:P3),(xs.map (Fh G))[k]? = some v->R[k]? = some r->Rep K C G v.1 r.1/\Rep K C G v.2.1 r.2.1/\Rep K C G v.2.2 r.2.2:=by
 have ll:xs.length=R.length:=by have:=l.1;rw[length_map] at this;exact this
 have key:∀(k:Nat) (x:V) (r:P3),xs[k]? = some x->R[k]? = some r->∃q,x=.ref q/\G q=some (.tup [(Fh G x).1,(Fh G x).2.1,(Fh G x).2.2])/\Rep K C G (Fh G x).1 r.1/\Rep K C G (Fh G x).2.1 r.2.1/\Rep K C G (Fh G x).2.2 r.2.2:=λk x r hx hr=>Agr (l.2 k x (t3 r) hx (by rw[getElem?_map,hr];rfl))
 refine⟨⟨by rw[length_map],λk x y hx hy=>?_⟩,by rw[length_map,ll],λk v r hv hr=>?_⟩
 ·rw[getElem?_map,hx] at hy
  cases hy
  obtain⟨r,hr⟩:∃r,R[k]? = some r:=⟨_,getElem?_eq_getElem (by have:=(List.getElem?_eq_some_iff.mp hx).1;omega)⟩
  obtain⟨q,e,eq,r1,r2,r3⟩:=key k x r hx hr
  obtain⟨o1,o2,o3⟩:=ok r (mem_of_getElem? hr)
  exact⟨q,e,i _ _ eq,(Nd r1 o1).mono i,(Nd r2 o2).mono i,(Nd r3 o3).mono i⟩
 ·rw[getElem?_map] at hv
  obtain⟨x,hx,rfl⟩:=map_eq_some_iff.mp hv
  obtain⟨q,e,eq,r1,r2,r3⟩:=key k x r hx hr
  exact⟨r1,r2,r3⟩
theorem AfU{C:Addr}{G H:Hp}(i:Same G H){xs:List V}{R:List P2}(l:Reps K C G xs (R.map t2))(ok:okM R):LAt PrG H xs (xs.map (Fm G))/\(xs.map (Fm G)).length=R.length/\∀(k:Nat) (v:V×V) (r:P2),(xs.map (Fm G))[k]? = some v->R[k]? = some r->Rep K C G v.1 r.1/\Rep K C G v.2 r.2:=by
 have ll:xs.length=R.length:=by have:=l.1;rw[length_map] at this;exact this
 have key:∀(k:Nat) (x:V) (r:P2),xs[k]? = some x->R[k]? = some r->∃q,x=.ref q/\G q=some (.tup [(Fm G x).1,(Fm G x).2])/\Rep K C G (Fm G x).1 r.1/\Rep K C G (Fm G x).2 r.2:=λk x r hx hr=>AgT (l.2 k x (t2 r) hx (by rw[getElem?_map,hr];rfl))
 refine⟨⟨by rw[length_map],λk x y hx hy=>?_⟩,by rw[length_map,ll],λk v r hv hr=>?_⟩
 ·rw[getElem?_map,hx] at hy
  cases hy
  obtain⟨r,hr⟩:∃r,R[k]? = some r:=⟨_,getElem?_eq_getElem (by have:=(List.getElem?_eq_some_iff.mp hx).1;omega)⟩
  obtain⟨q,e,eq,r1,r2⟩:=key k x r hx hr
  obtain⟨o1,o2⟩:=ok r (mem_of_getElem? hr)
  exact⟨q,e,i _ _ eq,(Nd r1 o1).mono i,(Nd r2 o2).mono i⟩
 ·rw[getElem?_map] at hv
  obtain⟨x,hx,rfl⟩:=map_eq_some_iff.mp hv
  obtain⟨q,e,eq,r1,r2⟩:=key k x r hx hr
  exact⟨r1,r2⟩
theorem Abe{α β γ:Type}{f:γ->α}{g:γ->β}{l:List γ}{A:List α}{B:List β}(e:A=l.map f)(hl:A.length=B.length)(h:∀(k:Nat) (z:γ) (b:β),A[k]? = some (f z)->B[k]? = some b->b=g z):B=l.map g:=by
 refine ext_getElem? λk=>?_
 rw[getElem?_map]
 by_cases hk:k<B.length
 ·have hk2:k<l.length:=by rw[<- hl,e,length_map] at hk;exact hk
  have e1:=getElem?_eq_getElem hk
  have e2:=getElem?_eq_getElem hk2
  rw[e1,e2,h k _ _ (by rw[e,getElem?_map,e2];rfl) e1];rfl
 ·rw[getElem?_eq_none (by omega),getElem?_eq_none (by rw[<- hl,e,length_map] at hk;omega)];rfl
def Afi(CE:Addr)(u:UA):UX:=λd X ρ=>u ρ λps=>∃R Mt Jr,ps=[.lst (R.map t3),.lst (Mt.map t2),.lst (Jr.map t3)]/\okR R/\okM Mt/\okR Jr/\R.length+2*Mt.length<=400/\Jr.length<=400/\¬Rr R Mt Jr/\X CE
theorem Aeh{C CE:Addr}{ω:Om}{rm:Rm}{t:TA}{u:UA}(ha:AU K C ω [false,false,false] t u):SX K C ω rm (Yr (Xv C (Lw C CE) [] t)) (Afi CE u) :=
 λB G0 H0 own G σ H ρ D d Ex X Z F hx hu=>ha B G0 H0 own G σ H ρ _ _ Z hu λvs ps G1 H1 w1 ok ⟨R,Mt,Jr,e,o1,o2,o3,l1,l2,no,h⟩=>by
  obtain⟨v,w,y,p,q,r,rfl,e2,r1,r2,r3⟩:=AcQ ok
  rw[e] at e2;cases e2
  obtain⟨a1,xs,rfl,ea1,l1'⟩:=r1.lst w1.i
  obtain⟨a2,ys,rfl,ea2,l2'⟩:=r2.lst w1.i
  obtain⟨a3,zs,rfl,ea3,l3'⟩:=r3.lst w1.i
  intro x dx hx1 hdx ndx
  have sB:Same H1 (upd (upd H1 dx (.own x)) x (.ins C dx [])):=λq' o e=>by rw[Bj (Bp e hx1),Bj (Bp e hdx)];exact e
  have sG:=w1.i.trans sB
  obtain⟨m1,n1,k1⟩:=Ab3 sG l1' o1
  obtain⟨m2,n2,k2⟩:=AfU sG l2' o2
  obtain⟨m3,n3,k3⟩:=Ab3 sG l3' o3
  refine⟨x,dx,a1,a2,a3,xs,ys,zs,_,_,_,rfl,Bn,sB _ _ ea1,sB _ _ ea2,sB _ _ ea3,m1,m2,m3,by omega,by omega,λS M J ⟨⟨b1,b2,b3,b4,b5,_⟩,⟨b6,b7,b8,b9⟩,b10⟩=>absurd ⟨S,M,J,Abe b1 n1 (λk z b h1 h2=>?_),Abe b2 n2 (λk z b h1 h2=>?_),Abe b6 n3 (λk z b h1 h2=>?_),b3,b4,b5,b7,b8,b9,b10⟩ no,λ_ H2 kp=>⟨CE,rfl,hx CE H2 (w1.h.trans λq' o e=>kp q' o (sB q' o e) (Bp e hx1)) h⟩⟩
  ·obtain⟨c1,c2,c3⟩:=k1 k _ _ h1 h2
   exact Prod.ext (Gn c1) (Prod.ext (AdC c2) (Gn c3))
  ·obtain⟨c1,c2⟩:=k2 k _ _ h1 h2
   exact Prod.ext (Gn c1) (Gn c2)
  ·obtain⟨c1,c2,c3⟩:=k3 k _ _ h1 h2
   exact Prod.ext (Gn c1) (Prod.ext (Gn c2) (Gn c3))
def Aa7:PSp:=λps P=>∃R Mt Jr,ps=[.lst [.lst (R.map t3),.lst (Mt.map t2),.lst (Jr.map t3)]]/\okR R/\okM Mt/\okR Jr/\R.length+2*Mt.length<=400/\Jr.length<=400/\¬Rr R Mt Jr/\P (.bl true)
theorem AgN(T:Txt K mg t):Binds K t.d_ql ["_law_lists_here"] []:=T.F_ql.binds (by walk_at "b1")
theorem AfR(T:Txt K mg t):FnOk P w K mg base (CX1 P w) 7 t.f_ql t.d_ql ["_law_lists_here"] (spOf K t.C_Book [false] .sh Aa7):=by
 refine T.F_ql.ok1 sc_ql (λvs H Q E h=>h.len) (λcdv A outer s H vs Q E hr h=>?_)
 have hu:=Dg hr
 have hu64:=hr.units
 refine⟨_,(Bh (Cb (i:=1) sc_ql.nd rfl (Or.inl rfl) Gq)
   (Bh (Ad9 (S:=λC=>C=t.C_NoBook) (i:=2) rfl rfl (Abx (AbD rfl T.K_Book (Vs T) (hr.mono (by decide)) rfl T.m_Book (Abt T) .nil (Ba (Cg (Bw K) (pv 0) Bd (λ_ _=>rfl)) (Ba (Cg (Bw K) (pv 0) Bd (λ_ _=>rfl)) (Ba (Cg (Bw K) (pv 0) Bd (λ_ _=>rfl)) Bb))))) (λ_=>(Bh (Cb (i:=1) sc_ql.nd rfl (Or.inl rfl) (Fa (Cw (Du K) rfl T.z_isinstance boot_isinstance (Ba (pv 2) (Ba (Fu (v:=.ref t.C_NoBook) rfl T.m_NoBook rfl) Bb))) (Ge (Cw (Du K) rfl T.z_isinstance boot_isinstance (Ba (pv 2) (Ba (Ja (v:=.ty "ValueError") rfl T.z_ValueError L2.Acl rfl) Bb))))))
   (Bh (Cb (i:=1) sc_ql.nd rfl (Or.inl rfl) (Fa (pv 1) (Fa (Nh (Cw (Du K) rfl T.z_isinstance boot_isinstance (Ba (pv 2) (Ba (Fu (v:=.ref t.C_NoStep) rfl T.m_NoStep rfl) Bb)))) (Ge (Nh (Cw (Du K) rfl T.z_isinstance boot_isinstance (Ba (pv 2) (Ba (Fu (v:=.ref t.C_NoPlace) rfl T.m_NoPlace rfl) Bb))))))))
   (Bx (Cb (i:=1) sc_ql.nd rfl (Or.inl rfl) (Fa (pv 1) (Fa (Nh (Cw (Du K) rfl T.z_isinstance boot_isinstance (Ba (pv 2) (Ba (Fu (v:=.ref t.C_NoWidth) rfl T.m_NoWidth rfl) Bb)))) (Ge (Nh (Cw (Du K) rfl T.z_isinstance boot_isinstance (Ba (pv 2) (Ba (Fu (v:=.ref t.C_NoWhat) rfl T.m_NoWhat rfl) Bb)))))))))))) rfl T.m_HandsError T.x_HandsError (by decide) (λC e=>⟨"NoBook",[.type "ValueError",.type "Exception",.type "BaseException",.type "object"],"ValueError.__new__",by rw[e];exact T.m_NoBook,by rw[e];exact T.x_NoBook,by rw[e];exact T.r_NoBook_HandsError⟩) sc_ql.nd rfl rfl)
   (Bx (Cu (pv 1))))),?_⟩
 try dsimp only [Cv,Ci]
 refine Dv h (by decide) (Bv (Cq Jm)
   (Bv (Aey (Aeh (Br (EU.eb (Ce Bi (EU.eb Bf))) (Br (EU.eb (Ce Bi (EU.eb Bf))) (Br (EU.eb (Ce Bi (EU.eb Bf))) Be))))
    (Bv (Cq (Gz (EU.eb (Jx (Br Bi (Bc (Ju λ_=>.cls) Be)))) (Jx (Br Bi (Bc (Ju λ_=>.ty) Be)))))
   (Bv (Cq (Gz Bi (Gz (EU.eb (Of (EU.eb (Jx (Br Bi (Bc (Ju λ_=>.cls) Be)))))) (Of (EU.eb (Jx (Br Bi (Bc (Ju λ_=>.cls) Be))))))))
   (Cq (Gz Bi (Gz (EU.eb (Of (EU.eb (Jx (Br Bi (Bc (Ju λ_=>.cls) Be)))))) (Of (EU.eb (Jx (Br Bi (Bc (Ju λ_=>.cls) Be)))))))))))
   (Fg Bm))) (λps P hp=>?_)
 clear h hu hu64 hr
 obtain⟨R,Mt,Jr,rfl,h1,h2,h3,l1,l2,no,q⟩:=hp
 walk_at "s"
 have NN:=T.N_NoBook
 ext
 unfold Afi
 ext
 refine⟨R,Mt,Jr,rfl,h1,h2,h3,l1,l2,no,rfl,?_⟩
 ext
 refine Oj ⟨NN,T.i_NoBook_NoBook⟩ ?_
 ext
 refine Oj ⟨NN,T.i_NoBook_ValueError⟩ ?_
 ext
 refine Oj ⟨NN,T.i_NoBook_NoStep⟩ ?_
 ext
 refine Oj ⟨NN,T.i_NoBook_NoPlace⟩ ?_
 ext
 refine Oj ⟨NN,T.i_NoBook_NoWidth⟩ ?_
 ext
 refine Oj ⟨NN,T.i_NoBook_NoWhat⟩ ?_
 ext
 exact q
def cM(ns:List Int)(k:Nat):Int:=if k<ns.length then (ns[k]?).getD 0%10^62 else 0
def Aef:PSp:=λps P=>∃ns k,ps=[.scr ns,.int (k:Nat)]/\ns.length<=63/\P (.int (cM ns k))
theorem Ql(T:Txt K mg t):Binds K t.d_qj ["_law_script","_law_k"] []:=T.F_qj.binds (by walk_at "b2")
theorem Lo(T:Txt K mg t):FnOk P w K mg base (CX1 P w) 1 t.f_qj t.d_qj ["_law_script","_law_k"] (spOf K t.C_Book [false,false] .sh Aef):=by
 refine T.F_qj.ok1 Agk (λvs H Q E h=>h.len) (λcdv A outer s H vs Q E hr h=>?_)
 have hu:=Dg hr
 have hu64:=hr.units
 refine⟨_,(Bh (Ga (Go Ab6 (pv 1) (Cw (Dl K) rfl T.z_len PySem.boot_len (Ba (pv 0) Bb)) (Dm _))
    (Bx (Cu (Bu Cs (Cg (Bw K) (pv 0) (pv 1) (λ_ _=>rfl)) (Bu Li Bd Bd))))
    Fi)
   (Bx (Cu Bd))),?_⟩
 try dsimp only [Cv,Ci]
 refine Dv h (by decide) (Bv (Ly (Ri (EU.eb (Fn (λ_ _ _=>.bl _) Bi (EU.eb (Je (Br Bi Be))))))
    (Fg (Ch (λ_ _ _=>.int _) (EU.eb (Ce Bi Bi)) (EU.eb (Ch (λ_ _ _=>.int _) (EU.eb Bf) (EU.eb Bf)))))
    Lg)
   (Fg Bf)) (λps P hp=>?_)
 clear h hu hu64 hr
 obtain⟨ns,k,rfl,hl,q⟩:=hp
 walk_at "s"
 unfold cM at q
 ext
 by_cases hk:k<ns.length
 ·rw[decide_eq_true (by omega:(k:Int)<(ns.length:Int))]
  rw[if_pos hk,getElem?_eq_getElem hk] at q
  ext
  refine Af8 (n:=ns[k]) (Dz (getElem?_eq_getElem hk)) ?_
  ext
  rotate_left
  ·decide
  ·exact⟨by decide,by decide,by decide⟩
  ·exact q
 ·rw[decide_eq_false (by omega:¬(k:Int)<(ns.length:Int))]
  rw[if_neg hk] at q
  ext
  exact q
def Rj:PV->Bool
 | .int n=>decide (0<=n)
 | _=>false
theorem Ad5(c:Int):∃p,atI [PV.non,.bl true,.bl false,.str "a",.lst [.int 1],.tup [.int 1],.int (-1),.int (-1 - c / 8%10^toNat 29),.str "",.dk []] (c%10)=some p/\thP p=true/\Rj p=false:=by
 have h0:0<=c / 8%10^toNat 29:=emod_nonneg _ (by decide)
 generalize c / 8%10^toNat 29=r at h0
 rcases (by omega:c%10=0\/c%10=1\/c%10=2\/c%10=3\/c%10=4\/c%10=5\/c%10=6\/c%10=7\/c%10=8\/c%10=9) with e | e | e | e | e | e | e | e | e | e <;> rw[e]
 all_goals first | exact⟨_,rfl,rfl,rfl⟩ | exact⟨.int (-1 - r),rfl,rfl,decide_eq_false (by omega)⟩
def AdQ:PSp:=λps P=>∃c:Int,ps=[.int c]/\∀p,thP p=true->Rj p=false->P p
theorem Abs(T:Txt K mg t):Binds K t.d_qk ["_law_cell"] []:=T.F_qk.binds (by walk_at "b1")
theorem Xf(T:Txt K mg t):FnOk P w K mg base (CX1 P w) 1 t.f_qk t.d_qk ["_law_cell"] (spOf K t.C_Book [false] .sh AdQ):=by
 refine T.F_qk.ok1 AfK (λvs H Q E h=>h.len) (λcdv A outer s H vs Q E hr h=>?_)
 have hu:=Dg hr
 have hu64:=hr.units
 refine⟨_,(@Bx _ _ _ (@Cu _ _ _ _ (@Cg _ _ _ _ _ _ _ (Bw K) (@Cr _ _ _ _ (@Bk _ _ _ _ _ _ _ Qs (@Bk _ _ _ _ _ _ _ Gq (@Bk _ _ _ _ _ _ _ Gq (@Bk _ _ _ _ _ _ _ Ca (@Qa _ _ _ _ _ _ (@Cr _ _ _ _ (@Bk _ _ _ _ _ _ _ Bd Bb)) (@Bq _ _ _ _ _ _ _ (@By _ _ _ _ _ (@Bk _ _ _ _ _ _ _ Bd Bb)) (@Abo _ _ _ _ _ _ _ (Xb Te Bd) (@Dw _ _ _ _ _ _ _ _ (Bu Aab (Xb Te Bd) (Bu Cs (Bu Df (pv 0) Bd) (Bu Li Bd Bd))) (@Bk _ _ _ _ _ _ _ Ca (@Qg _ _ _ _ _ _ _ Fs Bb))))))))))) (Bu Cs (pv 0) Bd) (λ_ _=>rfl)))),?_⟩
 try dsimp only [Cv,Ci]
 refine Dv h (by decide) (Fg (Ce (EF.eb (Cz 10 (Bc Rf (Bc Jm (Bc Jm (Bc Cl (Bc (EF.eu (Cz 1 (Bc Bf Be))) (Bc (Bz 1 (Bc Bf Be)) (Bc (Abu (λ_ _=>.int _) (EU.eb Bf)) (Bc (Fn (λ_ _ _=>.int _) (EU.eb (Abu (λ_ _=>.int _) (EU.eb Bf))) (EU.eb (Ch (λ_ _ _=>.int _) (EU.eb (Ch (λ_ _ _=>.int _) Bi (EU.eb Bf))) (EU.eb (Ch (λ_ _ _=>.int _) (EU.eb Bf) (EU.eb Bf)))))) (Bc Cl (Bc (EF.eu Rk) Be)))))))))))) (EU.eb (Ch (λ_ _ _=>.int _) Bi (EU.eb Bf))))) (λps P hp=>?_)
 clear h hu hu64 hr
 obtain⟨c,rfl,q⟩:=hp
 walk_at "s"
 ext
 walk_at "mb"
 obtain⟨p,h1,h2,h3⟩:=Ad5 c
 refine Fc h1 ?_
 exact q p h2 h3
def sgF(ns:List Int)(k:Nat):Int:=cM ns 0%10^29+(1+cM ns 1%100)*(k:Int)%101*(1+cM ns 1%10^27)
theorem Ln(ns:List Int)(k:Nat):0<=sgF ns k:=by
 unfold sgF
 have h1:=emod_nonneg (cM ns 0) (show (10:Int)^29≠0 by decide)
 have h2:=emod_nonneg ((1+cM ns 1%100)*(k:Int)) (show (101:Int)≠0 by decide)
 have h3:=emod_nonneg (cM ns 1) (show (10:Int)^27≠0 by decide)
 have h4:=Int.mul_nonneg h2 (show 0<=1+cM ns 1%10^27 by omega)
 omega
theorem Aby:∀m,m<100->∀d,d<101->0<d->((1+m)*d)%101≠0:=by decide +kernel
theorem Lb(ns:List Int){i j:Nat}(hi:i<101)(hj:j<101)(e:sgF ns i=sgF ns j):i=j:=by
 have key:∀i j:Nat,i<101->j<i->sgF ns i≠sgF ns j:=λi j hi hj e=>by
  unfold sgF at e
  obtain⟨m,hm⟩:=Int.eq_ofNat_of_zero_le (emod_nonneg (cM ns 1) (show (100:Int)≠0 by decide))
  have hm2:=Int.emod_lt_of_pos (cM ns 1) (show (0:Int)<100 by decide)
  have h3:=emod_nonneg (cM ns 1) (show (10:Int)^27≠0 by decide)
  rw[hm] at e hm2
  have e2:(1+(m:Int))*(i:Int)%101*(1+cM ns 1%10^27)=(1+(m:Int))*(j:Int)%101*(1+cM ns 1%10^27):=by omega
  have e3:=Int.eq_of_mul_eq_mul_right (show (1+cM ns 1%10^27)≠0 by omega) e2
  have e4:(((1+m)*i%101:Nat):Int)=(((1+m)*j%101:Nat):Int):=by
   rw[Int.natCast_emod,Int.natCast_emod,Int.natCast_mul,Int.natCast_mul,Int.natCast_add]
   exact e3
  have e5:=Nat.sub_mod_eq_zero_of_mod_eq (Int.ofNat.inj e4)
  rw[<- Nat.mul_sub] at e5
  exact Aby m (by omega) (i - j) (by omega) (by omega) e5
 rcases Nat.lt_trichotomy i j with z | z | z
 ·exact absurd e.symm (key j i hj z)
 ·exact z
 ·exact absurd e (key i j hi z)
def Ade:PSp:=λps P=>∃ns k,ps=[.scr ns,.int (k:Nat)]/\ns.length<=63/\k<101/\P (.int (sgF ns k))
theorem Dh(T:Txt K mg t):Binds K t.d_qbc ["_law_script","_law_k"] []:=T.F_qbc.binds (by walk_at "b2")
theorem Dd(T:Txt K mg t):FnOk P w K mg base (CX1 P w) 2 t.f_qbc t.d_qbc ["_law_script","_law_k"] (spOf K t.C_Book [false,false] .sh Ade):=by
 refine T.F_qbc.ok1 sc_qbc (λvs H Q E h=>h.len) (λcdv A outer s H vs Q E hr h=>?_)
 have hu:=Dg hr
 have hu64:=hr.units
 refine⟨_,(Bh (Cb (i:=2) sc_qbc.nd rfl (Or.inl rfl) (Bu Cs (Bl (Lo T) (hr.mono (by decide)) rfl T.m_qj T.F_qj.kp (Ql T) .nil Bs (Ba (pv 0) (Ba Bd Bb))) (Bu Li Bd Bd)))
   (Bh (Cb (i:=3) sc_qbc.nd rfl (Or.inl rfl) (Bu Gb Bd (Bu Cs (Bl (Lo T) (hr.mono (by decide)) rfl T.m_qj T.F_qj.kp (Ql T) .nil Bs (Ba (pv 0) (Ba Bd Bb))) (Bu Li Bd Bd))))
   (Bx (Cu (Bu Gb (pv 2) (Bu Lh (Bu Cs (Bu Lh (Bu Gb Bd (Bu Cs (Bl (Lo T) (hr.mono (by decide)) rfl T.m_qj T.F_qj.kp (Ql T) .nil Bs (Ba (pv 0) (Ba Bd Bb))) Bd)) (pv 1)) Bd) (pv 3))))))),?_⟩
 try dsimp only [Cv,Ci]
 refine Dv h (by decide) (Bv (Cq (Ch (λ_ _ _=>.int _) (EU.eb (Cd (Br Bi (Br (EU.eb Bf) Be)))) (EU.eb (Ch (λ_ _ _=>.int _) (EU.eb Bf) (EU.eb Bf)))))
   (Bv (Cq (Fn (λ_ _ _=>.int _) (EU.eb Bf) (EU.eb (Ch (λ_ _ _=>.int _) (EU.eb (Cd (Br Bi (Br (EU.eb Bf) Be)))) (EU.eb (Ch (λ_ _ _=>.int _) (EU.eb Bf) (EU.eb Bf)))))))
   (Fg (Fn (λ_ _ _=>.int _) Bi (EU.eb (Ch (λ_ _ _=>.int _) (EU.eb (Ch (λ_ _ _=>.int _) (EU.eb (Ch (λ_ _ _=>.int _) (EU.eb (Fn (λ_ _ _=>.int _) (EU.eb Bf) (EU.eb (Ch (λ_ _ _=>.int _) (EU.eb (Cd (Br Bi (Br (EU.eb Bf) Be)))) (EU.eb Bf))))) Bi)) (EU.eb Bf))) Bi)))))) (λps P hp=>?_)
 clear h hu hu64 hr
 obtain⟨ns,k,rfl,hl,hk,q⟩:=hp
 walk_at "s"
 unfold sgF at q
 ext
 refine⟨ns,0,rfl,hl,?_⟩
 ext
 refine⟨ns,1,rfl,hl,?_⟩
 ext
 refine⟨ns,1,rfl,hl,?_⟩
 ext
 all_goals try (first | decide | exact⟨by decide,by decide,by decide⟩ | (show CMul _ _;first | exact .inl ⟨by omega,by omega⟩ | exact .inr ⟨by omega,by omega⟩))
 exact q
abbrev T4:=Nat×Str×Int
abbrev M4:=Nat×Nat
abbrev J4:=Nat×Nat×Nat
def tS(ns:List Int)(x:T4):Sg:=(sgF ns x.1,x.2.1,x.2.2)
def mS(ns:List Int)(x:M4):Int×Int:=(sgF ns x.1,sgF ns x.2)
def jS(ns:List Int)(x:J4):Jn:=(sgF ns x.1,sgF ns x.2.1,sgF ns x.2.2)
def usM(M:List M4):List Nat:=M.flatMap λm=>[m.1,m.2]
def usJ(J:List J4):List Nat:=J.flatMap λj=>[j.1,j.2.1]
def enK:List Str:=["forein","backin","out"]
structure I4(n:Nat)(T:List T4)(M:List M4)(J:List J4):Prop where
 nd:(T.map (·.1)++(usM M++usJ J)).Nodup
 lt:∀x∈T.map (·.1)++(usM M++usJ J),x<n
 ok:∀x∈T,x.2.1∈toldK/\Jf x.2.1 x.2.2
 mr:∀j∈J,j.2.2=1\/j.2.2=3
 t0:((0,"fore",0):T4)∈T
 t1:((1,"mark",1):T4)∈T
 t2:((2,"back",0):T4)∈T
 t3:∃r,((3,"mark",r):T4)∈T
 t8:∃k:Str,k∈enK/\((8,k,0):T4)∈T/\((9,k,0):T4)∈T
 m0:M[0]? = some (4,5)
 j0:J[0]? = some (6,7,1)
 ln:T.length+M.length+J.length<=n
theorem Yq{A B C:List Nat}(h:(A++B).Nodup)(hc:C.Nodup)(hd:∀c∈C,∀x∈A++B,x≠c):(A++C++B).Nodup:=by
 obtain⟨h1,h2,h3⟩:=nodup_append.mp h
 refine nodup_append.mpr ⟨nodup_append.mpr ⟨h1,hc,λx hx y hy=>hd y hy x (mem_append_left _ hx)⟩,h2,λx hx y hy=>?_⟩
 rcases mem_append.mp hx with hx | hx
 ·exact h3 x hx y hy
 ·exact λz=>hd x hx y (mem_append_right _ hy) z.symm
theorem Vb(a b:List M4):usM (a++b)=usM a++usM b:=by unfold usM;rw[List.flatMap_append]
theorem Uz(a b:List J4):usJ (a++b)=usJ a++usJ b:=by unfold usJ;rw[List.flatMap_append]
theorem I4.addT{n:Nat}{T:List T4}{M:List M4}{J:List J4}(h:I4 n T M J){k:Str}{r:Int}(hk:k∈toldK)(hr:Jf k r):I4 (n+2) (T++[(n,k,r)]) M J where
 nd:=by
  rw[map_append]
  exact Yq h.nd (by simp) λc hc x hx=>by have:=h.lt x hx;rw[mem_singleton.mp hc];exact ne_of_lt this
 lt:=λx hx=>by
  rw[map_append,append_assoc,mem_append] at hx
  rcases hx with hx | hx
  ·have:=h.lt x (mem_append_left _ hx);omega
  ·rcases mem_append.mp hx with hx | hx
   ·rw[mem_singleton.mp hx];show n<n+2;omega
   ·have:=h.lt x (mem_append_right _ hx);omega
 ok:=λx hx=>by
  rcases mem_append.mp hx with hx | hx
  ·exact h.ok x hx
  ·rw[mem_singleton.mp hx];exact⟨hk,hr⟩
 mr:=h.mr
 t0:=mem_append_left _ h.t0
 t1:=mem_append_left _ h.t1
 t2:=mem_append_left _ h.t2
 t3:=let ⟨r,hr⟩:=h.t3;⟨r,mem_append_left _ hr⟩
 t8:=let ⟨k,h1,h2,h3⟩:=h.t8;⟨k,h1,mem_append_left _ h2,mem_append_left _ h3⟩
 m0:=h.m0
 j0:=h.j0
 ln:=by have:=h.ln;rw[length_append];show T.length+1+_+_<=_;omega
theorem I4.addM{n:Nat}{T:List T4}{M:List M4}{J:List J4}(h:I4 n T M J):I4 (n+2) T (M++[(n,n+1)]) J where
 nd:=by
  rw[Vb,<- append_assoc,<- append_assoc]
  exact Yq (C:=usM [(n,n+1)]) (by rw[append_assoc];exact h.nd) (by show [n,n+1].Nodup;simp) λc hc x hx=>by
   rw[append_assoc] at hx
   have:=h.lt x hx
   have hc:c∈[n,n+1]:=hc
   simp only [mem_cons,not_mem_nil,or_false] at hc
   omega
 lt:=λx hx=>by
  rw[Vb] at hx
  rcases mem_append.mp hx with hx | hx
  ·have:=h.lt x (mem_append_left _ hx);omega
  ·rcases mem_append.mp hx with hx | hx
   ·rcases mem_append.mp hx with hx | hx
    ·have:=h.lt x (mem_append_right _ (mem_append_left _ hx));omega
    ·have hx:x∈[n,n+1]:=hx
     simp only [mem_cons,not_mem_nil,or_false] at hx
     omega
   ·have:=h.lt x (mem_append_right _ (mem_append_right _ hx));omega
 ok:=h.ok
 mr:=h.mr
 t0:=h.t0
 t1:=h.t1
 t2:=h.t2
 t3:=h.t3
 t8:=h.t8
 m0:=by rw[getElem?_append_left (List.getElem?_eq_some_iff.mp h.m0).1];exact h.m0
 j0:=h.j0
 ln:=by have:=h.ln;rw[length_append];show _+(M.length+1)+_<=_;omega
theorem I4.addJ{n:Nat}{T:List T4}{M:List M4}{J:List J4}(h:I4 n T M J){m:Nat}(hm:m=1\/m=3):I4 (n+2) T M (J++[(n,n+1,m)]) where
 nd:=by
  rw[Uz,<- append_assoc,<- append_assoc]
  refine nodup_append.mpr ⟨by rw[append_assoc];exact h.nd,by show [n,n+1].Nodup;simp,λx hx y hy=>?_⟩
  rw[append_assoc] at hx
  have:=h.lt x hx
  have hy:y∈[n,n+1]:=hy
  simp only [mem_cons,not_mem_nil,or_false] at hy
  omega
 lt:=λx hx=>by
  rw[Uz] at hx
  rcases mem_append.mp hx with hx | hx
  ·have:=h.lt x (mem_append_left _ hx);omega
  ·rcases mem_append.mp hx with hx | hx
   ·have:=h.lt x (mem_append_right _ (mem_append_left _ hx));omega
   ·rcases mem_append.mp hx with hx | hx
    ·have:=h.lt x (mem_append_right _ (mem_append_right _ hx));omega
    ·have hx:x∈[n,n+1]:=hx
     simp only [mem_cons,not_mem_nil,or_false] at hx
     omega
 ok:=h.ok
 mr:=λj hj=>by
  rcases mem_append.mp hj with hj | hj
  ·exact h.mr j hj
  ·rw[mem_singleton.mp hj];exact hm
 t0:=h.t0
 t1:=h.t1
 t2:=h.t2
 t3:=h.t3
 t8:=h.t8
 m0:=h.m0
 j0:=by rw[getElem?_append_left (List.getElem?_eq_some_iff.mp h.j0).1];exact h.j0
 ln:=by have:=h.ln;rw[length_append];show _+_+(J.length+1)<=_;omega
theorem I4.mono{n m:Nat}{T:List T4}{M:List M4}{J:List J4}(h:I4 n T M J)(hm:n<=m):I4 m T M J:={ h with lt:=λx hx=>Nat.lt_of_lt_of_le (h.lt x hx) hm,ln:=Nat.le_trans h.ln hm }
theorem I4.init{kd:Str}{rr:Int}(hk:kd∈enK)(hr:1<=rr):I4 10 [(0,"fore",0),(1,"mark",1),(2,"back",0),(3,"mark",rr),(8,kd,0),(9,kd,0)] [(4,5)] [(6,7,1)] where
 nd:=by show [0,1,2,3,8,9,4,5,6,7].Nodup;decide
 lt:=by show ∀x∈[0,1,2,3,8,9,4,5,6,7],x<10;decide
 ok:=λx hx=>by
  have hk2:kd∈toldK/\¬kd="mark":=(by decide +kernel:∀k∈enK,k∈toldK/\¬k="mark") kd hk
  simp only [mem_cons,not_mem_nil,or_false] at hx
  rcases hx with rfl | rfl | rfl | rfl | rfl | rfl
  ·exact⟨by decide +kernel,.inr ⟨by decide +kernel,rfl⟩⟩
  ·exact⟨by decide +kernel,.inl ⟨rfl,by decide⟩⟩
  ·exact⟨by decide +kernel,.inr ⟨by decide +kernel,rfl⟩⟩
  ·exact⟨(show ("mark" : Str)∈toldK by decide +kernel),.inl ⟨rfl,hr⟩⟩
  ·exact⟨hk2.1,.inr ⟨hk2.2,rfl⟩⟩
  ·exact⟨hk2.1,.inr ⟨hk2.2,rfl⟩⟩
 mr:=λj hj=>by rw[mem_singleton.mp hj];exact .inl rfl
 t0:=by simp
 t1:=by simp
 t2:=by simp
 t3:=⟨rr,by simp⟩
 t8:=⟨kd,hk,by simp,by simp⟩
 m0:=rfl
 j0:=rfl
 ln:=by show 6+1+1<=10;decide
def Adc:PSp:=λps P=>∃ns,ps=[.scr ns]/\ns.length<=63/\∀(T:List T4) (M:List M4) (J:List J4),I4 98 T M J->P (.lst [.lst (T.map λx=>sgP (tS ns x)),.lst (M.map λx=>prP (mS ns x)),.lst (J.map λx=>jnP (jS ns x))])
theorem AfE(T:Txt K mg t):Binds K t.d_qba ["_law_script"] []:=T.F_qba.binds (by walk_at "b1")
theorem AeM(T:Txt K mg t):FnOk P w K mg base (CX1 P w) 3 t.f_qba t.d_qba ["_law_script"] (spOf K t.C_Book [false] .fr Adc):=by
 refine T.F_qba.ok1 sc_qba (λvs H Q E h=>h.len) (λcdv A outer s H vs Q E hr h=>?_)
 have hu:=Dg hr
 have hu64:=hr.units
 refine⟨_,(@Bh _ _ _ _ _ (@Cb _ _ 1 _ _ _ _ sc_qba.nd rfl (Or.inl rfl) (@Cr _ _ _ _ (@Bq _ _ _ _ _ _ _ (@By _ _ _ _ _ (@Ba _ _ _ _ _ (Bl (Dd T) (hr.mono (by decide)) rfl T.m_qbc T.F_qbc.kp (Dh T) .nil Bs (@Bg _ _ _ _ _ _ (pv 0) (@Bk _ _ _ _ _ _ _ Bd Bb))) (@Bk _ _ _ _ _ _ _ Ca (@Bk _ _ _ _ _ _ _ Bd Bb)) rfl)) (@Bq _ _ _ _ _ _ _ (@By _ _ _ _ _ (@Ba _ _ _ _ _ (Bl (Dd T) (hr.mono (by decide)) rfl T.m_qbc T.F_qbc.kp (Dh T) .nil Bs (@Bg _ _ _ _ _ _ (pv 0) (@Bk _ _ _ _ _ _ _ Bd Bb))) (@Bk _ _ _ _ _ _ _ Ca (@Bk _ _ _ _ _ _ _ Bd Bb)) rfl)) Bb))) rfl (by first | exact .inl rfl | exact .inr rfl))
   (@Bh _ _ _ _ _ (Cf (Dr plainAttrs_list PySem.F.slot_list_append PySem.F.type_list_append Ct (pv 1) (@Bq _ _ _ _ _ _ _ (@By _ _ _ _ _ (@Ba _ _ _ _ _ (Bl (Dd T) (hr.mono (by decide)) rfl T.m_qbc T.F_qbc.kp (Dh T) .nil Bs (@Bg _ _ _ _ _ _ (pv 0) (@Bk _ _ _ _ _ _ _ Bd Bb))) (@Bk _ _ _ _ _ _ _ Ca (@Bk _ _ _ _ _ _ _ Bd Bb)) rfl)) Bb)))
   (@Bh _ _ _ _ _ (Cf (Dr plainAttrs_list PySem.F.slot_list_append PySem.F.type_list_append Ct (pv 1) (@Bq _ _ _ _ _ _ _ (@By _ _ _ _ _ (@Ba _ _ _ _ _ (Bl (Dd T) (hr.mono (by decide)) rfl T.m_qbc T.F_qbc.kp (Dh T) .nil Bs (@Bg _ _ _ _ _ _ (pv 0) (@Bk _ _ _ _ _ _ _ Bd Bb))) (@Bk _ _ _ _ _ _ _ Ca (@Dw _ _ _ _ _ _ _ _ (Bu Gb Bd (Bu Cs (Bl (Lo T) (hr.mono (by decide)) rfl T.m_qj T.F_qj.kp (Ql T) .nil Bs (@Bg _ _ _ _ _ _ (pv 0) (@Bk _ _ _ _ _ _ _ Bd Bb))) (Bu Li Bd Bd))) Bb)) rfl)) Bb)))
   (@Bh _ _ _ _ _ (@Cb _ _ 2 _ _ _ _ sc_qba.nd rfl (Or.inl rfl) (@Cg _ _ _ _ _ _ _ (Bw K) (@Cr _ _ _ _ (@Bk _ _ _ _ _ _ _ Ca (@Bk _ _ _ _ _ _ _ Ca (@Bk _ _ _ _ _ _ _ Ca Bb)))) (Bu Cs (Bl (Lo T) (hr.mono (by decide)) rfl T.m_qj T.F_qj.kp (Ql T) .nil Bs (@Bg _ _ _ _ _ _ (pv 0) (@Bk _ _ _ _ _ _ _ Bd Bb))) Bd) (λ_ _=>rfl)) rfl (by first | exact .inl rfl | exact .inr rfl))
   (@Bh _ _ _ _ _ (@Cb _ _ 1 _ _ _ _ sc_qba.nd rfl (Or.inl rfl) (Bu Gg (pv 1) (@Cr _ _ _ _ (@Bq _ _ _ _ _ _ _ (@By _ _ _ _ _ (@Ba _ _ _ _ _ (Bl (Dd T) (hr.mono (by decide)) rfl T.m_qbc T.F_qbc.kp (Dh T) .nil Bs (@Bg _ _ _ _ _ _ (pv 0) (@Bk _ _ _ _ _ _ _ Bd Bb))) (@Bg _ _ _ _ _ _ (pv 2) (@Bk _ _ _ _ _ _ _ Bd Bb)) rfl)) (@Bq _ _ _ _ _ _ _ (@By _ _ _ _ _ (@Ba _ _ _ _ _ (Bl (Dd T) (hr.mono (by decide)) rfl T.m_qbc T.F_qbc.kp (Dh T) .nil Bs (@Bg _ _ _ _ _ _ (pv 0) (@Bk _ _ _ _ _ _ _ Bd Bb))) (@Bg _ _ _ _ _ _ (pv 2) (@Bk _ _ _ _ _ _ _ Bd Bb)) rfl)) Bb)))) rfl (by first | exact .inl rfl | exact .inr rfl))
   (@Bh _ _ _ _ _ (@Cb _ _ 3 _ _ _ _ sc_qba.nd rfl (Or.inl rfl) (@Cr _ _ _ _ (@Bq _ _ _ _ _ _ _ (@By _ _ _ _ _ (@Ba _ _ _ _ _ (Bl (Dd T) (hr.mono (by decide)) rfl T.m_qbc T.F_qbc.kp (Dh T) .nil Bs (@Bg _ _ _ _ _ _ (pv 0) (@Bk _ _ _ _ _ _ _ Bd Bb))) (@Ba _ _ _ _ _ (Bl (Dd T) (hr.mono (by decide)) rfl T.m_qbc T.F_qbc.kp (Dh T) .nil Bs (@Bg _ _ _ _ _ _ (pv 0) (@Bk _ _ _ _ _ _ _ Bd Bb))) Bb rfl) rfl)) Bb)) rfl (by first | exact .inl rfl | exact .inr rfl))
   (@Bh _ _ _ _ _ (@Cb _ _ 4 _ _ _ _ sc_qba.nd rfl (Or.inl rfl) (@Cr _ _ _ _ (@Bq _ _ _ _ _ _ _ (@By _ _ _ _ _ (@Ba _ _ _ _ _ (Bl (Dd T) (hr.mono (by decide)) rfl T.m_qbc T.F_qbc.kp (Dh T) .nil Bs (@Bg _ _ _ _ _ _ (pv 0) (@Bk _ _ _ _ _ _ _ Bd Bb))) (@Ba _ _ _ _ _ (Bl (Dd T) (hr.mono (by decide)) rfl T.m_qbc T.F_qbc.kp (Dh T) .nil Bs (@Bg _ _ _ _ _ _ (pv 0) (@Bk _ _ _ _ _ _ _ Bd Bb))) (@Ba _ _ _ _ _ (Bl (Dd T) (hr.mono (by decide)) rfl T.m_qbc T.F_qbc.kp (Dh T) .nil Bs (@Bg _ _ _ _ _ _ (pv 0) (@Bk _ _ _ _ _ _ _ Bd Bb))) Bb rfl) rfl) rfl)) Bb)) rfl (by first | exact .inl rfl | exact .inr rfl))
   (@Bh _ _ _ _ _ (@Fe _ _ _ _ _ _ _ _ PassesOwn.leaving rfl (Zw rfl T.z_range (@Bk _ _ _ _ _ _ _ Bd (@Ba _ _ _ _ _ (Cw (Yc rfl) rfl T.z_min PyProof.Rows.boot_min (@Ba _ _ _ _ _ (Cw (Dl K) rfl T.z_len PySem.boot_len (@Bg _ _ _ _ _ _ (pv 0) Bb)) (@Bk _ _ _ _ _ _ _ Bd Bb) rfl)) Bb rfl))) (Cm (i:=5) sc_qba.nd rfl (Or.inl rfl))
    (@Bh _ _ _ _ _ (Cb (i:=6) sc_qba.nd rfl (Or.inl rfl) (Bl (Lo T) (hr.mono (by decide)) rfl T.m_qj T.F_qj.kp (Ql T) .nil Bs (@Bg _ _ _ _ _ _ (pv 0) (@Bg _ _ _ _ _ _ (pv 5) Bb))))
   (@Bh _ _ _ _ _ (Cb (i:=7) sc_qba.nd rfl (Or.inl rfl) (Bl (Dd T) (hr.mono (by decide)) rfl T.m_qbc T.F_qbc.kp (Dh T) .nil Bs (@Bg _ _ _ _ _ _ (pv 0) (@Dw _ _ _ _ _ _ _ _ (Bu Lh Bd (pv 5)) Bb))))
   (@Bx _ _ _ (Ga (Go Ab6 (Bu Cs (pv 6) Bd) Bd (Dm _))
    (@Bh _ _ _ _ _ (@Cb _ _ 2 _ _ _ _ sc_qba.nd rfl (Or.inl rfl) (@Cg _ _ _ _ _ _ _ (Bw K) (@Cr _ _ _ _ (@Bk _ _ _ _ _ _ _ Ca (@Bk _ _ _ _ _ _ _ Ca (@Bk _ _ _ _ _ _ _ Ca (@Bk _ _ _ _ _ _ _ Ca (@Bk _ _ _ _ _ _ _ Ca (@Bk _ _ _ _ _ _ _ Ca (@Bk _ _ _ _ _ _ _ Ca (@Bk _ _ _ _ _ _ _ Ca Bb))))))))) (Bu Cs (pv 6) Bd) (λ_ _=>rfl)) rfl (by first | exact .inl rfl | exact .inr rfl))
   (@Bx _ _ _ (Cf (Dr plainAttrs_list PySem.F.slot_list_append PySem.F.type_list_append Ct (pv 1) (@Bq _ _ _ _ _ _ _ (@By _ _ _ _ _ (@Bg _ _ _ _ _ _ (pv 7) (@Bg _ _ _ _ _ _ (pv 2) (@Dw _ _ _ _ _ _ _ _ (Bu Lh (Nq Aap rfl T.z_int boot_int (@Ba _ _ _ _ _ (Dy Gp (pv 2) Ca (Dm _)) Bb rfl)) (Bu Gb Bd (Bu Cs (Bu Df (pv 6) Bd) Bd))) Bb)))) Bb)))))
    (@Bx _ _ _ (Ga (Go Gp (Bu Cs (pv 6) Bd) Bd (Dm _))
    (@Bx _ _ _ (Cf (Dr plainAttrs_list PySem.F.slot_list_append PySem.F.type_list_append Ct (pv 3) (@Bq _ _ _ _ _ _ _ (@By _ _ _ _ _ (@Bg _ _ _ _ _ _ (pv 7) (@Ba _ _ _ _ _ (Bl (Dd T) (hr.mono (by decide)) rfl T.m_qbc T.F_qbc.kp (Dh T) .nil Bs (@Bg _ _ _ _ _ _ (pv 0) (@Dw _ _ _ _ _ _ _ _ (Bu Gb (Bu Lh Bd (pv 5)) Bd) Bb))) Bb rfl))) Bb))))
    (@Bh _ _ _ _ _ (@Cb _ _ 8 _ _ _ _ sc_qba.nd rfl (Or.inl rfl) (Bl (Dd T) (hr.mono (by decide)) rfl T.m_qbc T.F_qbc.kp (Dh T) .nil Bs (@Bg _ _ _ _ _ _ (pv 0) (@Ba _ _ _ _ _ (@Cg _ _ _ _ _ _ _ (Bw K) (@Cr _ _ _ _ (@Bk _ _ _ _ _ _ _ Bd (@Bk _ _ _ _ _ _ _ Bd Bb))) (Bu Cs (pv 6) Bd) (λ_ _=>rfl)) Bb rfl))) rfl (by first | exact .inl rfl | exact .inr rfl))
   (@Bx _ _ _ (Cf (Dr plainAttrs_list PySem.F.slot_list_append PySem.F.type_list_append Ct (pv 4) (@Bq _ _ _ _ _ _ _ (@By _ _ _ _ _ (@Bg _ _ _ _ _ _ (pv 7) (@Ba _ _ _ _ _ (Bl (Dd T) (hr.mono (by decide)) rfl T.m_qbc T.F_qbc.kp (Dh T) .nil Bs (@Bg _ _ _ _ _ _ (pv 0) (@Dw _ _ _ _ _ _ _ _ (Bu Gb (Bu Lh Bd (pv 5)) Bd) Bb))) (@Bg _ _ _ _ _ _ (pv 8) Bb) rfl))) Bb))))))))))) (λ_=>rfl))
   (@Bx _ _ _ (@Cu _ _ _ _ (@Cr _ _ _ _ (@Bg _ _ _ _ _ _ (pv 1) (@Bg _ _ _ _ _ _ (pv 3) (@Bg _ _ _ _ _ _ (pv 4) Bb)))))))))))))),?_⟩
 try dsimp only [Cv,Ci]
 refine Dv h (by decide) (Bv (Dq (Cz 2 (Bc (Bz 3 (Bc (Cd (Br Bi (Br (EU.eb Bf) Be))) (Bc Cl (Bc Bf Be)))) (Bc (Bz 3 (Bc (Cd (Br Bi (Br (EU.eb Bf) Be))) (Bc Cl (Bc Bf Be)))) Be))))
   (Bv (Dk (Bc (Bz 3 (Bc (Cd (Br Bi (Br (EU.eb Bf) Be))) (Bc Cl (Bc Bf Be)))) Be))
   (Bv (Dk (Bc (Bz 3 (Bc (Cd (Br Bi (Br (EU.eb Bf) Be))) (Bc Cl (Bc (Fn (λ_ _ _=>.int _) (EU.eb Bf) (EU.eb (Ch (λ_ _ _=>.int _) (EU.eb (Cd (Br Bi (Br (EU.eb Bf) Be)))) (EU.eb (Ch (λ_ _ _=>.int _) (EU.eb Bf) (EU.eb Bf)))))) Be)))) Be))
   (Bv (Cq (Ce (EF.eb (Cz 3 (Bc Cl (Bc Cl (Bc Cl Be))))) (EU.eb (Ch (λ_ _ _=>.int _) (EU.eb (Cd (Br Bi (Br (EU.eb Bf) Be)))) (EU.eb Bf)))))
   (Bv (Dq (Jh Bi (EF.eb (Cz 2 (Bc (Bz 3 (Bc (Cd (Br Bi (Br (EU.eb Bf) Be))) (Bc Bm (Bc Bf Be)))) (Bc (Bz 3 (Bc (Cd (Br Bi (Br (EU.eb Bf) Be))) (Bc Bm (Bc Bf Be)))) Be))))))
   (Bv (Dq (Cz 1 (Bc (Bz 2 (Bc (Cd (Br Bi (Br (EU.eb Bf) Be))) (Bc (Cd (Br Bi (Br (EU.eb Bf) Be))) Be))) Be)))
   (Bv (Dq (Cz 1 (Bc (Bz 3 (Bc (Cd (Br Bi (Br (EU.eb Bf) Be))) (Bc (Cd (Br Bi (Br (EU.eb Bf) Be))) (Bc (Cd (Br Bi (Br (EU.eb Bf) Be))) Be)))) Be)))
   (Bv (Ado (Br (EU.eb Bf) (Br (EU.eb (AeL (Br (EU.eb (Je (Br Bi Be))) (Br (EU.eb Bf) Be)))) Be)) (Fy (top:=9))
    (Bv (Cq (Cd (Br Bi (Br Bi Be))))
   (Bv (Cq (Cd (Br Bi (Br (EU.eb (Ch (λ_ _ _=>.int _) (EU.eb Bf) Bi)) Be))))
   (Ly (Ri (EU.eb (Fn (λ_ _ _=>.bl _) (EU.eb (Ch (λ_ _ _=>.int _) Bi (EU.eb Bf))) (EU.eb Bf))))
    (Bv (Cq (Ce (EF.eb (Cz 8 (Bc Cl (Bc Cl (Bc Cl (Bc Cl (Bc Cl (Bc Cl (Bc Cl (Bc Cl Be)))))))))) (EU.eb (Ch (λ_ _ _=>.int _) Bi (EU.eb Bf)))))
   (Dk (Bc (Bz 3 (Bc Bm (Bc Bm (Bc (Ch (λ_ _ _=>.int _) (EU.eb (Adm (Br (EU.eb (Qx Bi (EU.eb Cl))) Be))) (EU.eb (Fn (λ_ _ _=>.int _) (EU.eb Bf) (EU.eb (Ch (λ_ _ _=>.int _) (EU.eb (Ch (λ_ _ _=>.int _) Bi (EU.eb Bf))) (EU.eb Bf)))))) Be)))) Be)))
    (Ly (Ri (EU.eb (Qx (EU.eb (Ch (λ_ _ _=>.int _) Bi (EU.eb Bf))) (EU.eb Bf))))
    (Dk (Bc (Bz 2 (Bc Bm (Bc (Cd (Br Bi (Br (EU.eb (Fn (λ_ _ _=>.int _) (EU.eb (Ch (λ_ _ _=>.int _) (EU.eb Bf) Bi)) (EU.eb Bf))) Be))) Be))) Be))
    (Bv (Cq (Cd (Br Bi (Br (EU.eb (Ce (EF.eb (Cz 2 (Bc Bf (Bc Bf Be)))) (EU.eb (Ch (λ_ _ _=>.int _) Bi (EU.eb Bf))))) Be))))
   (Dk (Bc (Bz 3 (Bc Bm (Bc (Cd (Br Bi (Br (EU.eb (Fn (λ_ _ _=>.int _) (EU.eb (Ch (λ_ _ _=>.int _) (EU.eb Bf) Bi)) (EU.eb Bf))) Be))) (Bc Bm Be)))) Be))))))))
   (Qi 1 (Qi 3 (Qi 4 (AdA (Cz 3 (Bc Bm (Bc Bm (Bc Bm Be)))))))))))))))) (λps P hp=>?_)
 clear h hu hu64 hr
 obtain⟨ns,rfl,hl,q⟩:=hp
 walk_at "s"
 ext
 refine⟨ns,0,rfl,hl,by decide,?_⟩
 ext
 refine⟨ns,1,rfl,hl,by decide,?_⟩
 ext
 refine⟨ns,2,rfl,hl,by decide,?_⟩
 ext
 all_goals try decide
 refine⟨ns,3,rfl,hl,by decide,?_⟩
 ext
 refine⟨ns,4,rfl,hl,?_⟩
 ext
 walk_at "mb"
 refine⟨ns,4,rfl,hl,?_⟩
 ext
 walk_at "mb"
 have r0:1<=1+cM ns 4%10^toNat 29:=by have:=emod_nonneg (cM ns 4) (show (10:Int)^toNat 29≠0 by decide);omega
 generalize 1+cM ns 4%10^toNat 29=rr at r0
 obtain⟨kd,hkd,hix⟩:∃k:Str,k∈enK/\atI [PV.str "forein",.str "backin",.str "out"] (cM ns 4%3)=some (.str k):=by
  rcases (by omega:cM ns 4%3=0\/cM ns 4%3=1\/cM ns 4%3=2) with e | e | e <;> rw[e]
  ·exact⟨"forein",by decide +kernel,rfl⟩
  ·exact⟨"backin",by decide +kernel,rfl⟩
  ·exact⟨"out",by decide +kernel,rfl⟩
 refine Fc hix ?_
 ext
 refine⟨ns,8,rfl,hl,by decide,?_⟩
 ext
 refine⟨ns,9,rfl,hl,by decide,?_⟩
 ext
 all_goals try decide
 refine⟨ns,4,rfl,hl,by decide,?_⟩
 ext
 refine⟨ns,5,rfl,hl,by decide,?_⟩
 ext
 refine⟨ns,6,rfl,hl,by decide,?_⟩
 ext
 refine⟨ns,7,rfl,hl,by decide,?_⟩
 ext
 refine⟨ns,1,rfl,hl,by decide,?_⟩
 ext
 all_goals try (first | (split <;> omega) | (refine⟨by decide,by decide,?_,?_⟩ <;> split <;> omega) | (show _+_<=_;decide) | decide)
 obtain⟨nn,en,hn⟩:∃nn:Nat,((if 43<(ns.length:Int) then (43:Int) else (ns.length:Int)) - 5).toNat=nn/\nn<=38:=⟨_,rfl,by split <;> omega⟩
 rw[en]
 refine⟨λi ρ=>∃(T:List T4) (M:List M4) (J:List J4) (v2 v5 v6 v7 v8:Sl),I4 (10+2*i) T M J/\ρ=[.bo (.scr ns),.ow (.lst (T.map λx=>sgP (tS ns x))),v2,.ow (.lst (M.map λx=>prP (mS ns x))),.ow (.lst (J.map λx=>jnP (jS ns x))),v5,v6,v7,v8],⟨_,_,_,_,_,_,_,_,I4.init hkd r0,rfl⟩,?_,?_⟩
 ·rintro i ρ hi ⟨T4',M4',J4',v2,v5,v6,v7,v8,I,rfl⟩
  have hi':i<38:=by omega
  ext
  refine⟨ns,5+i,by rw[show (5:Int)+(i:Int)=((5+i:Nat):Int) by omega],hl,?_⟩
  ext
  refine⟨ns,10+2*i,by rw[show (2:Int)*(5+(i:Int))=((10+2*i:Nat):Int) by omega],hl,by omega,?_⟩
  ext
  all_goals try (first | decide | exact .inl ⟨by decide,by decide⟩ | (show CMul _ _;exact .inl ⟨by omega,by omega⟩))
  generalize cM ns (5+i)=c
  have ln:=I.ln
  by_cases h1:c%11<8
  ·rw[decide_eq_true h1]
   ext
   all_goals try decide
   obtain⟨kk,hkk,hix⟩:∃k:Str,k∈toldK/\atI [PV.str "fore",.str "back",.str "num",.str "blank",.str "mark",.str "forein",.str "backin",.str "out"] (c%11)=some (.str k):=by
    rcases (by omega:c%11=0\/c%11=1\/c%11=2\/c%11=3\/c%11=4\/c%11=5\/c%11=6\/c%11=7) with e | e | e | e | e | e | e | e <;> rw[e]
    all_goals exact⟨_,by decide +kernel,rfl⟩
   refine Fc hix ?_
   have hrk:Jf kk ((if decide (kk="mark")=true then (1:Int) else 0)*(1+c / 11%9)):=by
    have g1:=emod_nonneg (c / 11) (show (9:Int)≠0 by decide)
    by_cases z:kk="mark"
    ·rw[decide_eq_true z,if_pos rfl,Int.one_mul];exact .inl ⟨z,by omega⟩
    ·rw[decide_eq_false z,if_neg (by decide),Int.zero_mul];exact .inr ⟨z,rfl⟩
   ext
   all_goals try (first | decide | exact⟨by decide,by decide⟩ | (rw[length_map];omega))
   all_goals try (by_cases z:kk="mark";(rw[decide_eq_true z];exact .inl ⟨by decide,by decide⟩);(rw[decide_eq_false z];exact .inl ⟨by decide,by decide⟩);done)
   exact⟨T4'++[(10+2*i,kk,(if decide (kk="mark")=true then (1:Int) else 0)*(1+c / 11%9))],M4',J4',_,_,_,_,_,I.addT hkk hrk,by rw[map_append];rfl⟩
  rw[decide_eq_false h1]
  ext
  all_goals try decide
  by_cases h2:c%11=8
  ·rw[decide_eq_true h2]
   ext
   all_goals try (first | decide | (show CMul _ _;exact .inl ⟨by omega,by omega⟩))
   refine⟨ns,10+2*i+1,by rw[show (2:Int)*(5+(i:Int))+1=((10+2*i+1:Nat):Int) by omega],hl,by omega,?_⟩
   ext
   all_goals try (first | decide | (rw[length_map];omega))
   exact⟨T4',M4'++[(10+2*i,10+2*i+1)],J4',_,_,_,_,_,I.addM,by rw[map_append];rfl⟩
  rw[decide_eq_false h2]
  ext
  all_goals try decide
  obtain⟨m,hm,hix⟩:∃m:Nat,(m=1\/m=3)/\atI [PV.int 1,.int 3] (c%2)=some (.int (m:Int)):=by
   rcases (by omega:c%2=0\/c%2=1) with e | e <;> rw[e]
   ·exact⟨1,.inl rfl,rfl⟩
   ·exact⟨3,.inr rfl,rfl⟩
  refine Fc hix ?_
  ext
  refine⟨ns,m,rfl,hl,by omega,?_⟩
  ext
  all_goals try (first | decide | (show CMul _ _;exact .inl ⟨by omega,by omega⟩))
  refine⟨ns,10+2*i+1,by rw[show (2:Int)*(5+(i:Int))+1=((10+2*i+1:Nat):Int) by omega],hl,by omega,?_⟩
  ext
  all_goals try (first | decide | (rw[length_map];omega))
  exact⟨T4',M4',J4'++[(10+2*i,10+2*i+1,m)],_,_,_,_,_,I.addJ hm,by rw[map_append];rfl⟩
 rintro ρ ⟨T4',M4',J4',v2,v5,v6,v7,v8,I,rfl⟩
 ext
 exact q T4' M4' J4' (I.mono (by omega))
 all_goals (simp only [length_cons,length_nil];omega)
theorem md4(c:Int){n:Nat}(h:0<n):∃j:Nat,c%(n:Int)=(j:Int)/\j<n:=by
 have g1:=emod_nonneg c (show (n:Int)≠0 by omega)
 have g2:=Int.emod_lt_of_pos c (show (0:Int)<n by omega)
 exact⟨(c%(n:Int)).toNat,by omega,by omega⟩
def usd(ns:List Int)(T:List T4)(M:List M4):List Int:=(T.map (·.1)++usM M).map (sgF ns)
def Nc(ns:List Int)(T:List T4)(M:List M4)(r:P3):Prop:=(thP r.1=true/\thP r.2.1=true/\thP r.2.2=true)/\∀s:Sg,Lv s->r=sQ s->s.1∈usd ns T M
theorem Ac6{ns:List Int}{T:List T4}{M:List M4}{p:PV}{k:Str}{r:Int}(h1:thP p=true)(h2:Rj p=false):Nc ns T M (p,.str k,.int r):=⟨⟨h1,rfl,rfl⟩,λs ok z=>by
 have:p=.int s.1:=congrArg (λr:P3=>r.1) z
 rw[this,show Rj (.int s.1)=true from decide_eq_true ok.nn] at h2
 cases h2⟩
theorem Oh{ns:List Int}{T:List T4}{M:List M4}{n:Int}{k:Str}{r:Int}(h:¬k∈toldK):Nc ns T M (.int n,.str k,.int r):=⟨⟨rfl,rfl,rfl⟩,λs ok z=>by
 have:PV.str k=.str s.2.1:=congrArg (λr:P3=>r.2.1) z
 injection this with this
 rw[this] at h
 exact absurd ok.kd h⟩
theorem Ro{ns:List Int}{T:List T4}{M:List M4}{n:Int}{k:Str}{r:Int}(h:¬Jf k r):Nc ns T M (.int n,.str k,.int r):=⟨⟨rfl,rfl,rfl⟩,λs ok z=>by
 have e1:PV.str k=.str s.2.1:=congrArg (λr:P3=>r.2.1) z
 have e2:PV.int r=.int s.2.2:=congrArg (λr:P3=>r.2.2) z
 injection e1 with e1
 injection e2 with e2
 rw[e1,e2] at h
 exact absurd ok.rk h⟩
theorem Zq{ns:List Int}{T:List T4}{M:List M4}{n:Int}{k:Str}{x:PV}(h:thP x=true)(h2:∀n,x≠.int n):Nc ns T M (.int n,.str k,x):=⟨⟨rfl,rfl,h⟩,λs _ z=>absurd (congrArg (λr:P3=>r.2.2) z) (h2 _)⟩
theorem Uw{ns:List Int}{T:List T4}{M:List M4}{v:Nat}{k:Str}{r:Int}(h:v∈T.map (·.1)++usM M):Nc ns T M (.int (sgF ns v),.str k,.int r):=⟨⟨rfl,rfl,rfl⟩,λs _ z=>by
 have e:PV.int (sgF ns v)=.int s.1:=congrArg (λr:P3=>r.1) z
 injection e with e
 rw[<- e]
 exact mem_map.mpr ⟨v,h,rfl⟩⟩
def L4P(ns:List Int)(T:List T4)(M:List M4)(J:List J4):PV:=.lst [.lst (T.map λx=>sgP (tS ns x)),.lst (M.map λx=>prP (mS ns x)),.lst (J.map λx=>jnP (jS ns x))]
def AdM:PSp:=λps P=>∃ns T M J c,ps=[L4P ns T M J,.scr ns,.int c]/\ns.length<=63/\I4 98 T M J/\∀r:P3,Nc ns T M r->P (t3 r)
theorem AgC(T:Txt K mg t):Binds K t.d_qh ["_law_lists_here","_law_script","_law_cell"] []:=T.F_qh.binds (by walk_at "b3")
theorem AfB(T:Txt K mg t):FnOk P w K mg base (CX1 P w) 3 t.f_qh t.d_qh ["_law_lists_here","_law_script","_law_cell"] (spOf K t.C_Book [false,false,false] .sh AdM):=by
 refine T.F_qh.ok1 sc_qh (λvs H Q E h=>h.len) (λcdv A outer s H vs Q E hr h=>?_)
 have hu:=Dg hr
 have hu64:=hr.units
 refine⟨_,(@Bh _ _ _ _ _ (Cb (i:=3) sc_qh.nd rfl (Or.inl rfl) (Bl (Dd T) (hr.mono (by decide)) rfl T.m_qbc T.F_qbc.kp (Dh T) .nil Bs (@Bg _ _ _ _ _ _ (pv 1) (@Bk _ _ _ _ _ _ _ Bd Bb))))
   (@Bh _ _ _ _ _ (Cb (i:=4) sc_qh.nd rfl (Or.inl rfl) (Bu Gb Bd (Bu Cs (Bu Df (pv 2) Bd) (Bu Li Bd Bd))))
   (@Bh _ _ _ _ _ (@Cb _ _ 5 _ _ _ _ sc_qh.nd rfl (Or.inl rfl) (@Cr _ _ _ _ (@Bq _ _ _ _ _ _ _ (@By _ _ _ _ _ (@Ba _ _ _ _ _ (Bl (Xf T) (hr.mono (by decide)) rfl T.m_qk T.F_qk.kp (Abs T) .nil Bs (@Dw _ _ _ _ _ _ _ _ (Bu Df (pv 2) Bd) Bb)) (@Bk _ _ _ _ _ _ _ Ca (@Bk _ _ _ _ _ _ _ Bd Bb)) rfl)) (@Bq _ _ _ _ _ _ _ (@By _ _ _ _ _ (@Bg _ _ _ _ _ _ (pv 3) (@Bk _ _ _ _ _ _ _ Ca (@Bk _ _ _ _ _ _ _ Bd Bb)))) Bb))) rfl (by first | exact .inl rfl | exact .inr rfl))
   (@Bh _ _ _ _ _ (@Cb _ _ 5 _ _ _ _ sc_qh.nd rfl (Or.inl rfl) (Bu Gg (pv 5) (@Cr _ _ _ _ (@Bq _ _ _ _ _ _ _ (@By _ _ _ _ _ (@Bg _ _ _ _ _ _ (pv 3) (@Bk _ _ _ _ _ _ _ Ca (@Bk _ _ _ _ _ _ _ Bd Bb)))) (@Bq _ _ _ _ _ _ _ (@By _ _ _ _ _ (@Bg _ _ _ _ _ _ (pv 3) (@Bk _ _ _ _ _ _ _ Ca (@Bk _ _ _ _ _ _ _ Bd Bb)))) (@Bq _ _ _ _ _ _ _ (@By _ _ _ _ _ (@Bg _ _ _ _ _ _ (pv 3) (@Bk _ _ _ _ _ _ _ Ca (@Bk _ _ _ _ _ _ _ Bd Bb)))) Bb))))) rfl (by first | exact .inl rfl | exact .inr rfl))
   (@Bh _ _ _ _ _ (@Cb _ _ 5 _ _ _ _ sc_qh.nd rfl (Or.inl rfl) (Bu Gg (pv 5) (@Cr _ _ _ _ (@Bq _ _ _ _ _ _ _ (@By _ _ _ _ _ (@Bg _ _ _ _ _ _ (pv 3) (@Bk _ _ _ _ _ _ _ Ca (@Bk _ _ _ _ _ _ _ Bd Bb)))) (@Bq _ _ _ _ _ _ _ (@By _ _ _ _ _ (@Bg _ _ _ _ _ _ (pv 3) (@Bk _ _ _ _ _ _ _ Ca (@Bg _ _ _ _ _ _ (pv 4) Bb)))) (@Bq _ _ _ _ _ _ _ (@By _ _ _ _ _ (@Bg _ _ _ _ _ _ (pv 3) (@Bk _ _ _ _ _ _ _ Ca (@Dw _ _ _ _ _ _ _ _ (Bu Aab Bd (pv 4)) Bb)))) Bb))))) rfl (by first | exact .inl rfl | exact .inr rfl))
   (@Bh _ _ _ _ _ (Cf (Dr plainAttrs_list PySem.F.slot_list_append PySem.F.type_list_append Ct (pv 5) (@Bq _ _ _ _ _ _ _ (@By _ _ _ _ _ (@Bg _ _ _ _ _ _ (pv 3) (@Bk _ _ _ _ _ _ _ Ca (@Ba _ _ _ _ _ (@Cg _ _ _ _ _ _ _ (Bw K) (@Cr _ _ _ _ (@Bk _ _ _ _ _ _ _ Gq (@Bk _ _ _ _ _ _ _ Qs (@Bk _ _ _ _ _ _ _ Ca (@Bq _ _ _ _ _ _ _ (@By _ _ _ _ _ (@Bk _ _ _ _ _ _ _ Bd Bb)) (@Qa _ _ _ _ _ _ (@Cr _ _ _ _ (@Bk _ _ _ _ _ _ _ Bd Bb)) (@Qg _ _ _ _ _ _ _ Fs Bb))))))) (Bu Cs (Bu Df (pv 2) Bd) Bd) (λ_ _=>rfl)) Bb rfl)))) Bb)))
   (@Bh _ _ _ _ _ (Cf (Dr plainAttrs_list PySem.F.slot_list_append PySem.F.type_list_append Ct (pv 5) (@Bq _ _ _ _ _ _ _ (@By _ _ _ _ _ (@Bg _ _ _ _ _ _ (pv 3) (@Ba _ _ _ _ _ (@Cg _ _ _ _ _ _ _ (Bw K) (@Cr _ _ _ _ (@Bk _ _ _ _ _ _ _ Qs (@Bk _ _ _ _ _ _ _ Bd (@Qa _ _ _ _ _ _ (@Cr _ _ _ _ (@Bk _ _ _ _ _ _ _ Ca Bb)) (@Qg _ _ _ _ _ _ _ Fs (@Bq _ _ _ _ _ _ _ (@By _ _ _ _ _ (@Bk _ _ _ _ _ _ _ Ca Bb)) (@Bk _ _ _ _ _ _ _ Gq Bb))))))) (Bu Cs (Bu Df (pv 2) Bd) Bd) (λ_ _=>rfl)) (@Bk _ _ _ _ _ _ _ Bd Bb) rfl))) Bb)))
   (@Bh _ _ _ _ _ (Cf (Dr plainAttrs_list PySem.F.slot_list_append PySem.F.type_list_append Ct (pv 5) (@Bq _ _ _ _ _ _ _ (@By _ _ _ _ _ (@Ba _ _ _ _ _ (@Cg _ _ _ _ _ _ _ (Gv K) (@Cg _ _ _ _ _ _ _ (Bw K) (@Cg _ _ _ _ _ _ _ (Bw K) (pv 0) Bd (λ_ _=>rfl)) (Bu Cs (Bu Df (pv 2) Bd) (Cw (Dl K) rfl T.z_len PySem.boot_len (@Ba _ _ _ _ _ (@Cg _ _ _ _ _ _ _ (Bw K) (pv 0) Bd (λ_ _=>rfl)) Bb rfl))) (λ_ _=>rfl)) Bd (λ_ _=>rfl)) (@Bk _ _ _ _ _ _ _ Ca (@Bk _ _ _ _ _ _ _ Bd Bb)) rfl)) Bb)))
   (@Bh _ _ _ _ _ (Cf (Dr plainAttrs_list PySem.F.slot_list_append PySem.F.type_list_append Ct (pv 5) (@Bq _ _ _ _ _ _ _ (@By _ _ _ _ _ (@Bg _ _ _ _ _ _ (pv 3) (@Bk _ _ _ _ _ _ _ Ca (@Ba _ _ _ _ _ (@Cg _ _ _ _ _ _ _ (Bw K) (@Cr _ _ _ _ (@Bk _ _ _ _ _ _ _ Gq (@Bk _ _ _ _ _ _ _ Qs Bb))) (Bu Cs (Bu Df (pv 2) Bd) Bd) (λ_ _=>rfl)) Bb rfl)))) Bb)))
   (@Bh _ _ _ _ _ (Cf (Dr plainAttrs_list PySem.F.slot_list_append PySem.F.type_list_append Ct (pv 5) (@Bq _ _ _ _ _ _ _ (@By _ _ _ _ _ (@Ba _ _ _ _ _ (@Cg _ _ _ _ _ _ _ (Gv K) (@Cg _ _ _ _ _ _ _ (Bw K) (@Cg _ _ _ _ _ _ _ (Bw K) (pv 0) Bd (λ_ _=>rfl)) (Bu Cs (Bu Df (pv 2) Bd) (Cw (Dl K) rfl T.z_len PySem.boot_len (@Ba _ _ _ _ _ (@Cg _ _ _ _ _ _ _ (Bw K) (pv 0) Bd (λ_ _=>rfl)) Bb rfl))) (λ_ _=>rfl)) (Bu Cs (Bu Df (pv 2) Bd) Bd) (λ_ _=>rfl)) (@Bk _ _ _ _ _ _ _ Ca (@Bk _ _ _ _ _ _ _ Bd Bb)) rfl)) Bb)))
   (@Bx _ _ _ (@Cu _ _ _ _ (@Cg _ _ _ _ _ _ _ (Bw K) (pv 5) (Bu Cs (pv 2) Bd) (λ_ _=>rfl)))))))))))))),?_⟩
 try dsimp only [Cv,Ci]
 refine Dv h (by decide) (Bv (Cq (Cd (Br Bi (Br (EU.eb Bf) Be))))
   (Bv (Cq (Fn (λ_ _ _=>.int _) (EU.eb Bf) (EU.eb (Ch (λ_ _ _=>.int _) (EU.eb (Ch (λ_ _ _=>.int _) Bi (EU.eb Bf))) (EU.eb (Ch (λ_ _ _=>.int _) (EU.eb Bf) (EU.eb Bf)))))))
   (Bv (Dq (Cz 2 (Bc (Bz 3 (Bc (Cd (Br (EU.eb (Ch (λ_ _ _=>.int _) Bi (EU.eb Bf))) Be)) (Bc Cl (Bc Bf Be)))) (Bc (Bz 3 (Bc Bm (Bc Cl (Bc Bf Be)))) Be))))
   (Bv (Dq (Jh Bi (EF.eb (Cz 3 (Bc (Bz 3 (Bc Bm (Bc Cl (Bc Bf Be)))) (Bc (Bz 3 (Bc Bm (Bc Cl (Bc Bf Be)))) (Bc (Bz 3 (Bc Bm (Bc Cl (Bc Bf Be)))) Be)))))))
   (Bv (Dq (Jh Bi (EF.eb (Cz 3 (Bc (Bz 3 (Bc Bm (Bc Cl (Bc Bf Be)))) (Bc (Bz 3 (Bc Bm (Bc Cl (Bc Bm Be)))) (Bc (Bz 3 (Bc Bm (Bc Cl (Bc (Fn (λ_ _ _=>.int _) (EU.eb Bf) Bi) Be)))) Be)))))))
   (Bv (Dk (Bc (Bz 3 (Bc Bm (Bc Cl (Bc (Ce (EF.eb (Cz 6 (Bc Jm (Bc Rf (Bc Cl (Bc (Bz 1 (Bc Bf Be)) (Bc (EF.eu (Cz 1 (Bc Bf Be))) (Bc (EF.eu Rk) Be)))))))) (EU.eb (Ch (λ_ _ _=>.int _) (EU.eb (Ch (λ_ _ _=>.int _) Bi (EU.eb Bf))) (EU.eb Bf)))) Be)))) Be))
   (Bv (Dk (Bc (Bz 3 (Bc Bm (Bc (Ce (EF.eb (Cz 6 (Bc Rf (Bc Bf (Bc (EF.eu (Cz 1 (Bc Cl Be))) (Bc (EF.eu Rk) (Bc (Bz 1 (Bc Cl Be)) (Bc Jm Be)))))))) (EU.eb (Ch (λ_ _ _=>.int _) (EU.eb (Ch (λ_ _ _=>.int _) Bi (EU.eb Bf))) (EU.eb Bf)))) (Bc Bf Be)))) Be))
   (Bv (Dk (Bc (Bz 3 (Bc (Lk (EU.eb (Ce (EU.eb (Ce Bi (EU.eb Bf))) (EU.eb (Ch (λ_ _ _=>.int _) (EU.eb (Ch (λ_ _ _=>.int _) Bi (EU.eb Bf))) (EU.eb (Je (Br (EU.eb (Ce Bi (EU.eb Bf))) Be))))))) (EU.eb Bf)) (Bc Cl (Bc Bf Be)))) Be))
   (Bv (Dk (Bc (Bz 3 (Bc Bm (Bc Cl (Bc (Ce (EF.eb (Cz 2 (Bc Jm (Bc Rf Be)))) (EU.eb (Ch (λ_ _ _=>.int _) (EU.eb (Ch (λ_ _ _=>.int _) Bi (EU.eb Bf))) (EU.eb Bf)))) Be)))) Be))
   (Bv (Dk (Bc (Bz 3 (Bc (Lk (EU.eb (Ce (EU.eb (Ce Bi (EU.eb Bf))) (EU.eb (Ch (λ_ _ _=>.int _) (EU.eb (Ch (λ_ _ _=>.int _) Bi (EU.eb Bf))) (EU.eb (Je (Br (EU.eb (Ce Bi (EU.eb Bf))) Be))))))) (EU.eb (Ch (λ_ _ _=>.int _) (EU.eb (Ch (λ_ _ _=>.int _) Bi (EU.eb Bf))) (EU.eb Bf)))) (Bc Cl (Bc Bf Be)))) Be))
   (Fg (Ce Bi (EU.eb (Ch (λ_ _ _=>.int _) Bi (EU.eb Bf))))))))))))))) (λps P hp=>?_)
 clear h hu hu64 hr
 obtain⟨ns,T',M',J',c,rfl,hl,I,q⟩:=hp
 walk_at "s"
 dsimp only [L4P]
 have tl:0<T'.length:=List.length_pos_of_mem I.t0
 have ml:0<M'.length:=(List.getElem?_eq_some_iff.mp I.m0).1
 ext
 refine⟨ns,98,rfl,hl,by decide,?_⟩
 ext
 walk_at "mb"
 refine⟨_,rfl,λp hp1 hp2=>?_⟩
 ext
 walk_at "mb"
 have rk0:1<=1+c / 13%10^toNat 20:=by have:=emod_nonneg (c / 13) (show (10:Int)^toNat 20≠0 by decide);omega
 generalize 1+c / 13%10^toNat 20=rk at rk0
 obtain⟨x1,hx1,tx1,ix1⟩:∃x,thP x=true/\(∀n,x≠.int n)/\atI [PV.bl true,.non,.str "1",.tup [.int 1],.lst [.int 1],.dk []] (c / 13%6)=some x:=by
  rcases (by omega:c / 13%6=0\/c / 13%6=1\/c / 13%6=2\/c / 13%6=3\/c / 13%6=4\/c / 13%6=5) with e | e | e | e | e | e <;> rw[e]
  all_goals exact⟨_,rfl,λn z=>(by cases z),rfl⟩
 refine Fc ix1 ?_
 ext
 walk_at "mb"
 obtain⟨x2,hx2,tx2,ix2⟩:∃x,thP x=true/\(∀n,x≠.str n)/\atI [PV.non,.int 0,.lst [.str "fore"],.dk [],.tup [.str "fore"],.bl true] (c / 13%6)=some x:=by
  rcases (by omega:c / 13%6=0\/c / 13%6=1\/c / 13%6=2\/c / 13%6=3\/c / 13%6=4\/c / 13%6=5) with e | e | e | e | e | e <;> rw[e]
  all_goals exact⟨_,rfl,λn z=>(by cases z),rfl⟩
 refine Fc ix2 ?_
 ext
 all_goals try (first | decide | (rw[length_map];omega))
 rw[length_map]
 obtain⟨jt,ejt,hjt⟩:=md4 (c / 13) tl
 obtain⟨tt,htt⟩:∃x,T'[jt]? = some x:=⟨_,getElem?_eq_getElem hjt⟩
 rw[ejt]
 refine Gs (l:=T') (f:=λx=>sgP (tS ns x)) (j:=jt) (a:=tt) htt rfl ?_
 rw[show sgP (tS ns tt)=.tup [.int (sgF ns tt.1),.str tt.2.1,.int tt.2.2] from rfl]
 ext
 walk_at "ma"
 obtain⟨x3,hx3,tx3,ix3⟩:∃x,thP x=true/\(∀n,x≠.int n)/\atI [PV.bl false,.non] (c / 13%2)=some x:=by
  rcases (by omega:c / 13%2=0\/c / 13%2=1) with e | e <;> rw[e]
  all_goals exact⟨_,rfl,λn z=>(by cases z),rfl⟩
 refine Fc ix3 ?_
 ext
 all_goals try (first | decide | (rw[length_map];omega))
 rw[length_map]
 obtain⟨jm,ejm,hjm⟩:=md4 (c / 13) ml
 obtain⟨mm,hmm⟩:∃x,M'[jm]? = some x:=⟨_,getElem?_eq_getElem hjm⟩
 rw[ejm]
 refine Gs (l:=M') (f:=λx=>prP (mS ns x)) (j:=jm) (a:=mm) hmm rfl ?_
 rw[show prP (mS ns mm)=.tup [.int (sgF ns mm.1),.int (sgF ns mm.2)] from rfl]
 ext
 obtain⟨vm,hvm,ivm⟩:∃v∈[mm.1,mm.2],atI [PV.int (sgF ns mm.1),.int (sgF ns mm.2)] (c / 7%2)=some (.int (sgF ns v)):=by
  rcases (by omega:c / 7%2=0\/c / 7%2=1) with e | e <;> rw[e]
  ·exact⟨mm.1,by simp,rfl⟩
  ·exact⟨mm.2,by simp,rfl⟩
 refine⟨c / 7%2,_,_,rfl,rfl,ivm,?_⟩
 ext
 walk_at "ma"
 obtain⟨r,hr,ir⟩:∃r:P3,Nc ns T' M' r/\atI [t3 (p,.str "fore",.int 0),t3 (.int (sgF ns 98),.str "Fore",.int 0),t3 (.int (sgF ns 98),.str "",.int 0),t3 (.int (sgF ns 98),.str "open",.int 0),t3 (.int (sgF ns 98),.str "plain",.int 0),t3 (.int (sgF ns 98),.str "mark",.int 0),t3 (.int (sgF ns 98),.str "num",.int rk),t3 (.int (sgF ns 98),.str "mark",.int (0 - rk)),t3 (.int (sgF ns 98),.str "mark",x1),t3 (.int (sgF ns 98),x2,.int 0),t3 (.int (sgF ns tt.1),.str "back",.int 0),t3 (.int (sgF ns 98),.str "blank",x3),t3 (.int (sgF ns vm),.str "fore",.int 0)] (c%13)=some (t3 r):=by
  rcases (by omega:c%13=0\/c%13=1\/c%13=2\/c%13=3\/c%13=4\/c%13=5\/c%13=6\/c%13=7\/c%13=8\/c%13=9\/c%13=10\/c%13=11\/c%13=12) with e | e | e | e | e | e | e | e | e | e | e | e | e <;> rw[e]
  ·exact⟨_,Ac6 hp1 hp2,rfl⟩
  ·exact⟨_,Oh (by decide +kernel),rfl⟩
  ·exact⟨_,Oh (by decide +kernel),rfl⟩
  ·exact⟨_,Oh (by decide +kernel),rfl⟩
  ·exact⟨_,Oh (by decide +kernel),rfl⟩
  ·exact⟨_,Ro (λz=>by rcases z with ⟨_,z⟩ | ⟨z,_⟩ <;> revert z <;> decide +kernel),rfl⟩
  ·exact⟨_,Ro (λz=>by rcases z with ⟨z,_⟩ | ⟨_,z⟩;(revert z;decide +kernel);omega),rfl⟩
  ·exact⟨_,Ro (λz=>by rcases z with ⟨_,z⟩ | ⟨z,_⟩;omega;(revert z;decide +kernel)),rfl⟩
  ·exact⟨_,Zq hx1 tx1,rfl⟩
  ·exact⟨_,⟨⟨rfl,hx2,rfl⟩,λs _ z=>absurd (congrArg (λr:P3=>r.2.1) z) (tx2 _)⟩,rfl⟩
  ·exact⟨_,Uw (mem_append_left _ (mem_map.mpr ⟨tt,mem_of_getElem? htt,rfl⟩)),rfl⟩
  ·exact⟨_,Zq hx3 tx3,rfl⟩
  ·exact⟨_,Uw (mem_append_right _ (List.mem_flatMap.mpr ⟨mm,mem_of_getElem? hmm,hvm⟩)),rfl⟩
 refine Fc ir ?_
 exact q r hr
 all_goals first | decide | exact⟨by decide,by decide⟩ | (simp only [length_cons,length_nil,length_append];omega)
def Rn(ns:List Int)(T:List T4)(M:List M4)(r:P2):Prop:=(thP r.1=true/\thP r.2=true)/\∀m:Int×Int,0<=m.1->0<=m.2->r=mQ m->m.1=m.2\/m.1∈usd ns T M\/m.2∈usd ns T M
theorem Nx{p:PV}(h:Rj p=false){n:Int}(h0:0<=n):p≠.int n:=λz=>by
 rw[z,show Rj (.int n)=true from decide_eq_true h0] at h
 cases h
theorem Va{ns:List Int}{T:List T4}{M:List M4}{n:Int}:Rn ns T M (.int n,.int n):=⟨⟨rfl,rfl⟩,λm _ _ z=>by
 have e1:PV.int n=.int m.1:=congrArg Prod.fst z
 have e2:PV.int n=.int m.2:=congrArg Prod.snd z
 injection e1 with e1
 injection e2 with e2
 exact .inl (by rw[<- e1,<- e2])⟩
theorem Tj{ns:List Int}{T:List T4}{M:List M4}{v:Nat}{n:Int}(h:v∈T.map (·.1)++usM M):Rn ns T M (.int (sgF ns v),.int n):=⟨⟨rfl,rfl⟩,λm _ _ z=>by
 have e1:PV.int (sgF ns v)=.int m.1:=congrArg Prod.fst z
 injection e1 with e1
 exact .inr (.inl (by rw[<- e1];exact mem_map.mpr ⟨v,h,rfl⟩))⟩
theorem Zs{ns:List Int}{T:List T4}{M:List M4}{v:Nat}{n:Int}(h:v∈T.map (·.1)++usM M):Rn ns T M (.int n,.int (sgF ns v)):=⟨⟨rfl,rfl⟩,λm _ _ z=>by
 have e1:PV.int (sgF ns v)=.int m.2:=congrArg Prod.snd z
 injection e1 with e1
 exact .inr (.inr (by rw[<- e1];exact mem_map.mpr ⟨v,h,rfl⟩))⟩
def Adj:PSp:=λps P=>∃ns T M J c,ps=[L4P ns T M J,.scr ns,.int c]/\ns.length<=63/\I4 98 T M J/\∀r:P2,Rn ns T M r->P (t2 r)
theorem AgG(T:Txt K mg t):Binds K t.d_qb ["_law_lists_here","_law_script","_law_cell"] []:=T.F_qb.binds (by walk_at "b3")
theorem AfT(T:Txt K mg t):FnOk P w K mg base (CX1 P w) 3 t.f_qb t.d_qb ["_law_lists_here","_law_script","_law_cell"] (spOf K t.C_Book [true,false,false] .sh Adj):=by
 refine T.F_qb.ok1 sc_qb (λvs H Q E h=>h.len) (λcdv A outer s H vs Q E hr h=>?_)
 have hu:=Dg hr
 have hu64:=hr.units
 refine⟨_,(@Bh _ _ _ _ _ (Cb (i:=3) sc_qb.nd rfl (Or.inl rfl) (Bl (Dd T) (hr.mono (by decide)) rfl T.m_qbc T.F_qbc.kp (Dh T) .nil Bs (@Bg _ _ _ _ _ _ (pv 1) (@Bk _ _ _ _ _ _ _ Bd Bb))))
   (@Bh _ _ _ _ _ (Cb (i:=4) sc_qb.nd rfl (Or.inl rfl) (@Cg _ _ _ _ _ _ _ (Gv K) (@Cg _ _ _ _ _ _ _ (Bw K) (@Cg _ _ _ _ _ _ _ (Bw K) (pv 0) Bd (λ_ _=>rfl)) (Bu Cs (Bu Df (pv 2) Bd) (Cw (Dl K) rfl T.z_len PySem.boot_len (@Ba _ _ _ _ _ (@Cg _ _ _ _ _ _ _ (Bw K) (pv 0) Bd (λ_ _=>rfl)) Bb rfl))) (λ_ _=>rfl)) (Bu Cs (Bu Df (pv 2) Bd) Bd) (λ_ _=>rfl)))
   (@Bh _ _ _ _ _ (Cb (i:=5) sc_qb.nd rfl (Or.inl rfl) (Bl (Xf T) (hr.mono (by decide)) rfl T.m_qk T.F_qk.kp (Abs T) .nil Bs (@Dw _ _ _ _ _ _ _ _ (Bu Df (pv 2) Bd) Bb)))
   (@Bh _ _ _ _ _ (Cb (i:=6) sc_qb.nd rfl (Or.inl rfl) (@Cg _ _ _ _ _ _ _ (Gv K) (@Cg _ _ _ _ _ _ _ (Bw K) (@Cg _ _ _ _ _ _ _ (Bw K) (pv 0) Bd (λ_ _=>rfl)) (Bu Cs (Bu Df (pv 2) Bd) (Cw (Dl K) rfl T.z_len PySem.boot_len (@Ba _ _ _ _ _ (@Cg _ _ _ _ _ _ _ (Bw K) (pv 0) Bd (λ_ _=>rfl)) Bb rfl))) (λ_ _=>rfl)) Bd (λ_ _=>rfl)))
   (@Bh _ _ _ _ _ (@Cb _ _ 7 _ _ _ _ sc_qb.nd rfl (Or.inl rfl) (@Cr _ _ _ _ (@Bq _ _ _ _ _ _ _ (@By _ _ _ _ _ (@Bg _ _ _ _ _ _ (pv 3) (@Bg _ _ _ _ _ _ (pv 3) Bb))) (@Bq _ _ _ _ _ _ _ (@By _ _ _ _ _ (@Bg _ _ _ _ _ _ (pv 4) (@Bg _ _ _ _ _ _ (pv 3) Bb))) (@Bq _ _ _ _ _ _ _ (@By _ _ _ _ _ (@Bg _ _ _ _ _ _ (pv 3) (@Bg _ _ _ _ _ _ (pv 4) Bb))) (@Bq _ _ _ _ _ _ _ (@By _ _ _ _ _ (@Bg _ _ _ _ _ _ (pv 5) (@Bg _ _ _ _ _ _ (pv 3) Bb))) (@Bq _ _ _ _ _ _ _ (@By _ _ _ _ _ (@Bg _ _ _ _ _ _ (pv 3) (@Bg _ _ _ _ _ _ (pv 5) Bb))) Bb)))))) rfl (by first | exact .inl rfl | exact .inr rfl))
   (@Bh _ _ _ _ _ (@Cb _ _ 7 _ _ _ _ sc_qb.nd rfl (Or.inl rfl) (Bu Gg (pv 7) (@Cr _ _ _ _ (@Bq _ _ _ _ _ _ _ (@By _ _ _ _ _ (@Bg _ _ _ _ _ _ (pv 6) (@Bg _ _ _ _ _ _ (pv 3) Bb))) (@Bq _ _ _ _ _ _ _ (@By _ _ _ _ _ (@Bg _ _ _ _ _ _ (pv 3) (@Bg _ _ _ _ _ _ (pv 6) Bb))) (@Bq _ _ _ _ _ _ _ (@By _ _ _ _ _ (@Bg _ _ _ _ _ _ (pv 4) (@Bg _ _ _ _ _ _ (pv 4) Bb))) Bb))))) rfl (by first | exact .inl rfl | exact .inr rfl))
   (@Bh _ _ _ _ _ (Cf (Dr plainAttrs_list PySem.F.slot_list_append PySem.F.type_list_append Ct (pv 7) (@Ba _ _ _ _ _ (@Cg _ _ _ _ _ _ _ (Bw K) (@Cg _ _ _ _ _ _ _ (Bw K) (pv 0) Bd (λ_ _=>rfl)) Bd (λ_ _=>rfl)) Bb rfl)))
   (@Bx _ _ _ (@Cu _ _ _ _ (@Cg _ _ _ _ _ _ _ (Bw K) (pv 7) (Bu Cs (pv 2) Bd) (λ_ _=>rfl))))))))))),?_⟩
 try dsimp only [Cv,Ci]
 refine Dv h (by decide) (Bv (Cq (Cd (Br Bi (Br (EU.eb Bf) Be))))
   (Bv (Cq (Lk (EU.eb (Ce (EU.eb (Ce Bi (EU.eb Bf))) (EU.eb (Ch (λ_ _ _=>.int _) (EU.eb (Ch (λ_ _ _=>.int _) Bi (EU.eb Bf))) (EU.eb (Je (Br (EU.eb (Ce Bi (EU.eb Bf))) Be))))))) (EU.eb (Ch (λ_ _ _=>.int _) (EU.eb (Ch (λ_ _ _=>.int _) Bi (EU.eb Bf))) (EU.eb Bf)))))
   (Bv (Cq (Cd (Br (EU.eb (Ch (λ_ _ _=>.int _) Bi (EU.eb Bf))) Be)))
   (Bv (Cq (Lk (EU.eb (Ce (EU.eb (Ce Bi (EU.eb Bf))) (EU.eb (Ch (λ_ _ _=>.int _) (EU.eb (Ch (λ_ _ _=>.int _) Bi (EU.eb Bf))) (EU.eb (Je (Br (EU.eb (Ce Bi (EU.eb Bf))) Be))))))) (EU.eb Bf)))
   (Bv (Dq (Cz 5 (Bc (Bz 2 (Bc Bm (Bc Bm Be))) (Bc (Bz 2 (Bc Bm (Bc Bm Be))) (Bc (Bz 2 (Bc Bm (Bc Bm Be))) (Bc (Bz 2 (Bc Bm (Bc Bm Be))) (Bc (Bz 2 (Bc Bm (Bc Bm Be))) Be)))))))
   (Bv (Dq (Jh Bi (EF.eb (Cz 3 (Bc (Bz 2 (Bc Bm (Bc Bm Be))) (Bc (Bz 2 (Bc Bm (Bc Bm Be))) (Bc (Bz 2 (Bc Bm (Bc Bm Be))) Be)))))))
   (Bv (Dk (Bc (Ce (EU.eb (Ce Bi (EU.eb Bf))) (EU.eb Bf)) Be))
   (Fg (Ce Bi (EU.eb (Ch (λ_ _ _=>.int _) Bi (EU.eb Bf)))))))))))) (λps P hp=>?_)
 clear h hu hu64 hr
 obtain⟨ns,T',M',J',c,rfl,hl,I,q⟩:=hp
 walk_at "s"
 dsimp only [L4P]
 have tl:0<T'.length:=List.length_pos_of_mem I.t0
 have ml:0<M'.length:=(List.getElem?_eq_some_iff.mp I.m0).1
 ext
 refine⟨ns,98,rfl,hl,by decide,?_⟩
 ext
 all_goals try (first | decide | exact⟨by decide,by decide⟩ | (rw[length_map];omega))
 rw[length_map]
 obtain⟨jm,ejm,hjm⟩:=md4 (c / 9) ml
 obtain⟨mm,hmm⟩:∃x,M'[jm]? = some x:=⟨_,getElem?_eq_getElem hjm⟩
 rw[ejm]
 refine Gs (l:=M') (f:=λx=>prP (mS ns x)) (j:=jm) (a:=mm) hmm rfl ?_
 rw[show prP (mS ns mm)=.tup [.int (sgF ns mm.1),.int (sgF ns mm.2)] from rfl]
 ext
 walk_at "ma"
 obtain⟨vm,hvm,ivm⟩:∃v∈[mm.1,mm.2],atI [PV.int (sgF ns mm.1),.int (sgF ns mm.2)] (c / 5%2)=some (.int (sgF ns v)):=by
  rcases (by omega:c / 5%2=0\/c / 5%2=1) with e | e <;> rw[e]
  ·exact⟨mm.1,by simp,rfl⟩
  ·exact⟨mm.2,by simp,rfl⟩
 have um:vm∈T'.map (·.1)++usM M':=mem_append_right _ (List.mem_flatMap.mpr ⟨mm,mem_of_getElem? hmm,hvm⟩)
 refine⟨c / 5%2,_,_,rfl,rfl,ivm,?_⟩
 ext
 walk_at "ma"
 refine⟨_,rfl,λp hp1 hp2=>?_⟩
 ext
 all_goals try (first | decide | exact⟨by decide,by decide⟩ | (rw[length_map];omega))
 rw[length_map]
 obtain⟨jt,ejt,hjt⟩:=md4 (c / 9) tl
 obtain⟨tt,htt⟩:∃x,T'[jt]? = some x:=⟨_,getElem?_eq_getElem hjt⟩
 rw[ejt]
 refine Gs (l:=T') (f:=λx=>sgP (tS ns x)) (j:=jt) (a:=tt) htt rfl ?_
 rw[show sgP (tS ns tt)=.tup [.int (sgF ns tt.1),.str tt.2.1,.int tt.2.2] from rfl]
 have ut:tt.1∈T'.map (·.1)++usM M':=mem_append_left _ (mem_map.mpr ⟨tt,mem_of_getElem? htt,rfl⟩)
 ext
 walk_at "ma"
 try refine Gs (l:=M') (f:=λx=>prP (mS ns x)) (j:=0) (a:=(4,5)) I.m0 rfl ?_
 try ext
 walk_at "ma"
 have u4:4∈T'.map (·.1)++usM M':=mem_append_right _ (List.mem_flatMap.mpr ⟨(4,5),mem_of_getElem? I.m0,by simp⟩)
 obtain⟨r,hr,ir⟩:∃r:P2,Rn ns T' M' r/\atI [t2 (.int (sgF ns 98),.int (sgF ns 98)),t2 (.int (sgF ns vm),.int (sgF ns 98)),t2 (.int (sgF ns 98),.int (sgF ns vm)),t2 (p,.int (sgF ns 98)),t2 (.int (sgF ns 98),p),t2 (.int (sgF ns tt.1),.int (sgF ns 98)),t2 (.int (sgF ns 98),.int (sgF ns tt.1)),t2 (.int (sgF ns vm),.int (sgF ns vm)),t2 (.int (sgF ns 4),.int (sgF ns 5))] (c%9)=some (t2 r):=by
  rcases (by omega:c%9=0\/c%9=1\/c%9=2\/c%9=3\/c%9=4\/c%9=5\/c%9=6\/c%9=7\/c%9=8) with e | e | e | e | e | e | e | e | e <;> rw[e]
  ·exact⟨_,Va,rfl⟩
  ·exact⟨_,Tj um,rfl⟩
  ·exact⟨_,Zs um,rfl⟩
  ·exact⟨_,⟨⟨hp1,rfl⟩,λm h _ z=>absurd (congrArg Prod.fst z) (Nx hp2 h)⟩,rfl⟩
  ·exact⟨_,⟨⟨rfl,hp1⟩,λm _ h z=>absurd (congrArg Prod.snd z) (Nx hp2 h)⟩,rfl⟩
  ·exact⟨_,Tj ut,rfl⟩
  ·exact⟨_,Zs ut,rfl⟩
  ·exact⟨_,Va,rfl⟩
  ·exact⟨_,Tj u4,rfl⟩
 refine Fc ir ?_
 exact q r hr
 all_goals first | decide | exact⟨by decide,by decide⟩ | (simp only [length_cons,length_nil,length_append];omega)
def Gi(ns:List Int)(T:List T4)(M:List M4):List (Key×V):=kK (T.map (tS ns))++kM (M.map (mS ns))
theorem Ov(ns:List Int):∀M:List M4,Cn (M.map (mS ns))=(usM M).map (sgF ns)
 | []=>rfl
 | m::r=>by
  show sgF ns m.1::sgF ns m.2::Cn (r.map (mS ns))=sgF ns m.1::sgF ns m.2::(usM r).map (sgF ns)
  rw[Ov ns r]
theorem Vo(ns:List Int)(T:List T4)(M:List M4):((T.map (tS ns)).map (·.1)++Cn (M.map (mS ns)))=usd ns T M:=by
 unfold usd
 rw[map_append,Ov,map_map,map_map];rfl
theorem nd4{ns:List Int}{n:Nat}{T:List T4}{M:List M4}{J:List J4}(I:I4 n T M J)(hn:n<=101):(usd ns T M).Nodup:=by
 have h:=I.nd
 rw[<- append_assoc] at h
 have h:=(nodup_append.mp h).1
 unfold usd
 refine List.pairwise_map.mpr (Pairwise.imp_of_mem ?_ h)
 intro a b ha hb hab z
 have la:=I.lt a (by rw[<- append_assoc];exact mem_append_left _ ha)
 have lb:=I.lt b (by rw[<- append_assoc];exact mem_append_left _ hb)
 exact hab (Lb ns (by omega) (by omega) z)
theorem AaS{ns:List Int}{T:List T4}{M:List M4}{J:List J4}(I:I4 98 T M J):((Gi ns T M).map (·.1)).Nodup:=by
 unfold Gi
 rw[Oy,Vo]
 exact Nk (nd4 I (by decide))
theorem Nj(ns:List Int){T:List T4}{M:List M4}{J:List J4}(I:I4 98 T M J){x:T4}(h:x∈T):knd (Gi ns T M) (sgF ns x.1)=.str x.2.1:=by
 unfold knd
 rw[Ot (k:=Sum.inl (sgF ns x.1)) (v:=.str x.2.1) (AaS I) (mem_append_left _ (mem_map.mpr ⟨tS ns x,mem_map.mpr ⟨x,h,rfl⟩,rfl⟩))];rfl
theorem Tu(ns:List Int):∀{M:List M4} {m:M4},m∈M->(Sum.inl (sgF ns m.1),V.str "open")∈kM (M.map (mS ns))/\(Sum.inl (sgF ns m.2),V.str "shut")∈kM (M.map (mS ns))
 | x::r,m,h=>by
  show _∈(Sum.inl (sgF ns x.1),V.str "open")::(Sum.inl (sgF ns x.2),V.str "shut")::kM (r.map (mS ns))/\_∈(Sum.inl (sgF ns x.1),V.str "open")::(Sum.inl (sgF ns x.2),V.str "shut")::kM (r.map (mS ns))
  rcases mem_cons.mp h with rfl | h
  ·exact⟨.head _,.tail _ (.head _)⟩
  ·have:=Tu ns h
   exact⟨.tail _ (.tail _ this.1),.tail _ (.tail _ this.2)⟩
theorem AfL(ns:List Int){T:List T4}{M:List M4}{J:List J4}(I:I4 98 T M J){m:M4}(h:m∈M):knd (Gi ns T M) (sgF ns m.1)=.str "open":=by
 unfold knd
 rw[Ot (v:=.str "open") (AaS I) (mem_append_right _ (Tu ns h).1)];rfl
theorem Afu(ns:List Int){T:List T4}{M:List M4}{J:List J4}(I:I4 98 T M J){m:M4}(h:m∈M):knd (Gi ns T M) (sgF ns m.2)=.str "shut":=by
 unfold knd
 rw[Ot (v:=.str "shut") (AaS I) (mem_append_right _ (Tu ns h).2)];rfl
theorem Tq(ns:List Int){T:List T4}{M:List M4}{n:Int}(h:n∉usd ns T M):knd (Gi ns T M) n=.str "plain":=by
 unfold knd Gi
 rw[Qn (by rw[Vo];exact h)];rfl
theorem Ack(ns:List Int){T:List T4}{M:List M4}{J:List J4}(I:I4 98 T M J){v:Nat}(hv:98<=v)(hv2:v<101):knd (Gi ns T M) (sgF ns v)=.str "plain":=Tq ns λz=>by
 obtain⟨x,hx,e⟩:=mem_map.mp z
 have:=I.lt x (by rw[<- append_assoc];exact mem_append_left _ hx)
 have:=Lb ns (by omega) hv2 e
 omega
def Xh(ns:List Int)(T:List T4)(M:List M4)(J:List J4)(r:P3):Prop:=(thP r.1=true/\thP r.2.1=true/\thP r.2.2=true)/\∀j:Jn,r=jQ j->JOk (Gi ns T M) (.int j.1) (.int j.2.1) (.int j.2.2)->j.1∈(J.map (jS ns)).map (·.1)\/j.2∈(J.map (jS ns)).map (·.2)
theorem Fp{ns:List Int}{T:List T4}{M:List M4}{J:List J4}{a b m:Int}(h:¬JOk (Gi ns T M) (.int a) (.int b) (.int m)):Xh ns T M J (.int a,.int b,.int m):=⟨⟨rfl,rfl,rfl⟩,λj z ok=>by
 have e1:PV.int a=.int j.1:=congrArg (λr:P3=>r.1) z
 have e2:PV.int b=.int j.2.1:=congrArg (λr:P3=>r.2.1) z
 have e3:PV.int m=.int j.2.2:=congrArg (λr:P3=>r.2.2) z
 injection e1 with e1
 injection e2 with e2
 injection e3 with e3
 rw[e1,e2,e3] at h
 exact absurd ok h⟩
theorem Vv{kk:List (Key×V)}{a b m:Int}(h:JOk kk (.int a) (.int b) (.int m)):0<=a/\0<=b/\0<=m:=by
 obtain⟨w',b',m',k,e1,e2,e3,h1,h2,h3,_⟩:=h
 cases e1;cases e2;cases e3
 exact⟨h1,h2,h3⟩
theorem nj{kk:List (Key×V)}{a b m:Int}{ka kb km:Str}(ha:knd kk a=.str ka)(hb:knd kk b=.str kb)(hm:knd kk m=.str km)(h:¬(km="mark"/\ka∈joinedK/\kb=ka)):¬JOk kk (.int a) (.int b) (.int m):=by
 rintro ⟨w',b',m',k,e1,e2,e3,_,_,_,h1,h2,h3,h4⟩
 cases e1;cases e2;cases e3
 rw[hm] at h1;rw[ha] at h3;rw[hb] at h4
 cases h1;cases h3;cases h4
 exact h ⟨rfl,h2,rfl⟩
def Adw:PSp:=λps P=>∃ns T M J c,ps=[L4P ns T M J,.scr ns,.int c]/\ns.length<=63/\I4 98 T M J/\∀r:P3,Xh ns T M J r->P (t3 r)
theorem Agy(T:Txt K mg t):Binds K t.d_qg ["_law_lists_here","_law_script","_law_cell"] []:=T.F_qg.binds (by walk_at "b3")
theorem Af4(T:Txt K mg t):FnOk P w K mg base (CX1 P w) 3 t.f_qg t.d_qg ["_law_lists_here","_law_script","_law_cell"] (spOf K t.C_Book [true,false,false] .sh Adw):=by
 refine T.F_qg.ok1 sc_qg (λvs H Q E h=>h.len) (λcdv A outer s H vs Q E hr h=>?_)
 have hu:=Dg hr
 have hu64:=hr.units
 refine⟨_,(@Bh _ _ _ _ _ (Cb (i:=3) sc_qg.nd rfl (Or.inl rfl) (Bl (Dd T) (hr.mono (by decide)) rfl T.m_qbc T.F_qbc.kp (Dh T) .nil Bs (@Bg _ _ _ _ _ _ (pv 1) (@Bk _ _ _ _ _ _ _ Bd Bb))))
   (@Bh _ _ _ _ _ (Cb (i:=4) sc_qg.nd rfl (Or.inl rfl) (Bl (Dd T) (hr.mono (by decide)) rfl T.m_qbc T.F_qbc.kp (Dh T) .nil Bs (@Bg _ _ _ _ _ _ (pv 1) (@Bk _ _ _ _ _ _ _ Bd Bb))))
   (@Bh _ _ _ _ _ (Cb (i:=5) sc_qg.nd rfl (Or.inl rfl) (Bl (Dd T) (hr.mono (by decide)) rfl T.m_qbc T.F_qbc.kp (Dh T) .nil Bs (@Bg _ _ _ _ _ _ (pv 1) (@Bk _ _ _ _ _ _ _ Bd Bb))))
   (@Bh _ _ _ _ _ (Cb (i:=6) sc_qg.nd rfl (Or.inl rfl) (Bl (Dd T) (hr.mono (by decide)) rfl T.m_qbc T.F_qbc.kp (Dh T) .nil Bs (@Bg _ _ _ _ _ _ (pv 1) (@Bk _ _ _ _ _ _ _ Bd Bb))))
   (@Bh _ _ _ _ _ (Cb (i:=7) sc_qg.nd rfl (Or.inl rfl) (Bl (Xf T) (hr.mono (by decide)) rfl T.m_qk T.F_qk.kp (Abs T) .nil Bs (@Dw _ _ _ _ _ _ _ _ (Bu Df (pv 2) Bd) Bb)))
   (@Bh _ _ _ _ _ (Xn (@Cg _ _ _ _ _ _ _ (Bw K) (@Cg _ _ _ _ _ _ _ (Bw K) (pv 0) Bd (λ_ _=>rfl)) Bd (λ_ _=>rfl)) (Um (K':=K) (n:=2) rfl rfl (Cy (Cm (i:=8) sc_qg.nd rfl (Or.inl rfl)) (Cy (Cm (i:=9) sc_qg.nd rfl (Or.inl rfl)) Fw))))
   (@Bh _ _ _ _ _ (@Cb _ _ 10 _ _ _ _ sc_qg.nd rfl (Or.inl rfl) (@Cr _ _ _ _ (@Bq _ _ _ _ _ _ _ (@By _ _ _ _ _ (@Bg _ _ _ _ _ _ (pv 3) (@Bg _ _ _ _ _ _ (pv 5) (@Bg _ _ _ _ _ _ (pv 6) Bb)))) (@Bq _ _ _ _ _ _ _ (@By _ _ _ _ _ (@Bg _ _ _ _ _ _ (pv 5) (@Bg _ _ _ _ _ _ (pv 4) (@Bg _ _ _ _ _ _ (pv 6) Bb)))) (@Bq _ _ _ _ _ _ _ (@By _ _ _ _ _ (@Bg _ _ _ _ _ _ (pv 3) (@Bg _ _ _ _ _ _ (pv 6) (@Bg _ _ _ _ _ _ (pv 6) Bb)))) Bb)))) rfl (by first | exact .inl rfl | exact .inr rfl))
   (@Bh _ _ _ _ _ (@Cb _ _ 10 _ _ _ _ sc_qg.nd rfl (Or.inl rfl) (Bu Gg (pv 10) (@Cr _ _ _ _ (@Bq _ _ _ _ _ _ _ (@By _ _ _ _ _ (@Bg _ _ _ _ _ _ (pv 6) (@Bg _ _ _ _ _ _ (pv 6) (@Bg _ _ _ _ _ _ (pv 6) Bb)))) (@Bq _ _ _ _ _ _ _ (@By _ _ _ _ _ (@Bg _ _ _ _ _ _ (pv 6) (@Bg _ _ _ _ _ _ (pv 4) (@Bg _ _ _ _ _ _ (pv 6) Bb)))) (@Bq _ _ _ _ _ _ _ (@By _ _ _ _ _ (@Bg _ _ _ _ _ _ (pv 3) (@Bg _ _ _ _ _ _ (pv 4) (@Bg _ _ _ _ _ _ (pv 5) Bb)))) Bb))))) rfl (by first | exact .inl rfl | exact .inr rfl))
   (@Bh _ _ _ _ _ (@Cb _ _ 10 _ _ _ _ sc_qg.nd rfl (Or.inl rfl) (Bu Gg (pv 10) (@Cr _ _ _ _ (@Bq _ _ _ _ _ _ _ (@By _ _ _ _ _ (@Bg _ _ _ _ _ _ (pv 3) (@Bg _ _ _ _ _ _ (pv 4) (@Bg _ _ _ _ _ _ (pv 4) Bb)))) (@Bq _ _ _ _ _ _ _ (@By _ _ _ _ _ (@Bg _ _ _ _ _ _ (pv 8) (@Bg _ _ _ _ _ _ (pv 9) (@Bg _ _ _ _ _ _ (pv 6) Bb)))) (@Bq _ _ _ _ _ _ _ (@By _ _ _ _ _ (@Bg _ _ _ _ _ _ (pv 8) (@Bg _ _ _ _ _ _ (pv 8) (@Bg _ _ _ _ _ _ (pv 6) Bb)))) Bb))))) rfl (by first | exact .inl rfl | exact .inr rfl))
   (@Bh _ _ _ _ _ (@Cb _ _ 10 _ _ _ _ sc_qg.nd rfl (Or.inl rfl) (Bu Gg (pv 10) (@Cr _ _ _ _ (@Bq _ _ _ _ _ _ _ (@By _ _ _ _ _ (@Bg _ _ _ _ _ _ (pv 7) (@Bg _ _ _ _ _ _ (pv 4) (@Bg _ _ _ _ _ _ (pv 6) Bb)))) (@Bq _ _ _ _ _ _ _ (@By _ _ _ _ _ (@Bg _ _ _ _ _ _ (pv 3) (@Bg _ _ _ _ _ _ (pv 7) (@Bg _ _ _ _ _ _ (pv 6) Bb)))) (@Bq _ _ _ _ _ _ _ (@By _ _ _ _ _ (@Bg _ _ _ _ _ _ (pv 3) (@Bg _ _ _ _ _ _ (pv 4) (@Bg _ _ _ _ _ _ (pv 7) Bb)))) Bb))))) rfl (by first | exact .inl rfl | exact .inr rfl))
   (@Bh _ _ _ _ _ (Cf (Dr plainAttrs_list PySem.F.slot_list_append PySem.F.type_list_append Ct (pv 10) (@Bq _ _ _ _ _ _ _ (@By _ _ _ _ _ (@Ba _ _ _ _ _ (Bl (Dd T) (hr.mono (by decide)) rfl T.m_qbc T.F_qbc.kp (Dh T) .nil Bs (@Bg _ _ _ _ _ _ (pv 1) (@Bk _ _ _ _ _ _ _ Bd Bb))) (@Bg _ _ _ _ _ _ (pv 5) (@Bg _ _ _ _ _ _ (pv 6) Bb)) rfl)) Bb)))
   (@Bh _ _ _ _ _ (Cf (Dr plainAttrs_list PySem.F.slot_list_append PySem.F.type_list_append Ct (pv 10) (@Bq _ _ _ _ _ _ _ (@By _ _ _ _ _ (@Ba _ _ _ _ _ (@Cg _ _ _ _ _ _ _ (Gv K) (@Cg _ _ _ _ _ _ _ (Bw K) (@Cg _ _ _ _ _ _ _ (Bw K) (pv 0) Bd (λ_ _=>rfl)) Bd (λ_ _=>rfl)) Bd (λ_ _=>rfl)) (@Bg _ _ _ _ _ _ (pv 4) (@Bg _ _ _ _ _ _ (pv 6) Bb)) rfl)) Bb)))
   (@Bh _ _ _ _ _ (Cf (Dr plainAttrs_list PySem.F.slot_list_append PySem.F.type_list_append Ct (pv 10) (@Bq _ _ _ _ _ _ _ (@By _ _ _ _ _ (@Bg _ _ _ _ _ _ (pv 3) (@Ba _ _ _ _ _ (@Cg _ _ _ _ _ _ _ (Gv K) (@Cg _ _ _ _ _ _ _ (Bw K) (@Cg _ _ _ _ _ _ _ (Bw K) (pv 0) Bd (λ_ _=>rfl)) Bd (λ_ _=>rfl)) Bd (λ_ _=>rfl)) (@Bg _ _ _ _ _ _ (pv 6) Bb) rfl))) Bb)))
   (@Bh _ _ _ _ _ (Cf (Dr plainAttrs_list PySem.F.slot_list_append PySem.F.type_list_append Ct (pv 10) (@Ba _ _ _ _ _ (@Cg _ _ _ _ _ _ _ (Bw K) (@Cg _ _ _ _ _ _ _ (Bw K) (pv 0) Bd (λ_ _=>rfl)) Bd (λ_ _=>rfl)) Bb rfl)))
   (@Bh _ _ _ _ _ (Cf (Dr plainAttrs_list PySem.F.slot_list_append PySem.F.type_list_append Ct (pv 10) (@Bq _ _ _ _ _ _ _ (@By _ _ _ _ _ (@Bg _ _ _ _ _ _ (pv 9) (@Bg _ _ _ _ _ _ (pv 4) (@Bg _ _ _ _ _ _ (pv 6) Bb)))) Bb)))
   (@Bh _ _ _ _ _ (Cf (Dr plainAttrs_list PySem.F.slot_list_append PySem.F.type_list_append Ct (pv 10) (@Bq _ _ _ _ _ _ _ (@By _ _ _ _ _ (@Ba _ _ _ _ _ (Bl (Dd T) (hr.mono (by decide)) rfl T.m_qbc T.F_qbc.kp (Dh T) .nil Bs (@Bg _ _ _ _ _ _ (pv 1) (@Bk _ _ _ _ _ _ _ Bd Bb))) (@Ba _ _ _ _ _ (Bl (Dd T) (hr.mono (by decide)) rfl T.m_qbc T.F_qbc.kp (Dh T) .nil Bs (@Bg _ _ _ _ _ _ (pv 1) (@Bk _ _ _ _ _ _ _ Bd Bb))) (@Bg _ _ _ _ _ _ (pv 6) Bb) rfl) rfl)) Bb)))
   (@Bx _ _ _ (@Cu _ _ _ _ (@Cg _ _ _ _ _ _ _ (Bw K) (pv 10) (Bu Cs (pv 2) Bd) (λ_ _=>rfl)))))))))))))))))))),?_⟩
 try dsimp only [Cv,Ci]
 refine Dv h (by decide) (Bv (Cq (Cd (Br Bi (Br (EU.eb Bf) Be))))
   (Bv (Cq (Cd (Br Bi (Br (EU.eb Bf) Be))))
   (Bv (Cq (Cd (Br Bi (Br (EU.eb Bf) Be))))
   (Bv (Cq (Cd (Br Bi (Br (EU.eb Bf) Be))))
   (Bv (Cq (Cd (Br (EU.eb (Ch (λ_ _ _=>.int _) Bi (EU.eb Bf))) Be)))
   (Bv (Ya (Ce (EU.eb (Ce Bi (EU.eb Bf))) (EU.eb Bf)) (Zt (Jd (Fy (top:=11)) (Jd (Fy (top:=11)) Ve))))
   (Bv (Dq (Cz 3 (Bc (Bz 3 (Bc Bm (Bc Bm (Bc Bm Be)))) (Bc (Bz 3 (Bc Bm (Bc Bm (Bc Bm Be)))) (Bc (Bz 3 (Bc Bm (Bc Bm (Bc Bm Be)))) Be)))))
   (Bv (Dq (Jh Bi (EF.eb (Cz 3 (Bc (Bz 3 (Bc Bm (Bc Bm (Bc Bm Be)))) (Bc (Bz 3 (Bc Bm (Bc Bm (Bc Bm Be)))) (Bc (Bz 3 (Bc Bm (Bc Bm (Bc Bm Be)))) Be)))))))
   (Bv (Dq (Jh Bi (EF.eb (Cz 3 (Bc (Bz 3 (Bc Bm (Bc Bm (Bc Bm Be)))) (Bc (Bz 3 (Bc Bm (Bc Bm (Bc Bm Be)))) (Bc (Bz 3 (Bc Bm (Bc Bm (Bc Bm Be)))) Be)))))))
   (Bv (Dq (Jh Bi (EF.eb (Cz 3 (Bc (Bz 3 (Bc Bm (Bc Bm (Bc Bm Be)))) (Bc (Bz 3 (Bc Bm (Bc Bm (Bc Bm Be)))) (Bc (Bz 3 (Bc Bm (Bc Bm (Bc Bm Be)))) Be)))))))
   (Bv (Dk (Bc (Bz 3 (Bc (Cd (Br Bi (Br (EU.eb Bf) Be))) (Bc Bm (Bc Bm Be)))) Be))
   (Bv (Dk (Bc (Bz 3 (Bc (Lk (EU.eb (Ce (EU.eb (Ce Bi (EU.eb Bf))) (EU.eb Bf))) (EU.eb Bf)) (Bc Bm (Bc Bm Be)))) Be))
   (Bv (Dk (Bc (Bz 3 (Bc Bm (Bc (Lk (EU.eb (Ce (EU.eb (Ce Bi (EU.eb Bf))) (EU.eb Bf))) (EU.eb Bf)) (Bc Bm Be)))) Be))
   (Bv (Dk (Bc (Ce (EU.eb (Ce Bi (EU.eb Bf))) (EU.eb Bf)) Be))
   (Bv (Dk (Bc (Bz 3 (Bc Bm (Bc Bm (Bc Bm Be)))) Be))
   (Bv (Dk (Bc (Bz 3 (Bc (Cd (Br Bi (Br (EU.eb Bf) Be))) (Bc (Cd (Br Bi (Br (EU.eb Bf) Be))) (Bc Bm Be)))) Be))
   (Fg (Ce Bi (EU.eb (Ch (λ_ _ _=>.int _) Bi (EU.eb Bf))))))))))))))))))))) (λps P hp=>?_)
 clear h hu hu64 hr
 obtain⟨ns,T',M',J',c,rfl,hl,I,q⟩:=hp
 walk_at "s"
 dsimp only [L4P]
 obtain⟨r3,ht3⟩:=I.t3
 obtain⟨ke,hke,h8,h9⟩:=I.t8
 have k98:=Ack ns I (v:=98) (by decide) (by decide)
 have k99:=Ack ns I (v:=99) (by decide) (by decide)
 have k0:=Nj ns I I.t0
 have k1:=Nj ns I I.t1
 have k2:=Nj ns I I.t2
 have k8:=Nj ns I h8
 have k9:=Nj ns I h9
 have k4:=AfL ns I (mem_of_getElem? I.m0)
 have k5:=Afu ns I (mem_of_getElem? I.m0)
 have nke:¬ke∈joinedK:=(by decide +kernel:∀k∈enK,¬k∈joinedK) ke hke
 ext
 refine⟨ns,98,rfl,hl,by decide,?_⟩
 ext
 refine⟨ns,99,rfl,hl,by decide,?_⟩
 ext
 refine⟨ns,0,rfl,hl,by decide,?_⟩
 ext
 refine⟨ns,1,rfl,hl,by decide,?_⟩
 ext
 walk_at "ma"
 refine⟨_,rfl,λp hp1 hp2=>?_⟩
 ext
 walk_at "ma"
 refine Gs (l:=M') (f:=λx=>prP (mS ns x)) (j:=0) (a:=(4,5)) I.m0 rfl ?_
 rw[show prP (mS ns (4,5))=.tup [.int (sgF ns 4),.int (sgF ns 5)] from rfl]
 ext
 refine⟨ns,2,rfl,hl,by decide,?_⟩
 ext
 refine Gs (l:=J') (f:=λx=>jnP (jS ns x)) (j:=0) (a:=(6,7,1)) I.j0 rfl ?_
 rw[show jnP (jS ns (6,7,1))=.tup [.int (sgF ns 6),.int (sgF ns 7),.int (sgF ns 1)] from rfl]
 ext
 refine Gs (l:=J') (f:=λx=>jnP (jS ns x)) (j:=0) (a:=(6,7,1)) I.j0 rfl ?_
 rw[show jnP (jS ns (6,7,1))=.tup [.int (sgF ns 6),.int (sgF ns 7),.int (sgF ns 1)] from rfl]
 ext
 refine Gs (l:=J') (f:=λx=>jnP (jS ns x)) (j:=0) (a:=(6,7,1)) I.j0 rfl ?_
 ext
 refine⟨ns,8,rfl,hl,by decide,?_⟩
 ext
 refine⟨ns,9,rfl,hl,by decide,?_⟩
 ext
 walk_at "ma"
 obtain⟨r,hr,ir⟩:∃r:P3,Xh ns T' M' J' r/\atI [t3 (.int (sgF ns 98),.int (sgF ns 0),.int (sgF ns 1)),t3 (.int (sgF ns 0),.int (sgF ns 99),.int (sgF ns 1)),t3 (.int (sgF ns 98),.int (sgF ns 1),.int (sgF ns 1)),t3 (.int (sgF ns 1),.int (sgF ns 1),.int (sgF ns 1)),t3 (.int (sgF ns 1),.int (sgF ns 99),.int (sgF ns 1)),t3 (.int (sgF ns 98),.int (sgF ns 99),.int (sgF ns 0)),t3 (.int (sgF ns 98),.int (sgF ns 99),.int (sgF ns 99)),t3 (.int (sgF ns 4),.int (sgF ns 5),.int (sgF ns 1)),t3 (.int (sgF ns 4),.int (sgF ns 4),.int (sgF ns 1)),t3 (p,.int (sgF ns 99),.int (sgF ns 1)),t3 (.int (sgF ns 98),p,.int (sgF ns 1)),t3 (.int (sgF ns 98),.int (sgF ns 99),p),t3 (.int (sgF ns 2),.int (sgF ns 0),.int (sgF ns 1)),t3 (.int (sgF ns 6),.int (sgF ns 99),.int (sgF ns 1)),t3 (.int (sgF ns 98),.int (sgF ns 7),.int (sgF ns 1)),t3 (.int (sgF ns 6),.int (sgF ns 7),.int (sgF ns 1)),t3 (.int (sgF ns 5),.int (sgF ns 99),.int (sgF ns 1)),t3 (.int (sgF ns 8),.int (sgF ns 9),.int (sgF ns 1))] (c%18)=some (t3 r):=by
  rcases (by omega:c%18=0\/c%18=1\/c%18=2\/c%18=3\/c%18=4\/c%18=5\/c%18=6\/c%18=7\/c%18=8\/c%18=9\/c%18=10\/c%18=11\/c%18=12\/c%18=13\/c%18=14\/c%18=15\/c%18=16\/c%18=17) with e | e | e | e | e | e | e | e | e | e | e | e | e | e | e | e | e | e <;> rw[e]
  ·exact⟨_,Fp (nj k98 k0 k1 (by decide +kernel)),rfl⟩
  ·exact⟨_,Fp (nj k0 k99 k1 (by decide +kernel)),rfl⟩
  ·exact⟨_,Fp (nj k98 k1 k1 (by decide +kernel)),rfl⟩
  ·exact⟨_,Fp (nj k1 k1 k1 (by decide +kernel)),rfl⟩
  ·exact⟨_,Fp (nj k1 k99 k1 (by decide +kernel)),rfl⟩
  ·exact⟨_,Fp (nj k98 k99 k0 (by decide +kernel)),rfl⟩
  ·exact⟨_,Fp (nj k98 k99 k99 (by decide +kernel)),rfl⟩
  ·exact⟨_,Fp (nj k4 k5 k1 (by decide +kernel)),rfl⟩
  ·exact⟨_,Fp (nj k4 k4 k1 (by decide +kernel)),rfl⟩
  ·exact⟨_,⟨⟨hp1,rfl,rfl⟩,λj z ok=>absurd (congrArg (λr:P3=>r.1) z) (Nx hp2 (Vv ok).1)⟩,rfl⟩
  ·exact⟨_,⟨⟨rfl,hp1,rfl⟩,λj z ok=>absurd (congrArg (λr:P3=>r.2.1) z) (Nx hp2 (Vv ok).2.1)⟩,rfl⟩
  ·exact⟨_,⟨⟨rfl,rfl,hp1⟩,λj z ok=>absurd (congrArg (λr:P3=>r.2.2) z) (Nx hp2 (Vv ok).2.2)⟩,rfl⟩
  ·exact⟨_,Fp (nj k2 k0 k1 (by decide +kernel)),rfl⟩
  ·exact⟨_,⟨⟨rfl,rfl,rfl⟩,λj z _=>.inl (by have e1:PV.int (sgF ns 6)=.int j.1:=congrArg (λr:P3=>r.1) z;injection e1 with e1;rw[<- e1];exact mem_map.mpr ⟨_,mem_map.mpr ⟨_,mem_of_getElem? I.j0,rfl⟩,rfl⟩)⟩,rfl⟩
  ·exact⟨_,⟨⟨rfl,rfl,rfl⟩,λj z _=>.inr (by have e1:PV.int (sgF ns 7)=.int j.2.1:=congrArg (λr:P3=>r.2.1) z;have e2:PV.int (sgF ns 1)=.int j.2.2:=congrArg (λr:P3=>r.2.2) z;injection e1 with e1;injection e2 with e2;rw[show j.2=(sgF ns 7,sgF ns 1) from Prod.ext e1.symm e2.symm];exact mem_map.mpr ⟨_,mem_map.mpr ⟨_,mem_of_getElem? I.j0,rfl⟩,rfl⟩)⟩,rfl⟩
  ·exact⟨_,⟨⟨rfl,rfl,rfl⟩,λj z _=>.inl (by have e1:PV.int (sgF ns 6)=.int j.1:=congrArg (λr:P3=>r.1) z;injection e1 with e1;rw[<- e1];exact mem_map.mpr ⟨_,mem_map.mpr ⟨_,mem_of_getElem? I.j0,rfl⟩,rfl⟩)⟩,rfl⟩
  ·exact⟨_,Fp (nj k5 k99 k1 (by decide +kernel)),rfl⟩
  ·exact⟨_,Fp (nj k8 k9 k1 λz=>nke z.2.1),rfl⟩
 refine Fc ir ?_
 exact q r hr
 all_goals first | decide | exact⟨by decide,by decide⟩ | (simp only [length_cons,length_nil,length_append];omega)
structure SL4(H:Hp)(A:Addr)(yss:List (List V))(ls:List Addr)(H':Hp):Prop where
 s:Same H H'
 nD:H A=none
 eD:H' A=some (.lst (ls.map .ref))
 ln:ls.length=yss.length
 at':∀(i:Nat) (l:Addr) (ys:List V),ls[i]? = some l->yss[i]? = some ys->H' l=some (.lst ys)/\H l=none/\l≠A
 ap:∀(i j:Nat) (l m:Addr),ls[i]? = some l->ls[j]? = some m->i≠j->l≠m
def AeG(K:Frag):TS:=Rp (Jt (Oo (Oe K (Ff 0)) (Gd 0) Vu (tCB (λxs H Q=>∃p ys,xs=[V.ref p]/\(SqL K H p ys\/SqT K H p ys)/\∀(l:Addr) (H':Hp),H l=none->Same H H'->H' l=some (HO.lst ys)->Q (V.ref l) H') (Dx (Ff 0) Qj)) 1 []) (Gd 6))
 (Rp (Si (tBM K "list" Sv (tOp (Xd K) (Ff 6) (Ff 3)) (Dx (Ff 5) (Dx (Ff 4) Qj)))) (Tv (Ff 6)))
def Agu:US:=λd ρ=>∃(L:List (List PV)) (a k:Nat) (p:PV) (x:List PV),ρ[0]? = some (.sh (.lst (L.map .lst)))/\ρ[3]? = some (.sh (.int (a:Int)))/\ρ[4]? = some (.sh p)/\ρ[5]? = some (.sh (.int (k:Int)))/\ρ.length=7/\L.length<=1000/\L[a]? = some x/\k<=x.length/\x.length<1000/\d.rt (.lst ((L.set a (x.take k++p::x.drop k)).map .lst))
def Jg(G:Hp)(x:V):List V:=match x with
 | .ref q=>match G q with
  | some (.lst ys)=>ys
  | _=>[]
 | _=>[]
theorem Aet{C:Addr}{G:Hp}{x:V}{ps:List PV}(h:Rep K C G x (.lst ps)):∃q,x=.ref q/\G q=some (.lst (Jg G x))/\Reps K C G (Jg G x) ps:=by
 cases h with
 | lst e l h =>
  rename_i a vs
  have ev:Jg G (.ref a)=vs:=by simp only [Jg,e]
  rw[ev]
  exact⟨a,rfl,e,l,h⟩
theorem Ad7{C:Addr}{ω:Om}:SU K C ω .sh (AeG K) Agu:=λB G0 H0 own G σ H ρ D d S F ⟨L,a,k,p,x,e0,e3,e4,e5,rl,ll,hx,hk,hxl,hq⟩=>by
 obtain⟨v0,g0,r0⟩:=S.sl 0 _ e0
 obtain⟨v3,g3,r3⟩:=S.sl 3 _ e3
 obtain⟨v4,g4,r4⟩:=S.sl 4 _ e4
 obtain⟨v5,g5,r5⟩:=S.sl 5 _ e5
 have sL:σ.length=7:=by rw[S.len,rl]
 cases r3
 cases r5
 obtain⟨q0,vs,rfl,ea,rp⟩:∃a vs,v0=.ref a/\G a=some (.lst vs)/\Reps K C G vs (L.map .lst):=by
  cases r0 with
  | lst e l q=>exact⟨_,_,rfl,e,l,q⟩
 have ha:H q0=some (.lst vs):=S.gr.i _ _ ea
 have vl:vs.length=L.length:=by rw[rp.1,length_map]
 have rin:∀i y,vs[i]? = some y->∃ps q,L[i]? = some ps/\y=.ref q/\G q=some (.lst (Jg G y))/\Reps K C G (Jg G y) ps:=λi y hy=>by
  obtain⟨w,hw,rw'⟩:=rp.get hy
  rw[getElem?_map] at hw
  obtain⟨ps,hps,rfl⟩:=map_eq_some_iff.mp hw
  obtain⟨q,e,g,r⟩:=Aet rw'
  exact⟨ps,q,hps,e,g,r⟩
 delta AeG Rp Jt
 dsimp only
 refine Up ?_
 refine⟨_,g0,q0,rfl,⟨vs,SqL.of ha⟩,λA hA=>CP.list vs (λn H'=>∃ls,SL4 H A ((vs.take n).map (Jg G)) ls H') ?_ ?_ ?_ ?_⟩
 ·exact⟨[],λb' o hb=>by rw[Bj (by intro z;subst z;rw[hA] at hb;cases hb)];exact hb,hA,Bn,rfl,λi z v h=>by simp at h,λi j z y h=>by simp at h⟩
 ·rintro n H' _ ⟨ls,h⟩
  exact SqL.of (h.s _ _ ha)
 ·rintro n y H' N hyn ⟨ls,h⟩ hN
  obtain⟨ps,q,hps,rfl,gq,rq⟩:=rin n y hyn
  have hp:H' q=some (.lst (Jg G (.ref q))):=h.s _ _ (S.gr.i _ _ gq)
  have lsl:ls.length=n:=by
   have:=h.ln
   rw[length_map,length_take] at this
   have:=(List.getElem?_eq_some_iff.mp hyn).1
   omega
  refine⟨rfl,_,rfl,q,_,rfl,.inl (SqL.of hp),λl H1 hl1 s1 e1=>⟨_,s1 _ _ h.eD,?_,hN _ ⟨ls++[l],?_⟩⟩⟩
  ·rw[length_map,lsl]
   have:=(List.getElem?_eq_some_iff.mp hyn).1
   exact Fx (by omega)
  have hlA:l≠A:=(Bp h.eD hl1).symm
  have hDH:H l=none:=by
   cases z:H l with
   | none=>rfl
   | some o=>rw[h.s _ _ z] at hl1;cases hl1
  have old:∀(i:Nat) (m:Addr) (ys:List V),ls[i]? = some m->((vs.take n).map (Jg G))[i]? = some ys->m≠l:=λi m ys hm hys=>Bp (h.at' i m ys hm hys).1 hl1
  have oldm:∀(i:Nat) (m:Addr),ls[i]? = some m->m≠l:=λi m hm=>by
   obtain⟨ys,hys⟩:∃ys,((vs.take n).map (Jg G))[i]? = some ys:=⟨_,getElem?_eq_getElem (by rw[<- h.ln];exact (List.getElem?_eq_some_iff.mp hm).1)⟩
   exact old i m ys hm hys
  refine⟨λb' o hb=>?_,h.nD,?_,?_,λi m ys hm hys=>?_,λi j m w hm hw hij=>?_⟩
  ·rw[Bj (Bp hb h.nD)];exact s1 _ _ (h.s _ _ hb)
  ·rw[Bn,map_append];rfl
  ·rw[length_append,h.ln,Dj hyn,map_append,length_append];rfl
  ·rw[Dj hyn,map_append] at hys
   rcases Nat.lt_or_ge i ls.length with hi | hi
   ·rw[getElem?_append_left hi] at hm
    rw[getElem?_append_left (by rw[<- h.ln];exact hi)] at hys
    obtain⟨b1,b2,b3⟩:=h.at' i m ys hm hys
    exact⟨by rw[Bj b3];exact s1 _ _ b1,b2,b3⟩
   ·have hi2:i=ls.length:=by
     have:=(List.getElem?_eq_some_iff.mp hm).1
     rw[length_append] at this
     have:[l].length=1:=rfl
     omega
    subst hi2
    rw[getElem?_append_right (Nat.le_refl _),Nat.sub_self] at hm
    rw[h.ln,getElem?_append_right (Nat.le_refl _),Nat.sub_self] at hys
    cases hm
    cases hys
    exact⟨by rw[Bj hlA];exact e1,hDH,hlA⟩
  ·rcases Nat.lt_or_ge i ls.length with hi | hi
   ·rw[getElem?_append_left hi] at hm
    rcases Nat.lt_or_ge j ls.length with hj | hj
    ·rw[getElem?_append_left hj] at hw
     exact h.ap i j m w hm hw hij
    ·have:w=l:=by
      rw[getElem?_append_right hj] at hw
      have:=(List.getElem?_eq_some_iff.mp hw).1
      have:j - ls.length=0:=by have:[l].length=1:=rfl;omega
      rw[this] at hw;cases hw;rfl
     rw[this];exact oldm i m hm
   ·have:m=l:=by
     rw[getElem?_append_right hi] at hm
     have:=(List.getElem?_eq_some_iff.mp hm).1
     have:i - ls.length=0:=by have:[l].length=1:=rfl;omega
     rw[this] at hm;cases hm;rfl
    rw[this]
    rcases Nat.lt_or_ge j ls.length with hj | hj
    ·rw[getElem?_append_left hj] at hw
     exact (oldm j w hw).symm
    ·have h1:=(List.getElem?_eq_some_iff.mp hw).1
     rw[length_append] at h1
     have h2:[l].length=1:=rfl
     have h3:=(List.getElem?_eq_some_iff.mp hm).1
     rw[length_append] at h3
     omega
 ·rintro H' ⟨ls,h⟩
  rw[vl,<- vl,take_length] at h
  have lsl:ls.length=vs.length:=by rw[h.ln,length_map]
  have hav:a<vs.length:=by rw[vl];exact (List.getElem?_eq_some_iff.mp hx).1
  obtain⟨y,hy⟩:∃y,vs[a]? = some y:=⟨_,getElem?_eq_getElem hav⟩
  obtain⟨l,hl⟩:∃l,ls[a]? = some l:=⟨_,getElem?_eq_getElem (by omega)⟩
  obtain⟨ps,q,hps,rfl,gq,rq⟩:=rin a y hy
  rw[hx] at hps
  cases hps
  obtain⟨el,nl,lA⟩:=h.at' a l _ hl (by rw[getElem?_map,hy];rfl)
  have il:(Jg G (.ref q)).length=x.length:=rq.1
  refine⟨.ref A,Jy (by omega),.int (a:Nat),by rw[getElem?_set_ne (by decide)];exact g3,A,_,a,.ref l,rfl,rfl,SqL.of h.eD,Dz (by rw[getElem?_map,hl];rfl),.inl ⟨rfl,_,SqL.of el⟩,.int (k:Nat),by rw[getElem?_set_ne (by decide)];exact g5,v4,by rw[getElem?_set_ne (by decide)];exact g4,l,_,k,v4,rfl,rfl,by omega,el,by omega,λH1 c e=>?_⟩
  have s1:Same H H1:=h.s.chg c nl
  refine⟨.ref A,Jy (by omega),F.rt _ H1 _ _ (S.gr.trans (Ls S.gr.i s1)) ?_ hq⟩
  have gr:=Ls S.gr.i s1
  refine Rep.ofL (Dp h.nD (c _ _ h.eD (Ne.symm lA))) ⟨by rw[length_map,length_map,length_set,lsl,vl],λi u w hu hw=>?_⟩
  rw[getElem?_map] at hu hw
  obtain⟨m,hm,rfl⟩:=map_eq_some_iff.mp hu
  obtain⟨pw,hpw,rfl⟩:=map_eq_some_iff.mp hw
  obtain⟨y',hy'⟩:∃y',vs[i]? = some y':=⟨_,getElem?_eq_getElem (by rw[<- lsl];exact (List.getElem?_eq_some_iff.mp hm).1)⟩
  obtain⟨ps',q',hps',rfl,gq',rq'⟩:=rin i y' hy'
  obtain⟨em,nm,mA⟩:=h.at' i m _ hm (by rw[getElem?_map,hy'];rfl)
  rw[List.getElem?_set] at hpw
  by_cases hia:a=i
  ·subst hia
   rw[if_pos rfl,if_pos (by rw[<- vl];exact hav)] at hpw
   cases hpw
   rw[hl] at hm
   cases hm
   refine Rep.ofL (Dp nl e) ?_
   have:=(rq.take k).append ((LAt.snoc LAt.nil r4).append (rq.drop k))
   exact Reps.mono this gr.g
  ·rw[if_neg hia,hps'] at hpw
   cases hpw
   exact Rep.ofL (Dp nm (c _ _ em (Ne.symm (h.ap a i l m hl hm hia)))) (Reps.mono rq' gr.g)
theorem Td{α β:Type}{f:α->β}{X:List β}{k:Nat}{r:β}{l:List α}(e:X.take k++r::X.drop k=l.map f):∃A s B,l=A++s::B/\f s=r/\(A++B).map f=X:=by
 obtain⟨A,l2,rfl,e1,e2⟩:=List.map_eq_append_iff.mp e.symm
 obtain⟨s,B,rfl,e3,e4⟩:=List.map_eq_cons_iff.mp e2
 exact⟨A,s,B,rfl,e3,by rw[map_append,e1,e4,take_append_drop]⟩
theorem Tc{α β:Type}{g:α->β}{A B:List α}{s z:α}(h:((A++s::B).map g).Nodup)(hz:z∈A++B):g z≠g s:=λe=>by
 rw[map_append,map_cons] at h
 obtain⟨_,h2,h3⟩:=nodup_append.mp h
 rcases mem_append.mp hz with hz | hz
 ·exact h3 _ (mem_map.mpr ⟨z,hz,rfl⟩) _ mem_cons_self e
 ·exact (nodup_cons.mp h2).1 (by rw[<- e];exact mem_map.mpr ⟨z,hz,rfl⟩)
theorem Zj{a b:Sg}(h:sQ a=sQ b):a=b:=by
 obtain⟨a1,a2,a3⟩:=a
 obtain⟨b1,b2,b3⟩:=b
 cases h;rfl
theorem Xm{a b:Int×Int}(h:mQ a=mQ b):a=b:=by
 obtain⟨a1,a2⟩:=a
 obtain⟨b1,b2⟩:=b
 cases h;rfl
theorem Ae2{a b:Jn}(h:jQ a=jQ b):a=b:=by
 obtain⟨a1,a2,a3⟩:=a
 obtain⟨b1,b2,b3⟩:=b
 cases h;rfl
theorem Qd{α β:Type}{f:α->β}(hf:∀{a b},f a=f b->a=b):∀{a b:List α},a.map f=b.map f->a=b
 | [],[],_=>rfl
 | [],_::_,h=>by cases h
 | _::_,[],h=>by cases h
 | x::a,y::b,h=>by
  rw[map_cons,map_cons] at h
  injection h with h1 h2
  rw[hf h1,Qd hf h2]
def R0(ns:List Int)(T:List T4):List P3:=T.map λx=>sQ (tS ns x)
def M0(ns:List Int)(M:List M4):List P2:=M.map λx=>mQ (mS ns x)
def J0(ns:List Int)(J:List J4):List P3:=J.map λx=>jQ (jS ns x)
theorem Ab2{ns:List Int}{T:List T4}{S:List Sg}(e:R0 ns T=S.map sQ):S=T.map (tS ns):=Qd (f:=sQ) Zj (by rw[<- e,map_map];rfl)
theorem Ab7{ns:List Int}{M:List M4}{S:List (Int×Int)}(e:M0 ns M=S.map mQ):S=M.map (mS ns):=Qd (f:=mQ) Xm (by rw[<- e,map_map];rfl)
theorem Agv{ns:List Int}{T:List T4}{M:List M4}{J:List P3}{k:Nat}{r:P3}(h:Nc ns T M r):¬Rr ((R0 ns T).take k++r::(R0 ns T).drop k) (M0 ns M) J:=by
 rintro ⟨S,mt,J',e1,e2,e3,so,mo,nd,_⟩
 obtain⟨A,s,B,rfl,rfl,ex⟩:=Td e1
 have nd1:=(nodup_append.mp nd).1
 have hu:=h.2 s (so s (mem_append_right _ mem_cons_self)) rfl
 unfold usd at hu
 obtain⟨v,hv,ev⟩:=mem_map.mp hu
 rcases mem_append.mp hv with hv | hv
 ·obtain⟨t,ht,rfl⟩:=mem_map.mp hv
  have hm:sQ (tS ns t)∈(A++B).map sQ:=by rw[ex];exact mem_map.mpr ⟨t,ht,rfl⟩
  obtain⟨z,hz,ez⟩:=mem_map.mp hm
  have ez:=Zj ez
  exact Tc (g:=(·.1)) nd1 hz (by rw[ez];exact ev)
 ·rw[Ab7 e2,Ov] at nd
  exact (nodup_append.mp nd).2.2 s.1 (mem_map.mpr ⟨s,mem_append_right _ mem_cons_self,rfl⟩) s.1 (mem_map.mpr ⟨v,hv,ev⟩) rfl
theorem Gm{m:Int×Int}:∀{l:List (Int×Int)},m∈l->m.1∈Cn l/\m.2∈Cn l
 | x::r,h=>by
  show m.1∈x.1::x.2::Cn r/\m.2∈x.1::x.2::Cn r
  rcases mem_cons.mp h with rfl | h
  ·exact⟨.head _,.tail _ (.head _)⟩
  ·exact⟨.tail _ (.tail _ (Gm h).1),.tail _ (.tail _ (Gm h).2)⟩
theorem Agq{ns:List Int}{T:List T4}{M:List M4}{J:List P3}{k:Nat}{r:P2}(h:Rn ns T M r):¬Rr (R0 ns T) ((M0 ns M).take k++r::(M0 ns M).drop k) J:=by
 rintro ⟨S,mt,J',e1,e2,e3,so,mo,nd,_⟩
 obtain⟨A,s,B,rfl,rfl,ex⟩:=Td e2
 have ms:s∈A++s::B:=mem_append_right _ mem_cons_self
 have hu:=h.2 s (mo s ms).1 (mo s ms).2 rfl
 have ee:Cn (A++s::B)=Cn A++(s.1::s.2::Cn B):=Lz _ _
 obtain⟨_,nd2,nd3⟩:=nodup_append.mp nd
 rw[ee] at nd2
 obtain⟨_,nb,nc⟩:=nodup_append.mp nd2
 have hS:S.map (·.1)=(T.map (·.1)).map (sgF ns):=by rw[Ab2 e1,map_map,map_map];rfl
 have away:∀x,x∈usd ns T M->x=s.1\/x=s.2->False:=λx hx hs=>by
  unfold usd at hx
  obtain⟨v,hv,ev⟩:=mem_map.mp hx
  rcases mem_append.mp hv with hv | hv
  ·have h1:x∈S.map (·.1):=by rw[hS];exact mem_map.mpr ⟨v,hv,ev⟩
   rcases hs with hs | hs
   ·exact nd3 x h1 s.1 (Gm ms).1 hs
   ·exact nd3 x h1 s.2 (Gm ms).2 hs
  ·obtain⟨m',hm',hv'⟩:=List.mem_flatMap.mp hv
   have hm:mQ (mS ns m')∈(A++B).map mQ:=by rw[ex];exact mem_map.mpr ⟨m',hm',rfl⟩
   obtain⟨z,hz,ez⟩:=mem_map.mp hm
   have ez:=Xm ez
   have hx2:x=z.1\/x=z.2:=by
    simp only [mem_cons,not_mem_nil,or_false] at hv'
    rw[ez]
    rcases hv' with rfl | rfl
    ·exact .inl ev.symm
    ·exact .inr ev.symm
   have hxe:∀l,z∈l->x∈Cn l:=λl hl=>by
    rcases hx2 with e | e
    ·rw[e];exact (Gm hl).1
    ·rw[e];exact (Gm hl).2
   rcases mem_append.mp hz with hz | hz
   ·rcases hs with hs | hs
    ·exact nc x (hxe A hz) s.1 mem_cons_self hs
    ·exact nc x (hxe A hz) s.2 (mem_cons_of_mem _ mem_cons_self) hs
   ·obtain⟨n1,n2⟩:=nodup_cons.mp nb
    rcases hs with hs | hs
    ·exact n1 (mem_cons_of_mem _ (by rw[<- hs];exact hxe B hz))
    ·exact (nodup_cons.mp n2).1 (by rw[<- hs];exact hxe B hz)
 rcases hu with hu | hu | hu
 ·exact (nodup_cons.mp nb).1 (by rw[hu];exact mem_cons_self)
 ·exact away _ hu (.inl rfl)
 ·exact away _ hu (.inr rfl)
theorem Ags{ns:List Int}{T:List T4}{M:List M4}{J:List J4}{k:Nat}{r:P3}(h:Xh ns T M J r):¬Rr (R0 ns T) (M0 ns M) ((J0 ns J).take k++r::(J0 ns J).drop k):=by
 rintro ⟨S,mt,J',e1,e2,e3,so,mo,nd,jo,nw,en,np⟩
 obtain⟨A,s,B,rfl,rfl,ex⟩:=Td e3
 have hj:=jo s (mem_append_right _ mem_cons_self)
 rw[Ab2 e1,Ab7 e2] at hj
 have key:∀x∈J.map (jS ns),x∈A++B:=λx hx=>by
  obtain⟨y,hy,rfl⟩:=mem_map.mp hx
  have hm:jQ (jS ns y)∈(A++B).map jQ:=by rw[ex];exact mem_map.mpr ⟨y,hy,rfl⟩
  obtain⟨z,hz,ez⟩:=mem_map.mp hm
  rw[<- Ae2 ez];exact hz
 rcases h.2 s rfl hj with hu | hu
 ·obtain⟨z,hz,ez⟩:=mem_map.mp hu
  exact Tc (g:=(·.1)) nw (key z hz) ez
 ·obtain⟨z,hz,ez⟩:=mem_map.mp hu
  exact Tc (g:=(·.2)) np (key z hz) ez
theorem AbG(ns:List Int)(T:List T4):okR (R0 ns T):=λr hr=>by
 obtain⟨x,_,rfl⟩:=mem_map.mp hr
 exact⟨rfl,rfl,rfl⟩
theorem Abr(ns:List Int)(M:List M4):okM (M0 ns M):=λr hr=>by
 obtain⟨x,_,rfl⟩:=mem_map.mp hr
 exact⟨rfl,rfl⟩
theorem AaG(ns:List Int)(M:List J4):okR (J0 ns M):=λr hr=>by
 obtain⟨x,_,rfl⟩:=mem_map.mp hr
 exact⟨rfl,rfl,rfl⟩
theorem Xs{X:List P3}{k:Nat}{r:P3}(h:okR X)(hr:thP r.1=true/\thP r.2.1=true/\thP r.2.2=true):okR (X.take k++r::X.drop k):=λx hx=>by
 rcases mem_append.mp hx with hx | hx
 ·exact h x (List.mem_of_mem_take hx)
 ·rcases mem_cons.mp hx with rfl | hx
  ·exact hr
  ·exact h x (List.mem_of_mem_drop hx)
theorem Adl{X:List P2}{k:Nat}{r:P2}(h:okM X)(hr:thP r.1=true/\thP r.2=true):okM (X.take k++r::X.drop k):=λx hx=>by
 rcases mem_append.mp hx with hx | hx
 ·exact h x (List.mem_of_mem_take hx)
 ·rcases mem_cons.mp hx with rfl | hx
  ·exact hr
  ·exact h x (List.mem_of_mem_drop hx)
theorem Gx{α:Type}(X:List α)(k:Nat)(r:α):(X.take k++r::X.drop k).length=X.length+1:=by
 rw[length_append,length_cons,length_take,length_drop];omega
theorem Rl{α β:Type}(f:α->β)(X:List α)(k:Nat)(r:α):(X.take k++r::X.drop k).map f=(X.map f).take k++f r::(X.map f).drop k:=by
 rw[map_append,map_cons,map_take,List.map_drop]
def AdP:PSp:=λps P=>∃ns T M J c,ps=[L4P ns T M J,.scr ns,.int c]/\ns.length<=63/\I4 98 T M J/\∀R Mt Jr,okR R->okM Mt->okR Jr->R.length+2*Mt.length<=400->Jr.length<=400->¬Rr R Mt Jr->P (.lst [.lst (R.map t3),.lst (Mt.map t2),.lst (Jr.map t3)])
theorem AgA(T:Txt K mg t):Binds K t.d_qm ["_law_lists_here","_law_script","_law_cell"] []:=T.F_qm.binds (by walk_at "b3")
theorem AfY(T:Txt K mg t):FnOk P w K mg base (CX1 P w) 4 t.f_qm t.d_qm ["_law_lists_here","_law_script","_law_cell"] (spOf K t.C_Book [true,false,false] .sh AdP):=by
 refine T.F_qm.ok1 sc_qm (λvs H Q E h=>h.len) (λcdv A outer s H vs Q E hr h=>?_)
 have hu:=Dg hr
 have hu64:=hr.units
 refine⟨_,(Bh (Cb (i:=3) sc_qm.nd rfl (Or.inl rfl) (Bu Cs (pv 2) Bd))
   (Bh (Cb (i:=4) sc_qm.nd rfl (Or.inl rfl) (Bl (AfB T) (hr.mono (by decide)) rfl T.m_qh T.F_qh.kp (AgC T) .nil Bs (Ba (pv 0) (Ba (pv 1) (Ba (Bu Df (pv 2) Bd) Bb)))))
   (Bh (Ga (Go Gp (pv 3) Bd (Dm _))
    (Bx (Cb (i:=4) sc_qm.nd rfl (Or.inl rfl) (Bl (AfT T) (hr.mono (by decide)) rfl T.m_qb T.F_qb.kp (AgG T) .nil Bs (Ba (pv 0) (Ba (pv 1) (Ba (Bu Df (pv 2) Bd) Bb))))))
    Fi)
   (Bh (Ga (Go Gp (pv 3) Bd (Dm _))
    (Bx (Cb (i:=4) sc_qm.nd rfl (Or.inl rfl) (Bl (Af4 T) (hr.mono (by decide)) rfl T.m_qg T.F_qg.kp (Agy T) .nil Bs (Ba (pv 0) (Ba (pv 1) (Ba (Bu Df (pv 2) Bd) Bb))))))
    Fi)
   (Bh (Cb (i:=5) sc_qm.nd rfl (Or.inl rfl) (Bu Cs (Bu Df (pv 2) Bd) (Bu Gb (Cw (Dl K) rfl T.z_len PySem.boot_len (Ba (Cg (Bw K) (pv 0) (pv 3) (λ_ _=>rfl)) Bb)) Bd)))
   (Bh (Ts 1 ["_law_some"] rfl rfl (Fk (pv 0)) (λ_ _ _ _=>(Cm (i:=0) (show Nodup (["_law_some"]:List Str) by decide +kernel) rfl (Or.inl rfl))) (λ_ _ _ _=>Vh) (λ_ _ _ _=>(Nq (Nb K) rfl T.z_list PyProof.Rows.boot_list (Ba (pv 0) Bb))) (by decide +kernel) (by decide +kernel) rfl (by decide +kernel) (λ_=>rfl) (i:=6) sc_qm.nd rfl (Or.inl rfl) rfl)
   (Bh (Cf (Dr plainAttrs_list PySem.F.slot_list_insert PySem.F.type_list_insert Wg (Cg (Bw K) (pv 6) (pv 3) (λ_ _=>rfl)) (Ba (pv 5) (Ba (pv 4) Bb))))
   (Bx (Cu (pv 6)))))))))),?_⟩
 try dsimp only [Cv,Ci]
 refine Dv h (by decide) (Bv (Cq (Ch (λ_ _ _=>.int _) Bi (EU.eb Bf)))
   (Bv (Cq (Cd (Br Bi (Br Bi (Br (EU.eb (Ch (λ_ _ _=>.int _) Bi (EU.eb Bf))) Be)))))
   (Bv (Ly (Ri (EU.eb (Qx Bi (EU.eb Bf))))
    (Cq (Cd (Bc Bm (Br Bi (Br (EU.eb (Ch (λ_ _ _=>.int _) Bi (EU.eb Bf))) Be)))))
    Lg)
   (Bv (Ly (Ri (EU.eb (Qx Bi (EU.eb Bf))))
    (Cq (Cd (Bc Bm (Br Bi (Br (EU.eb (Ch (λ_ _ _=>.int _) Bi (EU.eb Bf))) Be)))))
    Lg)
   (Bv (Cq (Ch (λ_ _ _=>.int _) (EU.eb (Ch (λ_ _ _=>.int _) Bi (EU.eb Bf))) (EU.eb (Fn (λ_ _ _=>.int _) (EU.eb (Je (Br (EU.eb (Ce Bi Bi)) Be))) (EU.eb Bf)))))
   Ad7))))) (λps P hp=>?_)
 clear h hu hu64 hr
 obtain⟨ns,T',M',J',c,rfl,hl,I,q⟩:=hp
 walk_at "s"
 dsimp only [L4P]
 have ln:=I.ln
 have eT:(T'.map λx=>sgP (tS ns x))=(R0 ns T').map t3:=by unfold R0;rw[map_map];rfl
 have eM:(M'.map λx=>prP (mS ns x))=(M0 ns M').map t2:=by unfold M0;rw[map_map];rfl
 have eJ:(J'.map λx=>jnP (jS ns x))=(J0 ns J').map t3:=by unfold J0;rw[map_map];rfl
 have lT:(R0 ns T').length=T'.length:=length_map ..
 have lM:(M0 ns M').length=M'.length:=length_map ..
 have lJ:(J0 ns J').length=J'.length:=length_map ..
 ext
 walk_at "ma"
 refine⟨ns,T',M',J',_,rfl,hl,I,λr1 h1=>?_⟩
 ext
 rcases (by omega:c%3=0\/c%3=1\/c%3=2) with e | e | e <;> rw[e]
 ·ext
  rw[decide_eq_false (by decide)]
  ext
  rw[decide_eq_false (by decide)]
  ext
  walk_at "ma"
  try refine Fc (Dz (j:=0) rfl) ?_
  try ext
  all_goals try (first | decide | exact⟨by decide,by decide⟩ | (rw[length_map];omega))
  rw[length_map]
  obtain⟨k,ek,hk⟩:=md4 (c / 3000) (show 0<T'.length+1 by omega)
  rw[show ((T'.length:Int)+1)=((T'.length+1:Nat):Int) by omega,ek]
  refine⟨[T'.map λx=>sgP (tS ns x),M'.map λx=>prP (mS ns x),J'.map λx=>jnP (jS ns x)],0,k,t3 r1,_,rfl,rfl,rfl,rfl,rfl,by show 3<=1000;decide,rfl,by rw[length_map];omega,by rw[length_map];omega,?_⟩
  have qq:=q ((R0 ns T').take k++r1::(R0 ns T').drop k) (M0 ns M') (J0 ns J') (Xs (AbG ns T') h1.1) (Abr ns M') (AaG ns J') (by first | rw[Gx];omega | omega) (by first | rw[Gx];omega | omega) (Agv h1)
  rw[Rl,<- eT,<- eM,<- eJ] at qq
  exact qq
 ·ext
  rw[decide_eq_true rfl]
  ext
  walk_at "ma"
  refine⟨ns,T',M',J',_,rfl,hl,I,λr2 h2=>?_⟩
  ext
  rw[decide_eq_false (by decide)]
  ext
  walk_at "ma"
  try refine Fc (Dz (j:=1) rfl) ?_
  try ext
  all_goals try (first | decide | exact⟨by decide,by decide⟩ | (rw[length_map];omega))
  rw[length_map]
  obtain⟨k,ek,hk⟩:=md4 (c / 3000) (show 0<M'.length+1 by omega)
  rw[show ((M'.length:Int)+1)=((M'.length+1:Nat):Int) by omega,ek]
  refine⟨[T'.map λx=>sgP (tS ns x),M'.map λx=>prP (mS ns x),J'.map λx=>jnP (jS ns x)],1,k,t2 r2,_,rfl,rfl,rfl,rfl,rfl,by show 3<=1000;decide,rfl,by rw[length_map];omega,by rw[length_map];omega,?_⟩
  have qq:=q (R0 ns T') ((M0 ns M').take k++r2::(M0 ns M').drop k) (J0 ns J') (AbG ns T') (Adl (Abr ns M') h2.1) (AaG ns J') (by first | rw[Gx];omega | omega) (by first | rw[Gx];omega | omega) (Agq h2)
  rw[Rl,<- eT,<- eM,<- eJ] at qq
  exact qq
 ·ext
  rw[decide_eq_false (by decide)]
  ext
  rw[decide_eq_true rfl]
  ext
  walk_at "ma"
  refine⟨ns,T',M',J',_,rfl,hl,I,λr3 h3=>?_⟩
  ext
  walk_at "ma"
  try refine Fc (Dz (j:=2) rfl) ?_
  try ext
  all_goals try (first | decide | exact⟨by decide,by decide⟩ | (rw[length_map];omega))
  rw[length_map]
  obtain⟨k,ek,hk⟩:=md4 (c / 3000) (show 0<J'.length+1 by omega)
  rw[show ((J'.length:Int)+1)=((J'.length+1:Nat):Int) by omega,ek]
  refine⟨[T'.map λx=>sgP (tS ns x),M'.map λx=>prP (mS ns x),J'.map λx=>jnP (jS ns x)],2,k,t3 r3,_,rfl,rfl,rfl,rfl,rfl,by show 3<=1000;decide,rfl,by rw[length_map];omega,by rw[length_map];omega,?_⟩
  have qq:=q (R0 ns T') (M0 ns M') ((J0 ns J').take k++r3::(J0 ns J').drop k) (AbG ns T') (Abr ns M') (Xs (AaG ns J') h3.1) (by first | rw[Gx];omega | omega) (by first | rw[Gx];omega | omega) (Ags h3)
  rw[Rl,<- eT,<- eM,<- eJ] at qq
  exact qq
theorem Aas{n:Nat}(h:0<n):ixN n (-1)=some (n - 1):=by
 unfold ixN
 rw[if_neg (by omega),if_pos (by omega)]
 congr 1;omega
theorem Aaz(xs:List PV)(x:PV):atI (xs++[x]) (-1)=some x:=by
 unfold atI
 rw[Aas (by simp)]
 show (xs++[x])[(xs++[x]).length - 1]? = some x
 simp
theorem Dt{a:J4}:∀{J:List J4},a∈J->a.1∈usJ J/\a.2.1∈usJ J
 | x::r,h=>by
  show a.1∈x.1::x.2.1::usJ r/\a.2.1∈x.1::x.2.1::usJ r
  rcases mem_cons.mp h with rfl | h
  ·exact⟨.head _,.tail _ (.head _)⟩
  ·exact⟨.tail _ (.tail _ (Dt h).1),.tail _ (.tail _ (Dt h).2)⟩
theorem Yz:∀{J:List J4},(usJ J).Nodup->(J.map (·.1)).Nodup/\(J.map (·.2.1)).Nodup/\∀a∈J,∀b∈J,a.1≠b.2.1
 | [],_=>⟨nodup_nil,nodup_nil,λa h=>by cases h⟩
 | x::r,h=>by
  have h:(x.1::x.2.1::usJ r).Nodup:=h
  obtain⟨h1,h2⟩:=nodup_cons.mp h
  obtain⟨h3,h4⟩:=nodup_cons.mp h2
  obtain⟨i1,i2,i3⟩:=Yz h4
  refine⟨nodup_cons.mpr ⟨λz=>?_,i1⟩,nodup_cons.mpr ⟨λz=>?_,i2⟩,λa ha b hb z=>?_⟩
  ·obtain⟨y,hy,e⟩:=mem_map.mp z
   have e:y.1=x.1:=e
   exact h1 (mem_cons_of_mem _ (by rw[<- e];exact (Dt hy).1))
  ·obtain⟨y,hy,e⟩:=mem_map.mp z
   have e:y.2.1=x.2.1:=e
   exact h3 (by rw[<- e];exact (Dt hy).2)
  ·rcases mem_cons.mp ha with e1 | ha2
   ·rcases mem_cons.mp hb with e2 | hb2
    ·rw[e1,e2] at z
     exact h1 (by rw[z];exact mem_cons_self)
    ·rw[e1] at z
     exact h1 (mem_cons_of_mem _ (by rw[z];exact (Dt hb2).2))
   ·rcases mem_cons.mp hb with e2 | hb2
    ·rw[e2] at z
     exact h3 (by rw[<- z];exact (Dt ha2).1)
    ·exact i3 a ha2 b hb2 z
theorem AcI(ns:List Int){l:List Nat}(h:l.Nodup)(hl:∀x∈l,x<101):(l.map (sgF ns)).Nodup :=
 List.pairwise_map.mpr (Pairwise.imp_of_mem (λha hb hab z=>hab (Lb ns (hl _ ha) (hl _ hb) z)) h)
theorem Ow{α:Type}{f:α->PV}(hf:∀a,∃ps,f a=.tup ps/\∀p∈ps,Od p=true)(l:List α):Cmp 40 (.lst (l.map f)) (.lst (l.map f)):=.lst λ_ i x y hx hy=>by
 rw[getElem?_map] at hx hy
 obtain⟨a,_,rfl⟩:=map_eq_some_iff.mp hx
 obtain⟨b,_,rfl⟩:=map_eq_some_iff.mp hy
 obtain⟨ps,e1,h1⟩:=hf a
 obtain⟨qs,e2,h2⟩:=hf b
 rw[e1,e2]
 exact .tup λj u v hu hv=>.flat (h1 u (mem_of_getElem? hu)) (h2 v (mem_of_getElem? hv))
theorem Agp{ns:List Int}{T:List T4}{M:List M4}{J:List J4}:CmpL [PV.lst (T.map λx=>sgP (tS ns x)),.lst (M.map λx=>prP (mS ns x)),.lst (J.map λx=>jnP (jS ns x))] [PV.lst (T.map λx=>sgP (tS ns x)),.lst (M.map λx=>prP (mS ns x)),.lst (J.map λx=>jnP (jS ns x))]:=λ_ i x y hx hy=>by
 match i,hx,hy with
 | 0,hx,hy=>cases hx;cases hy;exact Ow (λa=>⟨_,rfl,by intro p hp;simp only [mem_cons,not_mem_nil,or_false] at hp;rcases hp with rfl | rfl | rfl <;> rfl⟩) T
 | 1,hx,hy=>cases hx;cases hy;exact Ow (λa=>⟨_,rfl,by intro p hp;simp only [mem_cons,not_mem_nil,or_false] at hp;rcases hp with rfl | rfl <;> rfl⟩) M
 | 2,hx,hy=>cases hx;cases hy;exact Ow (λa=>⟨_,rfl,by intro p hp;simp only [mem_cons,not_mem_nil,or_false] at hp;rcases hp with rfl | rfl | rfl <;> rfl⟩) J
 | _+3,hx,_=>simp at hx
theorem AfI{ns:List Int}{T:List T4}{M:List M4}{J:List J4}(I:I4 98 T M J):(∀s∈T.map (tS ns),Lv s)/\(∀m∈M.map (mS ns),0<=m.1/\0<=m.2)/\((T.map (tS ns)).map (·.1)++Cn (M.map (mS ns))).Nodup/\Abj (kK (T.map (tS ns))++kM (M.map (mS ns))) (J.map (jS ns))/\(T.map (tS ns)).length+2*(M.map (mS ns)).length<=400:=by
 have ln:=I.ln
 refine⟨λs hs=>?_,λm hm=>?_,by rw[Vo];exact nd4 I (by decide),?_,by rw[length_map,length_map];omega⟩
 ·obtain⟨x,hx,rfl⟩:=mem_map.mp hs
  exact⟨Ln ns _,(I.ok x hx).1,(I.ok x hx).2⟩
 ·obtain⟨x,hx,rfl⟩:=mem_map.mp hm
  exact⟨Ln ns _,Ln ns _⟩
 have ndU:=I.nd
 rw[<- append_assoc] at ndU
 obtain⟨_,ndj,dis⟩:=nodup_append.mp ndU
 obtain⟨j1,j2,j3⟩:=Yz ndj
 have lt:∀x∈usJ J,x<98:=λx hx=>I.lt x (mem_append_right _ (mem_append_right _ hx))
 have off:∀x∈usJ J,sgF ns x∉usd ns T M:=λx hx z=>by
  obtain⟨v,hv,e⟩:=mem_map.mp z
  have l1:=I.lt v (by rw[<- append_assoc];exact mem_append_left _ hv)
  have l2:=lt x hx
  have:=Lb ns (by omega) (by omega) e
  subst this
  exact dis v hv v hx rfl
 have nw:((J.map (jS ns)).map (·.1)).Nodup:=by
  rw[map_map,show ((·.1)∘jS ns:J4->Int)=sgF ns∘(·.1) from rfl,<- map_map]
  exact AcI ns j1 λx hx=>by obtain⟨y,hy,rfl⟩:=mem_map.mp hx;have:=lt _ (Dt hy).1;omega
 have nb:((J.map (jS ns)).map (λj=>j.2.1)).Nodup:=by
  rw[map_map,show ((λj:Jn=>j.2.1)∘jS ns:J4->Int)=sgF ns∘(λj=>j.2.1) from rfl,<- map_map]
  exact AcI ns j2 λx hx=>by obtain⟨y,hy,rfl⟩:=mem_map.mp hx;have:=lt _ (Dt hy).2;omega
 refine { nn:=λj hj=>?_,mr:=λj hj=>?_,kd:=λj hj=>?_,nw:=nw,np:=?_,en:=λj hj=>?_,ln:=by rw[length_map];omega }
 ·obtain⟨y,_,rfl⟩:=mem_map.mp hj
  exact⟨Ln ns _,Ln ns _,Ln ns _⟩
 ·obtain⟨y,hy,rfl⟩:=mem_map.mp hj
  rcases I.mr y hy with e | e
  ·have:=Nj ns I I.t1
   show knd (Gi ns T M) (sgF ns y.2.2)=_
   rw[e];exact this
  ·obtain⟨r,hr⟩:=I.t3
   have:=Nj ns I hr
   show knd (Gi ns T M) (sgF ns y.2.2)=_
   rw[e];exact this
 ·obtain⟨y,hy,rfl⟩:=mem_map.mp hj
  exact⟨"plain",by decide +kernel,Tq ns (off _ (Dt hy).1),Tq ns (off _ (Dt hy).2)⟩
 ·have e:(J.map (jS ns)).map (λj=>j.2.1)=((J.map (jS ns)).map (·.2)).map (·.1):=by simp only [map_map];rfl
  rw[e] at nb
  exact Pairwise.imp (λh z=>h (by rw[z])) (List.pairwise_map.mp nb)
 ·obtain⟨y,hy,rfl⟩:=mem_map.mp hj
  have h1:=Rt nw hj
  have h2:Do (J.map (jS ns)) (jS ns y).2.1=none:=Vz λz=>by
   obtain⟨w,hw,e⟩:=mem_map.mp z
   obtain⟨x,hx,rfl⟩:=mem_map.mp hw
   have l1:=lt _ (Dt hx).1
   have l2:=lt _ (Dt hy).2
   exact j3 x hx y hy (Lb ns (by omega) (by omega) e)
  have s1:Gt (J.map (jS ns)) (jS ns y).1=(jS ns y).2.1:=by unfold Gt;rw[h1]
  have s2:Gt (J.map (jS ns)) (jS ns y).2.1=(jS ns y).2.1:=by unfold Gt;rw[h2]
  simp only [jGo,s1,s2,h2]
theorem AgW(T:Txt K mg t):Binds K t.d_qbf ["_law_script"] []:=T.F_qbf.binds (by walk_at "b1")
theorem Afq(T:Txt K mg t):FnOk P w K mg base (CX1 P w) 8 t.f_qbf t.d_qbf ["_law_script"] (spOf K t.C_Book [false] .sh Us):=by
 refine T.F_qbf.ok1 sc_qbf (λvs H Q E h=>h.len) (λcdv A outer s H vs Q E hr h=>?_)
 have hu:=Dg hr
 have hu64:=hr.units
 refine⟨_,(Bh (Cb (i:=1) sc_qbf.nd rfl (Or.inl rfl) (Bl (AeM T) (hr.mono (by decide)) rfl T.m_qba T.F_qba.kp (AfE T) .nil Bs (Ba (pv 0) Bb)))
   (Bh (Ts 1 ["_law_some"] rfl rfl (Fk (pv 1)) (λ_ _ _ _=>(Cm (i:=0) (show Nodup (["_law_some"]:List Str) by decide +kernel) rfl (Or.inl rfl))) (λ_ _ _ _=>Vh) (λ_ _ _ _=>(Nq (Nb K) rfl T.z_list PyProof.Rows.boot_list (Ba (pv 0) Bb))) (by decide +kernel) (by decide +kernel) rfl (by decide +kernel) (λ_=>rfl) (i:=2) sc_qbf.nd rfl (Or.inl rfl) rfl)
   (Bh (Xn (Cg (Bw K) (Cg (Bw K) (pv 1) Bd (λ_ _=>rfl)) (Xb Te Bd) (λ_ _=>rfl)) (Um (K':=K) (n:=3) rfl rfl (Cy (Cm (i:=3) sc_qbf.nd rfl (Or.inl rfl)) (Cy (Cm (i:=4) sc_qbf.nd rfl (Or.inl rfl)) (Cy (Cm (i:=5) sc_qbf.nd rfl (Or.inl rfl)) Fw)))))
   (Bh (Ga (Go AfS (Uy (Vl T.K_Book (Vs T) (hr.mono (by decide)) rfl T.m_Book (Abt T) .nil Bs (Ba (Cg (Bw K) (pv 1) Bd (λ_ _=>rfl)) (Ba (Cg (Bw K) (pv 1) Bd (λ_ _=>rfl)) (Ba (Cg (Bw K) (pv 1) Bd (λ_ _=>rfl)) Bb)))) T.cl_Book T.M_qw (Acw T) (hr.mono (by decide)) (Ad4 T) .nil Bs (Ba (pv 3) Bb)) (pv 4) (Dm _))
    (Bx (Cu Gq))
    Fi)
   (Bh (Fe PassesOwn.leaving rfl (Fk (Cr (Ba Bd (Ba Bd Bb)))) (Cm (i:=6) sc_qbf.nd rfl (Or.inl rfl))
    (Bx (Ga (Su (Tl (Bl (AfR T) (hr.mono (by decide)) rfl T.m_ql T.F_ql.kp (AgN T) .nil Bs (Ba (Bl (AfY T) (hr.mono (by decide)) rfl T.m_qm T.F_qm.kp (AgA T) .nil Bs (Ba (pv 1) (Ba (pv 0) (Ba (Bl (Lo T) (hr.mono (by decide)) rfl T.m_qj T.F_qj.kp (Ql T) .nil Bs (Ba (pv 0) (Ba (pv 6) Bb))) Bb)))) Bb))))
    (Bx (Cu Gq))
    Fi)))
   (Bh (Cb (i:=7) sc_qbf.nd rfl (Or.inl rfl) (Vl T.K_Book (Vs T) (hr.mono (by decide)) rfl T.m_Book (Abt T) .nil Bs (Ba (Cg (Bw K) (pv 1) Bd (λ_ _=>rfl)) (Ba (Cg (Bw K) (pv 1) Bd (λ_ _=>rfl)) (Ba (Cg (Bw K) (pv 1) Bd (λ_ _=>rfl)) Bb)))))
   (Bx (Cu (Fa (Dy (AdR K hu64) (pv 1) (pv 2) (Dm _)) (Ge (Dy Gp (Uy (pv 7) T.cl_Book T.M_qw (Acw T) (hr.mono (by decide)) (Ad4 T) .nil Bs (Ba (pv 3) Bb)) (pv 4) (Dm _)))))))))))),?_⟩
 try dsimp only [Cv,Ci]
 refine Dv h (by decide) (Bv (Cq (EF.eu (Ac0 (Br Bi Be))))
   (Bv (Cq (EF.eu (Adf Bi (Fy (top:=1)) AdE (EF.eu (Adx (Br Bi Be))))))
   (Bv (Ya (Ce (EU.eb (Ce Bi (EU.eb Bf))) (EU.eb (Abu (λ_ _=>.int _) (EU.eb Bf)))) (Zt (Jd (Fy (top:=8)) (Jd (Fy (top:=8)) (Jd (Fy (top:=8)) Ve)))))
   (Bv (Ly (Ri (EU.eb (Agd (EU.eb (Vm (EU.eb (Aau (Br (EU.eb (Ce Bi (EU.eb Bf))) (Br (EU.eb (Ce Bi (EU.eb Bf))) (Br (EU.eb (Ce Bi (EU.eb Bf))) Be))))) Bi)) Bi)))
    (Fg Jm)
    Lg)
   (Bv (Ad8 (EF.eu (Cz 2 (Bc Bf (Bc Bf Be)))) (Fy (top:=8))
    (Ly (AeA (Ac9 (EU.eb (Cd (Br (EU.eb (Cd (Bc Bm (Br Bi (Br (EU.eb (Cd (Br Bi (Br Bi Be)))) Be))))) Be)))))
    (Fg Jm)
    Lg))
   (Bv (Cq (Aau (Br (EU.eb (Ce Bi (EU.eb Bf))) (Br (EU.eb (Ce Bi (EU.eb Bf))) (Br (EU.eb (Ce Bi (EU.eb Bf))) Be)))))
   (Fg (Gz (EU.eb (Aev Bi Bi)) (Qx (EU.eb (Vm Bi Bi)) Bi))))))))) (λps P hp=>?_)
 clear h hu hu64 hr
 obtain⟨ns,rfl,hlen,q⟩:=hp
 walk_at "s"
 ext
 refine⟨ns,rfl,hlen,λT' M' J' I=>?_⟩
 obtain⟨so,mo,nd,jo,ln⟩:=AfI (ns:=ns) I
 ext
 refine⟨(by decide:3<=100000),?_⟩
 refine AdJ (S:=[T'.map λx=>sgP (tS ns x),M'.map λx=>prP (mS ns x),J'.map λx=>jnP (jS ns x)]) (enc:=PV.lst) (f:=λx=>some (.lst x)) ?_ (λd hd Z hZ=>?_)
 rotate_left
 ·walk_at "c"
  ext
  exact hZ
 rw[show [T'.map λx=>sgP (tS ns x),M'.map λx=>prP (mS ns x),J'.map λx=>jnP (jS ns x)].filterMap (λx=>some (PV.lst x))=[.lst (T'.map λx=>sgP (tS ns x)),.lst (M'.map λx=>prP (mS ns x)),.lst (J'.map λx=>jnP (jS ns x))] from rfl]
 obtain⟨T0,tt,hT⟩:∃T0 tt,T'=T0++[tt]:=⟨T'.dropLast,T'.getLast (List.ne_nil_of_mem I.t0),(List.dropLast_concat_getLast _).symm⟩
 have ht:tt∈T':=by rw[hT];exact mem_append_right _ (mem_singleton.mpr rfl)
 have kt:Tn (T'.map (tS ns)) (M'.map (mS ns)) (sgF ns tt.1)=tt.2.1:=by
  have:=Nj ns I ht
  unfold knd Gi at this
  unfold Tn
  rw[this];rfl
 ext
 refine Fc (x:=sgP (tS ns tt)) (by rw[hT,map_append];exact Aaz _ _) ?_
 rw[show sgP (tS ns tt)=.tup [.int (sgF ns tt.1),.str tt.2.1,.int tt.2.2] from rfl]
 ext
 refine⟨T'.map (tS ns),M'.map (mS ns),J'.map (jS ns),by rw[map_map,map_map,map_map];rfl,so,mo,nd,jo,ln,?_⟩
 ext
 rw[kt,decide_eq_true rfl]
 ext
 refine⟨λi ρ=>∃v6:Sl,ρ=[.bo (.scr ns),.sh (L4P ns T' M' J'),.sh (L4P ns T' M' J'),.sh (.int (sgF ns tt.1)),.sh (.str tt.2.1),.sh (.int tt.2.2),v6,.un],⟨_,rfl⟩,?_,?_⟩
 ·rintro i p ρ hp ⟨v6,rfl⟩
  obtain⟨k,rfl⟩:∃k:Nat,p=.int (k:Int):=by
   match i,hp with
   | 0,hp=>cases hp;exact⟨2,rfl⟩
   | 1,hp=>cases hp;exact⟨3,rfl⟩
   | _+2,hp=>simp at hp
  ext
  refine⟨ns,k,rfl,hlen,?_⟩
  ext
  refine⟨ns,T',M',J',_,rfl,hlen,I,λR Mt Jr h1 h2 h3 l1 l2 no=>?_⟩
  ext
  refine⟨R,Mt,Jr,rfl,h1,h2,h3,l1,l2,no,?_⟩
  ext
  exact⟨_,rfl⟩
 rintro ρ ⟨v6,rfl⟩
 dsimp only [L4P]
 ext
 refine⟨T'.map (tS ns),M'.map (mS ns),J'.map (jS ns),by rw[map_map,map_map,map_map];rfl,so,mo,nd,jo,ln,?_⟩
 ext
 refine Afe Agp ?_
 ext
 rw[kt,decide_eq_true rfl]
 exact q
end
def _root_.PySem.W.Fast.tw10407357242355649194:Nat:=0
def _root_.PySem.W.Fast.tw10411252628932969109:Nat:=0
def _root_.PySem.W.Fast.tw11223866029702766885:Nat:=0
def _root_.PySem.W.Fast.tw11471626644105785141:Nat:=0
def _root_.PySem.W.Fast.tw11676250225093094501:Nat:=0
def _root_.PySem.W.Fast.tw1169187806186602783:Nat:=0
def _root_.PySem.W.Fast.tw11980588395897204181:Nat:=0
def _root_.PySem.W.Fast.tw12133325693256213805:Nat:=0
def _root_.PySem.W.Fast.tw12180702964616599395:Nat:=0
def _root_.PySem.W.Fast.tw1224589410988449141:Nat:=0
def _root_.PySem.W.Fast.tw12447502035379703492:Nat:=0
def _root_.PySem.W.Fast.tw12613642031349907286:Nat:=0
def _root_.PySem.W.Fast.tw12661307385267635482:Nat:=0
def _root_.PySem.W.Fast.tw12719191449142755930:Nat:=0
def _root_.PySem.W.Fast.tw13558503680496134303:Nat:=0
def _root_.PySem.W.Fast.tw14723580471138720192:Nat:=0
def _root_.PySem.W.Fast.tw1479581527538343540:Nat:=0
def _root_.PySem.W.Fast.tw15284471835923336633:Nat:=0
def _root_.PySem.W.Fast.tw15418732957011586244:Nat:=0
def _root_.PySem.W.Fast.tw15993855373106497296:Nat:=0
def _root_.PySem.W.Fast.tw1613307317683477279:Nat:=0
def _root_.PySem.W.Fast.tw16176822368156023275:Nat:=0
def _root_.PySem.W.Fast.tw1625560490045914922:Nat:=0
def _root_.PySem.W.Fast.tw16348775933825272363:Nat:=0
def _root_.PySem.W.Fast.tw16797411706622938450:Nat:=0
def _root_.PySem.W.Fast.tw1681568070864751465:Nat:=0
def _root_.PySem.W.Fast.tw16946890732741169955:Nat:=0
def _root_.PySem.W.Fast.tw17033418620218727232:Nat:=0
def _root_.PySem.W.Fast.tw17686645203426620568:Nat:=0
def _root_.PySem.W.Fast.tw17704345662194393765:Nat:=0
def _root_.PySem.W.Fast.tw17921682043965539072:Nat:=0
def _root_.PySem.W.Fast.tw18077655538999675328:Nat:=0
def _root_.PySem.W.Fast.tw18182706926597399729:Nat:=0
def _root_.PySem.W.Fast.tw18411863386790540149:Nat:=0
def _root_.PySem.W.Fast.tw2210432154511728748:Nat:=0
def _root_.PySem.W.Fast.tw2527865362491726584:Nat:=0
def _root_.PySem.W.Fast.tw256852177961137500:Nat:=0
def _root_.PySem.W.Fast.tw2637014222264323361:Nat:=0
def _root_.PySem.W.Fast.tw2696495315104886093:Nat:=0
def _root_.PySem.W.Fast.tw2829805598402524806:Nat:=0
def _root_.PySem.W.Fast.tw3122176893516987179:Nat:=0
def _root_.PySem.W.Fast.tw3331469790021254905:Nat:=0
def _root_.PySem.W.Fast.tw3626473957557784874:Nat:=0
def _root_.PySem.W.Fast.tw3967943956056309659:Nat:=0
def _root_.PySem.W.Fast.tw472394704979332067:Nat:=0
def _root_.PySem.W.Fast.tw4980234687721521223:Nat:=0
def _root_.PySem.W.Fast.tw5186073242029877852:Nat:=0
def _root_.PySem.W.Fast.tw5404270114168656131:Nat:=0
def _root_.PySem.W.Fast.tw5534567798415336629:Nat:=0
def _root_.PySem.W.Fast.tw5626484260361615572:Nat:=0
def _root_.PySem.W.Fast.tw5885381832367721506:Nat:=0
def _root_.PySem.W.Fast.tw5982080438296111223:Nat:=0
def _root_.PySem.W.Fast.tw6033505261614536373:Nat:=0
def _root_.PySem.W.Fast.tw6199076384169323210:Nat:=0
def _root_.PySem.W.Fast.tw6434930466557916728:Nat:=0
def _root_.PySem.W.Fast.tw6675705104363224901:Nat:=0
def _root_.PySem.W.Fast.tw687991884900491606:Nat:=0
def _root_.PySem.W.Fast.tw7245065869078736719:Nat:=0
def _root_.PySem.W.Fast.tw752805848757816286:Nat:=0
def _root_.PySem.W.Fast.tw7730759647626873684:Nat:=0
def _root_.PySem.W.Fast.tw7903993118906111184:Nat:=0
def _root_.PySem.W.Fast.tw800977059337485439:Nat:=0
def _root_.PySem.W.Fast.tw8065692212470907072:Nat:=0
def _root_.PySem.W.Fast.tw8361533904659317565:Nat:=0
def _root_.PySem.W.Fast.tw865237137952903334:Nat:=0
def _root_.PySem.W.Fast.tw868884200292542007:Nat:=0
def _root_.PySem.W.Fast.tw8691706346978393849:Nat:=0
def _root_.PySem.W.Fast.tw8768242838495697637:Nat:=0
def _root_.PySem.W.Fast.tw8919646364754470926:Nat:=0
def _root_.PySem.W.Fast.tw906061281328759156:Nat:=0
def _root_.PySem.W.Fast.tw9134613208617247783:Nat:=0
def _root_.PySem.W.Fast.tw9746249332935294544:Nat:=0
def _root_.PySem.W.Fast.tw9877148313305774242:Nat:=0
def _root_.PySem.W.Fast.tw9937336543468354496:Nat:=0
abbrev fnD(x q:Str)(st:Stmt)(dV kV doc pm:Value)(an:Option Addr)(cdv ct:Value):FuncData:=fnOf x q (Lc st) (Gu st) (Cc st) dV kV doc pm an cdv ct
def FK(K:Frag)(a:Addr)(n:Str)(st:Stmt):Prop:=nsIn K mainGlobals n=some (some (.ref a))/\∃d,Fun K n n st a d
theorem FK.mk'{K:Frag}{n:Str}{st:Stmt}{f:Addr}{oc kV doc pm cdv ct:Value}{od an:Option Addr}{osl:Array (Option Value)}(b:nsIn K mainGlobals n=some (some (.ref f)))(l:K.lookup f=some ⟨oc,od,.func (fnD n n st .none kV doc pm an cdv ct),osl⟩)(c:codeIn K cdv n=true)(k:keepIn K (.ref f)=true):FK K f n st:=⟨b,_,Qp l c k⟩
theorem FK.get{K:Frag}{h:Heap}{mg:Str->Option Value}{a:Addr}{n:Str}{st:Stmt}(z:FK K a n st)(X:K.In h)(G:h.Ns mainGlobals mg):∃d,Fun K n n st a d/\mg n=some (.ref a):=by
 obtain⟨b,d,F⟩:=z
 exact⟨d,F,mg_of X G b⟩
theorem all_mk{l:PySem.W.OpenLaw}{w:World}{K:Frag}{h:Heap}{mg:Str->Option Value}{fa:Addr}(X:K.In h)(G:h.Ns mainGlobals mg)(hfa:mg "law"=some (.ref fa)){x00 x01 x02 x03 x04 x05 x06 x07 x08 x09 x0a x0b x0c x0d x0e x0f x0g x0h x0i x0j x0k x0l x0m x0n x0o x0p x0q x0r x0s x0t x0u x0v x0w x0x x0y x0z:Addr}{x10:Option Addr}{x11:Array Value}{x12:Nat}{x13:Array (Option Value)}{x14:Value}{x15:Option Addr}{x16:Array Value}{x17:Nat}{x18:Array (Option Value)}{x19 x1a x1b x1c x1d x1e:Option Addr}{x1f x1g x1h:Array (Option Value)}{x1i x1j x1k x1l x1m x1n x1o x1p x1q x1r x1s x1t x1u x1v x1w x1x x1y x1z:Value}
  (x20:nsIn K mainGlobals "Book"=some (some (.ref x0r)))
  (x21:FK K x00 "_law_cell_at" AbH)
  (x22:FK K x01 "_law_sign" Xk)
  (x23:FK K x02 "_law_lists" Wl)
  (x24:FK K x03 "refuse_unless" Abb)
  (x25:FK K x04 "check_tuples" AaH)
  (x26:FK K x05 "is_whole_number" Abl)
  (x27:FK K x06 "is_sign" Wk)
  (x28:FK K x07 "add_kind" Wr)
  (x29:FK K x08 "is_told_kind" AaV)
  (x2a:FK K x09 "is_rank_of" AaC)
  (x2b:FK K x0a "kinds_told" Aa9)
  (x2c:FK K x0b "ranks_told" Aa2)
  (x2d:FK K x0c "both_ways" Abw)
  (x2e:FK K x0d "kind_among" AaR)
  (x2f:FK K x0e "check_join" AaZ)
  (x2g:FK K x0f "ends_in_time" Abh)
  (x2h:FK K x0g "pairs_told" AbL)
  (x2i:FK K x0h "wholes_told" AaF)
  (x2j:findIn K (.ref x0r) "__init__"=some (some (.ref x0i)))
  (x2k:isFn K (.ref x0i)=true)
  (x2l:K.lookup x0i=some ⟨x1i,x19,.func (fnD "__init__" "Book.__init__" Wp .none x1j x1k x1l x1a x1m x1n),x1f⟩)
  (x2m:codeIn K x1m "Book.__init__"=true)
  (x2n:keepIn K (.ref x0i)=true)
  (x2o:findIn K (.ref x0r) "kind"=some (some (.ref x0j)))
  (x2p:isFn K (.ref x0j)=true)
  (x2q:K.lookup x0j=some ⟨x1o,x1b,.func (fnD "kind" "Book.kind" Wx .none x1p x1q x1r x1c x1s x1t),x1g⟩)
  (x2r:codeIn K x1s "Book.kind"=true)
  (x2s:keepIn K (.ref x0j)=true)
  (x2t:FK K x0k "_law_refused" Aa6)
  (x2u:FK K x0l "_law_no_sign" AaX)
  (x2v:FK K x0m "_law_bad_told" AaU)
  (x2w:FK K x0n "_law_bad_mates" AaJ)
  (x2x:FK K x0o "_law_bad_join" Aa4)
  (x2y:FK K x0p "_law_spoiled" AaW)
  (x2z:nsIn K mainGlobals "law"=some (some (.ref x0q)))
  (x30:K.lookup x0q=some ⟨x1u,x1d,.func (fnD "law" "law" Qr .none x1v x1w x1x x1e x1y x1z),x1h⟩)
  (x31:codeIn K x1y "law"=true)
  (x32:keepIn K (.ref x0q)=true)
  (x33:plainGet K x0r Str.empty=true)
  (x34:hasDictIn K x0r=true)
  (x35:plainOver K x0r=true)
  (x36:findIn K (.ref x0r) "__setattr__"=some (some (.builtin "object.__setattr__")))
  (x37:makesIn K x0r=true)
  (x38:keepIn K (.ref x0r)=true)
  (x39:findIn K (.ref x0r) "kinds"=some none)
  (x3a:findIn K (.ref x0r) "ranks"=some none)
  (x3b:findIn K (.ref x0r) "mates"=some none)
  (x3c:findIn K (.ref x0r) "pairs"=some none)
  (x3d:findIn K (.ref x0r) "wholes"=some none)
  (x3e:nsIn K mainGlobals "HandsError"=some (some (.ref x0s)))
  (x3f:PySem.W.excIn K x0s [.type "ValueError",.type "Exception",.type "BaseException",.type "object"] "ValueError.__new__"=true)
  (x3g:nsIn K mainGlobals "NoBook"=some (some (.ref x0t)))
  (x3h:PySem.W.excIn K x0t [.type "ValueError",.type "Exception",.type "BaseException",.type "object"] "ValueError.__new__"=true)
  (x3i:nsIn K mainGlobals "NoPlace"=some (some (.ref x0u)))
  (x3j:PySem.W.excIn K x0u [.type "ValueError",.type "Exception",.type "BaseException",.type "object"] "ValueError.__new__"=true)
  (x3k:nsIn K mainGlobals "NoStep"=some (some (.ref x0v)))
  (x3l:PySem.W.excIn K x0v [.type "ValueError",.type "Exception",.type "BaseException",.type "object"] "ValueError.__new__"=true)
  (x3m:nsIn K mainGlobals "NoWhat"=some (some (.ref x0w)))
  (x3n:PySem.W.excIn K x0w [.type "ValueError",.type "Exception",.type "BaseException",.type "object"] "ValueError.__new__"=true)
  (x3o:nsIn K mainGlobals "NoWidth"=some (some (.ref x0x)))
  (x3p:PySem.W.excIn K x0x [.type "ValueError",.type "Exception",.type "BaseException",.type "object"] "ValueError.__new__"=true)
  (x3q:mroIn K x0t (.ref x0s)=some true)
  (x3r:PySem.W.isClsIn K x0t=true)
  (x3s:findIn K (.ref x0t) "__getattribute__"=some (some (.builtin "BaseException.__getattribute__")))
  (x3t:findIn K (.ref x0t) "__getattr__"=some none)
  (x3u:findIn K (.ref x0t) "__class__"=some (some (.builtin "object.__class__")))
  (x3v:PySem.W.specialIn K (.builtin "object.__class__") "__get__"=some (some (.builtin "getset_descriptor.__get__")))
  (x3w:PySem.W.takesIn K (.builtin "object.__class__")=some true)
  (x3x:mroIn K x0t (.type "BaseException")=some true)
  (x3y:mroIn K x0t (.type "object")=some true)
  (x3z:kitOne K (.ref x0t) (.ref x0t)=some true)
  (x40:kitOne K (.ref x0t) (.type "ValueError")=some true)
  (x41:kitOne K (.ref x0t) (.ref x0v)=some false)
  (x42:kitOne K (.ref x0t) (.ref x0u)=some false)
  (x43:kitOne K (.ref x0t) (.ref x0x)=some false)
  (x44:kitOne K (.ref x0t) (.ref x0w)=some false)
  (x45:nsIn K mainGlobals "ValueError"=some none)
  (x46:nsIn K mainGlobals "bool"=some none)
  (x47:nsIn K mainGlobals "int"=some none)
  (x48:nsIn K mainGlobals "isinstance"=some none)
  (x49:nsIn K mainGlobals "len"=some none)
  (x4a:nsIn K mainGlobals "list"=some none)
  (x4b:nsIn K mainGlobals "min"=some none)
  (x4c:nsIn K mainGlobals "range"=some none)
  (x4d:nsIn K mainGlobals "str"=some none)
  (x4e:nsIn K mainGlobals "tuple"=some none)
  (x4f:nsIn K mainGlobals "JOINED_KINDS"=some (some (.ref x0y)))
  (x4g:K.lookup x0y=some ⟨.type "tuple",x10,.seq x11 x12,x13⟩)
  (x4h:x11.size<=sizeLine)
  (x4i:Vals [.str "fore",.str "back",.str "num",.str "blank",.str "plain"] x11.toList)
  (x4j:nsIn K mainGlobals "MOST_GOINGS"=some (some x14))
  (x4k:RelV (.int 7) x14)
  (x4l:nsIn K mainGlobals "TOLD_KINDS"=some (some (.ref x0z)))
  (x4m:K.lookup x0z=some ⟨.type "tuple",x15,.seq x16 x17,x18⟩)
  (x4n:x16.size<=sizeLine)
  (x4o:Vals [.str "fore",.str "back",.str "num",.str "blank",.str "mark",.str "forein",.str "backin",.str "out"] x16.toList)
  : ∃fd:FuncData,(∀(s:Shared) (v:Value),BindsTo s fd ⟨[v],[]⟩ [("_law_script",v)])/\∀base:Heap,K.In base->base.Ns mainGlobals mg->FnOk l.prog w K mg base (CX1 l.prog w) 8 fa fd ["_law_script"] (Rc K):=by
 have e:=hfa.symm.trans (mg_of X G x2z)
 cases e
 obtain⟨_,F_qj,m_qj⟩:=x21.get X G
 obtain⟨_,F_qbc,m_qbc⟩:=x22.get X G
 obtain⟨_,F_qba,m_qba⟩:=x23.get X G
 obtain⟨_,F_qc,m_qc⟩:=x24.get X G
 obtain⟨_,F_qd,m_qd⟩:=x25.get X G
 obtain⟨_,F_qa,m_qa⟩:=x26.get X G
 obtain⟨_,F_qbd,m_qbd⟩:=x27.get X G
 obtain⟨_,F_qbb,m_qbb⟩:=x28.get X G
 obtain⟨_,F_qf,m_qf⟩:=x29.get X G
 obtain⟨_,F_qq,m_qq⟩:=x2a.get X G
 obtain⟨_,F_qs,m_qs⟩:=x2b.get X G
 obtain⟨_,F_qu,m_qu⟩:=x2c.get X G
 obtain⟨_,F_qz,m_qz⟩:=x2d.get X G
 obtain⟨_,F_qr,m_qr⟩:=x2e.get X G
 obtain⟨_,F_qp,m_qp⟩:=x2f.get X G
 obtain⟨_,F_qe,m_qe⟩:=x2g.get X G
 obtain⟨_,F_qt,m_qt⟩:=x2h.get X G
 obtain⟨_,F_qn,m_qn⟩:=x2i.get X G
 obtain⟨_,F_ql,m_ql⟩:=x2t.get X G
 obtain⟨_,F_qk,m_qk⟩:=x2u.get X G
 obtain⟨_,F_qh,m_qh⟩:=x2v.get X G
 obtain⟨_,F_qb,m_qb⟩:=x2w.get X G
 obtain⟨_,F_qg,m_qg⟩:=x2x.get X G
 obtain⟨_,F_qm,m_qm⟩:=x2y.get X G
 have T:Txt K mg ⟨x00,_,x01,_,x02,_,x03,_,x04,_,x05,_,x06,_,x07,_,x08,_,x09,_,x0a,_,x0b,_,x0c,_,x0d,_,x0e,_,x0f,_,x0g,_,x0h,_,x0i,_,x0j,_,x0k,_,x0l,_,x0m,_,x0n,_,x0o,_,x0p,_,fa,_,x0r,x0y,x0z,x0s,x0t,x0u,x0v,x0w,x0x⟩:={
  F_qj,m_qj,
  F_qbc,m_qbc,
  F_qba,m_qba,
  F_qc,m_qc,
  F_qd,m_qd,
  F_qa,m_qa,
  F_qbd,m_qbd,
  F_qbb,m_qbb,
  F_qf,m_qf,
  F_qq,m_qq,
  F_qs,m_qs,
  F_qu,m_qu,
  F_qz,m_qz,
  F_qr,m_qr,
  F_qp,m_qp,
  F_qe,m_qe,
  F_qt,m_qt,
  F_qn,m_qn,
  F_qv:=Qp (st:=Wp) x2l x2m x2n,
  F_qw:=Qp (st:=Wx) x2q x2r x2s,
  M_qw:=⟨x2o,x2p,x2s⟩,
  F_ql,m_ql,
  F_qk,m_qk,
  F_qh,m_qh,
  F_qb,m_qb,
  F_qg,m_qg,
  F_qm,m_qm,
  F_qbf:=Qp (st:=Qr) x30 x31 x32,
  m_qbf:=mg_of X G x2z,
  m_Book:=mg_of X G x20,
  cl_Book:=⟨x33,x34,x35,x36⟩,
  K_Book:=⟨x37,x2j,x2k,x38⟩,
  n_Book_kinds:=x39,
  n_Book_ranks:=x3a,
  n_Book_mates:=x3b,
  n_Book_pairs:=x3c,
  n_Book_wholes:=x3d,
  m_HandsError:=mg_of X G x3e,
  x_HandsError:=x3f,
  m_NoBook:=mg_of X G x3g,
  x_NoBook:=x3h,
  m_NoPlace:=mg_of X G x3i,
  x_NoPlace:=x3j,
  m_NoStep:=mg_of X G x3k,
  x_NoStep:=x3l,
  m_NoWhat:=mg_of X G x3m,
  x_NoWhat:=x3n,
  m_NoWidth:=mg_of X G x3o,
  x_NoWidth:=x3p,
  r_NoBook_HandsError:=x3q,
  N_NoBook:=⟨x3r,x3s,x3t,x3u,x3v,x3w,x3x,x3y⟩,
  i_NoBook_NoBook:=x3z,
  i_NoBook_ValueError:=x40,
  i_NoBook_NoStep:=x41,
  i_NoBook_NoPlace:=x42,
  i_NoBook_NoWidth:=x43,
  i_NoBook_NoWhat:=x44,
  z_ValueError:=mg_none_of X G x45,
  z_bool:=mg_none_of X G x46,
  z_int:=mg_none_of X G x47,
  z_isinstance:=mg_none_of X G x48,
  z_len:=mg_none_of X G x49,
  z_list:=mg_none_of X G x4a,
  z_min:=mg_none_of X G x4b,
  z_range:=mg_none_of X G x4c,
  z_str:=mg_none_of X G x4d,
  z_tuple:=mg_none_of X G x4e,
  g_JOINED_KINDS:=mg_of X G x4f,
  q_JOINED_KINDS:=λ_=>.inr ⟨_,_,_,x4g,rfl,rfl,x4h,x4i⟩,
  g_MOST_GOINGS:=⟨_,mg_of X G x4j,x4k⟩,
  g_TOLD_KINDS:=mg_of X G x4l,
  q_TOLD_KINDS:=λ_=>.inr ⟨_,_,_,x4m,rfl,rfl,x4n,x4o⟩ }
 exact⟨fnD "law" "law" Qr .none x1v x1w x1x x1e x1y x1z,λs v=>.of_eq rfl,λbase _ _=>(Afq T).imp Ads⟩
theorem walk{l:PySem.W.OpenLaw}{q:Program}{loose:List Str}{XP:(Str->Option Value)->Heap->Prop}{YP:World->Heap->Prop}{d:DefRec}{K:Params->Frag}(hn:l.most=some 63)(hdf:d.params.defaults=[])
  (hY:∀(w:World) (h:Heap),YP w h->(K w.params).In h)
  (F:∀(w:World) (mg:Str->Option Value) (fa:Addr) (h:Heap),(K w.params).In h->h.Ns mainGlobals mg->mg d.name=some (.ref fa) ->
   ∃fd:FuncData,(∀(s:Shared) (u:Value),BindsTo s fd ⟨[u],[]⟩ [("_law_script",u)])/\∀base:Heap,(K w.params).In base->base.Ns mainGlobals mg->FnOk l.prog w (K w.params) mg base (CX1 l.prog w) 8 fa fd ["_law_script"] (Rc (K w.params))) :
  PySem.W.WalkO q loose XP YP l.row.toRowW d [] (λf vs=>PySem.call f vs) :=
 L2.AgV (n:=63) (k:=8) (x:="_law_script") (CX:=λw=>(CX1 l.prog w)) (sp:=λw=>Rc (K w.params)) hn (by decide) hdf ⟨rfl,by decide,by decide⟩ hY F (λ_ _ a ns hl _ hS=>⟨a,ns,rfl,hS,hl,λ_=>rfl⟩) λ_ _ _ _ _ z=>by obtain⟨_,_,_,_,_,_,_,_,_,_,_,_,_,_,z⟩:=z;exact z
end My
open PySem PySem.W PyProof.Rows
local macro_rules | `(tactic| walk_at "f")=>`(tactic| (refine' My.FK.mk' ?a ?b ?c ?d; (case a=>k_is); (case b=>k_is); (case c=>k_is); (case d=>k_is)))
set_option maxRecDepth 100000 in
set_option maxHeartbeats 0 in
theorem PySem.Challenge.cw_bothhands_k04_no_book_holds : PySem.Challenge.rw_bothhands_k04_no_book.Holds := by
 w_on;o_law;k_head;(case hw=>w_witness2)
 k_fill
 refine My.walk (l:=PySem.Challenge.rw_bothhands_k04_no_book) rfl rfl (λw h Y=>kIn_of Y) ?F
 case F =>
  intro w mg fa h KX G hmg
  refine' My.all_mk KX G hmg ?x20 ?x21 ?x22 ?x23 ?x24 ?x25 ?x26 ?x27 ?x28 ?x29 ?x2a ?x2b ?x2c ?x2d ?x2e ?x2f ?x2g ?x2h ?x2i ?x2j ?x2k ?x2l ?x2m ?x2n ?x2o ?x2p ?x2q ?x2r ?x2s ?x2t ?x2u ?x2v ?x2w ?x2x ?x2y ?x2z ?x30 ?x31 ?x32 ?x33 ?x34 ?x35 ?x36 ?x37 ?x38 ?x39 ?x3a ?x3b ?x3c ?x3d ?x3e ?x3f ?x3g ?x3h ?x3i ?x3j ?x3k ?x3l ?x3m ?x3n ?x3o ?x3p ?x3q ?x3r ?x3s ?x3t ?x3u ?x3v ?x3w ?x3x ?x3y ?x3z ?x40 ?x41 ?x42 ?x43 ?x44 ?x45 ?x46 ?x47 ?x48 ?x49 ?x4a ?x4b ?x4c ?x4d ?x4e ?x4f ?x4g ?x4h ?x4i ?x4j ?x4k ?x4l ?x4m ?x4n ?x4o
  (case x20=>k_is)
  (case x21 | x22 | x23 | x24 | x25 | x26 | x27 | x28 | x29 | x2a | x2b | x2c | x2d | x2e | x2f | x2g | x2h | x2i=>walk_at "f")
  (case x2j | x2k | x2l | x2m | x2n | x2o | x2p | x2q | x2r | x2s=>k_is)
  (case x2t | x2u | x2v | x2w | x2x | x2y=>walk_at "f")
  (case x2z | x30 | x31 | x32 | x33 | x34 | x35 | x36 | x37 | x38 | x39 | x3a | x3b | x3c | x3d | x3e=>k_is)
  (case x3f=>k_exc)
  (case x3g=>k_is)
  (case x3h=>k_exc)
  (case x3i=>k_is)
  (case x3j=>k_exc)
  (case x3k=>k_is)
  (case x3l=>k_exc)
  (case x3m=>k_is)
  (case x3n=>k_exc)
  (case x3o=>k_is)
  (case x3p=>k_exc)
  (case x3q | x3r | x3s | x3t | x3u | x3v | x3w | x3x | x3y=>k_is)
  (case x3z | x40 | x41 | x42 | x43 | x44=>kit_is)
  (case x45 | x46 | x47 | x48 | x49 | x4a | x4b | x4c | x4d | x4e | x4f | x4g=>k_is)
  (case x4h=>decide)
  (case x4i=>exact .cons ⟨_,rfl⟩ (.cons ⟨_,rfl⟩ (.cons ⟨_,rfl⟩ (.cons ⟨_,rfl⟩ (.cons ⟨_,rfl⟩ (.nil))))))
  (case x4j=>k_is)
  (case x4k=>exact⟨_,rfl⟩)
  (case x4l | x4m=>k_is)
  (case x4n=>decide)
  (case x4o=>exact .cons ⟨_,rfl⟩ (.cons ⟨_,rfl⟩ (.cons ⟨_,rfl⟩ (.cons ⟨_,rfl⟩ (.cons ⟨_,rfl⟩ (.cons ⟨_,rfl⟩ (.cons ⟨_,rfl⟩ (.cons ⟨_,rfl⟩ (.nil)))))))))
