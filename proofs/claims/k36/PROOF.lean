import PyProof.Rows.All
import Wide.All
import OpenK.AllK
import Wide.FinOn
import Lean
import PyProof.EqAt
import PyProof.EqKinds
import PyProof.TupleCall
import PyProof.NeKinds
import PyProof.DictItems
import PyProof.DictWalks
import KE.KTurnsDict
import KE.KDictSum
import KE.KSortKey
import KE.KBoundM
import KE.KMinKey
import KE.KRevIter
import KE.KFind
import KE.LcSums
import PyProof.ListRange
import PyProof.CollectIter
import PyProof.ConsumeWalk
import PyProof.ZipIter
import PySem.Challenge.RW_bothhands_k36_whole_inside_and_without
open PySem.W (instObj methodObj lookIn plainGet hasDictIn findIn handedIn plainGet_of isFn plainOver takerIn Looks makesIn typeIn emptyDict keepIn mroIn kitOne kia_one kitx_list kitx_dict callWith_K cellsFrom_some kIn_of mg_of kitMeta mg_none_of Frag fnOf nsIn codeIn)
open PySem.Heap (lt_size SameBut get?_push_of_some get?_push_size Ns1)
open Nat (ne_of_lt zero_le lt_succ_self le_succ lt_succ_of_lt le_add_right succ_le_succ)
open List (range mem_filter mem_range filterMap_cons mem_cons_self mem_cons_of_mem mem_cons mem_append mem_append_left getElem?_set_self getElem?_set_ne mem_filterMap mem_append_right length_cons map_cons length_map append_nil nodup_cons of_mem_zip replicate length length_take getElem?_append_right getElem?_replicate getElem?_append_left getElem?_map mem_of_getElem? length_append length_replicate length_drop size_toArray length_set all_cons any_cons replicate_succ flatten_cons foldl foldl_cons length_singleton nil_append find?_cons length_nil map_nil nodup_nil Pairwise any_eq_true mem_map mem_singleton lookup_cons getElem_mem not_mem_nil map_append getElem?_take getElem?_of_mem take_append_drop drop_eq_getElem_cons nodup_append map_take zipWith take_length getElem?_mapIdx length_mapIdx length_reverse zip set_set eq_nil_or_concat concat_eq_append getElem?_range Nodup Sublist drop_of_length_le length_filter_le filter_append filter_cons_of_pos filter_cons_of_neg drop_length map getElem?_set length_range foldl_nil cons_append any_map forall_mem_cons map_set take_nil filterMap_eq_map' getElem?_eq_getElem map_map append_assoc getElem?_eq_none ext_getElem?)
open Int (toNat_natCast emod_nonneg emod_lt_of_pos toNat)
open Option (getD_none isSome_some isSome_map map_eq_some_iff)
open Bool (and_eq_true)
open PySem.F (slot_dict_get entry_dict_get plainAttrs_dict type_dict_get plainAttrs_list)
open PyProof.Rows (boot_isinstance boot_int boot_bool boot_tuple boot_str boot_max)
set_option maxHeartbeats 4000000
set_option Elab.async false
set_option linter.all false
set_option maxRecDepth 100000
namespace L2
open PySem PySem.Spec PyProof.Rows
abbrev Key:=Sum Int Str
def To:Key->Value->Bool
 | .inl k,v=>Value.isInt k v
 | .inr x,v=>Value.isStrOf x v
def AoQ(w:World):Key->Int
 | .inl k=>hashInt k
 | .inr x=>hashStr w x
theorem Fo:∀{k:Key} {v:Value},To k v=true->(∃i t,k=Sum.inl i/\v=Value.int i t)\/(∃x t,k=Sum.inr x/\v=Value.str x t)
 | .inl i,v,h=>by
  obtain⟨t,e⟩:=Value.isInt_shape (k:=i) (v:=v) h
  exact .inl ⟨i,t,rfl,e⟩
 | .inr x,v,h=>by
  obtain⟨t,e⟩:=Value.isStrOf_shape (x:=x) (v:=v) h
  exact .inr ⟨x,t,rfl,e⟩
theorem AdO(i:Int)(t:Tok):To (.inl i) (.int i t)=true:=by simp [To,Value.isInt]
theorem Aeu(x:Str)(t:Tok):To (.inr x) (.str x t)=true:=by simp [To,Value.isStrOf]
theorem AmJ(a b:Int):decide ((Sum.inl a:Key)=Sum.inl b)=(a==b):=by
 by_cases e:a=b
 ·subst e;simp
 ·have h:¬(Sum.inl a:Key)=Sum.inl b:=λq=>e (Sum.inl.inj q)
  rw[decide_eq_false h]
  exact (beq_eq_false_iff_ne.mpr e).symm
theorem AjW(a b:Str):decide ((Sum.inr a:Key)=Sum.inr b)=decide (a=b):=by
 by_cases e:a=b
 ·subst e;simp
 ·have h:¬(Sum.inr a:Key)=Sum.inr b:=λq=>e (Sum.inr.inj q)
  rw[decide_eq_false h,decide_eq_false e]
theorem Al2(a:Int)(b:Str):decide ((Sum.inl a:Key)=Sum.inr b)=false:=decide_eq_false (λq=>nomatch q)
theorem Ald(a:Str)(b:Int):decide ((Sum.inr a:Key)=Sum.inl b)=false:=decide_eq_false (λq=>nomatch q)
def Ds(prog:Program)(w:World):PySem.KeyKind prog w Key where
 is:=To
 hash:=AoQ w
 inj:=λv a b ha hb=>by
  rcases Fo ha with ⟨i,t,rfl,rfl⟩ | ⟨x,t,rfl,rfl⟩
  ·rcases Fo hb with ⟨j,u,rfl,e⟩ | ⟨y,u,rfl,e⟩
   ·injection e with e1 _;rw[e1]
   ·exact nomatch e
  ·rcases Fo hb with ⟨j,u,rfl,e⟩ | ⟨y,u,rfl,e⟩
   ·exact nomatch e
   ·injection e with e1 _;rw[e1]
 byValue:=λk v h=>by
  rcases Fo h with ⟨i,t,rfl,rfl⟩ | ⟨x,t,rfl,rfl⟩ <;> rfl
 pyHash:=λhv h=>by
  rcases Fo hv with ⟨i,t,rfl,rfl⟩ | ⟨x,t,rfl,rfl⟩
  ·exact wpAny_pyHash_int h
  ·exact wpAny_pyHash_str h
 eqBool:=λhu hv h=>by
  rcases Fo hu with ⟨i,t,rfl,rfl⟩ | ⟨x,t,rfl,rfl⟩
  ·rcases Fo hv with ⟨j,u,rfl,rfl⟩ | ⟨y,u,rfl,rfl⟩
   ·rw[AmJ] at h;exact wpAny_eqBool_int h
   ·rw[Al2] at h;exact SeqAt.EqAt.int_str i t y u _ _ _ _ h
  ·rcases Fo hv with ⟨j,u,rfl,rfl⟩ | ⟨y,u,rfl,rfl⟩
   ·rw[Ald] at h;exact SeqAt.EqAt.str_int x t j u _ _ _ _ h
   ·rw[AjW] at h;exact wpAny_eqBool_str h
 «strs»:=λk x t v h=>by
  rcases Fo h with ⟨i,u,rfl,e⟩ | ⟨y,u,rfl,e⟩
  ·exact nomatch e
  ·injection e with e1 _
   subst e1
   cases v <;> rfl
theorem AaS(prog:Program)(w:World)(i:Int)(t:Tok):(Ds prog w).is (.inl i) (.int i t)=true:=AdO i t
theorem AaT(prog:Program)(w:World)(x:Str)(t:Tok):(Ds prog w).is (.inr x) (.str x t)=true:=Aeu x t
inductive V where
 | non | bl (b:Bool) | int (i:Int) | str (x:Str) | byt (b:Array UInt8) | flt (b:UInt64) | ref (a:Addr) | ty (n:String)
 deriving DecidableEq
def RelV:V->Value->Prop
 | .non,u=>u=Value.none
 | .bl b,u=>u=Value.bool b
 | .int i,u=>∃t,u=Value.int i t
 | .str x,u=>∃t,u=Value.str x t
 | .byt b,u=>∃t,u=Value.bytes b t
 | .flt b,u=>∃t,u=Value.float b t
 | .ref a,u=>u=Value.ref a
 | .ty n,u=>u=Value.type n
abbrev Vals:List V->List Value->Prop:=Paired RelV
theorem Vals.length{xs:List V}{us:List Value}(r:Vals xs us):xs.length=us.length:=Paired.length r
theorem Vals.get:∀{xs:List V} {us:List Value} {i:Nat} {x:V},Vals xs us->xs[i]? = some x->∃u,us[i]? = some u/\RelV x u
 | _,_,_,_,.nil,e=>by simp at e
 | _,_,0,_,.cons r _,e=>by simp at e;subst e;exact⟨_,rfl,r⟩
 | _,_,i+1,x,.cons _ t,e=>by
  obtain⟨u,h1,h2⟩:=Vals.get (i:=i) (x:=x) t (by simpa using e)
  exact⟨u,by simpa using h1,h2⟩
theorem Vals.set{x:V}{u:Value}(r:RelV x u):∀{xs:List V} {us:List Value} (i:Nat),Vals xs us->Vals (xs.set i x) (us.set i u)
 | _,_,_,.nil=>.nil
 | _,_,0,.cons _ t=>.cons r t
 | _,_,i+1,.cons q t=>.cons q (Vals.set r i t)
theorem Vals.append:∀{xs ys:List V} {us ws:List Value},Vals xs us->Vals ys ws->Vals (xs++ys) (us++ws)
 | _,_,_,_,.nil,s=>s
 | _,_,_,_,.cons r t,s=>.cons r (Vals.append t s)
theorem Vals.take:∀{xs:List V} {us:List Value} (n:Nat),Vals xs us->Vals (xs.take n) (us.take n)
 | _,_,0,_=>.nil
 | _,_,_+1,.nil=>.nil
 | _,_,n+1,.cons r t=>.cons r (Vals.take n t)
theorem Vals.drop:∀{xs:List V} {us:List Value} (n:Nat),Vals xs us->Vals (xs.drop n) (us.drop n)
 | _,_,0,r=>r
 | _,_,_+1,.nil=>.nil
 | _,_,n+1,.cons _ t=>Vals.drop n t
def RelO:Option V->Option Value->Prop
 | some v,some u=>RelV v u
 | none,none=>True
 | _,_=>False
def KV{κ:Type}:List (κ×V)->List (κ×Value)->Prop:=Paired λ(p:κ×V) (q:κ×Value)=>p.1=q.1/\RelV p.2 q.2
def kV:Key->V
 | .inl i=>.int i
 | .inr x=>.str x
inductive HO where
 | lst (xs:List V)
 | tup (xs:List V)
 | dK (kvs:List (Key×V)) | dT (kvs:List (List Key×V))
 | set (S:Int->Bool) (n:Nat)
 | ins (C dx:Addr) (fs:List (Str×V))
 | own (x:Addr)
 | xd (fs:List (Str×V))
 | met (f x:Addr)
 | rng (lo hi:Int)
 | frz (o:Obj) (u:HO)
 | tbl (ps:Array Value)
 | ext (φ:Heap->Prop)
abbrev Hp:=Addr->Option HO
def upd(H:Hp)(a:Addr)(o:HO):Hp:=λb=>if b=a then some o else H b
theorem Bn{H:Hp}{a:Addr}{o:HO}:upd H a o a=some o:=by unfold upd;rw[if_pos rfl]
theorem Bj{H:Hp}{a b:Addr}{o:HO}(h:b≠a):upd H a o b=H b:=by unfold upd;rw[if_neg h]
theorem Gw{H:Hp}{a:Addr}{o u:HO}:upd (upd H a o) a u=upd H a u:=by
 funext b;unfold upd;split <;> rfl
theorem Fg{H:Hp}{a b:Addr}{o u:HO}(h:H a=some o)(h':H b=some u)(d:o≠u):a≠b:=by
 intro e;subst e;rw[h] at h';exact d (Option.some.inj h')
theorem Bz{H:Hp}{a b:Addr}{o:HO}(h:H a=some o)(h':H b=none):a≠b:=by
 intro e;subst e;rw[h] at h';cases h'
section
variable (P:Program)(w:World)
def ObjOk(H:Hp)(h:Heap)(a:Addr):HO->Prop
 | .lst xs=>xs.length<=sizeLine/\∃(its:List Value) (n:Nat),Vals xs its/\h.get? a=some { cls:=.type "list",data:=.seq its.toArray n }
 | .tup xs=>xs.length<=sizeLine/\∃its:List Value,Vals xs its/\IsTup h a its.toArray
 | .dK kvs=>kvs.length<=sizeLine/\(a==sysModules)=false/\∃vs,KV kvs vs/\h.DictOf (Ds P w) a vs
 | .dT kvs=>kvs.length<=sizeLine/\(a==sysModules)=false/\∃xs:List (List Key×Addr×Value),
   Paired (λ(p:List Key×V) (q:List Key×Addr×Value)=>p.1=q.1/\H q.2.1=some (.tup (p.1.map kV))/\RelV p.2 q.2.2) kvs xs /\
   ∃o es ep,h.get? a=some o/\o.ExactDict/\o.data=.dict es ep/\es.toList=xs.map (entryOfKey (tupleKind (Ds P w)))/\(xs.map (·.1)).Nodup
 | .set S n=>h.SetOf (intKind P w) a S n
 | .ins C dx fs=>H dx=some (.own a)/\fs.length<=1000/\dx≠a/\h.get? a=some (instObj C dx) /\
   ∃mA,h.Ns1 dx mA/\(∀f,RelO (fs.lookup f) (mA f))/\PySem.Within mA (fs.map (·.1))
 | .own _=>∃o,h.get? a=some o
 | .xd fs=>∃mA,h.Ns1 a mA/\∀f,RelO (fs.lookup f) (mA f)
 | .rng lo hi=>∃t u v,h.get? a=some { cls:=.type "range",data:=.fields #[.int lo t,.int hi u,.int 1 v] }
 | .frz o u=>h.get? a=some o/\ObjOk H h a u
 | .tbl ps=>h.get? a=some { cls:=.none,data:=.fields ps }
 | .met f x=>h.get? a=some (methodObj (.ref f) (.ref x))
 | .ext φ=>φ h/\(∃o,h.get? a=some o)/\∀h1 h2:Heap,φ h1->(∀o,h1.get? a=some o->h2.get? a=some o)->φ h2
def HOk(H:Hp)(h:Heap):Prop:=∀a o,H a=some o->ObjOk P w H h a o
end
section
variable {P:Program}{w:World}{H H':Hp}{h h':Heap}{a:Addr}{o:HO}
theorem ObjOk.lt(x:ObjOk P w H h a o):a<h.objs.size:=by
 cases o with
 | lst xs=>obtain⟨_,_,_,_,e⟩:=x;exact lt_size e
 | tup xs=>obtain⟨_,_,_,p⟩:=x;exact p.lt
 | dK kvs=>obtain⟨_,_,_,_,o,_,_,e,_⟩:=x;exact lt_size e
 | dT kvs=>obtain⟨_,_,_,_,o,_,_,e,_⟩:=x;exact lt_size e
 | set S n=>obtain⟨o,_,_,_,e,_⟩:=x;exact lt_size e
 | ins C dx fs=>obtain⟨_,_,_,e,_⟩:=x;exact lt_size e
 | own y=>obtain⟨_,e⟩:=x;exact lt_size e
 | xd fs=>obtain⟨_,⟨_,_,_,e,_⟩,_⟩:=x;exact lt_size e
 | rng lo hi=>obtain⟨_,_,_,e⟩:=x;exact lt_size e
 | frz ob u=>obtain⟨e,_⟩:=x;exact lt_size e
 | tbl ps=>exact lt_size (show h.get? a=some _ from x)
 | met f y=>exact lt_size (show h.get? a=some _ from x)
 | ext φ=>obtain⟨_,⟨_,e⟩,_⟩:=x;exact lt_size e
theorem Paired.mapP{α β:Type}{F G:α->β->Prop}:∀{l₁:List α} {l₂:List β},Paired F l₁ l₂->(∀a b,F a b->G a b)->Paired G l₁ l₂
 | _,_,.nil,_=>.nil
 | _,_,.cons r t,f=>.cons (f _ _ r) (Paired.mapP t f)
theorem ObjOk.stay(x:ObjOk P w H h a o)(k:∀b u,(b=a\/H b=some (.own a))->h.get? b=some u->h'.get? b=some u)
  (ho:∀b,H b=some (.own a)->H' b=some (.own a)) (ht:∀b xs,H b=some (.tup xs)->H' b=some (.tup xs)):ObjOk P w H' h' a o:=by
 induction o with
 | lst xs=>obtain⟨z,its,n,r,e⟩:=x;exact⟨z,its,n,r,k _ _ (.inl rfl) e⟩
 | tup xs=>obtain⟨z,its,r,ob,e,c⟩:=x;exact⟨z,its,r,ob,k _ _ (.inl rfl) e,c⟩
 | dK kvs=>obtain⟨z,y,vs,r,ob,es,ep,e,c⟩:=x;exact⟨z,y,vs,r,ob,es,ep,k _ _ (.inl rfl) e,c⟩
 | dT kvs =>
  obtain⟨z,y,xs,r,ob,es,ep,e,c⟩:=x
  exact⟨z,y,xs,Paired.mapP r λp q z=>⟨z.1,ht _ _ z.2.1,z.2.2⟩,ob,es,ep,k _ _ (.inl rfl) e,c⟩
 | set S n=>obtain⟨ob,es,ep,t,e,c⟩:=x;exact⟨ob,es,ep,t,k _ _ (.inl rfl) e,c⟩
 | ins C dx fs =>
  obtain⟨d,z,ne,e,mA,⟨od,es,ep,e2,c⟩,r⟩:=x
  exact⟨ho _ d,z,ne,k _ _ (.inl rfl) e,mA,⟨od,es,ep,k _ _ (.inr d) e2,c⟩,r⟩
 | own y=>obtain⟨ob,e⟩:=x;exact⟨ob,k _ _ (.inl rfl) e⟩
 | xd fs=>obtain⟨mA,⟨od,es,ep,e,c⟩,r⟩:=x;exact⟨mA,⟨od,es,ep,k _ _ (.inl rfl) e,c⟩,r⟩
 | rng lo hi=>obtain⟨t,u,v,e⟩:=x;exact⟨t,u,v,k _ _ (.inl rfl) e⟩
 | frz ob u ih=>obtain⟨e,q⟩:=x;exact⟨k _ _ (.inl rfl) e,ih q⟩
 | tbl ps =>
  have e:h.get? a=some { cls:=.none,data:=.fields ps }:=x
  show h'.get? a=some { cls:=.none,data:=.fields ps }
  exact k a _ (.inl rfl) e
 | met f y =>
  have e:h.get? a=some (methodObj (.ref f) (.ref y)):=x
  show h'.get? a=some (methodObj (.ref f) (.ref y))
  exact k a _ (.inl rfl) e
 | ext φ=>obtain⟨p,⟨o,e⟩,st⟩:=x;exact⟨st _ _ p λo q=>k _ _ (.inl rfl) q,⟨o,k _ _ (.inl rfl) e⟩,st⟩
theorem HOk.lt(x:HOk P w H h)(e:H a=some o):a<h.objs.size:=(x a o e).lt
theorem HOk.fresh(x:HOk P w H h)(e:h.objs.size<=a):H a=none:=by
 cases q:H a with
 | none=>rfl
 | some u=>exact absurd (Nat.lt_of_lt_of_le (x.lt q) e) (Nat.lt_irrefl _)
theorem HOk.kept(x:HOk P w H h)(k:∀b u,h.get? b=some u->h'.get? b=some u):HOk P w H h':=λa o e =>
 (x a o e).stay (λb u _ q=>k b u q) (λ_ q=>q) λ_ _ q=>q
theorem HOk.laid(x:HOk P w H h)(k:∀b u,h.get? b=some u->h'.get? b=some u)(hp:h.objs.size<=a)(new:ObjOk P w (upd H a o) h' a o):HOk P w (upd H a o) h':=λb u e=>by
 have hn:=x.fresh hp
 by_cases hb:b=a
 ·subst hb;rw[Bn] at e;cases e;exact new
 ·rw[Bj hb] at e
  exact (x b u e).stay (λc v _ q=>k c v q) (λc q=>by rw[Bj (Bz q hn)];exact q) λc xs q=>by rw[Bj (Bz q hn)];exact q
end
def Rd(H:Hp)(a:Addr)(u:HO):Prop:=H a=some u\/∃o,H a=some (.frz o u)
theorem Rd.ok{P:Program}{w:World}{H:Hp}{h:Heap}{a:Addr}{u:HO}(r:Rd H a u)(x:HOk P w H h):ObjOk P w H h a u:=by
 rcases r with r | ⟨o,r⟩
 ·exact x a u r
 ·obtain⟨_,q⟩:=x a _ r
  exact q
def Mut:Option HO->Prop
 | some (.lst _)=>True
 | some (.dK _)=>True
 | some (.dT _)=>True
 | some (.set _ _)=>True
 | some (.ins _ _ _)=>True
 | some (.ext _)=>True
 | _=>False
section
variable {P:Program}{w:World}{H:Hp}{h h':Heap}{x e:Addr}{o':HO}
theorem HOk.write(ok:HOk P w H h)(mu:Mut (H x))(he:e=x\/H e=some (.own x))(k:∀b u,b≠e->h.get? b=some u->h'.get? b=some u)(heo:∃u,h'.get? e=some u)
  (new:ObjOk P w (upd H x o') h' x o'):HOk P w (upd H x o') h':=λb u q=>by
 have nown:∀c y,H c=some (.own y)->c≠x:=λc y r z=>by subst z;rw[r] at mu;exact mu
 have ntup:∀c xs,H c=some (.tup xs)->c≠x:=λc xs r z=>by subst z;rw[r] at mu;exact mu
 by_cases hb:b=x
 ·subst hb;rw[Bn] at q;cases q;exact new
 ·rw[Bj hb] at q
  by_cases hbe:b=e
  ·have q':H b=some (.own x):=by
    rcases he with z | z
    ·exact absurd (hbe.trans z) hb
    ·rw[hbe];exact z
   rw[q] at q';cases q'
   obtain⟨v,hv⟩:=heo
   exact⟨v,by rw[hbe];exact hv⟩
  ·refine (ok b u q).stay (λc v hc r=>k c v ?_ r) (λc r=>by rw[Bj (nown c b r)];exact r) λc xs r=>by rw[Bj (ntup c xs r)];exact r
   rcases hc with rfl | hc
   ·exact hbe
   ·rintro rfl
    rcases he with z | z
    ·exact nown c b hc z
    ·rw[hc] at z;cases z;exact hb rfl
end
structure Un(fs ex:List Addr)(H H':Hp)(h h':Heap):Prop where
 keep:∀b o,h.get? b=some o->H b=none->b∉fs->b∉ex->h'.get? b=some o
 slot:∀b o,h.get? b=some o->H b=none->b∈fs->b∉ex->∃sl,h'.get? b=some { o with slots:=sl }
 free:∀b o,h.get? b=some o->H b=none->b∉ex->H' b=none
 there:∀b o,h.get? b=some o->b∉ex->∃o',h'.get? b=some o'
 tups:∀b xs,H b=some (.tup xs)->H' b=some (.tup xs)
 frzs:∀b o u,H b=some (.frz o u)->H' b=some (.frz o u)
 tbls:∀b ps,H b=some (.tbl ps)->∃more,H' b=some (.tbl (ps++more))
section
variable {fs fs' ex ex':List Addr}{H H1 H2:Hp}{h h1 h2 h':Heap}{a x e:Addr}{o:HO}
theorem Un.any(u:Un fs ex H H1 h h1){b:Addr}{ob:Obj}(q:h.get? b=some ob)(n:H b=none)(hx:b∉ex):∃sl,h1.get? b=some { ob with slots:=sl }:=by
 by_cases hb:b∈fs
 ·exact u.slot b ob q n hb hx
 ·exact⟨ob.slots,u.keep b ob q n hb hx⟩
theorem Un.kept(k:∀b u,h.get? b=some u->h'.get? b=some u):Un fs ex H H h h' :=
 ⟨λb ob q _ _ _=>k b ob q,λb ob q _ _ _=>⟨ob.slots,k b ob q⟩,λ_ _ _ n _=>n,λb ob q _=>⟨ob,k b ob q⟩,λ_ _ q=>q,λ_ _ _ q=>q,λ_ ps q=>⟨#[],by rw[q];simp⟩⟩
theorem Un.refl:Un fs ex H H h h:=Un.kept λ_ _ q=>q
theorem Un.laid(k:∀b u,h.get? b=some u->h'.get? b=some u)(hp:h.objs.size<=a)(hn:H a=none):Un fs ex H (upd H a o) h h' where
 keep:=λb u q _ _ _=>k b u q
 slot:=λb u q _ _ _=>⟨u.slots,k b u q⟩
 free:=λb u q n _=>by rw[Bj (ne_of_lt (Nat.lt_of_lt_of_le (lt_size q) hp))];exact n
 there:=λb u q _=>⟨u,k b u q⟩
 tups:=λb xs q=>by rw[Bj (Bz q hn)];exact q
 frzs:=λb u xs q=>by rw[Bj (Bz q hn)];exact q
 tbls:=λb ps q=>⟨#[],by rw[Bj (Bz q hn),q];simp⟩
theorem Un.write(mu:Mut (H x))(he:e=x\/H e=some (.own x))(k:∀b u,b≠e->h.get? b=some u->h'.get? b=some u)(heo:∃u,h'.get? e=some u):Un fs ex H (upd H x o) h h':=by
 have hx:∀b,H b=none->b≠x:=λb n z=>by subst z;rw[n] at mu;exact mu
 have hb:∀b,H b=none->b≠e:=λb n z=>by
  subst z
  rcases he with r | r
  ·exact hx b n r
  ·rw[n] at r;cases r
 have hm:∀b u,H b=some u->¬Mut (some u)->b≠x:=λb u q nm z=>by subst z;rw[q] at mu;exact nm mu
 refine⟨λb u q n _ _=>k b u (hb b n) q,λb u q n _ _=>⟨u.slots,k b u (hb b n) q⟩,λb u q n _=>by rw[Bj (hx b n)];exact n,λb u q _=>?_,
  λb xs q=>by rw[Bj (hm b _ q λz=>z)];exact q,λb u xs q=>by rw[Bj (hm b _ q λz=>z)];exact q,λb ps q=>⟨#[],by rw[Bj (hm b _ q λz=>z),q];simp⟩⟩
 by_cases hbe:b=e
 ·subst hbe;exact heo
 ·exact⟨u,k b u hbe q⟩
end
def trk(h:Heap)(H:Hp):List Addr:=(range h.objs.size).filter λa=>(H a).isSome
def Rn(h:Heap)(H:Hp):Heap:=PySem.W.hideAll h (trk h H)
theorem AdI(h:Heap)(H:Hp):(Rn h H).objs.size=h.objs.size:=PySem.W.hideAll_size _ _
theorem Af8{h:Heap}{H:Hp}{b:Addr}{o:Obj}(e:h.get? b=some o)(n:H b=none):(Rn h H).get? b=some o :=
 PySem.W.hideAll_get _ e λhm=>by
  have q:(H b).isSome=true:=(mem_filter.mp hm).2
  rw[n] at q;simp at q
theorem AiI{h:Heap}{H:Hp}{b:Addr}{o:Obj}(e:(Rn h H).get? b=some o):h.get? b=some o/\H b=none:=by
 have e':h.get? b=some o:=PySem.W.of_hideAll (trk h H) e
 refine⟨e',?_⟩
 cases q:H b with
 | none=>rfl
 | some x =>
  have hm:b∈trk h H:=mem_filter.mpr ⟨mem_range.mpr (lt_size e'),by simp [q]⟩
  have z:(Rn h H).get? b=none:=PySem.W.hideAll_none (trk h H) hm
  rw[z] at e;cases e
structure Mod(K:Frag)(mg:Str->Option Value)(base:Heap):Prop where
 kin:K.In base
 glob:base.Ns mainGlobals mg
 blt:∃mb,base.Ns builtinsNs mb/\∀x:Str,x≠"__name__"->mb x=bootBuiltins x
 nolimit:base.NoLimit
structure Cx where
 prog:Program
 w:World
 K:Frag
 mg:Str->Option Value
 base:Heap
 A:Around
 N:List Str
 s₀:Shared
 H₀:Hp
 env:Env
 outer:List Env
 stack:List Env
 ex:List Addr
 fn:Str->Bool
 calm:Bool
 pn:List (Addr×Obj)
 xe:Value->Shared->Prop
def frs(l:List Env):List Addr:=l.filterMap (·.frame)
abbrev Cx.fs(X:Cx):List Addr:=frs X.outer
def Vis(sc:Scope)(x:Str):Prop:=sc.names.lookup x=some .local\/sc.names.lookup x=some .cell\/sc.names.lookup x=some .free
def Loc(sc:Scope)(x:Str):Prop:=sc.names.lookup x=some .local\/sc.names.lookup x=some .cell
def AoA(env:Env)(h:Heap)(m:Str->Option Value)(x:Str)(u:Value):Prop :=
 (env.kindOf x=some .local/\m x=some u)\/((env.kindOf x=some .cell\/env.kindOf x=some .free)/\∃c,env.cells.lookup x=some c/\h.IsCell c (some u))
structure Cx.Ok(X:Cx):Prop where
 mod:Mod X.K X.mg X.base
 kind:X.env.scope.kind=.function
 glob:X.env.globals=mainGlobals
 blt:X.env.builtins=builtinsNs
 above:X.s₀.heap.objs.size<=X.env.locals
 inj:∀x y c,X.env.cells.lookup x=some c->X.env.cells.lookup y=some c->x=y
 has:∀x,(X.env.kindOf x=some .cell\/X.env.kindOf x=some .free)->∃c,X.env.cells.lookup x=some c
 cab:∀x c,X.fn x=true->X.env.cells.lookup x=some c->X.s₀.heap.objs.size<=c
 hd:X.calm=true->X.A.handled=none
 frames:X.A.frames=some X.stack
 stk:X.stack=X.outer\/(X.stack=X.env::X.outer/\X.env.frame=some X.env.locals)
 exf:∀b∈X.ex,b≠X.env.locals/\∀x c,X.env.cells.lookup x=some c->c≠b
 bs:∀b o,X.base.get? b=some o->X.s₀.heap.get? b=some o/\X.H₀ b=none
 bsz:X.base.objs.size<=X.s₀.heap.objs.size
 noex:∀b o,X.base.get? b=some o->b∉X.ex
 exfs:∀b∈X.ex,b∉X.fs
 funs:X.s₀.heap.FunFrames X.base X.outer
 frf:∀b∈X.fs,X.H₀ b=none
structure Inv(X:Cx)(pins:List (Addr×Obj))(σ:List (Option V))(H:Hp)(s:Shared):Prop where
 ok:X.Ok
 os:s.os=X.s₀.os
 bare:AllBare s.gens
 base:Un X.fs X.ex X.H₀ H X.s₀.heap s.heap
 loc:∃m,s.heap.Ns X.env.locals m/\∀(i:Nat) (x:Str) (v:V),X.N[i]? = some x->σ[i]? = some (some v)->Vis X.env.scope x->∃u,RelV v u/\AoA X.env s.heap m x u
 cell:∀x c,X.env.cells.lookup x=some c->∃v,s.heap.IsCell c v
 free:H X.env.locals=none
 freeC:∀x c,X.env.cells.lookup x=some c->H c=none
 pin:∀p∈X.pn++pins,s.heap.get? p.1=some p.2/\H p.1=none/\p.1≠X.env.locals/\p.1∉X.fs/\∀v,p.2.data≠.cell v
 hok:HOk X.prog X.w H s.heap
 len:σ.length=X.N.length
section
variable {X:Cx}{pins:List (Addr×Obj)}{σ:List (Option V)}{H H':Hp}{s:Shared}{h':Heap}
theorem Cx.Ok.nofr(ok:X.Ok){b:Addr}{o:Obj}(e:X.base.get? b=some o):b∉X.fs:=λhb=>by
 have:=(ok.funs.mem hb).1
 rw[e] at this;cases this
theorem Inv.bs(I:Inv X pins σ H s):∀b o,X.base.get? b=some o->s.heap.get? b=some o/\H b=none:=λb o e =>
 ⟨I.base.keep b o (I.ok.bs b o e).1 (I.ok.bs b o e).2 (I.ok.nofr e) (I.ok.noex b o e),I.base.free b o (I.ok.bs b o e).1 (I.ok.bs b o e).2 (I.ok.noex b o e)⟩
theorem Inv.bk(I:Inv X pins σ H s):∀b o,X.base.get? b=some o->s.heap.get? b=some o:=λb o e=>(I.bs b o e).1
theorem Inv.mod(I:Inv X pins σ H s):Mod X.K X.mg X.base:=I.ok.mod
theorem Inv.kIn(I:Inv X pins σ H s):X.K.In s.heap:=I.ok.mod.kin.keeps I.bk
theorem Inv.lt(I:Inv X pins σ H s):X.env.locals<s.heap.objs.size:=let ⟨_,hn,_⟩:=I.loc;hn.lt
theorem Inv.sz(I:Inv X pins σ H s):X.s₀.heap.objs.size<=s.heap.objs.size:=Nat.le_trans I.ok.above (Nat.le_of_lt I.lt)
theorem Inv.nofs(I:Inv X pins σ H s){a:Addr}(h:s.heap.objs.size<=a):a∉X.fs:=λhb=>by
 obtain⟨_,o,ho,_⟩:=I.ok.funs.mem hb
 exact absurd (Nat.lt_of_lt_of_le (lt_size ho) (Nat.le_trans I.sz h)) (Nat.lt_irrefl _)
theorem Inv.cne(I:Inv X pins σ H s):∀x c,X.env.cells.lookup x=some c->c≠X.env.locals:=λx c e z=>by
 obtain⟨v,o,ho,hd⟩:=I.cell x c e
 obtain⟨m,⟨o',es,ep,ho',hd',_⟩,_⟩:=I.loc
 rw[z,ho'] at ho;cases ho;rw[hd'] at hd;cases hd
theorem Inv.funs(I:Inv X pins σ H s):s.heap.FunFrames X.base X.outer:=by
 have all:∀(l:List Env),(∀b∈frs l,b∈X.fs)->X.s₀.heap.FunFrames X.base l->s.heap.FunFrames X.base l:=by
  intro l
  induction l with
  | nil=>intro _ _;trivial
  | cons env r ih =>
   intro hs hl
   obtain⟨hk,⟨L,o,hf,hn,ho,hd⟩,hr⟩:=hl
   have hL:L∈X.fs:=hs L (by unfold frs;rw[filterMap_cons,hf];exact mem_cons_self)
   obtain⟨sl,e⟩:=I.base.slot L o ho (I.ok.frf L hL) hL λz=>I.ok.exfs L z hL
   exact⟨hk,⟨L,_,hf,hn,e,hd⟩,ih (λb hb=>hs b (by unfold frs;rw[filterMap_cons,hf];exact mem_cons_of_mem _ hb)) hr⟩
 exact all X.outer (λ_ hb=>hb) I.ok.funs
theorem Inv.stack(I:Inv X pins σ H s):s.heap.FunFrames X.base X.stack:=by
 rcases I.ok.stk with e | ⟨e,hf⟩
 ·rw[e];exact I.funs
 ·rw[e]
  obtain⟨m,hn,_⟩:=I.loc
  refine .cons (by rw[I.ok.kind];decide) hf hn ?_ I.funs
  exact Heap.get?_none_of_le (Nat.le_trans I.ok.bsz I.ok.above)
theorem Inv.stkSub(I:Inv X pins σ H s):∀b∈frs X.stack,b∈X.env.locals::X.fs:=λb hb=>by
 rcases I.ok.stk with e | ⟨e,hf⟩
 ·rw[e] at hb;exact mem_cons_of_mem _ hb
 ·rw[e] at hb
  unfold frs at hb
  rw[filterMap_cons,hf] at hb
  exact hb
theorem Inv.stkFree(I:Inv X pins σ H s):∀b∈frs X.stack,H b=none:=λb hb=>by
 rcases mem_cons.mp (I.stkSub b hb) with e | hb
 ·rw[e];exact I.free
 ·obtain⟨_,o,ho,_⟩:=I.ok.funs.mem hb
  exact I.base.free b o ho (I.ok.frf b hb) λz=>I.ok.exfs b z hb
theorem Inv.step{g':Array GenState}{t':Nat}{d':Drawn}{ch:List Addr}(I:Inv X pins σ H s)
  (hch:∀b∈ch,(b∈X.ex\/X.s₀.heap.objs.size<=b)/\b≠X.env.locals/\(∀x c,X.env.cells.lookup x=some c->c≠b)/\∀p∈X.pn++pins,p.1≠b)
  (keep:∀b o,b≠X.env.locals->b∉X.fs->b∉ch->s.heap.get? b=some o->H b=none->h'.get? b=some o)
  (slot:∀b o,b≠X.env.locals->b∈X.fs->b∉ch->s.heap.get? b=some o->H b=none->∃sl,h'.get? b=some { o with slots:=sl }) (free:∀b o,b∉ch->s.heap.get? b=some o->H b=none->H' b=none)
  (there:∀b o,b∉ch->s.heap.get? b=some o->∃o',h'.get? b=some o')
  (tups:∀b xs,H b=some (.tup xs)->H' b=some (.tup xs)) (frzs:∀b o u,H b=some (.frz o u)->H' b=some (.frz o u)) (tbls:∀b ps,H b=some (.tbl ps)->∃more,H' b=some (.tbl (ps++more)))
  (ns:∀m,s.heap.Ns X.env.locals m->h'.Ns X.env.locals m) (hok:HOk X.prog X.w H' h') (hg:AllBare g') :
  Inv X pins σ H' { s with heap:=h',gens:=g',drawn:=d',toks:=t' }:=by
 have neL:∀b o,X.s₀.heap.get? b=some o->b≠X.env.locals:=λb o e=>ne_of_lt (Nat.lt_of_lt_of_le (lt_size e) I.ok.above)
 have neC:∀b o,X.s₀.heap.get? b=some o->b∉X.ex->b∉ch:=λb o e hx hb=>by
  rcases (hch b hb).1 with z | z
  ·exact hx z
  ·exact absurd (Nat.lt_of_lt_of_le (lt_size e) z) (Nat.lt_irrefl _)
 have cellK:∀x c,X.env.cells.lookup x=some c->∀v,s.heap.IsCell c v->h'.IsCell c v:=λx c e v ⟨o,ho,hd⟩=>by
  have nch:c∉ch:=λz=>(hch c z).2.2.1 x c e rfl
  by_cases hc:c∈X.fs
  ·obtain⟨sl,q⟩:=slot c o (I.cne x c e) hc nch ho (I.freeC x c e)
   exact⟨_,q,hd⟩
  ·exact⟨o,keep c o (I.cne x c e) hc nch ho (I.freeC x c e),hd⟩
 refine⟨I.ok,I.os,hg,⟨λb o e n hb hx=>?_,λb o e n hb hx=>?_,λb o e n hx=>?_,λb o e hx=>?_,λb xs e=>tups b xs (I.base.tups b xs e),λb o xs e=>frzs b o xs (I.base.frzs b o xs e),λb ps e=>?_⟩,?_,λx c e=>?_,?_,λx c e=>?_,λp hp=>?_,hok,I.len⟩
 ·exact keep b o (neL b o e) hb (neC b o e hx) (I.base.keep b o e n hb hx) (I.base.free b o e n hx)
 ·obtain⟨sl,e1⟩:=I.base.slot b o e n hb hx
  obtain⟨sl',e2⟩:=slot b _ (neL b o e) hb (neC b o e hx) e1 (I.base.free b o e n hx)
  exact⟨sl',e2⟩
 ·obtain⟨o',e1⟩:=I.base.there b o e hx
  exact free b o' (neC b o e hx) e1 (I.base.free b o e n hx)
 ·obtain⟨o',e1⟩:=I.base.there b o e hx
  exact there b o' (neC b o e hx) e1
 ·obtain⟨m1,e1⟩:=I.base.tbls b ps e
  obtain⟨m2,e2⟩:=tbls b _ e1
  exact⟨m1++m2,by rw[e2,Array.append_assoc]⟩
 ·obtain⟨m,hn,hl⟩:=I.loc
  refine⟨m,ns m hn,λi x v e1 e2 e3=>?_⟩
  obtain⟨u,r,l⟩:=hl i x v e1 e2 e3
  refine⟨u,r,?_⟩
  rcases l with l | ⟨k,c,e,z⟩
  ·exact .inl l
  ·exact .inr ⟨k,c,e,cellK x c e _ z⟩
 ·obtain⟨v,z⟩:=I.cell x c e
  exact⟨v,cellK x c e v z⟩
 ·obtain⟨m,⟨o,_,_,ho,_⟩,_⟩:=I.loc
  exact free _ o (λz=>(hch _ z).2.1 rfl) ho I.free
 ·obtain⟨v,o,ho,hd⟩:=I.cell x c e
  exact free c o (λz=>(hch c z).2.2.1 x c e rfl) ho (I.freeC x c e)
 ·obtain⟨e,n,ne,nf,d⟩:=I.pin p hp
  have nch:p.1∉ch:=λz=>(hch p.1 z).2.2.2 p hp rfl
  exact⟨keep p.1 p.2 ne nf nch e n,free p.1 p.2 nch e n,ne,nf,d⟩
theorem Inv.un{t':Nat}(I:Inv X pins σ H s)(u:Un X.fs [] H H' s.heap h')(hok:HOk X.prog X.w H' h'):Inv X pins σ H' { s with heap:=h',toks:=t' }:=by
 obtain⟨m,⟨o,es,ep,ho,r⟩,_⟩:=id I.loc
 obtain⟨sl,hL⟩:=u.any ho I.free (by simp)
 exact I.step (g':=s.gens) (d':=s.drawn) (ch:=[]) (λ_ z=>nomatch z) (λb o _ hb _ e n=>u.keep b o e n hb (by simp)) (λb o _ hb _ e n=>u.slot b o e n hb (by simp)) (λb o _ e n=>u.free b o e n (by simp)) (λb o _ e=>u.there b o e (by simp)) u.tups u.frzs u.tbls (λm' hm=>by
  obtain⟨o',es',ep',ho',r'⟩:=hm
  rw[ho] at ho';cases ho'
  exact⟨_,es',ep',hL,r'⟩) hok I.bare
theorem Inv.call{g':Array GenState}{t':Nat}{d':Drawn}{ch:List Addr}(I:Inv X pins σ H s)(u:Un (frs X.stack) ch H H' s.heap h')(hok:HOk X.prog X.w H' h')(hg:AllBare g')
  (hch:∀b∈ch,(b∈X.ex\/X.s₀.heap.objs.size<=b)/\b≠X.env.locals/\(∀x c,X.env.cells.lookup x=some c->c≠b)/\∀p∈X.pn++pins,p.1≠b) :
  Inv X pins σ H' { s with heap:=h',gens:=g',drawn:=d',toks:=t' }:=by
 obtain⟨m,⟨o,es,ep,ho,r⟩,_⟩:=id I.loc
 obtain⟨sl,hL⟩:=u.any ho I.free λz=>(hch _ z).2.1 rfl
 exact I.step (ch:=ch) hch (λb o hL hb hc e n=>u.keep b o e n (λz=>(mem_cons.mp (I.stkSub b z)).elim hL hb) hc) (λb o _ _ hc e n=>u.any e n hc) (λb o hc e n=>u.free b o e n hc) (λb o hc e=>u.there b o e hc) u.tups u.frzs u.tbls (λm' hm=>by
  obtain⟨o',es',ep',ho',r'⟩:=hm
  rw[ho] at ho';cases ho'
  exact⟨_,es',ep',hL,r'⟩) hok hg
theorem Inv.turned{t':Nat}{it:Addr}(I:Inv X pins σ H s)(k:∀b o,b≠it->s.heap.get? b=some o->h'.get? b=some o)(hn:H it=none)(hL:it≠X.env.locals)
  (h1:it∈X.ex\/X.s₀.heap.objs.size<=it) (h2:∀x c,X.env.cells.lookup x=some c->c≠it) (h3:∀p∈X.pn++pins,p.1≠it):Inv X pins σ H { s with heap:=h',toks:=t' }:=by
 have nit:∀b u,H b=some u->b≠it:=λb u e z=>by rw[z,hn] at e;cases e
 refine I.step (g':=s.gens) (d':=s.drawn) (ch:=[it]) (λb hb=>?_) (λb o _ _ hc e _=>k b o (λz=>hc (by simp [z])) e) (λb o _ _ hc e _=>⟨o.slots,k b o (λz=>hc (by simp [z])) e⟩) (λ_ _ _ _ n=>n)
  (λb o hc e=>⟨o,k b o (λz=>hc (by simp [z])) e⟩) (λ_ _ e=>e) (λ_ _ _ e=>e) (λb ps e=>⟨#[],by rw[e];simp⟩) (λm hm=>?_) (λb u e=>?_) I.bare
 ·have e:b=it:=by simpa using hb
  subst e
  exact⟨h1,hL,h2,h3⟩
 ·obtain⟨o,es,ep,ho,r⟩:=hm
  exact⟨o,es,ep,k _ o (Ne.symm hL) ho,r⟩
 ·refine (I.hok b u e).stay (λc v hc q=>k c v ?_ q) (λ_ q=>q) λ_ _ q=>q
  rcases hc with z | z
  ·rw[z];exact nit b u e
  ·exact nit c _ z
theorem Inv.tok(I:Inv X pins σ H s)(t:Nat):Inv X pins σ H { s with toks:=t }:=I.un (h':=s.heap) (t':=t) Un.refl I.hok
theorem Inv.kept{t':Nat}(I:Inv X pins σ H s)(k:∀b u,s.heap.get? b=some u->h'.get? b=some u):Inv X pins σ H { s with heap:=h',toks:=t' }:=I.un (Un.kept k) (I.hok.kept k)
theorem Inv.laid{a:Addr}{o:HO}{t':Nat}(I:Inv X pins σ H s)(k:∀b u,s.heap.get? b=some u->h'.get? b=some u)(hp:s.heap.objs.size<=a)(new:ObjOk X.prog X.w (upd H a o) h' a o) :
  Inv X pins σ (upd H a o) { s with heap:=h',toks:=t' }:=I.un (Un.laid k hp (I.hok.fresh hp)) (I.hok.laid k hp new)
theorem Inv.write{x e:Addr}{o:HO}{t':Nat}(I:Inv X pins σ H s)(mu:Mut (H x))(he:e=x\/H e=some (.own x))(k:∀b u,b≠e->s.heap.get? b=some u->h'.get? b=some u)(heo:∃u,h'.get? e=some u)
  (new:ObjOk X.prog X.w (upd H x o) h' x o):Inv X pins σ (upd H x o) { s with heap:=h',toks:=t' }:=I.un (Un.write mu he k heo) (I.hok.write mu he k heo new)
theorem Inv.weak{σ':List (Option V)}(I:Inv X pins σ H s)(hl:σ'.length=σ.length)(w:∀(i:Nat) v,σ'[i]? = some (some v)->σ[i]? = some (some v)):Inv X pins σ' H s :=
 ⟨I.ok,I.os,I.bare,I.base,let ⟨m,hn,hl'⟩:=I.loc;⟨m,hn,λi x v e1 e2 e3=>hl' i x v e1 (w i v e2) e3⟩,I.cell,I.free,I.freeC,I.pin,I.hok,hl.trans I.len⟩
theorem Inv.pins_of{pins':List (Addr×Obj)}(I:Inv X pins σ H s)(h:∀p∈pins',s.heap.get? p.1=some p.2/\H p.1=none/\p.1≠X.env.locals/\p.1∉X.fs/\∀v,p.2.data≠.cell v):Inv X pins' σ H s :=
 ⟨I.ok,I.os,I.bare,I.base,I.loc,I.cell,I.free,I.freeC,λp hp=>(mem_append.mp hp).elim (λz=>I.pin p (mem_append_left _ z)) (h p),I.hok,I.len⟩
theorem Lu{N:List Str}(hN:N.Nodup){i j:Nat}{x:Str}(a:N[i]? = some x)(b:N[j]? = some x):i=j:=by
 obtain⟨h1,e1⟩:=List.getElem?_eq_some_iff.mp a
 obtain⟨h2,e2⟩:=List.getElem?_eq_some_iff.mp b
 exact (List.getElem_inj hN).mp (e1.trans e2.symm)
theorem Xs{M:Model}{A:Around}{E:Value->Shared->Prop}{i:Nat}{x:Str}{v:V}{u:Value}{Q:Unit->Shared->Prop}(I:Inv X pins σ H s)(hN:X.N.Nodup)(hi:X.N[i]? = some x)(hx:Loc X.env.scope x)(r:RelV v u)
  (h:∀s',Inv X pins (σ.set i (some v)) H s'->(∃a,SameBut a s.heap s'.heap/\(a=X.env.locals\/X.env.cells.lookup x=some a))->Q () s') (hf:X.fn x=true\/X.env.scope.names.lookup x=some .local:=by first | exact .inl rfl | exact .inr rfl | assumption):wpAny M A (storeName X.env x u) Q E s:=by
 obtain⟨m,hn,hl⟩:=id I.loc
 have hcls:(X.env.scope.kind==.class || (X.env.scope.kind==.module&&X.env.locals != X.env.globals))=false:=by rw[I.ok.kind];rfl
 have hiσ:i<σ.length:=by rw[I.len];exact (List.getElem?_eq_some_iff.mp hi).1
 have cne:=I.cne
 have tracked:∀{a:Addr} {h':Heap},(∃o,s.heap.get? a=some o/\H a=none)->SameBut a s.heap h'->HOk X.prog X.w H h':=λ{a h'} ha hs b ob e=>by
  obtain⟨_,_,hfree⟩:=ha
  refine (I.hok b ob e).stay (λc w' hc q=>(hs.2 c ?_).trans q) (λ_ q=>q) λ_ _ q=>q
  rintro rfl
  rcases hc with rfl | hc
  ·rw[hfree] at e;cases e
  ·rw[hfree] at hc;cases hc
 rcases hx with hk | hk
 ·refine wpAny_storeName_local hk hn (λh' hn' hs=>?_) hcls
  obtain⟨oL,_,_,hoL,_⟩:=id hn
  refine h _ ⟨I.ok,I.os,I.bare,⟨λb o e n hb hx=>?_,λb o e n hb hx=>?_,I.base.free,λb o e hx=>?_,I.base.tups,I.base.frzs,I.base.tbls⟩,⟨_,hn',λj y v' e1 e2 e3=>?_⟩,λy c e=>?_,I.free,I.freeC,λp hp=>?_,tracked ⟨oL,hoL,I.free⟩ hs,by simpa using I.len⟩ ⟨_,hs,.inl rfl⟩
  ·exact (hs.2 b (ne_of_lt (Nat.lt_of_lt_of_le (lt_size e) I.ok.above))).trans (I.base.keep b o e n hb hx)
  ·obtain⟨sl,e1⟩:=I.base.slot b o e n hb hx
   exact⟨sl,(hs.2 b (ne_of_lt (Nat.lt_of_lt_of_le (lt_size e) I.ok.above))).trans e1⟩
  ·obtain⟨o',e1⟩:=I.base.there b o e hx
   exact⟨o',(hs.2 b (ne_of_lt (Nat.lt_of_lt_of_le (lt_size e) I.ok.above))).trans e1⟩
  ·by_cases hj:j=i
   ·subst hj
    rw[hi] at e1;cases e1
    rw[getElem?_set_self hiσ] at e2
    cases e2
    exact⟨u,r,.inl ⟨hk,by simp⟩⟩
   ·rw[getElem?_set_ne (Ne.symm hj)] at e2
    obtain⟨u',r',q⟩:=hl j y v' e1 e2 e3
    refine⟨u',r',?_⟩
    rcases q with ⟨k,e⟩ | ⟨k,c,e,z⟩
    ·refine .inl ⟨k,?_⟩
     have:y≠x:=λe=>hj (Lu hN e1 (e▸hi))
     simp [this,e]
    ·exact .inr ⟨k,c,e,z.sameBut hs (cne y c e)⟩
  ·obtain⟨w',z⟩:=I.cell y c e
   exact⟨w',z.sameBut hs (cne y c e)⟩
  ·obtain⟨e,n,ne,nf,d⟩:=I.pin p hp
   exact⟨(hs.2 p.1 ne).trans e,n,ne,nf,d⟩
 ·have hfn:X.fn x=true:=by
   rcases hf with z | z
   ·exact z
   ·rw[z] at hk;cases hk
  obtain⟨c,hc⟩:=I.ok.has x (.inl hk)
  obtain⟨w',z⟩:=I.cell x c hc
  refine wpAny_storeName_cell I.ok.kind hk hc z (λh' hc' hs=>?_)
  obtain⟨oc,hoc,hocd⟩:=id z
  refine h { s with heap:=h' } ⟨I.ok,I.os,I.bare,⟨λb o e n hb hx=>?_,λb o e n hb hx=>?_,I.base.free,λb o e hx=>?_,I.base.tups,I.base.frzs,I.base.tbls⟩,⟨m,hn.sameBut hs (Ne.symm (cne x c hc)),λj y v' e1 e2 e3=>?_⟩,λy c' e=>?_,I.free,I.freeC,λp hp=>?_,tracked ⟨oc,hoc,I.freeC x c hc⟩ hs,by simpa using I.len⟩ ⟨c,hs,.inr hc⟩
  ·exact (hs.2 b (ne_of_lt (Nat.lt_of_lt_of_le (lt_size e) (I.ok.cab x c hfn hc)))).trans (I.base.keep b o e n hb hx)
  ·obtain⟨sl,e1⟩:=I.base.slot b o e n hb hx
   exact⟨sl,(hs.2 b (ne_of_lt (Nat.lt_of_lt_of_le (lt_size e) (I.ok.cab x c hfn hc)))).trans e1⟩
  ·obtain⟨o',e1⟩:=I.base.there b o e hx
   exact⟨o',(hs.2 b (ne_of_lt (Nat.lt_of_lt_of_le (lt_size e) (I.ok.cab x c hfn hc)))).trans e1⟩
  ·by_cases hj:j=i
   ·subst hj
    rw[hi] at e1;cases e1
    rw[getElem?_set_self hiσ] at e2
    cases e2
    exact⟨u,r,.inr ⟨.inl hk,c,hc,hc'⟩⟩
   ·rw[getElem?_set_ne (Ne.symm hj)] at e2
    obtain⟨u',r',q⟩:=hl j y v' e1 e2 e3
    refine⟨u',r',?_⟩
    rcases q with q | ⟨k,c',e,z'⟩
    ·exact .inl q
    ·refine .inr ⟨k,c',e,z'.sameBut hs ?_⟩
     rintro rfl
     exact hj (Lu hN e1 (I.ok.inj _ _ _ e hc▸hi))
  ·by_cases hcc:c'=c
   ·subst hcc;exact⟨_,hc'⟩
   ·obtain⟨w2,z2⟩:=I.cell y c' e
    exact⟨w2,z2.sameBut hs hcc⟩
  ·obtain⟨e,n,ne,nf,d⟩:=I.pin p hp
   refine⟨(hs.2 p.1 ?_).trans e,n,ne,nf,d⟩
   intro q
   rw[q,hoc] at e
   have q':oc=p.2:=Option.some.inj e
   exact d w' (by rw[<- q'];exact hocd)
theorem Uk{M:Model}{A:Around}{E:Value->Shared->Prop}{i:Nat}{x:Str}{v:V}{u:Value}{Q:Unit->Shared->Prop}(I:Inv X pins σ H s)(hN:X.N.Nodup)(hi:X.N[i]? = some x)(hx:Loc X.env.scope x)(r:RelV v u)
  (h:∀s',Inv X pins (σ.set i (some v)) H s'->Q () s') (hf:X.fn x=true\/X.env.scope.names.lookup x=some .local:=by first | exact .inl rfl | exact .inr rfl | assumption):wpAny M A (storeName X.env x u) Q E s :=
 Xs I hN hi hx r (λs' I' _=>h s' I') hf
end
abbrev XK:=Value->Option Addr->Hp->Prop
abbrev St:=List (Option V)
abbrev VK:=V->Hp->Prop
abbrev TE:=St->Hp->VK->Prop
abbrev TT:=St->Hp->(Bool->Hp->Prop)->Prop
abbrev TA:=St->Hp->(List V->Hp->Prop)->Prop
structure Ends where
 nx:St->Hp->Prop
 rt:VK
 bk:St->Hp->Prop:=λ_ _=>False
 ct:St->Hp->Prop:=λ_ _=>False
abbrev TS:=Ends->St->Hp->Prop
def EP(X:Cx)(pins:List (Addr×Obj))(σ:St)(Q:VK)(u:Value)(s':Shared):Prop:=∃v H',Inv X pins σ H' s'/\RelV v u/\Q v H'
def TP(X:Cx)(pins:List (Addr×Obj))(σ:St)(Q:Bool->Hp->Prop)(b:Bool)(s':Shared):Prop:=∃H',Inv X pins σ H' s'/\Q b H'
def AP(X:Cx)(pins:List (Addr×Obj))(σ:St)(Q:List V->Hp->Prop)(us:List Value)(s':Shared):Prop:=∃vs H',Inv X pins σ H' s'/\Vals vs us/\Q vs H'
def SP(X:Cx)(pins:List (Addr×Obj))(D:Ends)(f:Flow)(s':Shared):Prop :=
 match f with
 | .next=>∃σ' H',Inv X pins σ' H' s'/\D.nx σ' H'
 | .brk=>∃σ' H',Inv X pins σ' H' s'/\D.bk σ' H'
 | .cont=>∃σ' H',Inv X pins σ' H' s'/\D.ct σ' H'
 | .ret u=>∃v σ' H',Inv X pins σ' H' s'/\RelV v u/\D.rt v H'
def PE(X:Cx)(e:Expr)(t:TE):Prop :=
 ∀(pins:List (Addr×Obj)) (s:Shared) (σ:St) (H:Hp) (Q:VK),Inv X pins σ H s->t σ H Q->wpAny (model X.prog X.w) X.A (eval e X.env) (EP X pins σ Q) X.xe s
def PT(X:Cx)(e:Expr)(t:TT):Prop :=
 ∀(pins:List (Addr×Obj)) (s:Shared) (σ:St) (H:Hp) (Q:Bool->Hp->Prop),Inv X pins σ H s->t σ H Q->wpAny (model X.prog X.w) X.A (isTrue e X.env (eval e X.env)) (TP X pins σ Q) X.xe s
def PW(X:Cx)(e:Expr)(t:TT):Prop :=
 ∀(whole:Sem Value) (pins:List (Addr×Obj)) (s:Shared) (σ:St) (H:Hp) (Q:Bool->Hp->Prop),Inv X pins σ H s->t σ H Q->wpAny (model X.prog X.w) X.A (isTrue e X.env whole) (TP X pins σ Q) X.xe s
theorem PW.pt{X:Cx}{e:Expr}{t:TT}(h:PW X e t):PT X e t:=h _
def PA(X:Cx)(es:List Expr)(t:TA):Prop :=
 ∀(pos:Pos) (pins:List (Addr×Obj)) (s:Shared) (σ:St) (H:Hp) (Q:List V->Hp->Prop),Inv X pins σ H s->t σ H Q->wpAny (model X.prog X.w) X.A (spliced (backTo pos (starEach es X.env))) (AP X pins σ Q) X.xe s
def PS(X:Cx)(st:Stmt)(t:TS):Prop :=
 ∀(pins:List (Addr×Obj)) (s:Shared) (σ:St) (H:Hp) (D:Ends),Inv X pins σ H s->t D σ H->wpAny (model X.prog X.w) X.A (exec st X.env) (SP X pins D) X.xe s
def PSs(X:Cx)(st:List Stmt)(t:TS):Prop :=
 ∀(pins:List (Addr×Obj)) (s:Shared) (σ:St) (H:Hp) (D:Ends),Inv X pins σ H s->t D σ H->wpAny (model X.prog X.w) X.A (execs st X.env) (SP X pins D) X.xe s
theorem thn{α:Type}{t:Sem α}{Q Q':α->Shared->Prop}{M:Model}{A:Around}{E:Value->Shared->Prop}{s:Shared}(h:wpAny M A t Q E s)(hQ:∀a s,Q a s->Q' a s):wpAny M A t Q' E s:=wpAny_mono h hQ λ_ _ x=>x
section
variable {X:Cx}
def Fn(i:Nat):TE:=λσ H Q=>∃v,σ[i]? = some (some v)/\Q v H
def tC(v:V):TE:=λ_ H Q=>Q v H
theorem Aj7{i:Nat}{x:Str}{pos:Pos}(hN:X.N[i]? = some x)(hv:Vis X.env.scope x)(hd:(x==("__debug__" : Str))=false:=by decide)(hcd:(x==("__classdict__" : Str))=false:=by decide):PE X (.Name x pos) (Fn i):=by
 intro pins s σ H Q I h
 obtain⟨v,e,h⟩:=h
 obtain⟨m,hn,hl⟩:=I.loc
 obtain⟨u,r,l⟩:=hl i x v hN e hv
 have fin:EP X pins σ Q u s:=⟨v,H,I,r,h⟩
 rcases l with ⟨hk,hm⟩ | ⟨hk,c,hc,hcell⟩
 ·exact wpAny_Name (wpAny_loadName_local I.ok.kind hk hn hm fin) hd
 ·rcases hk with hk | hk
  ·exact wpAny_Name (wpAny_loadName_cell I.ok.kind hk hc hcell fin) hd
  ·exact wpAny_Name (wpAny_loadName_free I.ok.kind hk hc hcell fin hcd) hd
theorem Bf{i j pos}:PE X (.Constant (.int i) j pos) (tC (.int i)):=λ_ _ _ H _ I h=>wpAny_Constant_int ⟨.int i,H,I.tok _,⟨_,rfl⟩,h⟩
theorem Tm{b j pos}:PE X (.Constant (.bool b) j pos) (tC (.bl b)):=λ_ _ _ H _ I h=>Constant_bool ⟨.bl b,H,I,rfl,h⟩
theorem Zw{j pos}:PE X (.Constant .none j pos) (tC .non):=λ_ _ _ H _ I h=>Constant_none ⟨.non,H,I,rfl,h⟩
theorem By{x j pos}:PE X (.Constant (.str x) j pos) (tC (.str x)):=λ_ _ _ H _ I h=>Calls.Constant_str ⟨.str x,H,I.tok _,⟨_,rfl⟩,h⟩
def Gl(X:Cx)(x:Str):Prop:=X.env.kindOf x=some .globalImplicit
theorem Wj{E:Value->Shared->Prop}{pins:List (Addr×Obj)}{s:Shared}{σ:St}{H:Hp}{x:Str}{u:Value}{pos:Pos}{Q:Value->Shared->Prop}(I:Inv X pins σ H s)(hg:Gl X x)(hm:X.mg x=some u)(h:Q u s)
  (hd:(x==("__debug__" : Str))=false:=by decide):wpAny (model X.prog X.w) X.A (eval (.Name x pos) X.env) Q E s :=
 Calls.Name_function_global I.ok.kind hg (Calls.loadGlobal_global (by rw[I.ok.glob];exact I.mod.glob.keeps I.bk) hm h) hd
theorem Lq{E:Value->Shared->Prop}{pins:List (Addr×Obj)}{s:Shared}{σ:St}{H:Hp}{x:Str}{u:Value}{pos:Pos}{Q:Value->Shared->Prop}(I:Inv X pins σ H s)(hg:Gl X x)(hm:X.mg x=none)(hv:bootBuiltins x=some u)(h:Q u s)
  (hn:x≠"__name__":=by decide) (hd:(x==("__debug__" : Str))=false:=by decide):wpAny (model X.prog X.w) X.A (eval (.Name x pos) X.env) Q E s:=by
 obtain⟨mb,h1,h2⟩:=I.mod.blt
 exact Calls.Name_function_global I.ok.kind hg (Calls.loadGlobal_builtin (by rw[I.ok.glob];exact I.mod.glob.keeps I.bk) hm (by rw[I.ok.blt];exact h1.keeps I.bk) ((h2 x hn).trans hv) h) hd
theorem Oh{x:Str}{v:V}{u:Value}{pos:Pos}(hg:Gl X x)(hm:X.mg x=some u)(r:RelV v u)(hd:(x==("__debug__" : Str))=false:=by decide):PE X (.Name x pos) (tC v) :=
 λ_ _ _ H _ I h=>Wj I hg hm ⟨v,H,I,r,h⟩ hd
theorem Lz{x:Str}{v:V}{u:Value}{pos:Pos}(hg:Gl X x)(hm:X.mg x=none)(hv:bootBuiltins x=some u)(r:RelV v u)(hn:x≠"__name__":=by decide)(hd:(x==("__debug__" : Str))=false:=by decide):PE X (.Name x pos) (tC v) :=
 λ_ _ _ H _ I h=>Lq I hg hm hv ⟨v,H,I,r,h⟩ hn hd
variable {a b:Expr}{ta tb:TE}{pos:Pos}
def PC(X:Cx)(op:CmpOp)(a b:Expr)(t:TE):Prop :=
 ∀(pins:List (Addr×Obj)) (s:Shared) (σ:St) (H:Hp) (Q:VK),Inv X pins σ H s->t σ H Q ->
  wpAny (model X.prog X.w) X.A (eval a X.env) (λv s₁=>wpAny (model X.prog X.w) X.A (eval b X.env) (λu s₂=>wpAny (model X.prog X.w) X.A (compareOp op v u) (EP X pins σ Q) X.xe s₂) X.xe s₁) X.xe s
theorem Zn(b:Expr){op:CmpOp}(h:op≠.In)(h2:op≠.NotIn):behindInMarks op b=false:=by
 have e1:(op==CmpOp.In)=false:=by cases op <;> first | rfl | exact absurd rfl h
 have e2:(op==CmpOp.NotIn)=false:=by cases op <;> first | rfl | exact absurd rfl h2
 cases b <;> simp [behindInMarks,e1,e2]
def AmD(ta:TE):TE:=λσ H Q=>ta σ H λx H1=>Q (.bl (decide (x=.non))) H1
def AgW(ta:TE):TE:=λσ H Q=>ta σ H λx H1=>Q (.bl (!decide (x=.non))) H1
theorem RelV.none_iff{x:V}{v:Value}(r:RelV x v):(v==Value.none)=decide (x=.non):=by
 cases x with
 | non=>cases r;rfl
 | bl _=>cases r;rfl
 | int _=>obtain⟨t,rfl⟩:=r;rfl
 | str _=>obtain⟨t,rfl⟩:=r;rfl
 | byt _=>obtain⟨t,rfl⟩:=r;rfl
 | flt _=>obtain⟨t,rfl⟩:=r;rfl
 | ref _=>cases r;rfl
 | ty _=>cases r;rfl
theorem AkL{j pos'}(ha:PE X a ta):PC X .Is a (.Constant .none j pos') (AmD ta):=by
 intro pins s σ H Q I h
 refine thn (ha pins s σ H _ I h) λv s1 ⟨x,H1,I1,r1,q1⟩=>?_
 exact Constant_none (is_none_gen ⟨.bl _,H1,I1,by rw[r1.none_iff];rfl,q1⟩)
theorem Oo{j pos'}(ha:PE X a ta):PC X .IsNot a (.Constant .none j pos') (AgW ta):=by
 intro pins s σ H Q I h
 refine thn (ha pins s σ H _ I h) λv s1 ⟨x,H1,I1,r1,q1⟩=>?_
 exact Constant_none (isnot_none_gen ⟨.bl _,H1,I1,by rw[r1.none_iff];rfl,q1⟩)
def tB(t:TE):TT:=λσ H Q=>t σ H λx H1=>∃c,x=.bl c/\Q c H1
theorem Vv{op:CmpOp}{t:TE}(h:PC X op a b t)(h1:behindInMarks op b=false:=by first | exact Zn _ (by decide) (by decide) | rfl):PE X (.Compare a [op] [b] pos) t:=λpins s σ H Q I hw=>wpAny_Compare1 (h pins s σ H Q I hw) h1
theorem Li{op:CmpOp}{t:TE}(h:PC X op a b t)(h1:behindInMarks op b=false:=by first | exact Zn _ (by decide) (by decide) | rfl):PT X (.Compare a [op] [b] pos) (tB t):=by
 intro pins s σ H Q I hw
 refine wpAny_isTrue_Compare1 (thn (h pins s σ H _ I hw) λv s1 h1=>thn h1 λu s2 h2=>thn h2 λc s3 ⟨x,H1,I1,r1,q1⟩=>?_) h1
 obtain⟨d,rfl,q⟩:=q1
 cases r1
 exact wpAny_truthy_bool ⟨H1,I1,q⟩
theorem Sd{e:Expr}{t:TE}(h:PE X e t)(he:∀whole,isTrue e X.env whole=(do let v <- whole;standAt e.pos;holding [v] (truthy v)):=by intro _;rfl):PT X e (tB t):=by
 intro pins s σ H Q I hw
 refine isTrue_plain (thn (h pins s σ H _ I hw) λv s1 ⟨x,H1,I1,r1,q1⟩=>?_) (he _)
 obtain⟨d,rfl,q⟩:=q1
 cases r1
 exact wpAny_truthy_bool ⟨H1,I1,q⟩
variable {tA tB':TT}{rest:List Expr}
def AfE(t u:TT):TT:=λσ H Q=>t σ H λc H1=>if c=true then u σ H1 Q else Q false H1
def tOr(t u:TT):TT:=λσ H Q=>t σ H λc H1=>if c=true then Q true H1 else u σ H1 Q
def Afo(t:TT):TT:=λσ H Q=>t σ H λc H1=>Q (!c) H1
theorem Rf(ha:PT X a tA):PW X (.BoolOp .And [a] pos) tA:=by
 intro wh pins s σ H Q I h
 refine isTrue_and (thn (ha pins s σ H Q I h) λc s1 e=>?_)
 cases c with
 | true=>exact isTrue_and_nil e
 | false=>exact e
theorem Wb(ha:PT X a tA):PW X (.BoolOp .Or [a] pos) tA:=by
 intro wh pins s σ H Q I h
 refine isTrue_or (thn (ha pins s σ H Q I h) λc s1 e=>?_)
 cases c with
 | false=>exact isTrue_or_nil e
 | true=>exact e
theorem So(ha:PT X a tA)(hb:PW X (.BoolOp .And (b::rest) pos) tB'):PW X (.BoolOp .And (a::b::rest) pos) (AfE tA tB'):=by
 intro wh pins s σ H Q I h
 refine isTrue_and (thn (ha pins s σ H _ I h) λc s1 ⟨H1,I1,q1⟩=>?_)
 cases c with
 | true=>exact hb wh pins s1 σ H1 Q I1 q1
 | false=>exact⟨H1,I1,q1⟩
theorem Vn(ha:PT X a tA)(hb:PW X (.BoolOp .Or (b::rest) pos) tB'):PW X (.BoolOp .Or (a::b::rest) pos) (tOr tA tB'):=by
 intro wh pins s σ H Q I h
 refine isTrue_or (thn (ha pins s σ H _ I h) λc s1 ⟨H1,I1,q1⟩=>?_)
 cases c with
 | true=>exact⟨H1,I1,q1⟩
 | false=>exact hb wh pins s1 σ H1 Q I1 q1
theorem Sy(ha:PT X a tA):PT X (.UnaryOp .Not a pos) (Afo tA):=by
 intro pins s σ H Q I h
 exact isTrue_not (ha pins s σ H (λc H1=>Q (!c) H1) I h)
def AhY(ta tb:TE):TE:=λσ H Q=>ta σ H λx H1=>∃c,x=.bl c/\if c=true then tb σ H1 Q else Q (.bl false) H1
def Aml(ta tb:TE):TE:=λσ H Q=>ta σ H λx H1=>∃c,x=.bl c/\if c=true then Q (.bl true) H1 else tb σ H1 Q
def Ahr(ta:TE):TE:=λσ H Q=>ta σ H λx H1=>∃c,x=.bl c/\Q (.bl (!c)) H1
theorem Re{op}{t:TE}(h:PE X a t):PE X (.BoolOp op [a] pos) t:=λpins s σ H Q I hw=>BoolOp_one (h pins s σ H Q I hw)
theorem Rc(ha:PE X a ta)(hb:PE X (.BoolOp .And (b::rest) pos) tb):PE X (.BoolOp .And (a::b::rest) pos) (AhY ta tb):=by
 intro pins s σ H Q I h
 refine BoolOp_and (thn (ha pins s σ H _ I h) λv s1 ⟨x,H1,I1,r1,q1⟩=>?_)
 obtain⟨c,rfl,q1⟩:=q1
 cases r1
 refine wpAny_truthy_bool ?_
 cases c with
 | true=>exact hb pins s1 σ H1 Q I1 q1
 | false=>exact⟨.bl false,H1,I1,rfl,q1⟩
theorem AnE(ha:PE X a ta)(hb:PE X (.BoolOp .Or (b::rest) pos) tb):PE X (.BoolOp .Or (a::b::rest) pos) (Aml ta tb):=by
 intro pins s σ H Q I h
 refine BoolOp_or (thn (ha pins s σ H _ I h) λv s1 ⟨x,H1,I1,r1,q1⟩=>?_)
 obtain⟨c,rfl,q1⟩:=q1
 cases r1
 refine wpAny_truthy_bool ?_
 cases c with
 | false=>exact hb pins s1 σ H1 Q I1 q1
 | true=>exact⟨.bl true,H1,I1,rfl,q1⟩
theorem AkU(ha:PE X a ta):PE X (.UnaryOp .Not a pos) (Ahr ta):=by
 intro pins s σ H Q I h
 refine UnaryOp_ (thn (ha pins s σ H _ I h) λv s1 ⟨x,H1,I1,r1,q1⟩=>?_)
 obtain⟨c,rfl,q1⟩:=q1
 cases r1
 exact not_of (wpAny_truthy_bool ⟨.bl (!c),H1,I1,rfl,q1⟩)
def tIf(t:TT)(ta tb:TE):TE:=λσ H Q=>t σ H λc H1=>if c=true then ta σ H1 Q else tb σ H1 Q
theorem Jd{c:Expr}(hc:PT X c tA)(ha:PE X a ta)(hb:PE X b tb):PE X (.IfExp c a b pos) (tIf tA ta tb):=by
 intro pins s σ H Q I h
 refine wpAny_IfExp (thn (hc pins s σ H _ I h) λd s1 ⟨H1,I1,q1⟩=>?_)
 cases d with
 | true=>exact ha pins s1 σ H1 Q I1 q1
 | false=>exact hb pins s1 σ H1 Q I1 q1
end
def SqL(K:Frag)(H:Hp)(a:Addr)(xs:List V):Prop :=
 Rd H a (.lst xs) \/
  ∃(o:Obj) (its:Array Value) (n:Nat),K.lookup a=some o/\o.cls=.type "list"/\o.dict=none/\o.data=.seq its n/\its.size<=sizeLine/\Vals xs its.toList
def SqT(K:Frag)(H:Hp)(a:Addr)(xs:List V):Prop :=
 Rd H a (.tup xs) \/
  ∃(o:Obj) (its:Array Value) (n:Nat),K.lookup a=some o/\o.cls=.type "tuple"/\o.data=.seq its n/\its.size<=sizeLine/\Vals xs its.toList
def Aon:Value->Option V
 | .none=>some .non
 | .bool b=>some (.bl b)
 | .int i _=>some (.int i)
 | .str x _=>some (.str x)
 | .bytes b _=>some (.byt b)
 | .float b _=>some (.flt b)
 | .ref a=>some (.ref a)
 | .type n=>some (.ty n)
 | _=>none
theorem RelV.abs{x:V}{u:Value}(r:RelV x u):Aon u=some x:=by
 cases x with
 | non=>cases r;rfl
 | bl _=>cases r;rfl
 | int _=>obtain⟨t,rfl⟩:=r;rfl
 | str _=>obtain⟨t,rfl⟩:=r;rfl
 | byt _=>obtain⟨t,rfl⟩:=r;rfl
 | flt _=>obtain⟨t,rfl⟩:=r;rfl
 | ref _=>cases r;rfl
 | ty _=>cases r;rfl
theorem RelV.inj{x y:V}{u:Value}(r:RelV x u)(q:RelV y u):x=y:=Option.some.inj (r.abs.symm.trans q.abs)
theorem Vals.inj:∀{xs ys:List V} {us:List Value},Vals xs us->Vals ys us->xs=ys
 | _,_,_,.nil,.nil=>rfl
 | _,_,_,.cons r t,.cons r' t'=>by rw[r.inj r',Vals.inj t t']
section
variable {X:Cx}{pins:List (Addr×Obj)}{σ:St}{H:Hp}{s:Shared}{a:Addr}{xs ys:List V}
theorem SqL.of{K:Frag}(h:H a=some (.lst xs)):SqL K H a xs:=.inl (.inl h)
theorem SqT.of{K:Frag}(h:H a=some (.tup xs)):SqT K H a xs:=.inl (.inl h)
theorem Inv.list(I:Inv X pins σ H s)(h:SqL X.K H a xs):∃its:List Value,Vals xs its/\PlainL s.heap a its.toArray/\xs.length<=sizeLine:=by
 rcases h with h | ⟨o,its,n,hk,hc,hd,hs,hz,r⟩
 ·obtain⟨z,its,n,r,e⟩:=h.ok I.hok
  exact⟨its,r,⟨_,n,e,rfl,rfl,rfl⟩,z⟩
 ·refine⟨its.toList,r,⟨o,n,I.kIn a o hk,hc,hd,by simpa using hs⟩,?_⟩
  have e:=r.length
  simp only [Array.length_toList] at e
  omega
theorem Inv.tuple(I:Inv X pins σ H s)(h:SqT X.K H a xs):∃its:List Value,Vals xs its/\IsTup s.heap a its.toArray/\xs.length<=sizeLine:=by
 rcases h with h | ⟨o,its,n,hk,hc,hs,hz,r⟩
 ·obtain⟨z,its,r,p⟩:=h.ok I.hok
  exact⟨its,r,p,z⟩
 ·refine⟨its.toList,r,⟨o,I.kIn a o hk,hc,n,by simpa using hs⟩,?_⟩
  have e:=r.length
  simp only [Array.length_toList] at e
  omega
theorem Inv.list_inj(I:Inv X pins σ H s)(h:SqL X.K H a xs)(h':SqL X.K H a ys):xs=ys:=by
 obtain⟨its,r,⟨o,n,e,_,_,d⟩,_⟩:=I.list h
 obtain⟨its',r',⟨o',n',e',_,_,d'⟩,_⟩:=I.list h'
 rw[e] at e';cases e'
 rw[d] at d'
 injection d' with d1 _
 have:its=its':=by simpa using congrArg Array.toList d1
 subst this
 exact r.inj r'
end
abbrev Cx.wish(X:Cx)(E:Value->Shared->Prop):Cx:={ X with xe:=E }
abbrev Cx.nox(X:Cx):Cx:=X.wish λ_ _=>False
theorem Cx.Ok.wish{X:Cx}(ok:X.Ok)(E:Value->Shared->Prop):(X.wish E).Ok :=
 ⟨ok.mod,ok.kind,ok.glob,ok.blt,ok.above,ok.inj,ok.has,ok.cab,ok.hd,ok.frames,ok.stk,ok.exf,ok.bs,ok.bsz,ok.noex,ok.exfs,ok.funs,ok.frf⟩
theorem Cx.Ok.unwish{X:Cx}{E:Value->Shared->Prop}(ok:(X.wish E).Ok):X.Ok :=
 ⟨ok.mod,ok.kind,ok.glob,ok.blt,ok.above,ok.inj,ok.has,ok.cab,ok.hd,ok.frames,ok.stk,ok.exf,ok.bs,ok.bsz,ok.noex,ok.exfs,ok.funs,ok.frf⟩
section
variable {X:Cx}{pins:List (Addr×Obj)}{σ:St}{H:Hp}{s:Shared}{E:Value->Shared->Prop}
theorem Inv.wish(I:Inv X pins σ H s)(E:Value->Shared->Prop):Inv (X.wish E) pins σ H s:=⟨I.ok.wish E,I.os,I.bare,I.base,I.loc,I.cell,I.free,I.freeC,I.pin,I.hok,I.len⟩
theorem Inv.unwish(I:Inv (X.wish E) pins σ H s):Inv X pins σ H s:=⟨I.ok.unwish,I.os,I.bare,I.base,I.loc,I.cell,I.free,I.freeC,I.pin,I.hok,I.len⟩
theorem SP.unwish{D:Ends}{f:Flow}{s':Shared}(h:SP (X.wish E) pins D f s'):SP X pins D f s':=by
 cases f with
 | next=>obtain⟨σ',H',I,q⟩:=h;exact⟨σ',H',I.unwish,q⟩
 | brk=>obtain⟨σ',H',I,q⟩:=h;exact⟨σ',H',I.unwish,q⟩
 | cont=>obtain⟨σ',H',I,q⟩:=h;exact⟨σ',H',I.unwish,q⟩
 | ret u=>obtain⟨v,σ',H',I,r,q⟩:=h;exact⟨v,σ',H',I.unwish,r,q⟩
theorem PSs.nox{st:List Stmt}{t:TS}(h:PSs X.nox st t):PSs X st t:=λpins s σ H D I hw =>
 wpAny_mono (h pins s σ H D (I.wish _) hw) (λ_ _ q=>q.unwish) λ_ _ z=>False.elim z
end
section
variable {X:Cx}{st:Stmt}{rest:List Stmt}{t u:TS}{e:Expr}{te:TE}{pos:Pos}
def Acs:TS:=λD σ H=>D.nx σ H
def Wl(t u:TS):TS:=λD σ H=>t { D with nx:=u D } σ H
theorem Cv:PSs X [] Acs:=λ_ _ σ H _ I h=>wpAny_execs_nil ⟨σ,H,I,h⟩
theorem Bd(h1:PS X st t)(h2:PSs X rest u):PSs X (st::rest) (Wl t u):=by
 intro pins s σ H D I h
 refine wpAny_execs_cons (thn (h1 pins s σ H { D with nx:=u D } I h) λf s1 q=>?_)
 cases f with
 | next =>
  obtain⟨σ',H',I',q⟩:=q
  exact h2 pins s1 σ' H' D I' q
 | ret v=>exact q
 | brk=>exact q
 | cont=>exact q
theorem Bi(h1:PS X st t):PSs X [st] t:=by
 intro pins s σ H D I h
 refine wpAny_execs_cons (thn (h1 pins s σ H D I h) λf s1 q=>?_)
 cases f with
 | next=>exact wpAny_execs_nil q
 | ret v=>exact q
 | brk=>exact q
 | cont=>exact q
theorem Inv.quiet{pins:List (Addr×Obj)}{σ:St}{H:Hp}{s:Shared}(I:Inv X pins σ H s):interactive X.env=false:=by simp [interactive,I.ok.kind]
def Vg(te:TE):TS:=λD σ H=>te σ H λ_ H1=>D.nx σ H1
theorem Co(he:PE X e te)(hs:swapsWith e none pos.line X.env=pure false:=by rfl):PS X (.Expr e pos) (Vg te):=by
 intro pins s σ H D I h
 exact wpAny_Expr_any (thn (he pins s σ H _ I h) λv s1 ⟨x,H1,I1,r1,q1⟩=>⟨σ,H1,I1,q1⟩) I.quiet hs
def Uw(te:TE):TS:=λD σ H=>te σ H D.rt
theorem Cg(he:PE X e te):PS X (.Return (some e) pos) (Uw te):=by
 intro pins s σ H D I h
 exact wpAny_Return_some (thn (he pins s σ H _ I h) λv s1 ⟨x,H1,I1,r1,q1⟩=>⟨x,σ,H1,I1,r1,q1⟩)
def Agb(c:TT)(t u:TS):TS:=λD σ H=>c σ H λb H1=>if b=true then t D σ H1 else u D σ H1
theorem Dh{c:Expr}{a b:List Stmt}{tc:TT}(hc:PT X c tc)(ha:PSs X a t)(hb:PSs X b u):PS X (.If c a b pos) (Agb tc t u):=by
 intro pins s σ H D I h
 refine wpAny_If (thn (hc pins s σ H _ I h) λd s1 ⟨H1,I1,q1⟩=>?_)
 cases d with
 | true=>exact ha pins s1 σ H1 D I1 q1
 | false=>exact hb pins s1 σ H1 D I1 q1
def Alk:TS:=λ_ _ _=>False
theorem Ae1{sts:List Stmt}:PSs X sts Alk:=λ_ _ _ _ _ _ h=>h.elim
end
abbrev TG:=V->St->Hp->(St->Hp->Prop)->Prop
abbrev TGs:=List V->St->Hp->(St->Hp->Prop)->Prop
def PG(X:Cx)(target:Expr)(t:TG):Prop :=
 ∀(pins:List (Addr×Obj)) (s:Shared) (σ:St) (H:Hp) (v:V) (u:Value) (Q:St->Hp->Prop),Inv X pins σ H s->RelV v u->t v σ H Q ->
  wpAny (model X.prog X.w) X.A (assign target X.env u) (λ_ s'=>∃σ' H',Inv X pins σ' H' s'/\Q σ' H') X.xe s
def PGs(X:Cx)(ts:List Expr)(t:TGs):Prop :=
 ∀(pins:List (Addr×Obj)) (s:Shared) (σ:St) (H:Hp) (vs:List V) (us:List Value) (Q:St->Hp->Prop),Inv X pins σ H s->Vals vs us->t vs σ H Q ->
  wpAny (model X.prog X.w) X.A (assignInOrder ((assignEach ts X.env).map (·.2)) us) (λ_ s'=>∃σ' H',Inv X pins σ' H' s'/\Q σ' H') X.xe s
abbrev AfY:=V->V->V->Hp->(Hp->Prop)->Prop
def AfV(X:Cx)(t:AfY):Prop :=
 ∀(pins:List (Addr×Obj)) (s:Shared) (σ:St) (H:Hp) (o i v:V) (ov iv u:Value) (Q:Hp->Prop),Inv X pins σ H s->RelV o ov->RelV i iv->RelV v u->t o i v H Q ->
  wpAny (model X.prog X.w) X.A (setItem ov iv u) (λ_ s'=>∃H',Inv X pins σ H' s'/\Q H') X.xe s
abbrev TIp:=V->V->Hp->VK->Prop
def PIp(X:Cx)(op:Operator)(t:TIp):Prop :=
 ∀(pins:List (Addr×Obj)) (s:Shared) (σ:St) (H:Hp) (x y:V) (v u:Value) (Q:VK),Inv X pins σ H s->RelV x v->RelV y u->t x y H Q ->
  wpAny (model X.prog X.w) X.A (inplaceOp op v u) (EP X pins σ Q) X.xe s
section
variable {X:Cx}{pos:Pos}
def Go(i:Nat):TG:=λv σ H Q=>Q (σ.set i (some v)) H
theorem Bq{i:Nat}{x:Str}(hN:X.N.Nodup)(hi:X.N[i]? = some x)(hx:Loc X.env.scope x)(hf:X.fn x=true\/X.env.scope.names.lookup x=some .local:=by first | exact .inl rfl | exact .inr rfl | assumption):PG X (.Name x pos) (Go i):=by
 intro pins s σ H v u Q I r h
 exact wpAny_assign_Name (Uk I hN hi hx r (λs' I'=>⟨_,H,I',h⟩) hf)
def Ab8:TGs:=λvs σ H Q=>vs=[]/\Q σ H
def Vu(t:TG)(u:TGs):TGs:=λvs σ H Q=>∃v r,vs=v::r/\t v σ H λσ' H'=>u r σ' H' Q
theorem Fa:PGs X [] Ab8:=by
 intro pins s σ H vs us Q I r h
 obtain⟨e,h⟩:=h
 subst e
 cases r
 exact assignInOrder_nil ⟨σ,H,I,h⟩
theorem Ce{e:Expr}{es:List Expr}{t:TG}{u:TGs}(h1:PG X e t)(h2:PGs X es u)
  (hs:(assignEach (e::es) X.env).map (·.2)=assign e X.env::(assignEach es X.env).map (·.2):=by rfl):PGs X (e::es) (Vu t u):=by
 intro pins s σ H vs us Q I r h
 obtain⟨v,vr,e1,h⟩:=h
 subst e1
 cases r with
 | cons r rr =>
  rw[hs]
  refine assignInOrder_cons (thn (h1 pins s σ H _ _ _ I r h) λ_ s1 ⟨σ1,H1,I1,q1⟩=>?_)
  exact h2 pins s1 σ1 H1 _ _ Q I1 rr q1
def Xa(K:Frag)(n:Nat)(t:TGs):TG:=λv σ H Q=>∃a xs,v=.ref a/\SqT K H a xs/\xs.length=n/\t xs σ H Q
theorem Qb{es:List Expr}{k:Nat}{t:TGs}{n:Nat}(hc:X.calm=true)(h:PGs X es t)
  (hn:(assignEach es X.env).length=n:=by rfl) (hst:(assignEach es X.env).findIdx? (·.1)=none:=by rfl):PG X (.Tuple es k pos) (Xa X.K n t):=by
 intro pins s σ H v u Q I r hw
 obtain⟨a,xs,e1,hq,hl,hw⟩:=hw
 subst e1
 cases r
 obtain⟨its,rv,ht,hz⟩:=I.tuple hq
 refine assign_Tuple_tuple (I.ok.hd hc) ht (by simp [hn,<- hl,rv.length]) hst λh' hx=>?_
 have I1:Inv X pins σ H { s with heap:=h' }:=I.kept (t':=s.toks) λb o e=>hx b o (ne_of_lt (lt_size e)) e
 exact h pins _ σ H xs _ Q I1 (by simpa using rv) hw
def AkY(to ti:TE)(t:AfY):TG:=λv σ H Q=>to σ H λo H1=>ti σ H1 λi H2=>t o i v H2 λH3=>Q σ H3
theorem Tb{o i:Expr}{to ti:TE}{t:AfY}(ho:PE X o to)(hi:PE X i ti)(hs:AfV X t)
  (ha:∀v,assign (.Subscript o i pos) X.env v=(do
   let ov <- holding [v] (eval o X.env)
   let iv <- holding [v,ov] (eval i X.env)
   standAt pos
   holding [v,ov,iv] (setItem ov iv v)
   release [v,ov,iv] []):=by intro _;rfl):PG X (.Subscript o i pos) (AkY to ti t):=by
 intro pins s σ H v u Q I r h
 rw[ha]
 refine wpAny_bind (wpAny_holding (thn (ho pins s σ H _ I h) λov s1 ⟨x,H1,I1,r1,q1⟩=>?_))
 refine wpAny_bind (wpAny_holding (thn (hi pins s1 σ H1 _ I1 q1) λiv s2 ⟨y,H2,I2,r2,q2⟩=>?_))
 refine wpAny_bind (wpAny_standAt (wpAny_bind (wpAny_holding (thn (hs pins s2 σ H2 x y v ov iv u _ I2 r1 r2 r q2) λ_ s3 ⟨H3,I3,q3⟩=>?_))))
 exact wpAny_release ⟨σ,H3,I3,q3⟩
def Lj(te:TE)(g:TG):TS:=λD σ H=>te σ H λx H1=>g x σ H1 D.nx
theorem Qd{tg e:Expr}{te:TE}{g:TG}(he:PE X e te)(hg:PG X tg g)(hs:swapsWithSole [tg] e pos.line X.env=pure false:=by rfl)(hw:swappedStores [tg] e X.env=pure none:=by rfl)
  (h1:(assignEach [tg] X.env).map (·.2)=[assign tg X.env]:=by rfl):PS X (.Assign [tg] e pos) (Lj te g):=by
 intro pins s σ H D I h
 refine wpAny_Assign_stores (thn (he pins s σ H _ I h) λv s1 ⟨x,H1,I1,r1,q1⟩=>?_) hs hw
 rw[h1]
 exact thn (hg pins s1 σ H1 x v _ I1 r1 q1) λ_ s2 q=>q
theorem Bo{i:Nat}{x:Str}{e:Expr}{te:TE}{pos':Pos}(hN:X.N.Nodup)(hi:X.N[i]? = some x)(hx:Loc X.env.scope x)(he:PE X e te)(hs:swapsWith e (some (.Name x pos')) pos.line X.env=pure false:=by rfl)(hf:X.fn x=true\/X.env.scope.names.lookup x=some .local:=by first | exact .inl rfl | exact .inr rfl | assumption) :
  PS X (.Assign [.Name x pos'] e pos) (Lj te (Go i)):=by
 intro pins s σ H D I h
 refine wpAny_Assign_Name (thn (he pins s σ H _ I h) λv s1 ⟨y,H1,I1,r1,q1⟩=>?_) hs
 exact Uk I1 hN hi hx r1 (λs2 I2=>⟨_,H1,I2,q1⟩) hf
def AlG(i:Nat)(te:TE)(ti:TIp):TS:=λD σ H=>∃x,σ[i]? = some (some x)/\te σ H λy H1=>ti x y H1 λz H2=>D.nx (σ.set i (some z)) H2
theorem Aex{i:Nat}{x:Str}{e:Expr}{te:TE}{op:Operator}{ti:TIp}{pos':Pos}(hN:X.N.Nodup)(hi:X.N[i]? = some x)(hx:Loc X.env.scope x)(he:PE X e te)(ho:PIp X op ti)(hf:X.fn x=true\/X.env.scope.names.lookup x=some .local:=by first | exact .inl rfl | exact .inr rfl | assumption) :
  PS X (.AugAssign (.Name x pos') op e pos) (AlG i te ti):=by
 intro pins s σ H D I h
 obtain⟨v,e1,h⟩:=h
 obtain⟨m,hn,hl⟩:=I.loc
 have vis:Vis X.env.scope x:=by rcases hx with k | k;exact .inl k;exact .inr (.inl k)
 obtain⟨u,r,l⟩:=hl i x v hi e1 vis
 refine wpAny_AugAssign_Name ?_
 have go:wpAny (model X.prog X.w) X.A (eval e X.env) (λw s₂=>wpAny (model X.prog X.w) X.A (inplaceOp op u w) (λr s₃=>wpAny (model X.prog X.w) X.A (storeName X.env x r) (λ_=>SP X pins D .next) X.xe s₃) X.xe s₂) X.xe s:=by
  refine thn (he pins s σ H _ I h) λw s1 ⟨y,H1,I1,r1,q1⟩=>?_
  refine thn (ho pins s1 σ H1 v y u w _ I1 r r1 q1) λz s2 ⟨zv,H2,I2,r2,q2⟩=>?_
  exact Uk I2 hN hi hx r2 (λs3 I3=>⟨_,H2,I3,q2⟩) hf
 rcases l with ⟨hk,hm⟩ | ⟨hk,c,hc,hcell⟩
 ·exact wpAny_loadName_local I.ok.kind hk hn hm go
 ·rcases hk with hk | hk
  ·exact wpAny_loadName_cell I.ok.kind hk hc hcell go
  ·rcases hx with k | k
   ·have:X.env.scope.names.lookup x=some .free:=hk
    rw[k] at this;cases this
   ·have:X.env.scope.names.lookup x=some .free:=hk
    rw[k] at this;cases this
def ipI(f:Int->Int->Int):TIp:=λx y H Q=>∃i j,x=.int i/\y=.int j/\Q (.int (f i j)) H
theorem AeU:PIp X .Add (ipI λi j=>i+j):=by
 intro pins s σ H x y v u Q I r1 r2 h
 obtain⟨i,j,e1,e2,q⟩:=h
 subst e1;subst e2
 obtain⟨t,rfl⟩:=r1
 obtain⟨t',rfl⟩:=r2
 exact iadd_int ⟨.int _,H,I.tok _,⟨_,rfl⟩,q⟩
end
section
variable {X:Cx}{pos:Pos}
end
structure It where
 go:Nat->Hp->Prop
 yld:Nat->Hp->V->Hp->Prop
 stop:Nat->Hp->Prop
def Sm(X:Cx)(pins:List (Addr×Obj))(H:Hp)(b:Addr):Prop :=
 H b=none/\b≠X.env.locals/\b∉X.fs/\(b∈X.ex\/X.s₀.heap.objs.size<=b)/\(∀x c,X.env.cells.lookup x=some c->c≠b)/\∀p∈X.pn++pins,p.1≠b
theorem Inv.fpOk{X:Cx}{pins:List (Addr×Obj)}{σ:St}{H H':Hp}{s:Shared}{b:Addr}(I:Inv X pins σ H s)(hb:s.heap.objs.size<=b)(hn:H' b=none):Sm X pins H' b:=by
 refine⟨hn,Nat.ne_of_gt (Nat.lt_of_lt_of_le I.lt hb),I.nofs hb,.inr (Nat.le_trans I.sz hb),λx c e z=>?_,λp hp z=>?_⟩
 ·obtain⟨v,q⟩:=I.cell x c e
  exact absurd (Nat.lt_of_lt_of_le q.lt (by rw[z];exact hb)) (Nat.lt_irrefl _)
 ·exact absurd (Nat.lt_of_lt_of_le (lt_size (I.pin p hp).1) (by rw[z];exact hb)) (Nat.lt_irrefl _)
structure Ur(P:Program)(w:World)(K:Frag)(tg:Expr)(J:It)(fp:List Addr)(it:Addr)(tn:Nat->Heap->Prop):Prop where
 mem:it∈fp
 obj:∀i h,tn i h->∀b∈fp,∃o,h.get? b=some o/\∀v,o.data≠.cell v
 keep:∀i h h',tn i h->(∀b∈fp,∀o,h.get? b=some o->h'.get? b=some o)->tn i h'
 item:∀(X:Cx),X.prog=P->X.w=w->X.K=K->X.calm=true->∀(i:Nat) (pins:List (Addr×Obj)) (s:Shared) (σ:St) (H:Hp) (E:Value->Shared->Prop),Inv X pins σ H s->(∀b∈fp,Sm X pins H b)->tn i s.heap->J.go i H ->
  wpAny (model P w) X.A (pyNext (.ref it)) (λr s1=>∃u,r=some u /\
   wpAny (model P w) X.A (letOwnedTupleGo tg (.ref it) u) (λ_ s2=>∃x H',Inv X pins σ H' s2/\RelV x u/\J.yld i H x H'/\tn (i+1) s2.heap/\∀b∈fp,H' b=none) E s1) E s
 done:∀(X:Cx),X.prog=P->X.w=w->X.K=K->X.calm=true->∀(i:Nat) (pins:List (Addr×Obj)) (s:Shared) (σ:St) (H:Hp) (E:Value->Shared->Prop),Inv X pins σ H s->(∀b∈fp,Sm X pins H b)->tn i s.heap->J.stop i H ->
  wpAny (model P w) X.A (pyNext (.ref it)) (λr s1=>r=none/\Inv X pins σ H s1) E s
 self:∀(A:Around) (i:Nat) (s:Shared) (Q:Value->Shared->Prop) (E:Value->Shared->Prop),tn i s.heap->Q (.ref it) s->wpAny (model P w) A (pyIter (.ref it)) Q E s
abbrev TI:=St->Hp->(It->Hp->Prop)->Prop
def PIE(X:Cx)(pins:List (Addr×Obj))(σ:St)(tg:Expr)(R:It->Hp->Prop)(itv:Value)(s2:Shared):Prop :=
 ∃(it:Addr) (fp:List Addr) (tn:Nat->Heap->Prop) (J:It) (H':Hp),itv=.ref it/\Inv X pins σ H' s2/\Ur X.prog X.w X.K tg J fp it tn/\tn 0 s2.heap/\(∀b∈fp,Sm X pins H' b)/\R J H'
def PI(X:Cx)(tg iter:Expr)(wi:TI):Prop :=
 ∀(pins:List (Addr×Obj)) (s:Shared) (σ:St) (H:Hp) (R:It->Hp->Prop),Inv X pins σ H s->wi σ H R ->
  wpAny (model X.prog X.w) X.A (eval iter X.env) (λv s1=>wpAny (model X.prog X.w) X.A (pyIter v) (PIE X pins σ tg R) X.xe s1) X.xe s
theorem Ace{M:Model}{A:Around}{E:Value->Shared->Prop}{s:Shared}{tg:Expr}{it:Addr}{u:Value}{o:Obj}{n:String}{vs:Array Value}{Q:Unit->Shared->Prop}(ho:s.heap.get? it=some o)(hc:o.cls=.type n)(hd:o.data=.fields vs)
  (hn:["enumerate","zip","dict_itemiterator","dict_reverseitemiterator","odict_iterator","itertools.zip_longest","itertools.pairwise"].contains n=false) (hQ:Q () s):wpAny M A (letOwnedTupleGo tg (.ref it) u) Q E s:=by
 unfold letOwnedTupleGo
 cases tg <;> first
  | exact wpAny_pure hQ
  | (cases u <;> first
    | exact wpAny_pure hQ
    | (refine wpAny_bind (wpAny_load ho ?_);rw[hc,hd];show wpAny M A (if (["enumerate","zip","dict_itemiterator","dict_reverseitemiterator","odict_iterator","itertools.zip_longest","itertools.pairwise"].contains n&&vs[0]? == some (rawInt _))=true then _ else _) Q E s;rw[if_neg (by intro h;rw[hn,Bool.false_and] at h;cases h)];exact wpAny_pure hQ))
def Itl(K:Frag)(a:Addr):It :=
 ⟨λi H=>∃xs x,SqL K H a xs/\xs[i]? = some x,λi H x H'=>H'=H/\∀xs,SqL K H a xs->xs[i]? = some x,λi H=>∃xs,SqL K H a xs/\xs.length<=i⟩
def Itr(lo:Int)(n:Nat):It:=⟨λi _=>i<n,λi H x H'=>H'=H/\x=.int (lo+i),λi _=>n<=i⟩
theorem Ae7{P:Program}{w:World}{K:Frag}{tg:Expr}(a it:Addr):Ur P w K tg (Itl K a) [it] it (λi h=>h.IsListIter it a i) where
 mem:=by simp
 obj:=λi h st b hb=>by
  have e:b=it:=by simpa using hb
  subst e
  obtain⟨o,e,c,d⟩:=st
  exact⟨o,e,λv z=>by rw[d] at z;cases z⟩
 keep:=λi h h' st k=>st.at λo e=>k it (by simp) o e
 item:=by
  intro X hP hw hK hc i pins s σ H E I hf st hg
  subst hP hw hK
  obtain⟨xs,x,hq,hx⟩:=hg
  obtain⟨its,rv,p,hz⟩:=I.list hq
  obtain⟨u,hu,ru⟩:=rv.get hx
  obtain⟨f0,f1,f2,f3,f4,f5⟩:=hf it (by simp)
  refine wpAny_pyNext_list_item st p.isList (x:=u) (by simpa using hu) λh' st' sb=>?_
  have I1:Inv X pins σ H { s with heap:=h' }:=I.turned (t':=s.toks) (λb o hb e=>(sb.2 b hb).trans e) f0 f1 f3 f4 f5
  obtain⟨o,e,c,d⟩:=id st'
  exact⟨u,rfl,Ace (s:={ s with heap:=h' }) e c d (by decide) ⟨x,H,I1,ru,⟨rfl,λys hy=>by rw[I.list_inj hy hq];exact hx⟩,st',λb hb=>(hf b hb).1⟩⟩
 done:=by
  intro X hP hw hK hc i pins s σ H E I hf st hg
  subst hP hw hK
  obtain⟨xs,hq,hx⟩:=hg
  obtain⟨its,rv,p,hz⟩:=I.list hq
  obtain⟨f0,f1,f2,f3,f4,f5⟩:=hf it (by simp)
  have hl:=rv.length
  exact wpAny_pyNext_list_end (I.ok.hd hc) st p.isList (by simp;omega) λh' eb=>⟨rfl,I.turned (t':=s.toks) (λb o hb e=>eb b o hb e) f0 f1 f3 f4 f5⟩
 self:=λ_ _ _ _ _ st h=>wpAny_pyIter_listiter st h
theorem AbW{P:Program}{w:World}{K:Frag}{tg:Expr}(it:Addr)(lo:Int)(n:Nat):Ur P w K tg (Itr lo n) [it] it (λi h=>IsRangeIter h it (lo+(i:Nat)*1) ((n:Int) - (i:Nat)) 1) where
 mem:=by simp
 obj:=λi h st b hb=>by
  have e:b=it:=by simpa using hb
  subst e
  exact⟨_,st,λv z=>by
   have z':Data.fields _=Data.cell v:=z
   cases z'⟩
 keep:=λi h h' st k=>k it (by simp) _ st
 item:=by
  intro X hP hw hK hc i pins s σ H E I hf st hg
  subst hP hw hK
  obtain⟨f0,f1,f2,f3,f4,f5⟩:=hf it (by simp)
  have W:=Walks.range (prog:=X.prog) (w:=X.w) (I.ok.hd hc) it lo 1 n
  refine W.item i s _ _ hg st λv h' tk hv st' kk=>?_
  obtain⟨t,rfl⟩:=hv
  have I1:Inv X pins σ H { s with heap:=h',toks:=tk }:=I.turned (λb o hb e=>kk b o (by simpa using hb) e) f0 f1 f3 f4 f5
  refine⟨_,rfl,Ace (s:={ s with heap:=h',toks:=tk }) (n:="range_iterator") st' rfl rfl (by decide) ⟨.int (lo+i),H,I1,⟨t,?_⟩,⟨rfl,rfl⟩,st',λb hb=>(hf b hb).1⟩⟩
  rw[Int.mul_one]
 done:=by
  intro X hP hw hK hc i pins s σ H E I hf st hg
  subst hP hw hK
  obtain⟨f0,f1,f2,f3,f4,f5⟩:=hf it (by simp)
  exact wpAny_pyNext_range_end (I.ok.hd hc) st (by have:n<=i:=hg;omega) λh' eb=>⟨rfl,I.turned (t':=s.toks) (λb o hb e=>eb b o hb e) f0 f1 f3 f4 f5⟩
 self:=λ_ _ _ _ _ st h=>wpAny_pyIter_rangeiter st h
section
variable {X:Cx}{tg:Expr}
def Qp(K:Frag)(tl:TE):TI:=λσ H R=>tl σ H λx H1=>∃a,x=.ref a/\(∃xs,SqL K H1 a xs)/\R (Itl K a) H1
theorem Ct{l:Expr}{tl:TE}(hl:PE X l tl):PI X tg l (Qp X.K tl):=by
 intro pins s σ H R I h
 refine thn (hl pins s σ H _ I h) λv s1 ⟨x,H1,I1,r1,q1⟩=>?_
 obtain⟨a,e,⟨xs,hq⟩,q⟩:=q1
 subst e
 cases r1
 obtain⟨its,rv,p,hz⟩:=I1.list hq
 refine wpAny_pyIter_list p.isList ?_
 refine⟨s1.heap.objs.size,[s1.heap.objs.size],_,_,H1,rfl,I1.kept (t':=s1.toks) λb o e=>get?_push_of_some _ e,Ae7 a _,⟨_,get?_push_size _ rfl,rfl,rfl⟩,λb hb=>?_,q⟩
 have e:b=s1.heap.objs.size:=by simpa using hb
 subst e
 exact I1.fpOk (Nat.le_refl _) (I1.hok.fresh (Nat.le_refl _))
theorem Aai{pins:List (Addr×Obj)}{σ:St}{H:Hp}{s:Shared}{R:It->Hp->Prop}{E:Value->Shared->Prop}{lo hi:Int}{t u v:Tok}{tk:Nat}(I:Inv X pins σ H s)(h1:-(2^62)<=lo)(h2:lo<2^62)(h3:-(2^62)<=hi)(h4:hi<2^62)
  (q:R (Itr lo (hi - lo).toNat) H):wpAny (model X.prog X.w) X.A (pyIter (.ref s.heap.objs.size)) (PIE X pins σ tg R) E { s with heap:=s.heap.push { cls:=.type "range",data:=.fields #[.int lo t,.int hi u,.int 1 v] },toks:=tk }:=by
 refine wpAny_pyIter_range (IsRange.new ..) (small_one h1 h2 h3 h4) ?_
 have I1:Inv X pins σ H { s with heap:=s.heap.push { cls:=.type "range",data:=.fields #[.int lo t,.int hi u,.int 1 v] },toks:=tk }:=I.kept λb o e=>get?_push_of_some _ e
 refine⟨(s.heap.push { cls:=.type "range",data:=.fields #[.int lo t,.int hi u,.int 1 v] }).objs.size,[(s.heap.push { cls:=.type "range",data:=.fields #[.int lo t,.int hi u,.int 1 v] }).objs.size],_,_,H,rfl,
  I1.kept (t':=tk) λb o e=>get?_push_of_some _ e,AbW _ lo (hi - lo).toNat,?_,λb hb=>?_,q⟩
 ·have e1:lo+((0:Nat):Int)*1=lo:=by simp
  have e2:(((hi - lo).toNat:Nat):Int) - ((0:Nat):Int)=Builtin.Range.rangeSize lo hi 1:=by rw[rangeSize_one];split <;> omega
  show IsRangeIter _ _ (lo+((0:Nat):Int)*1) ((((hi - lo).toNat:Nat):Int) - ((0:Nat):Int)) 1
  rw[e1,e2]
  exact get?_push_size _ rfl
 ·have e:b=(s.heap.push { cls:=.type "range",data:=.fields #[.int lo t,.int hi u,.int 1 v] }).objs.size:=by simpa using hb
  subst e
  exact I1.fpOk (Nat.le_refl _) (I1.hok.fresh (Nat.le_refl _))
def Vw(ta:TA):TI:=λσ H R=>ta σ H λvs H1=>∃j:Int,vs=[.int j]/\-(2^62)<=j/\j<2^62/\R (Itr 0 j.toNat) H1
def Ag7(ta:TA):TI:=λσ H R=>ta σ H λvs H1=>∃i j:Int,vs=[.int i,.int j]/\(-(2^62)<=i/\i<2^62/\-(2^62)<=j/\j<2^62)/\R (Itr i (j - i).toNat) H1
theorem Nv{a:Expr}{ta:TA}{p pos:Pos}(hg:Gl X "range")(hm:X.mg "range"=none)(ha:PA X [a] ta)(hs:starEach [a] X.env=[(false,eval a X.env)]:=by rfl):PI X tg (.Call (.Name "range" p) [a] [] pos) (Vw ta):=by
 intro pins s σ H R I h
 refine Call_ (Lq I hg hm boot_range (PyProof.Rows.callWith_type1 (thn (ha pos pins s σ H _ I h) λus s1 ⟨vs,H1,I1,r1,q1⟩=>?_) hs rfl))
 obtain⟨j,e,q1,q2,q⟩:=q1
 subst e
 cases r1 with
 | cons r rr =>
  cases rr
  obtain⟨t,rfl⟩:=r
  exact call_range_1 (Aai I1 (by omega) (by omega) q1 q2 (by simpa using q))
theorem Xh{a b:Expr}{ta:TA}{p pos:Pos}(hg:Gl X "range")(hm:X.mg "range"=none)(ha:PA X [a,b] ta)(hs:starEach [a,b] X.env=[(false,eval a X.env),(false,eval b X.env)]:=by rfl)(hs2:starEach [b] X.env=[(false,eval b X.env)]:=by rfl) :
  PI X tg (.Call (.Name "range" p) [a,b] [] pos) (Ag7 ta):=by
 intro pins s σ H R I h
 refine Call_ (Lq I hg hm boot_range (PyProof.Rows.callWith_type1 (thn (ha pos pins s σ H _ I h) λus s1 ⟨vs,H1,I1,r1,q1⟩=>?_) (by rw[hs,hs2]) (by rw[hs2];rfl)))
 obtain⟨i,j,e,⟨q1,q2,q3,q4⟩,q⟩:=q1
 subst e
 cases r1 with
 | cons r rr =>
  cases rr with
  | cons r' rr =>
   cases rr
   obtain⟨t,rfl⟩:=r
   obtain⟨t',rfl⟩:=r'
   exact call_range_2 (Aai I1 q1 q2 q3 q4 q)
def Na(wi:TI)(g:TG)(tb:TS):TS:=λD σ H=>wi σ H λJ H1=>∃W:Nat->Nat->St->Hp->Prop,(∃m,W 0 m σ H1)/\∀i m σ H,W i m σ H ->
 (J.stop i H/\D.nx σ H)\/(J.go i H/\∃N:St->Hp->Prop,(∀σ' H',N σ' H'->∃m',m'<m/\W (i+1) m' σ' H')/\∀x H',J.yld i H x H'->g x σ H' λσ2 H2=>tb { D with nx:=N,ct:=N,bk:=D.nx } σ2 H2)
def Sr(fp:List Addr)(h:Heap):List (Addr×Obj):=fp.filterMap λb=>(h.get? b).map λo=>(b,o)
theorem Nx{fp:List Addr}{h:Heap}{b:Addr}{o:Obj}(hb:b∈fp)(e:h.get? b=some o):(b,o)∈Sr fp h:=mem_filterMap.mpr ⟨b,hb,by rw[e];rfl⟩
theorem AdB{fp:List Addr}{h:Heap}{p:Addr×Obj}(hp:p∈Sr fp h):p.1∈fp/\h.get? p.1=some p.2:=by
 obtain⟨b,hb,e⟩:=mem_filterMap.mp hp
 cases q:h.get? b with
 | none=>rw[q] at e;cases e
 | some o =>
  rw[q] at e
  have e':(b,o)=p:=Option.some.inj e
  subst e'
  exact⟨hb,q⟩
theorem Inv.pinned{pins:List (Addr×Obj)}{σ:St}{H:Hp}{s:Shared}{fp:List Addr}(I:Inv X pins σ H s)(hf:∀b∈fp,Sm X pins H b)(ho:∀b∈fp,∃o,s.heap.get? b=some o/\∀v,o.data≠.cell v):Inv X (pins++Sr fp s.heap) σ H s :=
 I.pins_of λp hp=>(mem_append.mp hp).elim (λz=>I.pin p (mem_append_right _ z)) λz=>by
  obtain⟨hb,e⟩:=AdB z
  obtain⟨f0,f1,f2,_⟩:=hf p.1 hb
  obtain⟨o,e',d⟩:=ho p.1 hb
  rw[e] at e';cases e'
  exact⟨e,f0,f1,f2,d⟩
theorem Inv.unpinned{pins pl:List (Addr×Obj)}{σ:St}{H:Hp}{s:Shared}(I:Inv X (pins++pl) σ H s):Inv X pins σ H s:=I.pins_of λp hp=>I.pin p (mem_append_right _ (mem_append_left _ hp))
theorem Dc{iter:Expr}{body:List Stmt}{wi:TI}{g:TG}{tb:TS}{pos:Pos}(hp:PassesOwn (model X.prog X.w) X.A X.env X.xe)(hc:X.calm=true)(hi:PI X tg iter wi)(hg:PG X tg g)(hb:PSs X body tb)
  (hs:∀x,foldedSetIterable iter X.env x=pure x:=by intro _;rfl):PS X (.For tg iter body [] pos) (Na wi g tb):=by
 intro pins s σ H D I h
 refine wpAny_For (thn (hi pins s σ H _ I h) λv s1 h1=>thn h1 λitv s2 h2=>?_) hs
 obtain⟨it,fp,tn,J,H2,e,I2,T,st2,f2,W,⟨m0,w0⟩,turn⟩:=h2
 subst e
 -- what stays true of the iterator's objects through the loop
 have stat:∀{H':Hp},(∀b∈fp,H' b=none)->∀b∈fp,Sm X pins H' b:=λhn b hb=>⟨hn b hb,(f2 b hb).2⟩
 refine codeAny_forLoop_any (λn s'=>∃i σ' H',Inv X pins σ' H' s'/\tn i s'.heap/\(∀b∈fp,H' b=none)/\W i n σ' H') ?_ m0 ⟨0,σ,H2,I2,st2,λb hb=>(f2 b hb).1,w0⟩
 rintro n s3 ⟨i,σ3,H3,I3,st3,fr3,w3⟩
 rcases turn i n σ3 H3 w3 with ⟨stop,qn⟩ | ⟨go,N,hN,step⟩
 ·refine wpAny_passesOwn hp (thn (T.done X rfl rfl rfl hc i pins s3 σ3 H3 X.xe I3 (stat fr3) st3 stop) λr s4 ⟨hr,I4⟩=>?_)
  subst hr
  exact wpAny_execs_nil ⟨σ3,H3,I4,qn⟩
 ·refine wpAny_passesOwn hp (thn (T.item X rfl rfl rfl hc i pins s3 σ3 H3 X.xe I3 (stat fr3) st3 go) λr s4 ⟨u,hr,h4⟩=>?_)
  subst hr
  refine wpAny_passesOwn hp (thn h4 λ_ s5 ⟨x,H5,I5,r5,y5,st5,fr5⟩=>?_)
  have I5':=I5.pinned (stat fr5) (T.obj _ _ st5)
  refine wpAny_passesOwn hp (thn (hg _ s5 σ3 H5 x u _ I5' r5 (step x H5 y5)) λ_ s6 ⟨σ6,H6,I6,q6⟩=>?_)
  refine wpAny_passesOwn hp (thn (hb _ s6 σ6 H6 _ I6 q6) λf s7 q7=>?_)
  have again:∀{σ7:St} {H7:Hp},Inv X (pins++Sr fp s5.heap) σ7 H7 s7->N σ7 H7->∃m,m<n/\∃i σ' H',Inv X pins σ' H' s7/\tn i s7.heap/\(∀b∈fp,H' b=none)/\W i m σ' H':=λ{σ7 H7} I7 n7=>by
   obtain⟨m',hm,w7⟩:=hN σ7 H7 n7
   refine⟨m',hm,i+1,σ7,H7,I7.unpinned,T.keep _ _ _ st5 λb hb o e=>(I7.pin (b,o) (mem_append_right _ (mem_append_right _ (Nx hb e)))).1,λb hb=>?_,w7⟩
   obtain⟨o,e,d⟩:=T.obj _ _ st5 b hb
   exact (I7.pin (b,o) (mem_append_right _ (mem_append_right _ (Nx hb e)))).2.1
  cases f with
  | next=>obtain⟨σ7,H7,I7,n7⟩:=q7;exact again I7 n7
  | cont=>obtain⟨σ7,H7,I7,n7⟩:=q7;exact again I7 n7
  | brk=>obtain⟨σ7,H7,I7,q7⟩:=q7;exact⟨σ7,H7,I7.unpinned,q7⟩
  | ret v=>obtain⟨x7,σ7,H7,I7,r7,q7⟩:=q7;exact⟨x7,σ7,H7,I7.unpinned,r7,q7⟩
end
theorem Rx{K:Frag}{a:Addr}{xs:List V}{g:TG}{tb:TS}{D:Ends}{σ:St}{H:Hp}(Pv:Nat->St->Hp->Prop)(h0:Pv 0 σ H)(hl:∀i σ H,i<=xs.length->Pv i σ H->SqL K H a xs)
  (hs:∀i x σ H,xs[i]? = some x->Pv i σ H->g x σ H λσ2 H2=>tb { D with nx:=Pv (i+1),ct:=Pv (i+1),bk:=D.nx } σ2 H2) (hd:∀σ H,Pv xs.length σ H->D.nx σ H) :
  ∃W:Nat->Nat->St->Hp->Prop,(∃m,W 0 m σ H)/\∀i m σ H,W i m σ H ->
   ((Itl K a).stop i H/\D.nx σ H)\/((Itl K a).go i H/\∃N:St->Hp->Prop,(∀σ' H',N σ' H'->∃m',m'<m/\W (i+1) m' σ' H')/\∀x H',(Itl K a).yld i H x H'->g x σ H' λσ2 H2=>tb { D with nx:=N,ct:=N,bk:=D.nx } σ2 H2):=by
 refine⟨λi m σ H=>m=xs.length - i/\i<=xs.length/\Pv i σ H,⟨xs.length,by simp,zero_le _,h0⟩,?_⟩
 rintro i m σ H ⟨rfl,hi,p⟩
 have q:=hl i σ H hi p
 by_cases hlt:i<xs.length
 ·refine .inr ⟨⟨xs,xs[i],q,by simp [hlt]⟩,Pv (i+1),λσ' H' p'=>⟨xs.length - (i+1),by omega,rfl,hlt,p'⟩,λx H' y=>?_⟩
  obtain⟨e,y⟩:=y
  subst e
  exact hs i x σ _ (y xs q) p
 ·have e:i=xs.length:=by omega
  subst e
  exact .inl ⟨⟨xs,q,Nat.le_refl _⟩,hd σ H p⟩
theorem Xm{lo:Int}{n:Nat}{g:TG}{tb:TS}{D:Ends}{σ:St}{H:Hp}(Pv:Nat->St->Hp->Prop)(h0:Pv 0 σ H)
  (hs:∀i σ H,i<n->Pv i σ H->g (.int (lo+i)) σ H λσ2 H2=>tb { D with nx:=Pv (i+1),ct:=Pv (i+1),bk:=D.nx } σ2 H2) (hd:∀σ H,Pv n σ H->D.nx σ H) :
  ∃W:Nat->Nat->St->Hp->Prop,(∃m,W 0 m σ H)/\∀i m σ H,W i m σ H ->
   ((Itr lo n).stop i H/\D.nx σ H)\/((Itr lo n).go i H/\∃N:St->Hp->Prop,(∀σ' H',N σ' H'->∃m',m'<m/\W (i+1) m' σ' H')/\∀x H',(Itr lo n).yld i H x H'->g x σ H' λσ2 H2=>tb { D with nx:=N,ct:=N,bk:=D.nx } σ2 H2):=by
 refine⟨λi m σ H=>m=n - i/\i<=n/\Pv i σ H,⟨n,by simp,zero_le _,h0⟩,?_⟩
 rintro i m σ H ⟨rfl,hi,p⟩
 by_cases hlt:i<n
 ·refine .inr ⟨hlt,Pv (i+1),λσ' H' p'=>⟨n - (i+1),by omega,rfl,hlt,p'⟩,λx H' y=>?_⟩
  obtain⟨e,y⟩:=y
  subst e y
  exact hs i σ _ hlt p
 ·have e:i=n:=by omega
  subst e
  exact .inl ⟨Nat.le_refl _,hd σ H p⟩
abbrev R2:=V->V->Hp->VK->Prop
def OpR(X:Cx)(f:Value->Value->Sem Value)(r:R2):Prop :=
 ∀(pins:List (Addr×Obj)) (s:Shared) (σ:St) (H:Hp) (x y:V) (v u:Value) (Q:VK),Inv X pins σ H s->RelV x v->RelV y u->r x y H Q ->
  wpAny (model X.prog X.w) X.A (f v u) (EP X pins σ Q) X.xe s
def UnR(X:Cx)(f:Value->Sem Value)(r:V->Hp->VK->Prop):Prop :=
 ∀(pins:List (Addr×Obj)) (s:Shared) (σ:St) (H:Hp) (x:V) (v:Value) (Q:VK),Inv X pins σ H s->RelV x v->r x H Q ->
  wpAny (model X.prog X.w) X.A (f v) (EP X pins σ Q) X.xe s
def Nn(X:Cx)(f:Value)(r:List V->Hp->VK->Prop):Prop :=
 ∀(pins:List (Addr×Obj)) (s:Shared) (σ:St) (H:Hp) (xs:List V) (us:List Value) (Q:VK),Inv X pins σ H s->Vals xs us->r xs H Q ->
  wpAny (model X.prog X.w) X.A (call f us) (EP X pins σ Q) X.xe s
def tOp(r:R2)(ta tb:TE):TE:=λσ H Q=>ta σ H λx H1=>tb σ H1 λy H2=>r x y H2 Q
def tUn(r:V->Hp->VK->Prop)(ta:TE):TE:=λσ H Q=>ta σ H λx H1=>r x H1 Q
def rI(C:Int->Int->Prop)(g:Int->Int->V):R2:=λx y H Q=>∃i j,x=.int i/\y=.int j/\C i j/\Q (g i j) H
def rI0(g:Int->Int->V):R2:=λx y H Q=>∃i j,x=.int i/\y=.int j/\Q (g i j) H
def rU(g:Int->V):V->Hp->VK->Prop:=λx H Q=>∃i,x=.int i/\Q (g i) H
section
variable {X:Cx}{a b c:Expr}{ta tb tc:TE}{pos:Pos}
theorem Afv(ha:PE X a ta)(hb:PE X b tb){pins:List (Addr×Obj)}{s:Shared}{σ:St}{H:Hp}{R:V->V->Hp->Prop}(I:Inv X pins σ H s)
  (h:ta σ H λx H1=>tb σ H1 λy H2=>R x y H2) {Q:Value->Shared->Prop} {f:Value->Value->Sem Value}
  (hf:∀v u s2 x y H2,Inv X pins σ H2 s2->RelV x v->RelV y u->R x y H2->wpAny (model X.prog X.w) X.A (f v u) Q X.xe s2) :
  wpAny (model X.prog X.w) X.A (eval a X.env) (λv s₁=>wpAny (model X.prog X.w) X.A (eval b X.env) (λu s₂=>wpAny (model X.prog X.w) X.A (f v u) Q X.xe s₂) X.xe s₁) X.xe s:=by
 refine thn (ha pins s σ H _ I h) λv s1 ⟨x,H1,I1,r1,q1⟩=>?_
 refine thn (hb pins s1 σ H1 _ I1 q1) λu s2 ⟨y,H2,I2,r2,q2⟩=>?_
 exact hf v u s2 x y H2 I2 r1 r2 q2
theorem Bv{op:Operator}{r:R2}(ho:OpR X (binaryOp op) r)(ha:PE X a ta)(hb:PE X b tb):PE X (.BinOp a op b pos) (tOp r ta tb):=by
 intro pins s σ H Q I h
 exact wpAny_BinOp (Afv ha hb I h λv u s2 x y H2 I2 rx ry q=>ho pins s2 σ H2 x y v u Q I2 rx ry q)
theorem Rv{op:UnaryOp}{r:V->Hp->VK->Prop}(ho:UnR X (unaryOp op) r)(ha:PE X a ta):PE X (.UnaryOp op a pos) (tUn r ta):=by
 intro pins s σ H Q I h
 exact UnaryOp_ (thn (ha pins s σ H _ I h) λv s1 ⟨x,H1,I1,r1,q1⟩=>ho pins s1 σ H1 x v Q I1 r1 q1)
theorem opI{f:Value->Value->Sem Value}{C:Int->Int->Prop}{g:Int->Int->Int}
  (rule:∀(i j:Int) (t u:Tok) (s:Shared) (Q:Value->Shared->Prop) (E:Value->Shared->Prop),C i j->Q (.int (g i j) s.toks) { s with toks:=s.toks+1 }->wpAny (model X.prog X.w) X.A (f (.int i t) (.int j u)) Q E s) :
  OpR X f (rI C λi j=>.int (g i j)):=by
 intro pins s σ H x y v u Q I rx ry h
 obtain⟨i,j,rfl,rfl,hc,q⟩:=h
 obtain⟨t,rfl⟩:=rx
 obtain⟨t',rfl⟩:=ry
 exact rule i j t t' s _ _ hc ⟨.int (g i j),H,I.tok _,⟨_,rfl⟩,q⟩
theorem AkE{f:Value->Value->Sem Value}{g:Int->Int->Int}
  (rule:∀(i j:Int) (t u:Tok) (s:Shared) (Q:Value->Shared->Prop) (E:Value->Shared->Prop),Q (.int (g i j) s.toks) { s with toks:=s.toks+1 }->wpAny (model X.prog X.w) X.A (f (.int i t) (.int j u)) Q E s) :
  OpR X f (rI0 λi j=>.int (g i j)):=by
 intro pins s σ H x y v u Q I rx ry h
 obtain⟨i,j,rfl,rfl,q⟩:=h
 obtain⟨t,rfl⟩:=rx
 obtain⟨t',rfl⟩:=ry
 exact rule i j t t' s _ _ ⟨.int (g i j),H,I.tok _,⟨_,rfl⟩,q⟩
theorem Acf{f:Value->Value->Sem Value}{g:Int->Int->Bool}
  (rule:∀(i j:Int) (t u:Tok) (s:Shared) (Q:Value->Shared->Prop) (E:Value->Shared->Prop),Q (.bool (g i j)) s->wpAny (model X.prog X.w) X.A (f (.int i t) (.int j u)) Q E s) :
  OpR X f (rI0 λi j=>.bl (g i j)):=by
 intro pins s σ H x y v u Q I rx ry h
 obtain⟨i,j,rfl,rfl,q⟩:=h
 obtain⟨t,rfl⟩:=rx
 obtain⟨t',rfl⟩:=ry
 exact rule i j t t' s _ _ ⟨.bl (g i j),H,I,rfl,q⟩
def AbY(i j:Int):Prop:=0<j/\j<1073741824
def AbN(i j:Int):Prop:=0<=j/\j<=1000000/\i.natAbs<2^64
def CMul(i j:Int):Prop:=(-(2^64)<i/\i<2^64)\/(-(2^64)<j/\j<2^64)
theorem CMul.ok{i j:Int}(h:CMul i j):IntMulOk i j:=by
 rcases h with ⟨h1,h2⟩ | ⟨h1,h2⟩
 ·exact .of_left (intBits_le_64 h1 h2)
 ·exact .of_right (intBits_le_64 h1 h2)
theorem Fm:OpR X (binaryOp .Add) (rI0 λi j=>.int (i+j)):=AkE λ_ _ _ _ _ _ _ q=>add_int q
theorem Nq:OpR X (binaryOp .Sub) (rI0 λi j=>.int (i - j)):=AkE λ_ _ _ _ _ _ _ q=>sub_int q
theorem Vs:OpR X (binaryOp .Mult) (rI CMul λi j=>.int (i*j)):=opI λ_ _ _ _ _ _ _ hc q=>mul_int q hc.ok
theorem Fu:OpR X (binaryOp .FloorDiv) (rI AbY λi j=>.int (i / j)):=opI λi j _ _ _ _ _ hc q=>by
 have h1:(0:Int)<j:=hc.1
 have h2:j<1073741824:=hc.2
 exact floordiv_int (by omega) (by rw[Int.fdiv_eq_ediv_of_nonneg i (by omega)];exact q) (.inl (PyProof.noPylong_small (by omega)))
theorem Dq:OpR X (binaryOp .Mod) (rI (λ_ j=>0<j) λi j=>.int (i%j)):=opI λi j _ _ _ _ _ hc q=>by
 have h1:(0:Int)<j:=hc
 exact mod_int' (by omega) (by rw[Int.fmod_eq_emod_of_nonneg i (by omega)];exact q)
theorem Lk:OpR X (binaryOp .Pow) (rI AbN λi j=>.int (i^j.toNat)):=opI λ_ _ _ _ _ _ _ hc q=>pow_int_small hc.1 hc.2.1 hc.2.2 q
theorem unI{f:Value->Sem Value}{g:Int->Int}
  (rule:∀(i:Int) (t:Tok) (s:Shared) (Q:Value->Shared->Prop) (E:Value->Shared->Prop),Q (.int (g i) s.toks) { s with toks:=s.toks+1 }->wpAny (model X.prog X.w) X.A (f (.int i t)) Q E s) :
  UnR X f (rU λi=>.int (g i)):=by
 intro pins s σ H x v Q I rx h
 obtain⟨i,rfl,q⟩:=h
 obtain⟨t,rfl⟩:=rx
 exact rule i t s _ _ ⟨.int (g i),H,I.tok _,⟨_,rfl⟩,q⟩
theorem Ou:UnR X (unaryOp .USub) (rU λi=>.int (-i)):=unI λ_ _ _ _ _ q=>neg_int q
end
def Afs:V->V->Bool
 | .non,.non=>true | .non,.int _=>true | .int _,.non=>true | .non,.bl _=>true | .bl _,.non=>true | .non,.str _=>true | .str _,.non=>true
 | .int _,.int _=>true | .bl _,.bl _=>true | .str _,.str _=>true | .byt _,.byt _=>true
 | .int _,.str _=>true | .str _,.int _=>true | .bl _,.str _=>true | .str _,.bl _=>true
 | _,_=>false
def rEq:R2:=λx y H Q=>Afs x y=true/\Q (.bl (decide (x=y))) H
def rNe:R2:=λx y H Q=>Afs x y=true/\Q (.bl (!decide (x=y))) H
theorem AbI{i j:Int}:decide (V.int i=V.int j)=(i==j):=by
 rw[Bool.eq_iff_iff]
 simp
theorem AeJ{i j:Bool}:decide (V.bl i=V.bl j)=(i==j):=by
 rw[Bool.eq_iff_iff]
 simp
theorem Abb{i j:Str}:decide (V.str i=V.str j)=(i==j):=by
 rw[Bool.eq_iff_iff]
 simp
theorem Abd{i j:Array UInt8}:decide (V.byt i=V.byt j)=(i.toList==j.toList):=by
 rw[Bool.eq_iff_iff]
 cases i
 cases j
 simp
section
variable {X:Cx}{a b c:Expr}{ta tb tc:TE}{pos:Pos}
theorem Dn{pins:List (Addr×Obj)}{σ:St}{H:Hp}{s:Shared}{Q:VK}{k k':Bool}(I:Inv X pins σ H s)(q:Q (.bl k) H)(e:k=k'):EP X pins σ Q (.bool k') s:=by
 subst e
 exact⟨.bl k,H,I,rfl,q⟩
theorem Do:OpR X (compareOp .Eq) rEq:=by
 intro pins s σ H x y v u Q I rx ry h
 obtain⟨hs,q⟩:=h
 cases x with
 | non =>
  cases rx
  cases y with
  | non=>cases ry;exact PySem.EqNone.eq_none_none (Dn I q (by simp))
  | bl j=>cases ry;exact PySem.EqNone.eq_none_bool (Dn I q (by simp))
  | int j=>obtain⟨t',rfl⟩:=ry;exact PySem.EqNone.eq_none_int (Dn I q (by simp))
  | str j=>obtain⟨t',rfl⟩:=ry;exact PySem.EqNone.eq_none_str (Dn I q (by simp))
  | _=>exact absurd (show false=true from hs) Bool.false_ne_true
 | bl i =>
  cases rx
  cases y with
  | non=>cases ry;exact PySem.EqNone.eq_bool_none (Dn I q (by simp))
  | bl j=>cases ry;exact eq_bool (Dn I q AeJ)
  | str j=>obtain⟨t',rfl⟩:=ry;exact PySem.EqMixed.eq_bool_str (Dn I q (by simp))
  | _=>exact absurd (show false=true from hs) Bool.false_ne_true
 | int i =>
  obtain⟨t,rfl⟩:=rx
  cases y with
  | non=>cases ry;exact PySem.EqNone.eq_int_none (Dn I q (by simp))
  | int j=>obtain⟨t',rfl⟩:=ry;exact eq_int (Dn I q AbI)
  | str j=>obtain⟨t',rfl⟩:=ry;exact PySem.EqMixed.eq_int_str (Dn I q (by simp))
  | _=>exact absurd (show false=true from hs) Bool.false_ne_true
 | str i =>
  obtain⟨t,rfl⟩:=rx
  cases y with
  | non=>cases ry;exact PySem.EqNone.eq_str_none (Dn I q (by simp))
  | bl j=>cases ry;exact PySem.EqMixed.eq_str_bool (Dn I q (by simp))
  | int j=>obtain⟨t',rfl⟩:=ry;exact PySem.EqMixed.eq_str_int (Dn I q (by simp))
  | str j=>obtain⟨t',rfl⟩:=ry;exact eq_str (Dn I q Abb)
  | _=>exact absurd (show false=true from hs) Bool.false_ne_true
 | byt i =>
  obtain⟨t,rfl⟩:=rx
  cases y with
  | byt j=>obtain⟨t',rfl⟩:=ry;exact PySem.W.eq_bytes (Dn I q Abd)
  | _=>exact absurd (show false=true from hs) Bool.false_ne_true
 | _=>cases y <;> exact absurd (show false=true from hs) Bool.false_ne_true
theorem Yj:OpR X (compareOp .NotEq) rNe:=by
 intro pins s σ H x y v u Q I rx ry h
 obtain⟨hs,q⟩:=h
 cases x with
 | non =>
  cases rx
  cases y with
  | non=>cases ry;exact PySem.EqNone.ne_none_none (Dn I q (by simp))
  | bl j=>cases ry;exact PySem.EqNone.ne_none_bool (Dn I q (by simp))
  | int j=>obtain⟨t',rfl⟩:=ry;exact PySem.EqNone.ne_none_int (Dn I q (by simp))
  | str j=>obtain⟨t',rfl⟩:=ry;exact PySem.EqNone.ne_none_str (Dn I q (by simp))
  | _=>exact absurd (show false=true from hs) Bool.false_ne_true
 | bl i =>
  cases rx
  cases y with
  | non=>cases ry;exact PySem.EqNone.ne_bool_none (Dn I q (by simp))
  | bl j=>cases ry;exact ne_bool (Dn I q (congrArg not AeJ))
  | str j=>obtain⟨t',rfl⟩:=ry;exact PySem.EqMixed.ne_bool_str (Dn I q (by simp))
  | _=>exact absurd (show false=true from hs) Bool.false_ne_true
 | int i =>
  obtain⟨t,rfl⟩:=rx
  cases y with
  | non=>cases ry;exact PySem.EqNone.ne_int_none (Dn I q (by simp))
  | int j=>obtain⟨t',rfl⟩:=ry;exact ne_int (Dn I q (congrArg not AbI))
  | str j=>obtain⟨t',rfl⟩:=ry;exact PySem.EqMixed.ne_int_str (Dn I q (by simp))
  | _=>exact absurd (show false=true from hs) Bool.false_ne_true
 | str i =>
  obtain⟨t,rfl⟩:=rx
  cases y with
  | non=>cases ry;exact PySem.EqNone.ne_str_none (Dn I q (by simp))
  | bl j=>cases ry;exact PySem.EqMixed.ne_str_bool (Dn I q (by simp))
  | int j=>obtain⟨t',rfl⟩:=ry;exact PySem.EqMixed.ne_str_int (Dn I q (by simp))
  | str j=>obtain⟨t',rfl⟩:=ry;exact ne_str (Dn I q (congrArg not Abb))
  | _=>exact absurd (show false=true from hs) Bool.false_ne_true
 | byt i =>
  obtain⟨t,rfl⟩:=rx
  cases y with
  | byt j=>obtain⟨t',rfl⟩:=ry;exact PySem.W.ne_bytes (Dn I q (congrArg not Abd))
  | _=>exact absurd (show false=true from hs) Bool.false_ne_true
 | _=>cases y <;> exact absurd (show false=true from hs) Bool.false_ne_true
theorem AcD:OpR X (compareOp .Lt) (rI0 λi j=>.bl (decide (i<j))):=Acf λ_ _ _ _ _ _ _ q=>lt_int q
theorem AnG:OpR X (compareOp .LtE) (rI0 λi j=>.bl (decide (i<=j))):=Acf λ_ _ _ _ _ _ _ q=>le_int q
theorem Tl:OpR X (compareOp .Gt) (rI0 λi j=>.bl (decide (j<i))):=Acf λ_ _ _ _ _ _ _ q=>gt_int q
theorem Aih:OpR X (compareOp .GtE) (rI0 λi j=>.bl (decide (j<=i))):=Acf λ_ _ _ _ _ _ _ q=>ge_int q
theorem Ch(b:Expr){op:CmpOp}(h:op≠.In:=by decide)(h2:op≠.NotIn:=by decide):behindInMarks op b=false:=by
 have e1:(op==CmpOp.In)=false:=by cases op <;> first | rfl | exact absurd rfl h
 have e2:(op==CmpOp.NotIn)=false:=by cases op <;> first | rfl | exact absurd rfl h2
 cases b <;> simp [behindInMarks,e1,e2]
theorem Ja{op:CmpOp}{r:R2}(ho:OpR X (compareOp op) r)(ha:PE X a ta)(hb:PE X b tb)(hm:behindInMarks op b=false):PE X (.Compare a [op] [b] pos) (tOp r ta tb):=by
 intro pins s σ H Q I h
 exact wpAny_Compare1 (Afv ha hb I h λv u s2 x y H2 I2 rx ry q=>ho pins s2 σ H2 x y v u Q I2 rx ry q) hm
def Aci(t:TE):TT:=λσ H Q=>t σ H λx H'=>∃k,x=.bl k/\Q k H'
theorem Cf{op:CmpOp}{r:R2}(ho:OpR X (compareOp op) r)(ha:PE X a ta)(hb:PE X b tb)(hm:behindInMarks op b=false):PT X (.Compare a [op] [b] pos) (Aci (tOp r ta tb)):=by
 intro pins s σ H Q I h
 refine wpAny_isTrue_Compare1 (thn (ha pins s σ H _ I h) λv s1 ⟨x,H1,I1,r1,q1⟩=>thn (hb pins s1 σ H1 _ I1 q1) λu s2 ⟨y,H2,I2,r2,q2⟩ =>
  thn (ho pins s2 σ H2 x y v u _ I2 r1 r2 q2) λc s3 ⟨z,H3,I3,r3,k,e,q3⟩=>?_) hm
 subst e
 cases r3
 exact wpAny_truthy_bool ⟨H3,I3,q3⟩
theorem Vp:(sizeLine:Nat)<2^63:=by rw[sizeLine_eq];decide
theorem Yi{x:V}{us:List Value}(r:Vals [x] us):∃u,us=[u]/\RelV x u:=by
 cases r with
 | cons r1 r2=>cases r2;exact⟨_,rfl,r1⟩
theorem Aca{x y:V}{us:List Value}(r:Vals [x,y] us):∃u w',us=[u,w']/\RelV x u/\RelV y w':=by
 cases r with
 | cons r1 r2 =>
  cases r2 with
  | cons r3 r4=>cases r4;exact⟨_,_,rfl,r1,r3⟩
theorem Xp(hc:X.calm=true):Nn X (.builtin "max") (λxs H Q=>∃i j,xs=[.int i,.int j]/\Q (.int (if j>i then j else i)) H):=by
 intro pins s σ H xs us Q I r h
 obtain⟨i,j,rfl,q⟩:=h
 obtain⟨u,w',rfl,⟨t,rfl⟩,⟨t',rfl⟩⟩:=Aca r
 refine max_two_ints (I.ok.hd hc) λh' tk k=>⟨_,H,I.kept k,?_,q⟩
 by_cases hj:j>i
 ·rw[if_pos hj,if_pos hj];exact⟨_,rfl⟩
 ·rw[if_neg hj,if_neg hj];exact⟨_,rfl⟩
theorem AdP(hc:X.calm=true):Nn X (.builtin "min") (λxs H Q=>∃i j,xs=[.int i,.int j]/\Q (.int (if j<i then j else i)) H):=by
 intro pins s σ H xs us Q I r h
 obtain⟨i,j,rfl,q⟩:=h
 obtain⟨u,w',rfl,⟨t,rfl⟩,⟨t',rfl⟩⟩:=Aca r
 refine min_two_ints (I.ok.hd hc) λh' tk k=>⟨_,H,I.kept k,?_,q⟩
 by_cases hj:j<i
 ·rw[if_pos hj,if_pos hj];exact⟨_,rfl⟩
 ·rw[if_neg hj,if_neg hj];exact⟨_,rfl⟩
end
structure ObjM(h:Heap)(x dx C:Addr)(mA:Str->Option Value):Prop where
 obj:h.get? x=some (instObj C dx)
 ns:h.Ns1 dx mA
 ne:dx≠x
theorem AdJ{h:Heap}{dx:Addr}{mA:Str->Option Value}(n:h.Ns1 dx mA):∃od,h.get? dx=some od/\∀name,lookIn name od=some (mA name):=by
 obtain⟨o,es,ep,ho,hd,hk,_,hm⟩:=n
 refine⟨o,ho,λname=>?_⟩
 have e:=hm name
 unfold nsFind findBy at e
 rw[<- Array.find?_toList] at e
 unfold lookIn
 rw[hd]
 dsimp only
 split
 ·rename_i y q
  rw[q] at e
  exact congrArg some e
 ·rename_i q
  rw[q] at e
  have a:es.toList.any (·.refKey)=false:=by
   rw[List.any_eq_false]
   intro y hy
   obtain⟨z,t,hkey⟩:=hk y (Array.mem_toList_iff.mp hy)
   simp [DictEntry.refKey,hkey]
  have a':¬es.toList.any (·.refKey)=true:=by rw[a];exact Bool.false_ne_true
  rw[if_neg a']
  exact congrArg some e
theorem ObjM.look{h:Heap}{x dx C:Addr}{mA:Str->Option Value}(I:ObjM h x dx C mA):∃od,PySem.W.InstAt h x (instObj C dx) C (some od)/\∀name,lookIn name od=some (mA name) :=
 let ⟨od,ho,hl⟩:=AdJ I.ns
 ⟨od,⟨I.obj,rfl,rfl,ho⟩,hl⟩
section
variable {prog:Program}{w:World}{A:Around}{E:Value->Shared->Prop}{s:Shared}{K:Frag}{x dx C f:Addr}{mA:Str->Option Value}{name:Str}{v:Value}
theorem AjD{expr:Bool}{Q:Value->Shared->Prop}(X:K.In s.heap)(I:ObjM s.heap x dx C mA)(hg:plainGet K C name=true)(hh:hasDictIn K C=true)
  (ha:findIn K (.ref C) name=some none) (hv:mA name=some v) (hv':handedIn v=true) (h:Q v { s with toks:=s.toks+1 }) :
  wpAny (model prog w) A (getAttr (.ref x) name expr) Q E s:=by
 obtain⟨od,J,hl⟩:=I.look
 exact PySem.W.get_value X J (plainGet_of hg).1 (PySem.W.findObj_own hh ha rfl (by rw[hl,hv])) hv' h
theorem AgR{pl:Sem Bool}{Q:Value×List Value->Shared->Prop}(X:K.In s.heap)(I:ObjM s.heap x dx C mA)(hg:plainGet K C name=true)
  (hf:findIn K (.ref C) name=some (some (.ref f))) (ht:isFn K (.ref f)=true) (hv:mA name=none) (h:Q (.ref f,[.ref x]) s) :
  wpAny (model prog w) A (getMethod (.ref x) name pl) Q E s:=by
 obtain⟨od,J,hl⟩:=I.look
 exact PySem.W.method_fn X J (plainGet_of hg).1 (plainGet_of hg).2 hf (beq_iff_eq.mp ht) (by show (lookIn name od).map (·.isSome)=some false;rw[hl,hv];rfl) h
theorem AiK{ns:List Str}{Q:Unit->Shared->Prop}(X:K.In s.heap)(I:ObjM s.heap x dx C mA)
  (hs:findIn K (.ref C) "__setattr__"=some (some (.builtin "object.__setattr__"))) (hp:plainOver K C=true) (ht:takerIn K C name=some none) (hh:hasDictIn K C=true)
  (hw:PySem.Within mA ns) (hsz:ns.length<=sizeLine)
  (h:∀h',ObjM h' x dx C (λy=>if y=name then some v else mA y)->SameBut dx s.heap h'->Q () { s with heap:=h',toks:=s.toks+2 }) :
  wpAny (model prog w) A (setAttr (.ref x) name v) Q E s:=by
 obtain⟨od,J,hl⟩:=I.look
 refine PySem.W.set_plain X J hs (PySem.W.osa_open (s:={ s with toks:=s.toks+1 }) (r:=none) X J hp ht λb=>?_)
 obtain⟨cd,hc,hd'⟩:=PySem.W.any_some hh
 have hx:s.heap.get? x=some ⟨.ref C,some dx,.plain,#[]⟩:=I.obj
 refine wpAny_bind (wpAny_pure (wpAny_bind (wpAny_bind (wpAny_loadPart hx (wpAny_bind (Looks.here (s:={ s with toks:=s.toks+1 }) (PySem.W.looks_clsIn X hc) ?_))))))
 rw[hd']
 refine wpAny_pure (a:=some dx) (wpAny_bind (wpAny_pure (wpAny_bind ?_)))
 refine wpAny_nsSet1 (s:={ s with toks:=s.toks+1 }) I.ns λh' hn2 hs2=>?_
 obtain⟨oD,esD,epD,hoD,hdD,hcD⟩:=hn2.count (PySem.Within.cons name v hw)
 refine wpAny_bind (wpAny_lookBehind hoD (by rw[hdD];exact pastItsLine_dict (Nat.le_trans hcD (by rw[length_cons];omega))) ?_)
 exact wpAny_pure (h _ ⟨(hs2.2 _ (Ne.symm I.ne)).trans I.obj,hn2,I.ne⟩ hs2)
theorem AgM{R:Result->Shared->Prop}{vs:List Value}{kw:List (Str×Value)}(X:K.In s.heap)(hm:makesIn K C=true)
  (hi:findIn K (.ref C) "__init__"=some (some (.ref f))) (hf:typeIn K (.ref f)=some (.type "function"))
  (h:codeAny (model prog w) (A.under (.builtin "type.__call__" ⟨.ref C::vs,kw⟩)) (.call (.ref f) ⟨.ref (s.heap.objs.size+1)::vs,kw⟩) (PySem.W.InitBack (s.heap.objs.size+1) R)
   { s with heap:=(s.heap.push emptyDict).push (instObj C s.heap.objs.size) }) :
  codeAny (model prog w) A (.call (.ref C) ⟨vs,kw⟩) R s:=by
 obtain⟨hh,g,d,t,os⟩:=s
 exact PySem.W.make_core (PySem.W.makes_of X hm) (PySem.W.looks_findIn X hi) (λself=>PySem.W.bind_fn X self hf) (.inl rfl) h
end
def Cc(f:Str)(v:V):List (Str×V)->List (Str×V)
 | []=>[(f,v)]
 | (g,x)::r=>if g=f then (g,v)::r else (g,x)::Cc f v r
theorem Cz(f g:Str)(v:V):∀fs:List (Str×V),(Cc f v fs).lookup g=if g=f then some v else fs.lookup g
 | []=>by
  show List.lookup g [(f,v)]=_
  by_cases h:g=f
  ·have hb:(g==f)=true:=beq_iff_eq.mpr h
   simp only [List.lookup,hb,if_pos h]
  ·have hb:(g==f)=false:=beq_eq_false_iff_ne.mpr h
   simp only [List.lookup,hb,if_neg h]
 | (k,x)::r=>by
  have ih:=Cz f g v r
  rw[show Cc f v ((k,x)::r)=(if k=f then (k,v)::r else (k,x)::Cc f v r) from rfl]
  by_cases hk:k=f
  ·rw[if_pos hk]
   by_cases h:g=k
   ·have hb:(g==k)=true:=beq_iff_eq.mpr h
    simp only [List.lookup,hb,if_pos (h.trans hk)]
   ·have hb:(g==k)=false:=beq_eq_false_iff_ne.mpr h
    simp only [List.lookup,hb,if_neg (λe:g=f=>h (e.trans hk.symm))]
  ·rw[if_neg hk]
   by_cases h:g=k
   ·have hb:(g==k)=true:=beq_iff_eq.mpr h
    simp only [List.lookup,hb,if_neg (λe:g=f=>hk (h.symm.trans e))]
   ·have hb:(g==k)=false:=beq_eq_false_iff_ne.mpr h
    simp only [List.lookup,hb]
    exact ih
theorem Sx(f:Str)(v:V):∀fs:List (Str×V),f∈(Cc f v fs).map (·.1)/\∀g,g∈fs.map (·.1)->g∈(Cc f v fs).map (·.1)
 | []=>⟨by simp [Cc],λg h=>by simp at h⟩
 | (k,x)::r=>by
  obtain⟨i1,i2⟩:=Sx f v r
  rw[show Cc f v ((k,x)::r)=(if k=f then (k,v)::r else (k,x)::Cc f v r) from rfl]
  by_cases hk:k=f
  ·rw[if_pos hk]
   subst hk
   exact⟨by simp,λg h=>by simpa using h⟩
  ·rw[if_neg hk]
   refine⟨?_,λg h=>?_⟩
   ·rw[map_cons]
    exact mem_cons_of_mem _ i1
   ·rw[map_cons] at h ⊢
    rcases mem_cons.mp h with e | e
    ·exact mem_cons.mpr (.inl e)
    ·exact mem_cons_of_mem _ (i2 g e)
theorem Fc(f:Str)(v:V):∀fs:List (Str×V),(Cc f v fs).length<=fs.length+1
 | []=>by simp [Cc]
 | (k,x)::r=>by
  have ih:=Fc f v r
  rw[show Cc f v ((k,x)::r)=(if k=f then (k,v)::r else (k,x)::Cc f v r) from rfl]
  by_cases hk:k=f
  ·rw[if_pos hk,length_cons,length_cons];omega
  ·rw[if_neg hk,length_cons,length_cons];omega
theorem RelO.some_of{v:V}{o:Option Value}(r:RelO (some v) o):∃u,o=some u/\RelV v u:=by
 cases o with
 | none=>exact (show False from r).elim
 | some u=>exact⟨u,rfl,r⟩
theorem RelO.none_of{o:Option Value}(r:RelO none o):o=none:=by
 cases o with
 | none=>rfl
 | some u=>exact (show False from r).elim
theorem Aef{v:V}{u:Value}(r:RelV v u):handedIn u=true:=by
 cases v with
 | non=>cases (show u=Value.none from r);rfl
 | bl b=>cases (show u=Value.bool b from r);rfl
 | int i=>obtain⟨t,e⟩:=(show ∃t,u=Value.int i t from r);cases e;rfl
 | str x=>obtain⟨t,e⟩:=(show ∃t,u=Value.str x t from r);cases e;rfl
 | byt b=>obtain⟨t,e⟩:=(show ∃t,u=Value.bytes b t from r);cases e;rfl
 | flt b=>obtain⟨t,e⟩:=(show ∃t,u=Value.float b t from r);cases e;rfl
 | ref a=>cases (show u=Value.ref a from r);rfl
 | ty n=>cases (show u=Value.type n from r);rfl
section
variable {P:Program}{w:World}{H H':Hp}{h h':Heap}{a C dx:Addr}{fs fs':List (Str×V)}
theorem Tn(hok:HOk P w H h)(e:H a=some (.ins C dx fs)):∃mA,ObjM h a dx C mA/\(∀f,RelO (fs.lookup f) (mA f))/\PySem.Within mA (fs.map (·.1))/\fs.length<=1000/\H dx=some (.own a):=by
 obtain⟨d,z,ne,ob,mA,n,r,q⟩:=(show ObjOk P w H h a (.ins C dx fs) from hok a _ e)
 exact⟨mA,⟨ob,n,ne⟩,r,q,z,d⟩
end
structure Cls(K:Frag)(C:Addr):Prop where
 pg:plainGet K C Str.empty=true
 hd:hasDictIn K C=true
 po:plainOver K C=true
 sa:findIn K (.ref C) "__setattr__"=some (some (.builtin "object.__setattr__"))
theorem Cls.get{K:Frag}{C:Addr}(c:Cls K C)(f:Str):plainGet K C f=true:=c.pg
def NoAttr(K:Frag)(C:Addr)(f:Str):Prop:=findIn K (.ref C) f=some none
theorem NoAttr.taker{K:Frag}{C:Addr}{f:Str}(n:NoAttr K C f):takerIn K C f=some none:=by
 unfold takerIn
 rw[show findIn K (.ref C) f=some none from n]
 rfl
structure AbR(K:Frag)(C:Addr)(m:Str)(f:Addr):Prop where
 at_:findIn K (.ref C) m=some (some (.ref f))
 fn:isFn K (.ref f)=true
 kp:keepIn K (.ref f)=true
section
variable {X:Cx}{pins:List (Addr×Obj)}{σ:St}{H:Hp}{s:Shared}{a C dx:Addr}{fs:List (Str×V)}{f:Str}{v:V}{A:Around}{E:Value->Shared->Prop}
theorem Acu{b:Bool}{Q:Value->Shared->Prop}(I:Inv X pins σ H s)(e:H a=some (.ins C dx fs))(c:Cls X.K C)(n:NoAttr X.K C f)(l:fs.lookup f=some v)
  (h:∀u s',Inv X pins σ H s'->RelV v u->Q u s'):wpAny (model X.prog X.w) A (getAttr (.ref a) f b) Q E s:=by
 obtain⟨mA,O,r,_,_,_⟩:=Tn I.hok e
 obtain⟨u,hu,ru⟩:=RelO.some_of (v:=v) (o:=mA f) (by rw[<- l];exact r f)
 exact AjD I.kIn O (c.get f) c.hd n hu (Aef ru) (h u _ (I.tok _) ru)
theorem Acx{m:Str}{g:Addr}{pl:Sem Bool}{Q:Value×List Value->Shared->Prop}(I:Inv X pins σ H s)(e:H a=some (.ins C dx fs))(c:Cls X.K C)(k:AbR X.K C m g)(l:fs.lookup m=none)
  (h:Q (.ref g,[.ref a]) s):wpAny (model X.prog X.w) A (getMethod (.ref a) m pl) Q E s:=by
 obtain⟨mA,O,r,_,_,_⟩:=Tn I.hok e
 have hn:mA m=none:=RelO.none_of (by rw[<- l];exact r m)
 exact AgR I.kIn O (c.get m) k.at_ k.fn hn h
theorem Acq{y:V}{u:Value}{Q:Unit->Shared->Prop}(I:Inv X pins σ H s)(e:H a=some (.ins C dx fs))(c:Cls X.K C)(n:NoAttr X.K C f)(hl:fs.length<1000)(ry:RelV y u)
  (h:∀s',Inv X pins σ (upd H a (.ins C dx (Cc f y fs))) s'->Q () s'):wpAny (model X.prog X.w) A (setAttr (.ref a) f u) Q E s:=by
 obtain⟨mA,O,r,wi,_,ho⟩:=Tn I.hok e
 have hz:(fs.map (·.1)).length<=sizeLine:=by rw[length_map,sizeLine_eq];omega
 refine AiK I.kIn O c.sa c.po n.taker c.hd wi hz λh' O' sb=>h _ ?_
 have hd:∃o,h'.get? dx=some o:=let ⟨o,_,_,e',_⟩:=O'.ns;⟨o,e'⟩
 refine I.write (x:=a) (e:=dx) (by rw[e];exact True.intro) (.inr ho) (λb q hb z=>(sb.2 b hb).trans z) hd ?_
 refine⟨by rw[Bj O.ne];exact ho,?_,O.ne,O'.obj,_,O'.ns,λg=>?_,λg hg=>?_⟩
 ·have:=Fc f y fs;omega
 ·show RelO ((Cc f y fs).lookup g) (if g=f then some u else mA g)
  rw[Cz]
  by_cases q:g=f
  ·rw[if_pos q,if_pos q];exact ry
  ·rw[if_neg q,if_neg q];exact r g
 ·by_cases q:g=f
  ·rw[q];exact (Sx f y fs).1
  ·refine (Sx f y fs).2 g (wi g λz=>hg ?_)
   show (if g=f then some u else mA g)=none
   rw[if_neg q];exact z
theorem Inv.made(I:Inv X pins σ H s):Inv X pins σ (upd (upd H s.heap.objs.size (.own (s.heap.objs.size+1))) (s.heap.objs.size+1) (.ins C s.heap.objs.size []))
  { s with heap:=(s.heap.push emptyDict).push (instObj C s.heap.objs.size) }:=by
 have e1:(s.heap.push emptyDict).get? s.heap.objs.size=some emptyDict:=get?_push_size s.heap rfl
 have e2:((s.heap.push emptyDict).push (instObj C s.heap.objs.size)).get? (s.heap.objs.size+1)=some (instObj C s.heap.objs.size):=by
  have:=get?_push_size (s.heap.push emptyDict) (o:=instObj C s.heap.objs.size) rfl
  rwa [Heap.size_push] at this
 have e3:(s.heap.push emptyDict).Ns s.heap.objs.size (λ_=>none):=⟨emptyDict,#[],_,e1,rfl,(λe he=>absurd he (by simp)),λ_=>rfl⟩
 have I1:=I.laid (a:=s.heap.objs.size) (o:=.own (s.heap.objs.size+1)) (h':=s.heap.push emptyDict) (t':=s.toks) (λb u q=>get?_push_of_some _ q) (Nat.le_refl _) ⟨_,e1⟩
 refine I1.laid (a:=s.heap.objs.size+1) (o:=.ins C s.heap.objs.size []) (t':=s.toks) (λb u q=>get?_push_of_some _ q) (Nat.le_of_eq (Heap.size_push _ _)) ?_
 have ne:s.heap.objs.size≠s.heap.objs.size+1:=ne_of_lt (lt_succ_self _)
 refine⟨by rw[Bj ne,Bn],zero_le _,ne,e2,λ_=>none,(Ns1.of_empty e3).at λo q=>get?_push_of_some _ q,λ_=>True.intro,λy hy=>absurd rfl hy⟩
theorem Ajo{prog:Program}{w:World}{env:Env}{e:Expr}{f:Str}{pos:Pos}{s:Shared}{Q:Value->Shared->Prop}(hb:attributeBase e f env (eval e env)=eval e env)
  (h:wpAny (model prog w) A (eval e env) (λo s₁=>wpAny (model prog w) A (getAttr o f true) Q E s₁) E s):wpAny (model prog w) A (eval (.Attribute e f pos) env) Q E s :=
 Attribute_any_ h (by rw[arm_eval_Attribute,hb])
end
def Akt(K:Frag)(ta:TE)(f:Str):TE:=λσ H Q=>ta σ H λx H1=>∃a C dx fs v,x=.ref a/\H1 a=some (.ins C dx fs)/\Cls K C/\NoAttr K C f/\fs.lookup f=some v/\Q v H1
def Aj9(K:Frag)(ta tv:TE)(f:Str):TS:=λD σ H=>tv σ H λy H1=>ta σ H1 λx H2=>∃a C dx fs,x=.ref a/\H2 a=some (.ins C dx fs)/\Cls K C/\NoAttr K C f/\fs.length<1000 /\
 D.nx σ (upd H2 a (.ins C dx (Cc f y fs)))
section
variable {X:Cx}{o e value:Expr}{f:Str}{pos pos' tpos:Pos}{ta tv:TE}
theorem Vr(he:PE X e ta)(hb:attributeBase e f X.env (eval e X.env)=eval e X.env):PE X (.Attribute e f pos) (Akt X.K ta f):=by
 intro pins s σ H Q I h
 refine Ajo hb (thn (he pins s σ H _ I h) λu s1 ⟨x,H1,I1,rx,a,C,dx,fs,v,ex,ea,c,n,l,q⟩=>?_)
 subst ex
 obtain rfl:u=Value.ref a:=rx
 exact Acu I1 ea c n l λu' s2 I2 ru=>⟨v,H1,I2,ru,q⟩
theorem Su(ha:PE X o ta)(hv:PE X value tv)(hs:swapsWith value (some (.Attribute o f pos')) pos.line X.env=pure false):PS X (.Assign [.Attribute o f pos'] value pos) (Aj9 X.K ta tv f):=by
 intro pins s σ H D I h
 refine plainObj_wpAny_Assign_Attribute (thn (hv pins s σ H _ I h) λu s1 ⟨y,H1,I1,ry,q⟩=>thn (ha pins s1 σ H1 _ I1 q) λov s2 ⟨x,H2,I2,rx,a,C,dx,fs,ex,ea,c,n,l,q2⟩=>?_) hs
 subst ex
 obtain rfl:ov=Value.ref a:=rx
 exact Acq I2 ea c n l ry λs3 I3=>⟨σ,_,I3,q2⟩
end
section
variable {X:Cx}{pins:List (Addr×Obj)}{σ:St}{H:Hp}{s:Shared}{A:Around}{E:Value->Shared->Prop}{Q:Value->Shared->Prop}{c:Value}{b:Bool}
inductive Gm(K:Frag)(H:Hp):V->Value->Prop where
 | non:Gm K H .non (.type "NoneType")
 | bl (x:Bool):Gm K H (.bl x) (.type "bool")
 | int (i:Int):Gm K H (.int i) (.type "int")
 | str (x:Str):Gm K H (.str x) (.type "str")
 | flt (x:UInt64):Gm K H (.flt x) (.type "float")
 | lst {a:Addr} {xs:List V} (e:H a=some (.lst xs)):Gm K H (.ref a) (.type "list")
 | frz {a:Addr} {o:Obj} {xs:List V} (e:H a=some (.frz o (.lst xs))):Gm K H (.ref a) (.type "list")
 | tup {a:Addr} {xs:List V} (e:H a=some (.tup xs)):Gm K H (.ref a) (.type "tuple")
 | dK {a:Addr} {kvs:List (Key×V)} (e:H a=some (.dK kvs)):Gm K H (.ref a) (.type "dict")
 | dT {a:Addr} {kvs:List (List Key×V)} (e:H a=some (.dT kvs)):Gm K H (.ref a) (.type "dict")
 | ins {a C dx:Addr} {fs:List (Str×V)} (e:H a=some (.ins C dx fs)) (cl:Cls K C) (ha:findIn K (.ref C) "__class__"=some (some (.builtin "object.__class__")))
   (hn:PySem.W.specialIn K (.builtin "object.__class__") "__get__"=some (some (.builtin "getset_descriptor.__get__"))) (htk:PySem.W.takesIn K (.builtin "object.__class__")=some true)
   (hm:mroIn K C (.type "object")=some true):Gm K H (.ref a) (.ref C)
theorem Ael{x:V}{u t:Value}(I:Inv X pins σ H s)(rx:RelV x u)(ty:Gm X.K H x t)(e:kitOne X.K t c=some b)(h:∀tk,Q (.bool b) { s with toks:=tk }) :
  wpAny (model X.prog X.w) A (call (.builtin "isinstance") [u,c]) Q E s:=by
 cases ty with
 | non=>cases (show u=Value.none from rx);exact kia_one PySem.W.kitx_none I.kIn True.intro e (λz=>nomatch z) h
 | bl y=>cases (show u=Value.bool y from rx);exact kia_one PySem.W.kitx_bool I.kIn True.intro e (λz=>nomatch z) h
 | int i=>obtain⟨t,q⟩:=(show ∃t,u=Value.int i t from rx);cases q;exact kia_one PySem.W.kitx_int I.kIn True.intro e (λz=>nomatch z) h
 | str y=>obtain⟨t,q⟩:=(show ∃t,u=Value.str y t from rx);cases q;exact kia_one PySem.W.kitx_str I.kIn True.intro e (λz=>nomatch z) h
 | flt y=>obtain⟨t,q⟩:=(show ∃t,u=Value.float y t from rx);cases q;exact kia_one PySem.W.kitx_float I.kIn True.intro e (λz=>nomatch z) h
 | @lst a xs ea =>
  cases (show u=Value.ref a from rx)
  obtain⟨_,_,n,_,h1⟩:=(show ObjOk X.prog X.w H s.heap a (.lst xs) from I.hok a _ ea)
  exact kia_one kitx_list I.kIn ⟨_,h1,rfl⟩ e (λz=>nomatch z) h
 | @frz a ob xs ea =>
  cases (show u=Value.ref a from rx)
  obtain⟨_,_,_,n,_,h1⟩:=(show ObjOk X.prog X.w H s.heap a (.frz ob (.lst xs)) from I.hok a _ ea)
  exact kia_one kitx_list I.kIn ⟨_,h1,rfl⟩ e (λz=>nomatch z) h
 | @tup a xs ea =>
  cases (show u=Value.ref a from rx)
  obtain⟨_,_,_,p⟩:=(show ObjOk X.prog X.w H s.heap a (.tup xs) from I.hok a _ ea)
  obtain⟨o,h1,h2,_⟩:=p
  exact kia_one PySem.W.kitx_tuple I.kIn ⟨o,h1,h2⟩ e (λz=>nomatch z) h
 | @dK a kvs ea =>
  cases (show u=Value.ref a from rx)
  obtain⟨_,_,vs,_,p⟩:=(show ObjOk X.prog X.w H s.heap a (.dK kvs) from I.hok a _ ea)
  obtain⟨o,es,ep,h1,h2,_⟩:=p
  exact kia_one kitx_dict I.kIn ⟨o,h1,h2.1⟩ e (λz=>nomatch z) h
 | @dT a kvs ea =>
  cases (show u=Value.ref a from rx)
  obtain⟨_,_,xs,_,o,es,ep,h1,h2,_⟩:=(show ObjOk X.prog X.w H s.heap a (.dT kvs) from I.hok a _ ea)
  exact kia_one kitx_dict I.kIn ⟨o,h1,h2.1⟩ e (λz=>nomatch z) h
 | @ins a C dx fs ea cl ha hn htk hm =>
  cases (show u=Value.ref a from rx)
  obtain⟨mA,O,_⟩:=Tn I.hok ea
  obtain⟨od,J,_⟩:=O.look
  exact kia_one (PySem.W.kitx_own (cl.get _) cl.hd ha hn htk hm) I.kIn J e (λz=>nomatch z) h
end
structure Room(k:Nat)(A:Around):Prop where
 hd:A.handled=none
 dp:A.depth+3*k+5<recursionLimit
 un:A.units+16*k+200<cLine
theorem Room.mono{j k:Nat}{A:Around}(r:Room k A)(h:j<=k):Room j A:=⟨r.hd,by have:=r.dp;omega,by have:=r.un;omega⟩
theorem Room.deeper{k:Nat}{A:Around}(r:Room (k+1) A)(env:Env):Room k (A.deeper env) :=
 ⟨r.hd,by have:=r.dp;show A.depth+1+3*k+5<_;omega,by have:=r.un;show A.units+3+16*k+200<_;omega⟩
theorem AcA{A:Around}{C:Addr}{us:List Value}{kw:List (Str×Value)}:(A.under (.builtin "type.__call__" ⟨.ref C::us,kw⟩)).depth=A.depth+1:=by
 first | rfl | simp [Around.under,Code.weight,Code.isCreation,Code.isGuard,Code.isCaller,Code.frames,Code.isFrame,guardIds]
theorem Ab0{A:Around}{C:Addr}{us:List Value}{kw:List (Str×Value)}:(A.under (.builtin "type.__call__" ⟨.ref C::us,kw⟩)).units=A.units+1:=by
 first | rfl | simp [Around.under,Code.cUnits,Code.frames,Code.isFrame]
theorem Room.make{k:Nat}{A:Around}(r:Room (k+1) A)(C:Addr)(us:List Value)(kw:List (Str×Value)):Room k (A.under (.builtin "type.__call__" ⟨.ref C::us,kw⟩)) :=
 ⟨r.hd,by have:=r.dp;rw[AcA];omega,by have:=r.un;rw[Ab0];omega⟩
theorem Room.depth{k:Nat}{A:Around}(r:Room k A):A.depth<recursionLimit:=by have:=r.dp;omega
theorem Room.units{k:Nat}{A:Around}(r:Room k A):A.units+64<cLine:=by have:=r.un;omega
def Nb:TA:=λ_ H Q=>Q [] H
def Ga(ta:TE)(tr:TA):TA:=λσ H Q=>ta σ H λx H1=>tr σ H1 λxs H2=>Q (x::xs) H2
section
variable {X:Cx}{e:Expr}{es:List Expr}{te:TE}{t:TA}{pos:Pos}
theorem Be:PA X [] Nb:=λ_ _ _ _ H Q I h=>Calls.spliced_nil ⟨[],H,I,.nil,h⟩
theorem Ba(ha:PE X e te)(hr:PA X es t)(hs:starEach (e::es) X.env=(false,eval e X.env)::starEach es X.env:=by rfl):PA X (e::es) (Ga te t):=by
 intro pos pins s σ H Q I h
 rw[hs]
 show wpAny _ _ (spliced ((false,eval e X.env)::backTo pos (starEach es X.env))) _ _ s
 refine Calls.spliced_cons (thn (ha pins s σ H _ I h) λu s1 ⟨x,H1,I1,r1,q1⟩=>?_)
 exact thn (hr pos pins s1 σ H1 _ I1 q1) λus s2 ⟨xs,H2,I2,r2,q2⟩=>⟨x::xs,H2,I2,.cons r1 r2,q2⟩
def AkP(t:TA):TE:=λσ H Q=>t σ H λxs H1=>xs.length<=sizeLine/\∀p,H1 p=none->Q (.ref p) (upd H1 p (.tup xs))
theorem AjO{x1}(h:PA X es t):PE X (.Tuple es x1 pos) (AkP t):=by
 intro pins s σ H Q I hq
 refine wpAny_Tuple_spliced (thn (h pos pins s σ H _ I hq) λus s1 ⟨xs,H1,I1,r,z,q⟩=>⟨by rw[<- r.length];exact z,?_⟩)
 have hf:H1 s1.heap.objs.size=none:=I1.hok.fresh (Nat.le_refl _)
 refine⟨.ref s1.heap.objs.size,upd H1 s1.heap.objs.size (.tup xs),I1.laid (t':=s1.toks) (λb u e=>get?_push_of_some _ e) (Nat.le_refl _) ?_,rfl,q _ hf⟩
 exact⟨z,us,r,⟨_,get?_push_size _ rfl,rfl,_,rfl⟩⟩
end
abbrev Sp:=List V->Hp->VK->XK->Prop
abbrev CXT:=List Env->Hp->Shared->XK->Value->Shared->Prop
structure Env0(P:Program)(w:World)(K:Frag)(mg:Str->Option Value)(base:Heap)(A:Around)(outer:List Env)(s:Shared)(H:Hp):Prop where
 frames:A.frames=some outer
 mod:Mod K mg base
 bs:∀b o,base.get? b=some o->s.heap.get? b=some o/\H b=none
 bsz:base.objs.size<=s.heap.objs.size
 funs:s.heap.FunFrames base outer
 frf:∀b∈frs outer,H b=none
 hok:HOk P w H s.heap
 bare:AllBare s.gens
def CE(outer:List Env)(P:Program)(w:World)(H:Hp)(s:Shared)(Q:VK)(u:Value)(s':Shared):Prop :=
 ∃v H',s'.os=s.os/\AllBare s'.gens/\Un (frs outer) [] H H' s.heap s'.heap/\HOk P w H' s'.heap/\RelV v u/\Q v H'
def CR(CX:CXT)(outer:List Env)(P:Program)(w:World)(H:Hp)(s:Shared)(Q:VK)(E:XK)(r:Result)(s':Shared):Prop :=
 match r with
 | .ok (.ret u)=>CE outer P w H s Q u s'
 | .ok _=>False
 | .error e=>CX outer H s E e s'
structure FnOk(P:Program)(w:World)(K:Frag)(mg:Str->Option Value)(base:Heap)(CX:CXT)(k:Nat)(f:Addr)(fd:FuncData)(ps:List Str)(sp:Sp):Prop where
 len:∀vs H Q E,sp vs H Q E->vs.length=ps.length
 run:∀(A:Around) (outer:List Env) (s:Shared) (H:Hp) (args:Args) (us:List Value) (vs:List V) (Q:VK) (E:XK),Room k A->Env0 P w K mg base A outer s H->BindsTo s fd args (ps.zip us)->Vals vs us->sp vs H Q E ->
  codeAny (model P w) A (.call (.ref f) args) (CR CX outer P w H s Q E) s
theorem FnOk.imp{P:Program}{w:World}{K:Frag}{mg:Str->Option Value}{base:Heap}{CX:CXT}{k:Nat}{f:Addr}{fd:FuncData}{ps:List Str}{sp sp':Sp}(F:FnOk P w K mg base CX k f fd ps sp)
  (h:∀vs H Q E,sp' vs H Q E->sp vs H Q E):FnOk P w K mg base CX k f fd ps sp' :=
 ⟨λvs H Q E q=>F.len vs H Q E (h _ _ _ _ q),λA outer s H args us vs Q E hr he hb hv hs=>F.run A outer s H args us vs Q E hr he hb hv (h _ _ _ _ hs)⟩
theorem Env0.make{P:Program}{w:World}{K:Frag}{mg:Str->Option Value}{base:Heap}{A:Around}{outer:List Env}{s:Shared}{H:Hp}(e:Env0 P w K mg base A outer s H)(C:Addr)(us:List Value)(kw:List (Str×Value)) :
  Env0 P w K mg base (A.under (.builtin "type.__call__" ⟨.ref C::us,kw⟩)) outer s H:=⟨by first | exact e.frames | (simpa [Around.under,Code.envs,Code.isFrame,pushEnvs] using e.frames),e.mod,e.bs,e.bsz,e.funs,e.frf,e.hok,e.bare⟩
section
variable {X:Cx}{pins:List (Addr×Obj)}{σ:St}{H:Hp}{s s':Shared}
theorem Inv.env0(I:Inv X pins σ H s):Env0 X.prog X.w X.K X.mg X.base X.A X.stack s H :=
 ⟨I.ok.frames,I.ok.mod,I.bs,Nat.le_trans I.ok.bsz I.sz,I.stack,I.stkFree,I.hok,I.bare⟩
theorem Inv.after{Q:VK}{u:Value}(I:Inv X pins σ H s)(h:CE X.stack X.prog X.w H s Q u s'):EP X pins σ Q u s':=by
 obtain⟨v,H',os,bare,un,hok,r,q⟩:=h
 obtain⟨hh,g,d,t,os'⟩:=s'
 obtain rfl:os'=s.os:=os
 exact⟨v,H',I.call (h':=hh) (g':=g) (d':=d) (t':=t) (ch:=[]) un hok bare (λb z=>absurd z (by simp)),r,q⟩
end
def Rz(sp:Sp)(dvs:List V)(E:XK)(t:TA):TE:=λσ H Q=>t σ H λvs H1=>sp (vs++dvs) H1 Q E
def Vh(C:Addr)(m:Str)(sp:Sp)(dvs:List V)(E:XK)(ta:TE)(t:TA):TE:=λσ H Q=>ta σ H λx H1=>∃a dx fs,x=.ref a/\H1 a=some (.ins C dx fs)/\fs.lookup m=none /\
 t σ H1 λvs H2=>sp (x::(vs++dvs)) H2 Q E
def Aiv(C:Addr)(sp:Sp)(dvs:List V)(E:XK)(t:TA):TE:=λσ H Q=>t σ H λvs H1=>∀x dx,H1 x=none->H1 dx=none->dx≠x ->
 sp (.ref x::(vs++dvs)) (upd (upd H1 dx (.own x)) x (.ins C dx [])) (λv H2=>v=.non/\Q (.ref x) H2) E
def Binds(K:Frag)(fd:FuncData)(ps:List Str)(ds:List Value):Prop :=
 ∀(s:Shared) (us:List Value),K.In s.heap->(us++ds).length=ps.length->BindsTo s fd ⟨us,[]⟩ (ps.zip (us++ds))
theorem Binds.all{K:Frag}{fd:FuncData}{ps:List Str}(h:∀us:List Value,us.length=ps.length->bindArgs fd ⟨us,[]⟩=pure (ps.zip us)):Binds K fd ps []:=λs us _ hl=>by
 rw[append_nil] at hl ⊢
 exact .of_eq (h us hl)
def Qw(CX:CXT)(X:Cx)(E:XK):Prop:=∀(pins:List (Addr×Obj)) (σ:St) (H:Hp) (s:Shared) (e:Value) (s':Shared),Inv X pins σ H s->CX X.stack H s E e s'->X.xe e s'
section
variable {X:Cx}{CX:CXT}{k:Nat}{f C:Addr}{fd:FuncData}{ps:List Str}{sp:Sp}{dvs:List V}{ds:List Value}{E:XK}{x m:Str}{p pos apos:Pos}{e o:Expr}{es:List Expr}{ta:TE}{t:TA}
theorem Afa{pins:List (Addr×Obj)}{σ:St}{H:Hp}{s:Shared}{Q:VK}{us:List Value}{vs:List V}(F:FnOk X.prog X.w X.K X.mg X.base CX k f fd ps sp)(hr:Room k X.A)(hb:Binds X.K fd ps ds)(hd:Vals dvs ds)(hx:Qw CX X E)
  (I:Inv X pins σ H s) (r:Vals vs us) (h:sp (vs++dvs) H Q E):wpAny (model X.prog X.w) X.A (call (.ref f) us) (EP X pins σ Q) X.xe s:=by
 have r2:Vals (vs++dvs) (us++ds):=r.append hd
 have hl:(us++ds).length=ps.length:=by rw[<- r2.length];exact F.len _ _ _ _ h
 refine wpAny_call (codeAny_mono (F.run X.A X.stack s H ⟨us,[]⟩ (us++ds) (vs++dvs) Q E hr I.env0 (hb s us I.kIn hl) r2 h) λr s' hq=>?_)
 cases r with
 | error e=>exact hx pins σ H s e s' I hq
 | ok fl =>
  cases fl with
  | ret u=>exact I.after hq
  | next=>exact False.elim hq
  | brk=>exact False.elim hq
  | cont=>exact False.elim hq
theorem Bp(F:FnOk X.prog X.w X.K X.mg X.base CX k f fd ps sp)(hr:Room k X.A)(hg:Gl X x)(hm:X.mg x=some (.ref f))(hk:keepIn X.K (.ref f)=true)(hb:Binds X.K fd ps ds)(hd:Vals dvs ds)(hx:Qw CX X E)
  (ha:PA X (e::es) t) (hdb:(x==("__debug__" : Str))=false:=by decide) (he:starEach (e::es) X.env=(false,eval e X.env)::starEach es X.env:=by rfl) (hpl:(backTo pos (starEach es X.env)).any (·.1)=false:=by rfl) :
  PE X (.Call (.Name x p) (e::es) [] pos) (Rz sp dvs E t):=by
 intro pins s σ H Q I h
 refine wpAny_Call_Name_kw (Wj I hg hm ?_ hdb)
 refine callWith_K (h₀:=X.base) I.ok.mod.kin hk (thn (ha pos pins s σ H _ I h) λus s1 ⟨vs,H1,I1,r,q⟩=>⟨I1.kIn,?_⟩) he hpl
 exact Afa F hr hb hd hx I1 r q
theorem Xb{pl:Sem Bool}(he:PE X o ta)(c:Cls X.K C)(hm:AbR X.K C m f)(F:FnOk X.prog X.w X.K X.mg X.base CX k f fd ps sp)(hr:Room k X.A)(hb:Binds X.K fd ps ds)(hd:Vals dvs ds)(hx:Qw CX X E)(ha:PA X (e::es) t)
  (hst:starEach (e::es) X.env=(false,eval e X.env)::starEach es X.env:=by rfl) (hpl:(backTo pos (starEach es X.env)).any (·.1)=false:=by rfl)
  (ht:eval (.Call (.Attribute o m apos) (e::es) [] pos) X.env=(do
   let ov <- eval o X.env
   standAt apos.atName
   let (f,first) <- holding [ov] (getMethod ov m pl)
   callWith pos f first (backTo pos (starEach (e::es) X.env)) (backToKw pos (keywordEach [] X.env))):=by rfl) :
  PE X (.Call (.Attribute o m apos) (e::es) [] pos) (Vh C m sp dvs E ta t):=by
 intro pins s σ H Q I h
 refine PySem.W.methodCall_KW (pl:=pl) (thn (he pins s σ H _ I h) λu s1 ⟨x,H1,I1,rx,a,dx,fs,ex,ea,l,q⟩=>?_) ht
 subst ex
 obtain rfl:u=Value.ref a:=rx
 refine Acx I1 ea c hm l ?_
 refine callWith_K (first:=[.ref a]) (h₀:=X.base) I.ok.mod.kin hm.kp (thn (ha pos pins s1 σ H1 _ I1 q) λus s2 ⟨vs,H2,I2,r,q2⟩=>⟨I2.kIn,?_⟩) hst hpl
 exact Afa (us:=.ref a::us) (vs:=.ref a::vs) F hr hb hd hx I2 (.cons rfl r) q2
structure Mk(K:Frag)(C f:Addr):Prop where
 makes:makesIn K C=true
 init:findIn K (.ref C) "__init__"=some (some (.ref f))
 fn:isFn K (.ref f)=true
 kp:keepIn K (.ref C)=true
theorem AfU{pins:List (Addr×Obj)}{σ:St}{H:Hp}{s:Shared}{Q:VK}{us:List Value}{vs:List V}(M:Mk X.K C f)(F:FnOk X.prog X.w X.K X.mg X.base CX k f fd ps sp)(hr:Room (k+1) X.A)(hb:Binds X.K fd ps ds)(hd:Vals dvs ds)
  (hx:Qw CX X E) (I:Inv X pins σ H s) (r:Vals vs us)
  (h:∀x dx,H x=none->H dx=none->dx≠x->sp (.ref x::(vs++dvs)) (upd (upd H dx (.own x)) x (.ins C dx [])) (λv H2=>v=.non/\Q (.ref x) H2) E) :
  wpAny (model X.prog X.w) X.A (call (.ref C) us) (EP X pins σ Q) X.xe s:=by
 have hq:=h (s.heap.objs.size+1) s.heap.objs.size (I.hok.fresh (le_succ _)) (I.hok.fresh (Nat.le_refl _)) (ne_of_lt (lt_succ_self _))
 have I2:=Inv.made (C:=C) I
 have r2:Vals (V.ref (s.heap.objs.size+1)::(vs++dvs)) (Value.ref (s.heap.objs.size+1)::(us++ds)):=.cons rfl (r.append hd)
 have hl:(Value.ref (s.heap.objs.size+1)::us++ds).length=ps.length:=by
  have e:=r2.length
  rw[F.len _ _ _ _ hq] at e
  exact e.symm
 refine wpAny_call (AgM (f:=f) I.kIn M.makes M.init (beq_iff_eq.mp M.fn) (codeAny_mono (F.run _ X.stack _ _ ⟨Value.ref (s.heap.objs.size+1)::us,[]⟩ (Value.ref (s.heap.objs.size+1)::(us++ds)) _ _ E (hr.make C us [])
  (I2.env0.make C us []) (hb _ (Value.ref (s.heap.objs.size+1)::us) I2.kIn hl) r2 hq) λr s' hq'=>?_))
 cases r with
 | error e=>exact hx pins σ _ _ e s' I2 hq'
 | ok fl =>
  cases fl with
  | ret u =>
   obtain⟨v,H',I3,rv,ev,q3⟩:=I2.after hq'
   subst ev
   exact⟨rv,⟨V.ref (s.heap.objs.size+1),H',I3,rfl,q3⟩⟩
  | next=>exact False.elim hq'
  | brk=>exact False.elim hq'
  | cont=>exact False.elim hq'
theorem AiB(M:Mk X.K C f)(F:FnOk X.prog X.w X.K X.mg X.base CX k f fd ps sp)(hr:Room (k+1) X.A)(hg:Gl X x)(hm:X.mg x=some (.ref C))(hb:Binds X.K fd ps ds)(hd:Vals dvs ds)(hx:Qw CX X E)
  (ha:PA X (e::es) t) (hdb:(x==("__debug__" : Str))=false:=by decide) (he:starEach (e::es) X.env=(false,eval e X.env)::starEach es X.env:=by rfl) (hpl:(backTo pos (starEach es X.env)).any (·.1)=false:=by rfl) :
  PE X (.Call (.Name x p) (e::es) [] pos) (Aiv C sp dvs E t):=by
 intro pins s σ H Q I h
 refine wpAny_Call_Name_kw (Wj I hg hm ?_ hdb)
 refine callWith_K (h₀:=X.base) I.ok.mod.kin M.kp (thn (ha pos pins s σ H _ I h) λus s1 ⟨vs,H1,I1,r,q⟩=>⟨I1.kIn,?_⟩) he hpl
 exact AfU M F hr hb hd hx I1 r q
end
section
variable {X:Cx}{CX:CXT}{k:Nat}{f C:Addr}{fd:FuncData}{ps ks:List Str}{sp:Sp}{E:XK}{x m:Str}{p pos apos kpos:Pos}{e o:Expr}{es:List Expr}{kws:List Keyword}{te ta:TE}{t tk:TA}{nm:Option Str}
variable {g:List Value->List Value->List Value}{gV:List V->List V->List V}
end
structure Cd(N P:List Str)(sc:Scope):Prop where
 kind:sc.kind=.function
 co:sc.isCoroutine=false
 gen:sc.isGenerator=false
 nd:N.Nodup
 pre:N.take P.length=P
 par:∀x∈P,sc.names.lookup x=some .local\/sc.names.lookup x=some .cell
 nofree:∀y∈sc.names,y.2≠.free
theorem Xx{kindOf:Str->Option NameKind}{x:Str}:∀{binds:List (Str×Value)} {m:Str->Option Value},(∀v,(x,v)∉binds)->bindL kindOf binds m x=m x
 | [],_,_=>rfl
 | (n,v)::r,m,h=>by
  unfold bindL
  rw[Xx λw hw=>h w (mem_cons_of_mem _ hw)]
  split
  ·have:x≠n:=by rintro rfl;exact h v mem_cons_self
   simp [this]
  ·rfl
theorem Xw{kindOf:Str->Option NameKind}{x:Str}:∀{binds:List (Str×Value)} {m:Str->Option Value},(∀v,(x,v)∉binds)->bindC kindOf binds m x=m x
 | [],_,_=>rfl
 | (n,v)::r,m,h=>by
  unfold bindC
  rw[Xw λw hw=>h w (mem_cons_of_mem _ hw)]
  split
  ·rfl
  ·have:x≠n:=by rintro rfl;exact h v mem_cons_self
   simp [this]
theorem Xq{kindOf:Str->Option NameKind}{x:Str}{v:Value}:∀{P:List Str} {vs:List Value} {i:Nat} {m:Str->Option Value},P.Nodup->P[i]? = some x->vs[i]? = some v->kindOf x=some .local ->
  bindL kindOf (P.zip vs) m x=some v
 | [],_,_,_,_,h,_,_=>by simp at h
 | _::_,[],_,_,_,_,h,_=>by simp at h
 | p::P,w::vs,0,m,nd,h1,h2,hk=>by
  simp at h1 h2;subst h1;subst h2
  show bindL kindOf ((p,w)::P.zip vs) m p=_
  unfold bindL
  rw[Xx λv hv=>(nodup_cons.mp nd).1 (of_mem_zip hv).1,if_pos hk]
  simp
 | p::P,w::vs,i+1,m,nd,h1,h2,hk=>by
  show bindL kindOf ((p,w)::P.zip vs) m x=_
  unfold bindL
  exact Xq (i:=i) (nodup_cons.mp nd).2 (by simpa using h1) (by simpa using h2) hk
theorem Xn{kindOf:Str->Option NameKind}{x:Str}{v:Value}:∀{P:List Str} {vs:List Value} {i:Nat} {m:Str->Option Value},P.Nodup->P[i]? = some x->vs[i]? = some v->kindOf x≠some .local ->
  bindC kindOf (P.zip vs) m x=some v
 | [],_,_,_,_,h,_,_=>by simp at h
 | _::_,[],_,_,_,_,h,_=>by simp at h
 | p::P,w::vs,0,m,nd,h1,h2,hk=>by
  simp at h1 h2;subst h1;subst h2
  show bindC kindOf ((p,w)::P.zip vs) m p=_
  unfold bindC
  rw[Xw λv hv=>(nodup_cons.mp nd).1 (of_mem_zip hv).1,if_neg hk]
  simp
 | p::P,w::vs,i+1,m,nd,h1,h2,hk=>by
  show bindC kindOf ((p,w)::P.zip vs) m x=_
  unfold bindC
  exact Xn (i:=i) (nodup_cons.mp nd).2 (by simpa using h1) (by simpa using h2) hk
def Ob(N:List Str)(vs:List V):St:=vs.map some++replicate (N.length - vs.length) none
def Sq(CX:CXT)(P:Program)(w:World)(K:Frag)(mg:Str->Option Value)(base:Heap)(N:List Str)(qual:Str)(scope:Scope)(f:Addr)(cd:Value)(A:Around)(outer:List Env)(s:Shared)(H:Hp)(E:XK):Cx where
 prog:=P
 w:=w
 K:=K
 mg:=mg
 base:=base
 A:=A.deeper (envOfC qual scope s.heap.objs.size f cd)
 N:=N
 s₀:=s
 H₀:=H
 env:=envOfC qual scope s.heap.objs.size f cd
 outer:=outer
 stack:=envOfC qual scope s.heap.objs.size f cd::outer
 ex:=[]
 calm:=true
 fn:=λ_=>true
 pn:=[]
 xe:=λe s'=>wpAny (model P w) (A.deeper (envOfC qual scope s.heap.objs.size f cd)) (leaving (envOfC qual scope s.heap.objs.size f cd) e) (λ_ s''=>CX outer H s E e s'') (λe' s''=>CX outer H s E e' s'') s'
theorem Aan{sc:Scope}{n:Nat}{x:Str}(h:sc.names.lookup x=some .cell):∃c,(cellsFrom n sc.names []).lookup x=some c:=by
 have q:=cellsFrom_some sc.names n [] (.inl h)
 exact Option.isSome_iff_exists.mp q
theorem Adi{CX:CXT}{P:Program}{w:World}{K:Frag}{mg:Str->Option Value}{base:Heap}{N ps:List Str}{qual:Str}{scope:Scope}{f:Addr}{cd:Value}{A:Around}{outer:List Env}{s s1:Shared}{H:Hp}{E:XK}{us:List Value}{vs:List V}
  (S:Cd N ps scope) (hd:A.handled=none) (e0:Env0 P w K mg base A outer s H) (hl:vs.length=ps.length) (r:Vals vs us)
  (x:InCallC s s.heap.objs.size (bindL (envOfC qual scope s.heap.objs.size f cd).kindOf (ps.zip us) λ_=>none) (cellsFrom (s.heap.objs.size+1) scope.names []) (bindC (envOfC qual scope s.heap.objs.size f cd).kindOf (ps.zip us) λ_=>none) s1) :
  Inv (Sq CX P w K mg base N qual scope f cd A outer s H E) [] (Ob N vs) H s1:=by
 have hpl:ps.length<=N.length:=by have:=congrArg length S.pre;rw[length_take] at this;omega
 obtain⟨h1,tk,rfl,hk⟩:=x.done
 have noA:∀b:Addr,b∉(Sq CX P w K mg base N qual scope f cd A outer s H E).ex:=λb z=>absurd (show b∈([]:List Addr) from z) (by simp)
 refine⟨⟨e0.mod,S.kind,rfl,rfl,Nat.le_refl _,λy z c h1 h2=>?_,λy hy=>?_,λy c _ h=>?_,λ_=>hd,Around.frames_deeper e0.frames,.inr ⟨rfl,rfl⟩,λb z=>absurd z (noA b),e0.bs,e0.bsz,λb _ _=>noA b,λb z=>absurd z (noA b),e0.funs,e0.frf⟩,
  rfl,e0.bare,Un.kept hk,⟨_,x.toInCall.ns,λi y v h1 h2 h3=>?_⟩,λy c h=>⟨_,x.cell y c h⟩,e0.hok.fresh (Nat.le_refl _),λy c h=>?_,λp hp=>absurd (show p∈([]:List (Addr×Obj)) from hp) (by simp),e0.hok.kept hk,?_⟩
 ·exact name_of_addr x.apart (PySem.mem_of_lookup h1) (PySem.mem_of_lookup h2)
 ·have hy:scope.names.lookup y=some .cell\/scope.names.lookup y=some .free:=hy
  rcases hy with hy | hy
  ·exact Aan hy
  ·exact absurd rfl (S.nofree _ (PySem.mem_of_lookup hy))
 ·exact Nat.le_of_lt (x.above y c (PySem.mem_of_lookup h))
 ·have hi:i<vs.length:=by
   unfold Ob at h2
   by_cases hi:i<vs.length
   ·exact hi
   ·rw[getElem?_append_right (by simpa using hi)] at h2
    rw[getElem?_replicate] at h2
    split at h2 <;> cases h2
  have ha:vs[i]? = some v:=by
   unfold Ob at h2
   rw[getElem?_append_left (by simpa using hi),getElem?_map] at h2
   cases e:vs[i]? with
   | none=>rw[e] at h2;cases h2
   | some a=>rw[e] at h2;cases h2;rfl
  obtain⟨u,hu,rv⟩:=r.get ha
  have hp:ps[i]? = some y:=by
   rw[<- S.pre,List.getElem?_take_of_lt (by omega)];exact h1
  have ndP:ps.Nodup:=by rw[<- S.pre];exact S.nd.sublist (List.take_sublist _ _)
  refine⟨u,rv,?_⟩
  rcases S.par y (mem_of_getElem? hp) with k | k
  ·exact .inl ⟨k,Xq ndP hp hu k⟩
  ·obtain⟨c,e⟩:=Aan (n:=s.heap.objs.size+1) k
   refine .inr ⟨.inl k,c,e,?_⟩
   have q:=x.cell y c e
   rw[Xn ndP hp hu (by show scope.names.lookup y≠_;rw[k];decide)] at q
   exact q
 ·exact e0.hok.fresh (Nat.le_of_lt (x.above y c (PySem.mem_of_lookup h)))
 ·unfold Ob
  show _=N.length
  rw[length_append,length_map,length_replicate]
  omega
theorem Aik{CX:CXT}{P:Program}{w:World}{K:Frag}{mg:Str->Option Value}{base:Heap}{k:Nat}{f:Addr}{name qual:Str}{params:Arguments}{body:List Stmt}{scope:Scope}{dV kV doc pm cdv ct oc:Value}{an od:Option Addr}
  {osl:Array (Option Value)} {N ps:List Str} {sp:Sp} (lk:K.lookup f=some ⟨oc,od,.func (fnOf name qual params body scope dV kV doc pm an cdv ct),osl⟩) (hcd:codeIn K cdv qual=true) (S:Cd N ps scope)
  (len:∀vs H Q E,sp vs H Q E->vs.length=ps.length)
  (hbody:∀(A:Around) (outer:List Env) (s:Shared) (H:Hp) (vs:List V) (Q:VK) (E:XK),Room k (A.deeper (envOfC qual scope s.heap.objs.size f cdv))->sp vs H Q E ->
   ∃t,PSs (Sq CX P w K mg base N qual scope f cdv A outer s H E) body t/\t { nx:=λ_ H'=>Q .non H',rt:=Q } (Ob N vs) H) :
  FnOk P w K mg base CX (k+1) f (fnOf name qual params body scope dV kV doc pm an cdv ct) ps sp:=by
 refine⟨len,λA outer s H args us vs Q E hr e0 hb r hsp=>?_⟩
 have hl:=len _ _ _ _ hsp
 have KX:K.In s.heap:=e0.mod.kin.keeps λb o e=>(e0.bs b o e).1
 have lim:s.heap.NoLimit:=e0.mod.nolimit.keeps λb o e=>(e0.bs b o e).1
 have hkind:∀y∈ps.zip us,scope.names.lookup y.1=some .local\/(scope.names.lookup y.1=some .cell/\((cellsFrom (s.heap.objs.size+1) scope.names []).lookup y.1).isSome=true):=λ⟨n,v⟩ hy=>by
  rcases S.par n (of_mem_zip hy).1 with q | q
  ·exact .inl q
  ·exact .inr ⟨q,cellsFrom_some _ _ _ (.inl q)⟩
 refine codeAny_call_function hr.depth (KX _ _ lk) rfl S.co S.gen rfl (PySem.W.codeRec_of KX hcd) (hb _ _ _ _ ?_)
 refine wpAny_newFunctionEnv_cells S.kind hkind λenv he s1 x=>?_
 subst he
 refine⟨lim.keeps x.toInCall.keep,codeAny_func ?_⟩
 obtain⟨t,ht,hq⟩:=hbody A outer s H vs Q E (hr.deeper _) hsp
 have I:Inv (Sq CX P w K mg base N qual scope f cdv A outer s H E) [] (Ob N vs) H s1:=Adi S hr.hd e0 hl r x
 refine wpAny_mono (ht [] s1 (Ob N vs) H _ I hq) (λfl s' hs=>?_) λe s' hs=>hs
 have fin:∀{σ':St} {H':Hp} {v:V} {u:Value},Inv (Sq CX P w K mg base N qual scope f cdv A outer s H E) [] σ' H' s'->RelV v u->Q v H'->CE outer P w H s Q u s' :=
  λ{σ' H' v u} J rv q=>⟨v,H',J.os,J.bare,J.base,J.hok,rv,q⟩
 cases fl with
 | ret u =>
  obtain⟨v,σ',H',J,rv,q⟩:=hs
  exact fin J rv q
 | next =>
  obtain⟨σ',H',J,q⟩:=hs
  exact fin (v:=V.non) (u:=Value.none) J rfl q
 | brk =>
  obtain⟨_,_,_,q⟩:=hs
  exact False.elim q
 | cont =>
  obtain⟨_,_,_,q⟩:=hs
  exact False.elim q
section
variable {X:Cx}{x:Str}{p pos:Pos}{e:Expr}{es:List Expr}{t:TA}{id T:String}{r:List V->Hp->VK->Prop}
def tCB(r:List V->Hp->VK->Prop)(t:TA):TE:=λσ H Q=>t σ H λvs H1=>r vs H1 Q
theorem Cn(hc:Nn X (.builtin id) r)(hg:Gl X x)(hm:X.mg x=none)(hv:bootBuiltins x=some (.builtin id))(ha:PA X (e::es) t)(hn:x≠"__name__":=by decide)(hdb:(x==("__debug__" : Str))=false:=by decide)
  (he:starEach (e::es) X.env=(false,eval e X.env)::starEach es X.env:=by rfl) (hpl:(backTo pos (starEach es X.env)).any (·.1)=false:=by rfl):PE X (.Call (.Name x p) (e::es) [] pos) (tCB r t):=by
 intro pins s σ H Q I h
 refine wpAny_Call_Name_kw (Lq I hg hm hv ?_ hn hdb)
 exact PyProof.Rows.callWith_builtin1 (thn (ha pos pins s σ H _ I h) λus s1 ⟨vs,H1,I1,r1,q1⟩=>hc pins s1 σ H1 vs us Q I1 r1 q1) he hpl
theorem Lc(hc:Nn X (.type T) r)(hg:Gl X x)(hm:X.mg x=none)(hv:bootBuiltins x=some (.type T))(ha:PA X (e::es) t)(hn:x≠"__name__":=by decide)(hdb:(x==("__debug__" : Str))=false:=by decide)
  (he:starEach (e::es) X.env=(false,eval e X.env)::starEach es X.env:=by rfl) (hpl:(backTo pos (starEach es X.env)).any (·.1)=false:=by rfl):PE X (.Call (.Name x p) (e::es) [] pos) (tCB r t):=by
 intro pins s σ H Q I h
 refine wpAny_Call_Name_kw (Lq I hg hm hv ?_ hn hdb)
 exact PyProof.Rows.callWith_type1 (thn (ha pos pins s σ H _ I h) λus s1 ⟨vs,H1,I1,r1,q1⟩=>hc pins s1 σ H1 vs us Q I1 r1 q1) he hpl
end
end L2
namespace HT
open PySem PyProof.Rows
section
open PySem.SeqAt
open PySem.AutoSeq1 (wpAny_loadPart')
open PySem.MeetsSeq PySem.MeetsSeq2 PySem.MeetsSeq3
end
section
variable {prog:Program}{w:World}{A:Around}{E:Value->Shared->Prop}{s:Shared}
def sIx(n d:Nat):Option Int->Nat
 | none=>d
 | some v=>if v<0 then (v+(n:Int)).toNat else min v.toNat n
theorem sIx_none(n d:Nat):sIx n d none=d:=rfl
theorem sIx_nat(n d k:Nat):sIx n d (some (k:Int))=min k n:=by
 show (if (k:Int)<0 then ((k:Int)+(n:Int)).toNat else min (k:Int).toNat n)=min k n
 rw[if_neg (by omega),toNat_natCast]
end
end HT
namespace L2
open PySem PySem.Spec PyProof.Rows
abbrev TO:=St->Hp->(Option Int->Hp->Prop)->Prop
def PO(X:Cx)(e:Option Expr)(t:TO):Prop :=
 ∀(pins:List (Addr×Obj)) (s:Shared) (σ:St) (H:Hp) (Q:Option Int->Hp->Prop),Inv X pins σ H s->t σ H Q ->
  wpAny (model X.prog X.w) X.A (evalPart e X.env) (λu s'=>∃o H',Inv X pins σ H' s'/\IsPart u o/\Q o H') X.xe s
def Abh:TO:=λ_ H Q=>Q none H
def AhJ(t:TE):TO:=λσ H Q=>t σ H λx H1=>∃i,x=.int i/\Q (some i) H1
section
variable {X:Cx}{e:Expr}{te:TE}{lo hi:Option Expr}{tl th:TO}{pos p2:Pos}
theorem Ng:PO X none Abh:=by
 intro pins s σ H Q I h
 rw[evalPart_none]
 exact wpAny_pure ⟨none,H,I,.none,h⟩
theorem Dw(h:PE X e te):PO X (some e) (AhJ te):=by
 intro pins s σ H Q I hw
 rw[evalPart_some]
 refine thn (h pins s σ H _ I hw) λu s1 ⟨x,H1,I1,r1,q1⟩=>?_
 obtain⟨i,rfl,q⟩:=q1
 obtain⟨t,rfl⟩:=r1
 exact⟨some i,H1,I1,.int i t,q⟩
def SlR(X:Cx)(r:V->Option Int->Option Int->Hp->VK->Prop):Prop :=
 ∀(pins:List (Addr×Obj)) (s:Shared) (σ:St) (H:Hp) (x:V) (v vl vu:Value) (lo hi:Option Int) (sl:Addr) (Q:VK),Inv X pins σ H s->RelV x v->s.heap.IsSliceOf sl vl vu .none->IsPart vl lo->IsPart vu hi->r x lo hi H Q ->
  ∃T id,typeLookup (.type T) "__getitem__"=pure (some (.builtin id))/\s.TypeIs v T/\wpAny (model X.prog X.w) X.A (getItem v (.ref sl)) (EP X pins σ Q) X.xe s
def tSl(r:V->Option Int->Option Int->Hp->VK->Prop)(te:TE)(tl th:TO):TE:=λσ H Q=>te σ H λx H1=>tl σ H1 λl H2=>th σ H2 λu H3=>r x l u H3 Q
theorem Gd{r:V->Option Int->Option Int->Hp->VK->Prop}(hr:SlR X r)(he:PE X e te)(hl:PO X lo tl)(hu:PO X hi th):PE X (.Subscript e (.Slice lo hi none p2) pos) (tSl r te tl th):=by
 intro pins s σ H Q I h
 refine Subscript_ (thn (he pins s σ H _ I h) λv s1 ⟨x,H1,I1,r1,q1⟩=>?_)
 refine wpAny_Slice (thn (hl pins s1 σ H1 _ I1 q1) λvl s2 ⟨l,H2,I2,pl,q2⟩=>thn (hu pins s2 σ H2 _ I2 q2) λvu s3 ⟨u,H3,I3,pu,q3⟩=>?_)
 rw[evalPart_none]
 refine wpAny_pure ?_
 have I4:Inv X pins σ H3 { s3 with heap:=s3.heap.push { cls:=.type "slice",data:=.fields #[vl,vu,.none] } }:=I3.kept (t':=s3.toks) λb ob q=>get?_push_of_some _ q
 obtain⟨T,id,hT,ht,hg⟩:=hr pins { s3 with heap:=s3.heap.push { cls:=.type "slice",data:=.fields #[vl,vu,.none] } } σ H3 x v vl vu l u s3.heap.objs.size Q I4 r1 (Heap.IsSliceOf.new ..) pl pu q3
 show wpAny (model X.prog X.w) X.A (subscriptTail e (.Slice lo hi none p2) v (.ref s3.heap.objs.size)) (EP X pins σ Q) X.xe { s3 with heap:=s3.heap.push { cls:=.type "slice",data:=.fields #[vl,vu,.none] } }
 exact tail_any (ops:=[.ref s3.heap.objs.size,v]) ht hT hg (by with_unfolding_all rfl)
def Uu(xs:List V)(lo hi:Option Int):List V:=(xs.drop (HT.sIx xs.length 0 lo)).take (HT.sIx xs.length xs.length hi - HT.sIx xs.length 0 lo)
theorem AaU(xs:List V)(lo hi:Option Int):(Uu xs lo hi).length<=xs.length:=by
 unfold Uu
 rw[length_take,length_drop]
 omega
end
def ixN(n:Nat)(i:Int):Option Nat:=if 0<=i then (if i<n then some i.toNat else none) else if -(n:Int)<=i then some (i+n).toNat else none
def atI{α:Type}(xs:List α)(i:Int):Option α:=(ixN xs.length i).bind λj=>xs[j]?
theorem Abj{n:Nat}{i:Int}{j:Nat}(h:ixN n i=some j):seqIndex? i n=some j/\j<n/\-(n:Int)<=i/\i<n:=by
 unfold ixN at h
 by_cases h0:0<=i
 ·rw[if_pos h0] at h
  by_cases h1:i<n
  ·rw[if_pos h1] at h
   have e:i.toNat=j:=Option.some.inj h
   exact⟨by rw[seqIndex_of h0 h1,e],by omega,by omega,h1⟩
  ·rw[if_neg h1] at h;cases h
 ·rw[if_neg h0] at h
  by_cases h1:-(n:Int)<=i
  ·rw[if_pos h1] at h
   have e:(i+n).toNat=j:=Option.some.inj h
   exact⟨by rw[seqIndex_neg (by omega) h1,e],by omega,h1,by omega⟩
  ·rw[if_neg h1] at h;cases h
theorem Abs{α:Type}{xs:List α}{i:Int}{v:α}(h:atI xs i=some v):∃j,seqIndex? i xs.length=some j/\xs[j]? = some v/\j<xs.length/\-(xs.length:Int)<=i/\i<xs.length:=by
 unfold atI at h
 cases e:ixN xs.length i with
 | none=>rw[e] at h;cases h
 | some j =>
  rw[e] at h
  obtain⟨h1,h2,h3,h4⟩:=Abj e
  exact⟨j,h1,h,h2,h3,h4⟩
theorem Gs{α:Type}{xs:List α}{j:Nat}{v:α}(h:xs[j]? = some v):atI xs (j:Int)=some v:=by
 have hj:j<xs.length:=(List.getElem?_eq_some_iff.mp h).1
 have e:ixN xs.length (j:Int)=some j:=by
  unfold ixN
  rw[if_pos (by omega),if_pos (by omega)];simp
 unfold atI;rw[e];exact h
def AiG(b:Expr):Prop:=∀o i,subscripted b false o i=operate [o,i] (getItem o i)
def IxR(X:Cx)(r:R2):Prop :=
 ∀(value slice:Expr) (pins:List (Addr×Obj)) (s:Shared) (σ:St) (H:Hp) (x y:V) (v u:Value) (Q:VK),Inv X pins σ H s->RelV x v->RelV y u->r x y H Q ->
  subscripted slice false v u=operate [v,u] (getItem v u)->wpAny (model X.prog X.w) X.A (subscriptTail value slice v u) (EP X pins σ Q) X.xe s
def MtR(X:Cx)(id:String)(r:V->List V->Hp->VK->Prop):Prop :=
 ∀(pins:List (Addr×Obj)) (s:Shared) (σ:St) (H:Hp) (x:V) (xs:List V) (v:Value) (us:List Value) (Q:VK),Inv X pins σ H s->RelV x v->Vals xs us->r x xs H Q ->
  wpAny (model X.prog X.w) X.A (call (.builtin id) (v::us)) (EP X pins σ Q) X.xe s
section
variable {X:Cx}{a b:Expr}{ta tb:TE}{pos:Pos}
theorem Ci{r:R2}(hr:IxR X r)(ha:PE X a ta)(hb:PE X b tb)(hs:AiG b):PE X (.Subscript a b pos) (tOp r ta tb):=by
 intro pins s σ H Q I h
 exact Subscript_ (Afv ha hb I h λv u s2 x y H2 I2 rx ry q=>hr a b pins s2 σ H2 x y v u Q I2 rx ry q (hs _ _))
def Aaw(K:Frag):R2:=λx y H Q=>∃p xs i v,x=.ref p/\y=.int i/\SqL K H p xs/\atI xs i=some v/\Q v H
def Wh(K:Frag):R2:=λx y H Q=>∃p xs i v,x=.ref p/\y=.int i/\SqT K H p xs/\atI xs i=some v/\Q v H
theorem Xd:IxR X (Aaw X.K):=by
 intro value slice pins s σ H x y v u Q I rx ry h hs
 obtain⟨p,xs,i,z,rfl,rfl,hq,he,q⟩:=h
 cases rx
 obtain⟨t,rfl⟩:=ry
 obtain⟨its,r,pl,hz⟩:=I.list hq
 obtain⟨j,h1,h2,h3,h4,h5⟩:=Abs he
 obtain⟨w,ew,rw'⟩:=r.get h2
 have hl:=r.length
 have hn:=Vp
 have fin:EP X pins σ Q w s:=⟨z,H,I,rw',q⟩
 by_cases h0:0<=i
 ·have hj:i.toNat=j:=by
   rw[seqIndex_of h0 h5] at h1
   exact Option.some.inj h1
  exact item_listR pl.isList h0 (by omega) (by rw[hj];simpa using ew) fin hs
 ·have hj:(i+(its.toArray.size:Int)).toNat=j:=by
   rw[seqIndex_neg (by omega) h4] at h1
   rw[size_toArray,<- hl]
   exact Option.some.inj h1
  exact subscriptTail_builtinR (x:=w) pl.isList.typeIs slot_list_getitem.lookup
   (wpAny_getItem_list_neg (Q:=λr s'=>r=w/\EP X pins σ Q r s') pl.isList (by omega) (by rw[size_toArray] <;> omega) (by omega) (by rw[hj];simpa using ew) ⟨rfl,fin⟩) hs
theorem AeZ:IxR X (Wh X.K):=by
 intro value slice pins s σ H x y v u Q I rx ry h hs
 obtain⟨p,xs,i,z,rfl,rfl,hq,he,q⟩:=h
 cases rx
 obtain⟨t,rfl⟩:=ry
 obtain⟨its,r,pl,hz⟩:=I.tuple hq
 obtain⟨j,h1,h2,h3,h4,h5⟩:=Abs he
 obtain⟨w,ew,rw'⟩:=r.get h2
 have hl:=r.length
 have hn:=Vp
 have fin:EP X pins σ Q w s:=⟨z,H,I,rw',q⟩
 exact subscriptTail_builtinR (x:=w) pl.typeIs slot_tuple_getitem.lookup
  (getItem_tuple (j:=j) (Q:=λr s'=>r=w/\EP X pins σ Q r s') pl (by omega) (by omega) (by rw[size_toArray,<- hl];exact h1) (by simpa using ew) ⟨rfl,fin⟩) hs
theorem AbP(its:List Value)(n j:Nat)(u:Value):Obj.mapSeq (·.setIfInBounds j u) { cls:=.type "list",data:=.seq its.toArray n }={ cls:=.type "list",data:=.seq (its.set j u).toArray n }:=by
 simp [Obj.mapSeq]
theorem Inv.lst{pins:List (Addr×Obj)}{σ:St}{H:Hp}{s:Shared}{p:Addr}{xs:List V}(I:Inv X pins σ H s)(h:H p=some (.lst xs)) :
  ∃(its:List Value) (n:Nat),Vals xs its/\s.heap.get? p=some { cls:=.type "list",data:=.seq its.toArray n }/\xs.length<=sizeLine:=by
 obtain⟨z,its,n,r,e⟩:=I.hok p _ h
 exact⟨its,n,r,e,z⟩
theorem Inv.lstUpd{pins:List (Addr×Obj)}{σ:St}{H:Hp}{s:Shared}{p:Addr}{xs ys:List V}{its its':List Value}{n n':Nat}{f:Obj->Obj}(I:Inv X pins σ H s)(h:H p=some (.lst xs))
  (ho:s.heap.get? p=some { cls:=.type "list",data:=.seq its.toArray n }) (hf:f { cls:=.type "list",data:=.seq its.toArray n }={ cls:=.type "list",data:=.seq its'.toArray n' }) (r:Vals ys its') (hz:ys.length<=sizeLine) (t:Nat) :
  Inv X pins σ (upd H p (.lst ys)) { s with heap:=s.heap.update p f,toks:=t }:=by
 have e:(s.heap.update p f).get? p=some { cls:=.type "list",data:=.seq its'.toArray n' }:=by
  rw[Heap.get?_update_self f ho (by rw[hf] <;> rfl),hf]
 refine I.write (x:=p) (e:=p) (by rw[h];trivial) (.inl rfl) (λb u hb q=>(Heap.get?_update_other _ _ (Ne.symm hb)).trans q) ⟨_,e⟩ ?_
 exact⟨hz,its',n',r,e⟩
def AnO:V->V->V->Hp->(Hp->Prop)->Prop:=λo i v H Q=>∃p xs k j,o=.ref p/\i=.int k/\H p=some (.lst xs)/\ixN xs.length k=some j/\Q (upd H p (.lst (xs.set j v)))
theorem Afn:AfV X AnO:=by
 intro pins s σ H o i v ov iv u Q I ro ri rv h
 obtain⟨p,xs,k,j,rfl,rfl,hp,hj,q⟩:=h
 cases ro
 obtain⟨t,rfl⟩:=ri
 obtain⟨its,n,r,ho,hz⟩:=I.lst hp
 obtain⟨h1,h2,h3,h4⟩:=Abj hj
 have hl:=r.length
 have hn:=Vp
 have I':Inv X pins σ (upd H p (.lst (xs.set j v))) { s with heap:=s.heap.update p (Obj.mapSeq (·.setIfInBounds j u)) } :=
  I.lstUpd hp ho (AbP its n j u) (r.set rv j) (by rw[length_set];exact hz) s.toks
 by_cases h0:0<=k
 ·have hk:k.toNat=j:=by
   rw[seqIndex_of h0 h4] at h1
   exact Option.some.inj h1
  exact PySem.W.ki_setAt ho h0 (by omega) (by rw[size_toArray,<- hl];exact h4) (by rw[hk];exact⟨_,I',q⟩)
 ·have hk:(k+(its.toArray.size:Int)).toNat=j:=by
   rw[seqIndex_neg (by omega) h3] at h1
   rw[size_toArray,<- hl]
   exact Option.some.inj h1
  exact PySem.W.ki_setBack ho (by omega) (by rw[size_toArray,<- hl];exact h3) (by omega) (by rw[hk];exact⟨_,I',q⟩)
theorem Zy(lo hi:Option Int)(n:Nat):(sliceBounds lo hi none n).1=((HT.sIx n 0 lo:Nat):Int)/\(sliceBounds lo hi none n).2.1=((HT.sIx n n hi:Nat):Int)/\(sliceBounds lo hi none n).2.2=1:=by
 refine⟨?_,?_,rfl⟩
 ·cases lo with
  | none=>simp [sliceBounds,HT.sIx]
  | some i =>
   simp only [sliceBounds,HT.sIx,getD_none,show (1:Int)>0 by decide,if_true]
   by_cases h:i<0
   ·simp only [h,if_true] <;> omega
   ·simp only [h,if_false] <;> omega
 ·cases hi with
  | none=>simp [sliceBounds,HT.sIx]
  | some i =>
   simp only [sliceBounds,HT.sIx,getD_none,show (1:Int)>0 by decide,if_true]
   by_cases h:i<0
   ·simp only [h,if_true] <;> omega
   ·simp only [h,if_false] <;> omega
theorem Ye(its:List Value)(lo hi:Option Int):slicePick its.toArray lo hi none=((its.drop (HT.sIx its.length 0 lo)).take (HT.sIx its.length its.length hi - HT.sIx its.length 0 lo)).toArray:=by
 obtain⟨h1,h2,h3⟩:=Zy lo hi its.toArray.size
 unfold slicePick
 rw[h1,h2,h3]
 simp only [sliceRange_one,pick_run,size_toArray] <;> rfl
def AoI(K:Frag):V->Option Int->Option Int->Hp->VK->Prop:=λx lo hi H Q=>∃a xs,x=.ref a/\SqL K H a xs/\∀p,H p=none->Q (.ref p) (upd H p (.lst (Uu xs lo hi)))
theorem AjC:SlR X (AoI X.K):=by
 intro pins s σ H x v vl vu lo hi sl Q I rx hs pl pu h
 obtain⟨a,xs,rfl,hx,q⟩:=h
 cases rx
 obtain⟨its,r,ht,hz⟩:=I.list hx
 have hlen:=r.length
 refine⟨"list",_,slot_list_getitem.lookup,ht.isList.typeIs,?_⟩
 refine wpAny_getItem_list_slice ht.isList hs pl pu .none (by simp) ?_ (by rw[size_toArray] <;> omega)
 rw[Ye,<- hlen]
 refine⟨.ref s.heap.objs.size,_,I.laid (t':=s.toks) (o:=.lst (Uu xs lo hi)) (λb ob q=>get?_push_of_some _ q) (Nat.le_refl _) ?_,rfl,q _ (I.hok.fresh (Nat.le_refl _))⟩
 exact⟨Nat.le_trans (AaU xs lo hi) hz,_,0,(r.drop (HT.sIx xs.length 0 lo)).take (HT.sIx xs.length xs.length hi - HT.sIx xs.length 0 lo),get?_push_size _ rfl⟩
def Lm:V->Bool
 | .non=>true
 | .bl _=>true
 | .int _=>true
 | .str _=>true
 | _=>false
def eqV:V->V->Bool
 | .non,.non=>true
 | .bl a,.bl b=>a==b
 | .bl a,.int b=>(if a then 1 else 0)==b
 | .int a,.bl b=>a==(if b then 1 else 0)
 | .int a,.int b=>a==b
 | .str a,.str b=>a==b
 | _,_=>false
theorem AeS{A:Around}{s:Shared}{y x:V}{u v:Value}(ry:RelV y u)(rx:RelV x v)(fy:Lm y=true)(fx:Lm x=true):SeqAt.EqAt A s u v (eqV y x):=by
 cases y with
 | non =>
  cases ry
  cases x with
  | non=>cases rx;exact SeqAt.EqAt.same _
  | bl b=>cases rx;exact SeqAt.EqAt.none_bool b
  | int b=>obtain⟨t,rfl⟩:=rx;exact SeqAt.EqAt.none_int b t
  | str b=>obtain⟨t,rfl⟩:=rx;exact SeqAt.EqAt.none_str b t
  | _=>exact absurd (show false=true from fx) Bool.false_ne_true
 | bl a =>
  cases ry
  cases x with
  | non=>cases rx;exact SeqAt.EqAt.bool_none a
  | bl b=>cases rx;exact SeqAt.EqAt.bool_bool a b
  | int b=>obtain⟨t,rfl⟩:=rx;exact SeqAt.EqAt.bool_int a b t
  | str b=>obtain⟨t,rfl⟩:=rx;exact SeqAt.EqAt.bool_str a b t
  | _=>exact absurd (show false=true from fx) Bool.false_ne_true
 | int a =>
  obtain⟨t',rfl⟩:=ry
  cases x with
  | non=>cases rx;exact SeqAt.EqAt.int_none a t'
  | bl b=>cases rx;exact SeqAt.EqAt.int_bool a t' b
  | int b=>obtain⟨t,rfl⟩:=rx;exact SeqAt.EqAt.int_int a t' b t
  | str b=>obtain⟨t,rfl⟩:=rx;exact SeqAt.EqAt.int_str a t' b t
  | _=>exact absurd (show false=true from fx) Bool.false_ne_true
 | str a =>
  obtain⟨t',rfl⟩:=ry
  cases x with
  | non=>cases rx;exact SeqAt.EqAt.str_none a t'
  | bl b=>cases rx;exact SeqAt.EqAt.str_bool a t' b
  | int b=>obtain⟨t,rfl⟩:=rx;exact SeqAt.EqAt.str_int a t' b t
  | str b=>obtain⟨t,rfl⟩:=rx;exact SeqAt.EqAt.str_str a t' b t
  | _=>exact absurd (show false=true from fx) Bool.false_ne_true
 | _=>exact absurd (show false=true from fy) Bool.false_ne_true
def eqU(x:V)(u:Value):Bool:=match u with
 | .none=>eqV .non x
 | .bool b=>eqV (.bl b) x
 | .int i _=>eqV (.int i) x
 | .str z _=>eqV (.str z) x
 | _=>false
theorem Aec{x y:V}{u:Value}(r:RelV y u)(f:Lm y=true):eqU x u=eqV y x:=by
 cases y with
 | non=>cases r;rfl
 | bl b=>cases r;rfl
 | int i=>obtain⟨t,rfl⟩:=r;rfl
 | str z=>obtain⟨t,rfl⟩:=r;rfl
 | _=>exact absurd (show false=true from f) Bool.false_ne_true
theorem Wx{x:V}:∀{xs:List V} {us:List Value},Vals xs us->xs.all Lm=true->us.any (eqU x)=xs.any λy=>eqV y x
 | _,_,.nil,_=>rfl
 | y::xs,u::us,.cons r t,f=>by
  rw[all_cons,and_eq_true] at f
  rw[any_cons,any_cons,Aec r f.1,Wx t f.2]
theorem Uz{A:Around}{s:Shared}{x:V}{v:Value}(rx:RelV x v)(fx:Lm x=true):∀{xs:List V} {us:List Value},Vals xs us->xs.all Lm=true->∀u∈us,SeqAt.EqAt A s u v (eqU x u)
 | _,_,.nil,_=>λu hu=>by cases hu
 | y::xs,u::us,.cons r t,f=>λu' hu=>by
  rw[all_cons,and_eq_true] at f
  rcases mem_cons.mp hu with rfl | hu
  ·rw[Aec r f.1];exact AeS r rx f.1 fx
  ·exact Uz rx fx t f.2 u' hu
def inV(x:V)(xs:List V):Bool:=xs.any λy=>eqV y x
def rIn(K:Frag)(neg:Bool):R2:=λx y H Q=>∃p xs,y=.ref p/\(SqL K H p xs\/SqT K H p xs)/\Lm x=true/\xs.all Lm=true/\Q (.bl (if neg then !inV x xs else inV x xs)) H
theorem Sz:OpR X (compareOp .In) (rIn X.K false):=by
 intro pins s σ H x y v u Q I rx ry h
 obtain⟨p,xs,rfl,hq,fx,fs,q⟩:=h
 cases ry
 rcases hq with hq | hq
 ·obtain⟨its,r,pl,hz⟩:=I.list hq
  refine SeqAt.in_listAt (eqU x) pl.isList (λw hw=>Uz rx fx r fs w (by simpa using hw)) ⟨.bl _,H,I,rfl,?_⟩
  rw[show its.toArray.any (eqU x)=its.any (eqU x) by simp,Wx r fs]
  exact q
 ·obtain⟨its,r,pl,hz⟩:=I.tuple hq
  refine SeqAt.in_tupleAt (eqU x) pl (λw hw=>Uz rx fx r fs w (by simpa using hw)) ⟨.bl _,H,I,rfl,?_⟩
  rw[show its.toArray.any (eqU x)=its.any (eqU x) by simp,Wx r fs]
  exact q
theorem Lp:Nn X (.builtin "len") (λxs H Q=>∃p ys,xs=[.ref p]/\(SqL X.K H p ys\/SqT X.K H p ys)/\Q (.int ys.length) H):=by
 intro pins s σ H xs us Q I r h
 obtain⟨p,ys,rfl,hq,q⟩:=h
 obtain⟨u,rfl,rx⟩:=Yi r
 cases rx
 have hn:=Vp
 rcases hq with hq | hq
 ·obtain⟨its,r',pl,hz⟩:=I.list hq
  have hlen:=r'.length
  exact Calls.call_len_list pl.isList (by simp only [size_toArray] <;> omega) ⟨.int ys.length,H,I.tok _,⟨s.toks+1,by rw[size_toArray,hlen]⟩,q⟩
 ·obtain⟨its,r',pl,hz⟩:=I.tuple hq
  have hlen:=r'.length
  exact len_tuple pl (by simp only [size_toArray] <;> omega) ⟨.int ys.length,H,I.tok _,⟨s.toks+1,by rw[size_toArray,hlen]⟩,q⟩
theorem Zi:Nn X (.type "list") (λxs H Q=>∃p ys,xs=[.ref p]/\(SqL X.K H p ys\/SqT X.K H p ys)/\∀l,H l=none->Q (.ref l) (upd H l (.lst ys))):=by
 intro pins s σ H xs us Q I r h
 obtain⟨p,ys,rfl,hq,q⟩:=h
 obtain⟨u,rfl,rx⟩:=Yi r
 cases rx
 have fin:∀(its:List Value),Vals ys its->ys.length<=sizeLine->∀(h':Heap) (c':Nat),(∀b o',s.heap.get? b=some o'->h'.get? b=some o') ->
   h'.get? s.heap.objs.size=some { cls:=.type "list",dict:=none,data:=.seq its.toArray c',slots:=#[] }->EP X pins σ Q (.ref s.heap.objs.size) { s with heap:=h' }:=λits r' hz h' c' kp e =>
  ⟨.ref s.heap.objs.size,_,I.laid (t':=s.toks) kp (Nat.le_refl _) (show ObjOk X.prog X.w _ h' _ (.lst ys) from ⟨hz,its,c',r',e⟩),rfl,q _ (I.hok.fresh (Nat.le_refl _))⟩
 rcases hq with hq | hq
 ·obtain⟨its,r',pl,hz⟩:=I.list hq
  have hlen:=r'.length
  obtain⟨o,ho,hc,n,hd⟩:=pl.isList
  exact call_list_seq p (.inl rfl) ho hc hd (λh' c' kp e=>fin its r' hz h' c' kp e) (by simp only [size_toArray] <;> omega)
 ·obtain⟨its,r',pl,hz⟩:=I.tuple hq
  have hlen:=r'.length
  obtain⟨o,ho,hc,n,hd⟩:=pl
  exact call_list_seq p (.inr rfl) ho hc hd (λh' c' kp e=>fin its r' hz h' c' kp e) (by simp only [size_toArray] <;> omega)
def tyV(K:Frag)(T:String)(x:V)(H:Hp):Prop:=match x with
 | .str _=>T="str"
 | .int _=>T="int"
 | .ref p=>(T="list"/\∃xs,SqL K H p xs)\/(T="tuple"/\∃o,K.lookup p=some o/\o.cls=.type "tuple"/\o.dict=none) \/
   (T="dict"/\((∃kvs,H p=some (.dK kvs))\/∃kvs,H p=some (.dT kvs)))\/(T="set"/\∃S n,H p=some (.set S n))
 | _=>False
theorem Ad6{pins:List (Addr×Obj)}{σ:St}{H:Hp}{s:Shared}{T:String}{x:V}{v:Value}(I:Inv X pins σ H s)(r:RelV x v)(ty:tyV X.K T x H) :
  s.TypeIs v T/\∀a,v=.ref a->∃ob,s.heap.get? a=some ob/\ob.dict=none:=by
 cases x with
 | str z =>
  obtain⟨t,rfl⟩:=r
  cases (show T="str" from ty)
  exact⟨typeIs_str s z t,λ_ e=>nomatch e⟩
 | int i =>
  obtain⟨t,rfl⟩:=r
  cases (show T="int" from ty)
  exact⟨typeIs_int s i t,λ_ e=>nomatch e⟩
 | ref p =>
  cases r
  rcases ty with ⟨rfl,xs,hq⟩ | ⟨rfl,o,hk,hc,hd⟩ | ⟨rfl,hk⟩ | ⟨rfl,S,n,hk⟩
  ·obtain⟨its,_,pl,_⟩:=I.list hq
   refine⟨pl.isList.typeIs,λa e=>?_⟩
   cases e
   obtain⟨o,n,e,c,hd,_⟩:=pl
   exact⟨o,e,hd⟩
  ·refine⟨⟨o,I.kIn p o hk,hc⟩,λa e=>?_⟩
   cases e
   exact⟨o,I.kIn _ o hk,hd⟩
  ·have z:∃o,s.heap.get? p=some o/\o.ExactDict:=by
    rcases hk with ⟨kvs,hk⟩ | ⟨kvs,hk⟩
    ·obtain⟨_,_,_,_,o,_,_,e,ex,_⟩:=I.hok p _ hk
     exact⟨o,e,ex⟩
    ·obtain⟨_,_,_,_,o,_,_,e,ex,_⟩:=I.hok p _ hk
     exact⟨o,e,ex⟩
   obtain⟨o,e,ex⟩:=z
   refine⟨⟨o,e,ex.1⟩,λa e2=>?_⟩
   cases e2
   exact⟨o,e,ex.2.1⟩
  ·obtain⟨o,_,_,_,e,ex,_⟩:=I.hok p _ hk
   refine⟨⟨o,e,ex.1⟩,λa e2=>?_⟩
   cases e2
   exact⟨o,e,ex.2.1⟩
 | _=>exact False.elim ty
def Ams(K:Frag)(T:String)(r:V->List V->Hp->VK->Prop)(to:TE):TE:=λσ H Q=>to σ H λx H1=>tyV K T x H1/\r x [] H1 Q
def tBM(K:Frag)(T:String)(r:V->List V->Hp->VK->Prop)(to:TE)(t:TA):TE:=λσ H Q=>to σ H λx H1=>tyV K T x H1/\t σ H1 λxs H2=>r x xs H2 Q
variable {o e:Expr}{es:List Expr}{to:TE}{t:TA}{name:Str}{apos cpos:Pos}{T id:String}{r:V->List V->Hp->VK->Prop}
theorem Amh(pa:PlainAttrs T)(slot:Slot T name id)(hty:typeOf (.builtin id)=pure (.type "method_descriptor"))(hm:MtR X id r)(ho:PE X o to)
  (hbase:attributeBase o name X.env (eval o X.env)=eval o X.env:=by rfl) (hline:(apos.endLine==cpos.line)=true:=by rfl):PE X (.Call (.Attribute o name apos) [] [] cpos) (Ams X.K T r to):=by
 intro pins s σ H Q I h
 refine wpAny_Call_method0_late hbase hline (thn (ho pins s σ H _ I h) λv s1 ⟨x,H1,I1,r1,ty,q1⟩=>?_)
 obtain⟨h1,h2⟩:=Ad6 I1 r1 ty
 exact⟨T,id,pa,slot,hty,h1,h2,Calls.callWith_builtin rfl (PySem.evalArgs_none (hm pins s1 σ H1 x [] v [] Q I1 r1 .nil q1))⟩
theorem Fw(pa:PlainAttrs T)(slot:Slot T name id)(hty:typeOf (.builtin id)=pure (.type "method_descriptor"))(hm:MtR X id r)(ho:PE X o to)(ha:PA X (e::es) t)
  (hbase:attributeBase o name X.env (eval o X.env)=eval o X.env:=by rfl)
  (hfew:((backTo cpos (starEach (e::es) X.env)).all (λx=>!x.1)&&(backToKw cpos (keywordEach [] X.env)).all (λx=>x.1.isSome)
   && decide ((e::es).length+([]:List Keyword).length+(if ([]:List Keyword).isEmpty then 0 else 1)<30))=true:=by rfl)
  (hline:(apos.endLine==cpos.line)=true:=by rfl) (hs:starEach (e::es) X.env=(false,eval e X.env)::starEach es X.env:=by rfl) (hplain:(backTo cpos (starEach es X.env)).any (·.1)=false:=by rfl) :
  PE X (.Call (.Attribute o name apos) (e::es) [] cpos) (tBM X.K T r to t):=by
 intro pins s σ H Q I h
 refine wpAny_Call_method_late hbase hfew hline rfl (thn (ho pins s σ H _ I h) λv s1 ⟨x,H1,I1,r1,ty,q1⟩=>?_)
 obtain⟨h1,h2⟩:=Ad6 I1 r1 ty
 refine⟨T,id,pa,slot,hty,h1,h2,?_⟩
 have hA:=ha cpos pins s1 σ H1 _ I1 q1
 rw[hs] at hA ⊢
 refine Calls.callWith_builtin (by show (false || (backTo cpos (starEach es X.env)).any (·.1))=false;rw[hplain] <;> rfl) (Calls.evalArgs_plain ?_)
 exact thn hA λus s2 ⟨vs,H2,I2,r2,q2⟩=>hm pins s2 σ H2 x vs v us Q I2 r1 r2 q2
end
def MtM(X:Cx)(id:String)(r:V->List V->Hp->VK->Prop):Prop :=
 ∀(pins:List (Addr×Obj)) (s:Shared) (σ:St) (H:Hp) (x:V) (xs:List V) (v:Value) (us:List Value) (Q:VK),Inv X pins σ H s->RelV x v->Vals xs us->r x xs H Q ->
  wpAny (model X.prog X.w) X.A (call (.builtin id) (v::us)) (EP X pins σ Q) X.xe s
theorem Vals.one:∀{x:V} {us:List Value},Vals [x] us->∃u,us=[u]/\RelV x u
 | _,_,.cons r .nil=>⟨_,rfl,r⟩
theorem Vals.zero:∀{us:List Value},Vals [] us->us=[]
 | _,.nil=>rfl
theorem Vals.dropLast{xs:List V}{us:List Value}(h:Vals xs us):Vals xs.dropLast us.dropLast:=by
 induction h with
 | nil=>exact .nil
 | cons r t ih =>
  cases t with
  | nil=>exact .nil
  | cons q t'=>exact .cons r ih
theorem Vals.rep{xs:List V}{us:List Value}(h:Vals xs us):∀k:Nat,Vals (replicate k xs).flatten (replicate k us).flatten
 | 0=>.nil
 | k+1=>by
  rw[replicate_succ,replicate_succ,flatten_cons,flatten_cons]
  exact Vals.append h (Vals.rep h k)
theorem AcB{α:Type}(l:List α):l.eraseIdx (l.length - 1)=l.dropLast:=by
 induction l with
 | nil=>rfl
 | cons a r ih =>
  cases r with
  | nil=>rfl
  | cons b r =>
   have e:(a::b::r).length - 1=((b::r).length - 1)+1:=by
    have h1:(a::b::r).length=r.length+2:=rfl
    have h2:(b::r).length=r.length+1:=rfl
    omega
   rw[e,List.eraseIdx_cons_succ,ih]
   all_goals rfl
theorem Xt(its:List Value):∀(k:Nat) (acc:List Value),
  foldl (λx1 x2=>x1++x2) acc.toArray (replicate k its.toArray)=(acc++(replicate k its).flatten).toArray
 | 0,acc=>by simp
 | k+1,acc=>by
  have e:acc.toArray++its.toArray=(acc++its).toArray:=by simp
  have e2:(acc++its)++(replicate k its).flatten=acc++(replicate (k+1) its).flatten:=by
   rw[replicate_succ,flatten_cons,append_assoc]
  rw[<- e2,<- Xt its k (acc++its),<- e,replicate_succ,foldl_cons]
section
variable {X:Cx}{pins:List (Addr×Obj)}{σ:St}{H:Hp}{s:Shared}{l b:Addr}{xs ys zs:List V}
theorem Inv.lset{its its':List Value}{n:Nat}{f:Array Value->Array Value}{t':Nat}(I:Inv X pins σ H s)(hH:H l=some (.lst xs))
  (e:s.heap.get? l=some { cls:=.type "list",data:=.seq its.toArray n }) (hf:f its.toArray=its'.toArray) (hv:Vals ys its') (hz:ys.length<=sizeLine) :
  Inv X pins σ (upd H l (.lst ys)) { s with heap:=s.heap.update l (Obj.mapSeq f),toks:=t' }:=by
 have q:=PySem.IsL.update e f
 rw[hf] at q
 refine I.write (x:=l) (e:=l) (by rw[hH];exact trivial) (.inl rfl) (λb' u hb hu=>(Heap.get?_update_other s.heap (Obj.mapSeq f) (Ne.symm hb)).trans hu) ⟨_,q⟩ ?_
 exact⟨hz,its',_,hv,q⟩
theorem Inv.lnew{its:List Value}{t':Nat}(I:Inv X pins σ H s)(hv:Vals ys its)(hz:ys.length<=sizeLine) :
  Inv X pins σ (upd H s.heap.objs.size (.lst ys)) { s with heap:=s.heap.push { cls:=.type "list",data:=.seq its.toArray },toks:=t' } :=
 I.laid (λ_ _ q=>get?_push_of_some _ q) (Nat.le_refl _) ⟨hz,its,0,hv,get?_push_size _ rfl⟩
theorem Inv.fresh(I:Inv X pins σ H s):H s.heap.objs.size=none:=I.hok.fresh (Nat.le_refl _)
theorem Inv.lstM(I:Inv X pins σ H s)(hH:H l=some (.lst xs)):xs.length<=sizeLine/\∃(its:List Value) (n:Nat),Vals xs its/\xs.length=its.length/\s.heap.get? l=some { cls:=.type "list",data:=.seq its.toArray n }:=by
 obtain⟨z,its,n,r,e⟩:=I.hok l _ hH
 exact⟨z,its,n,r,r.length,e⟩
theorem Agy{n:Nat}(h:n<=sizeLine):Builtin.List.listTooLong n=false:=by
 unfold Builtin.List.listTooLong
 exact decide_eq_false (by omega)
end
section
variable {X:Cx}
def Ai8:V->List V->Hp->VK->Prop:=λx vs H Q=>∃l xs y,x=.ref l/\vs=[y]/\H l=some (.lst xs)/\xs.length<sizeLine/\Q .non (upd H l (.lst (xs++[y])))
theorem Xi:MtM X "list.append" Ai8:=by
 intro pins s σ H x vs v us Q I rx rv h
 obtain⟨l,xs,y,rfl,rfl,hH,hz,q⟩:=h
 cases rx
 obtain⟨u,rfl,ru⟩:=rv.one
 obtain⟨z,its,n,r,hl,e⟩:=I.lstM hH
 refine call_meets F.slot_list_append ⟨_,e,rfl⟩ F.entry_list_append (F.args_list_append_2 _ _) (PySem.list_append l its.toArray n u (by rw[size_toArray];omega)) ⟨e,?_⟩
 refine⟨.non,_,I.lset (its':=its++[u]) hH e (by simp) (r.append (.cons ru .nil)) ?_,rfl,q⟩
 rw[length_append,length_singleton]
 omega
def Aoj:V->List V->Hp->VK->Prop:=λx vs H Q=>∃l xs y,x=.ref l/\vs=[]/\H l=some (.lst xs)/\xs[xs.length - 1]? = some y/\Q y (upd H l (.lst xs.dropLast))
theorem Akm:MtM X "list.pop" Aoj:=by
 intro pins s σ H x vs v us Q I rx rv h
 obtain⟨l,xs,y,rfl,rfl,hH,hy,q⟩:=h
 cases rx
 have hus:=rv.zero
 subst hus
 obtain⟨z,its,n,r,hl,e⟩:=I.lstM hH
 obtain⟨u,hu,ru⟩:=r.get hy
 have hy':its.toArray[its.toArray.size - 1]? = some u:=by
  show its.toArray[its.length - 1]? = some u
  rw[<- Array.getElem?_toList,<- hl]
  exact hu
 refine call_meets F.slot_list_pop ⟨_,e,rfl⟩ F.entry_list_pop (F.args_list_pop_1 _) (MeetsSeq.list_pop_last l its.toArray n u hy' (by rw[size_toArray];omega)) ⟨e,?_⟩
 refine⟨y,_,I.lset (its':=its.dropLast) hH e ?_ r.dropLast ?_,ru,q⟩
 ·show its.toArray.eraseIdxIfInBounds (its.toArray.size - 1)=its.dropLast.toArray
  rw[size_toArray,List.eraseIdxIfInBounds_toArray,AcB]
 ·rw[List.length_dropLast]
  omega
def Aow:R2:=λx y H Q=>∃l b xs zs,x=.ref l/\y=.ref b/\H l=some (.lst xs)/\H b=some (.lst zs)/\xs.length+zs.length<=sizeLine/\∀p,H p=none->Q (.ref p) (upd H p (.lst (xs++zs)))
theorem Alu:OpR X (binaryOp .Add) Aow:=by
 intro pins s σ H x y v u Q I rx ry h
 obtain⟨l,b,xs,zs,rfl,rfl,hH,hB,hz,q⟩:=h
 cases rx
 cases ry
 obtain⟨z,its,n,r,hl,e⟩:=I.lstM hH
 obtain⟨z2,its2,n2,r2,hl2,e2⟩:=I.lstM hB
 refine PySem.P.add_list e e2 ?_ (by rw[size_toArray,size_toArray];omega)
 have ea:its.toArray++its2.toArray=(its++its2).toArray:=by simp
 rw[ea]
 exact⟨.ref _,_,I.lnew (t':=s.toks) (r.append r2) (by rw[length_append];omega),rfl,q _ I.fresh⟩
def Aol:R2:=λx y H Q=>∃l k xs,x=.ref l/\y=.int k/\H l=some (.lst xs)/\-(2^63)<=k/\k<2^63/\xs.length*k.toNat<=sizeLine /\
 ∀p,H p=none->Q (.ref p) (upd H p (.lst (replicate k.toNat xs).flatten))
theorem Ajd{α:Type}(xs:List α)(k:Nat):(replicate k xs).flatten.length=k*xs.length:=by
 induction k with
 | zero=>simp
 | succ k ih=>rw[replicate_succ,flatten_cons,length_append,ih,Nat.succ_mul,Nat.add_comm]
theorem Ale:OpR X (binaryOp .Mult) Aol:=by
 intro pins s σ H x y v u Q I rx ry h
 obtain⟨l,k,xs,rfl,rfl,hH,h1,h2,hz,q⟩:=h
 cases rx
 obtain⟨t,rfl⟩:=ry
 obtain⟨z,its,n,r,hl,e⟩:=I.lstM hH
 have hlen:its.toArray.size*k.toNat<=sizeLine:=by rw[size_toArray,<- hl];exact hz
 have hcap:¬its.toArray.size*k.toNat>(2^63 - 1) / 8:=by
  have:(sizeLine:Nat)<=(2^63 - 1) / 8:=by decide
  omega
 have hfit:¬(!Builtin.List.listFitsIndex k)=true:=by
  rw[fitsIndex_both h1 h2]
  exact Bool.false_ne_true
 have hlong:¬Builtin.List.listTooLong (its.toArray.size*k.toNat)=true:=by
  rw[Agy hlen]
  exact Bool.false_ne_true
 have hnew:foldl (λx1 x2=>x1++x2) #[] (replicate (if its.toArray.isEmpty=true then 0 else k.toNat) its.toArray)=(replicate k.toNat its).flatten.toArray:=by
  have f0:∀m:Nat,foldl (λx1 x2=>x1++x2) #[] (replicate m its.toArray)=(replicate m its).flatten.toArray:=λm=>by
   have:=Xt its m []
   rw[nil_append] at this
   exact this
  rw[f0]
  cases its with
  | nil=>simp
  | cons a r'=>rw[if_neg (by simp)]
 refine wpAny_binaryOp_repeat_ref (T:="list") (U:="int") (by decide) ⟨_,e,rfl⟩ (λs'=>typeIs_int s' k t) noFill_list_mul F.fills_int_mul F.slot_int_rmul repeat_list F.slot_int_index.lookup
  (call_meets F.slot_int_rmul (typeIs_int s k t) F.entry_int_rmul (F.args_int_rmul_2 _ _) (int___rmul___int_list k t l its.toArray n)
   ⟨e,rfl,⟨_,e,rfl⟩,call_meets F.slot_list_mul ⟨_,e,rfl⟩ F.entry_list_mul (F.args_list_mul_2 _ _) (AutoListH.list___mul___list_int_3 l its.toArray n k t hfit hcap hlong) ⟨e,?_⟩⟩)
 rw[hnew]
 exact⟨.ref _,_,I.lnew (t':=s.toks) (r.rep k.toNat) (by rw[Ajd,Nat.mul_comm];exact hz),rfl,q _ I.fresh⟩
end
section
variable {prog:Program}{w:World}{A:Around}{E:Value->Shared->Prop}{s:Shared}
set_option maxRecDepth 100000 in
end
section
variable {X:Cx}
end
section
variable {κ:Type} [DecidableEq κ]
def Cs(kvs:List (κ×V))(k:κ):Option V:=(kvs.find? λkv=>decide (kv.1=k)).map (·.2)
def Jk(kvs:List (κ×V))(k:κ)(v:V):List (κ×V) :=
 if (kvs.any λkv=>decide (kv.1=k))=true then kvs.map (λkv=>if kv.1=k then (kv.1,v) else kv) else kvs++[(k,v)]
theorem Ni{p:κ×V}{r:List (κ×V)}{k:κ}(e:p.1=k):Cs (p::r) k=some p.2:=by simp [Cs,find?_cons,e]
theorem Nf{p:κ×V}{r:List (κ×V)}{k:κ}(e:¬p.1=k):Cs (p::r) k=Cs r k:=by simp [Cs,find?_cons,e]
theorem Ru(k:κ):∀kvs:List (κ×V),(kvs.any λkv=>decide (kv.1=k))=(Cs kvs k).isSome
 | []=>rfl
 | p::r=>by
  rw[any_cons]
  by_cases e:p.1=k
  ·simp only [Ni e,decide_eq_true e,Bool.true_or,isSome_some]
  ·rw[Nf e,decide_eq_false e,Bool.false_or];exact Ru k r
theorem Ua(kvs:List (κ×V))(k:κ)(v:V):(Jk kvs k v).length<=kvs.length+1:=by
 unfold Jk
 split
 ·rw[length_map];omega
 ·rw[length_append,length_cons,length_nil];omega
theorem Nl{kvs:List (κ×V)}{k:κ}(v:V)(h:Cs kvs k=none):Jk kvs k v=kvs++[(k,v)]:=by
 unfold Jk
 rw[Ru,h]
 exact if_neg (by decide)
theorem RelO.isSome_eq{o:Option V}{u:Option Value}(r:RelO o u):o.isSome=u.isSome:=by
 cases o with
 | none=>cases u with
  | none=>rfl
  | some _=>exact (show False from r).elim
 | some _=>cases u with
  | none=>exact (show False from r).elim
  | some _=>rfl
theorem RelO.getD{o:Option V}{u:Option Value}{d:V}{d':Value}(r:RelO o u)(rd:RelV d d'):RelV (o.getD d) (u.getD d'):=by
 cases o with
 | none=>cases u with
  | none=>exact rd
  | some _=>exact (show False from r).elim
 | some _=>cases u with
  | none=>exact (show False from r).elim
  | some _=>exact r
theorem KV.val{kvs:List (κ×V)}{vs:List (κ×Value)}(r:KV kvs vs)(k:κ):RelO (Cs kvs k) (valueAt vs k):=by
 unfold KV at r
 induction r with
 | nil=>exact True.intro
 | @cons p q ps qs h t ih =>
  obtain⟨h1,h2⟩:=h
  by_cases e:p.1=k
  ·have e':q.1=k:=h1.symm.trans e
   have b:valueAt (q::qs) k=some q.2:=by simp [valueAt,find?_cons,e']
   rw[Ni e,b];exact h2
  ·have e':¬q.1=k:=λz=>e (h1.trans z)
   have b:valueAt (q::qs) k=valueAt qs k:=by simp [valueAt,find?_cons,e']
   rw[Nf e,b];exact ih
theorem KV.any{kvs:List (κ×V)}{vs:List (κ×Value)}(r:KV kvs vs)(k:κ):(kvs.any λkv=>decide (kv.1=k))=vs.any λkv=>decide (kv.1=k):=by
 unfold KV at r
 induction r with
 | nil=>rfl
 | cons h t ih=>rw[any_cons,any_cons,ih,h.1]
theorem KV.repl{kvs:List (κ×V)}{vs:List (κ×Value)}(r:KV kvs vs)(k:κ){y:V}{u:Value}(ry:RelV y u) :
  KV (kvs.map λkv=>if kv.1=k then (kv.1,y) else kv) (vs.map λkv=>if kv.1=k then (kv.1,u) else kv):=by
 unfold KV at r ⊢
 induction r with
 | nil=>exact .nil
 | @cons p q ps qs h t ih =>
  rw[map_cons,map_cons]
  refine .cons ?_ ih
  obtain⟨h1,h2⟩:=h
  by_cases e:p.1=k
  ·rw[if_pos e,if_pos (h1.symm.trans e)];exact⟨h1,ry⟩
  ·rw[if_neg e,if_neg (λz=>e (h1.trans z))];exact⟨h1,h2⟩
theorem KV.put{kvs:List (κ×V)}{vs:List (κ×Value)}(r:KV kvs vs)(k:κ){y:V}{u:Value}(ry:RelV y u):KV (Jk kvs k y) (stored vs k u):=by
 unfold Jk stored
 rw[r.any k]
 by_cases e:(vs.any λkv=>decide (kv.1=k))=true
 ·rw[if_pos e,if_pos e];exact r.repl k ry
 ·rw[if_neg e,if_neg e];exact Paired.snoc r ⟨rfl,ry⟩
theorem KV.keys{kvs:List (κ×V)}{vs:List (κ×Value)}(r:KV kvs vs):kvs.map (·.1)=vs.map (·.1):=by
 unfold KV at r
 induction r with
 | nil=>rfl
 | cons h t ih=>rw[map_cons,map_cons,ih,h.1]
theorem KV.length{kvs:List (κ×V)}{vs:List (κ×Value)}(r:KV kvs vs):kvs.length=vs.length:=Paired.length r
end
theorem Rl{P:Program}{w:World}{k:Key}{u:Value}(r:RelV (kV k) u):(Ds P w).is k u=true:=by
 cases k with
 | inl i=>obtain⟨t,e⟩:=(show ∃t,u=Value.int i t from r);subst e;exact AaS P w i t
 | inr x=>obtain⟨t,e⟩:=(show ∃t,u=Value.str x t from r);subst e;exact AaT P w x t
theorem Xr{P:Program}{w:World}:∀{ks:List Key} {us:List Value},Vals (ks.map kV) us->ItemsAre (Ds P w) ks us
 | [],_,r=>by rw[map_nil] at r;cases r;exact .nil
 | k::ks,_,r=>by
  rw[map_cons] at r
  cases r with
  | cons h t=>exact .cons (Rl h) (Xr t)
abbrev KT(H:Hp):List (List Key×V)->List (List Key×Addr×Value)->Prop:=Paired λp q=>p.1=q.1/\H q.2.1=some (.tup (p.1.map kV))/\RelV p.2 q.2.2
theorem KT.val{H:Hp}{kvs:List (List Key×V)}{xs:List (List Key×Addr×Value)}(r:KT H kvs xs)(k:List Key):RelO (Cs kvs k) ((atKey xs k).map (·.2)):=by
 induction r with
 | nil=>exact True.intro
 | @cons p q ps qs h t ih =>
  obtain⟨h1,_,h2⟩:=h
  by_cases e:p.1=k
  ·have e':q.1=k:=h1.symm.trans e
   have b:atKey (q::qs) k=some q.2:=by simp [atKey,find?_cons,e']
   rw[Ni e,b];exact h2
  ·have e':¬q.1=k:=λz=>e (h1.trans z)
   have b:atKey (q::qs) k=atKey qs k:=by simp [atKey,find?_cons,e']
   rw[Nf e,b];exact ih
theorem KT.repl{H:Hp}{kvs:List (List Key×V)}{xs:List (List Key×Addr×Value)}(r:KT H kvs xs)(k:List Key){y:V}{u:Value}(ry:RelV y u) :
  KT H (kvs.map λkv=>if kv.1=k then (kv.1,y) else kv) (xs.map (putAt k u)):=by
 induction r with
 | nil=>exact .nil
 | @cons p q ps qs h t ih =>
  rw[map_cons,map_cons]
  refine .cons ?_ ih
  obtain⟨h1,h2,h3⟩:=h
  unfold putAt
  by_cases e:p.1=k
  ·rw[if_pos e,if_pos (h1.symm.trans e)];exact⟨h1,h2,ry⟩
  ·rw[if_neg e,if_neg (λz=>e (h1.trans z))];exact⟨h1,h2,h3⟩
theorem KT.put{H:Hp}{kvs:List (List Key×V)}{xs:List (List Key×Addr×Value)}(r:KT H kvs xs)(k:List Key){b:Addr}{y:V}{u:Value}(hb:H b=some (.tup (k.map kV)))(ry:RelV y u) :
  KT H (Jk kvs k y) (storedH xs k b u):=by
 have e:(kvs.any λkv=>decide (kv.1=k))=(atKey xs k).isSome:=by
  rw[Ru,(r.val k).isSome_eq,isSome_map]
 unfold Jk storedH
 rw[e]
 by_cases q:(atKey xs k).isSome=true
 ·rw[if_pos q,if_pos q];exact r.repl k ry
 ·rw[if_neg q,if_neg q];exact Paired.snoc r ⟨rfl,hb,ry⟩
theorem KT.keeps{H H':Hp}{kvs:List (List Key×V)}{xs:List (List Key×Addr×Value)}(r:KT H kvs xs)(ht:∀b ys,H b=some (.tup ys)->H' b=some (.tup ys)):KT H' kvs xs :=
 Paired.mapP r λ_ _ z=>⟨z.1,ht _ _ z.2.1,z.2.2⟩
section
variable {P:Program}{w:World}{H:Hp}{h:Heap}{a:Addr}
theorem Ahu{u:HO}(ok:HOk P w H h)(e:Rd H a u):ObjOk P w H h a u:=e.ok ok
theorem Qh{kvs:List (Key×V)}(ok:HOk P w H h)(e:Rd H a (.dK kvs)):kvs.length<=sizeLine/\(a==sysModules)=false/\∃vs,KV kvs vs/\h.DictOf (Ds P w) a vs :=
 show ObjOk P w H h a (.dK kvs) from Ahu ok e
theorem Am1{kvs:List (Key×V)}(ok:HOk P w H h)(e:H a=some (.dK kvs)):kvs.length<=sizeLine/\(a==sysModules)=false/\∃vs,KV kvs vs/\h.DictOf (Ds P w) a vs:=Qh ok (.inl e)
theorem Qa{ks:List Key}(ok:HOk P w H h)(e:H a=some (.tup (ks.map kV))):(tupleKind (Ds P w)).is h ks a:=by
 obtain⟨_,its,r,o,h1,h2,n,h3⟩:=(show ObjOk P w H h a (.tup (ks.map kV)) from ok a _ e)
 exact⟨o,its.toArray,n,h1,h2,h3,by simpa using Xr r⟩
theorem Qk{kvs:List (List Key×V)}(ok:HOk P w H h)(e:Rd H a (.dT kvs)):kvs.length<=sizeLine/\(a==sysModules)=false /\
  ∃xs,KT H kvs xs/\h.DictOfH (tupleKind (Ds P w)) a xs:=by
 obtain⟨z,y,xs,r,o,es,ep,h1,h2,h3,h4,h5⟩:=(show ObjOk P w H h a (.dT kvs) from Ahu ok e)
 refine⟨z,y,xs,r,o,es,ep,h1,h2,h3,h4,λx hx=>?_,h5⟩
 have all:∀{l:List (List Key×V)} {m:List (List Key×Addr×Value)},KT H l m->∀x∈m,(tupleKind (Ds P w)).is h x.1 x.2.1:=by
  intro l m q
  induction q with
  | nil=>intro x hx;exact nomatch hx
  | @cons p q ps qs hq t ih =>
   intro x hx
   rcases mem_cons.mp hx with e | hx
   ·subst e
    exact Qa ok (by rw[<- hq.1];exact hq.2.1)
   ·exact ih x hx
 exact all r x hx
theorem Anl{kvs:List (List Key×V)}(ok:HOk P w H h)(e:H a=some (.dT kvs)):kvs.length<=sizeLine/\(a==sysModules)=false /\
  ∃xs,KT H kvs xs/\h.DictOfH (tupleKind (Ds P w)) a xs:=Qk ok (.inl e)
end
def DGet(H:Hp)(a:Addr)(y:V)(r:Option V):Prop :=
 (∃kvs k,Rd H a (.dK kvs)/\y=kV k/\r=Cs kvs k)\/∃kvs k b,Rd H a (.dT kvs)/\y=.ref b/\H b=some (.tup (k.map kV))/\r=Cs kvs k
def DPut(H:Hp)(a:Addr)(y v:V)(H':Hp):Prop :=
 (∃kvs k,H a=some (.dK kvs)/\y=kV k/\kvs.length<sizeLine/\H'=upd H a (.dK (Jk kvs k v))) \/
 ∃kvs k b,H a=some (.dT kvs)/\y=.ref b/\H b=some (.tup (k.map kV))/\kvs.length<sizeLine/\H'=upd H a (.dT (Jk kvs k v))
theorem DGet.k{H:Hp}{a:Addr}{kvs:List (Key×V)}{k:Key}(e:H a=some (.dK kvs)):DGet H a (kV k) (Cs kvs k):=.inl ⟨kvs,k,.inl e,rfl,rfl⟩
theorem DGet.t{H:Hp}{a b:Addr}{kvs:List (List Key×V)}{k:List Key}(e:H a=some (.dT kvs))(eb:H b=some (.tup (k.map kV))):DGet H a (.ref b) (Cs kvs k):=.inr ⟨kvs,k,b,.inl e,rfl,eb,rfl⟩
theorem DPut.k{H:Hp}{a:Addr}{kvs:List (Key×V)}{k:Key}{v:V}(e:H a=some (.dK kvs))(hl:kvs.length<sizeLine):DPut H a (kV k) v (upd H a (.dK (Jk kvs k v))):=.inl ⟨kvs,k,e,rfl,hl,rfl⟩
theorem DPut.t{H:Hp}{a b:Addr}{kvs:List (List Key×V)}{k:List Key}{v:V}(e:H a=some (.dT kvs))(eb:H b=some (.tup (k.map kV)))(hl:kvs.length<sizeLine) :
  DPut H a (.ref b) v (upd H a (.dT (Jk kvs k v))):=.inr ⟨kvs,k,b,e,rfl,eb,hl,rfl⟩
section
variable {X:Cx}{pins:List (Addr×Obj)}{σ:St}{H:Hp}{s:Shared}{a:Addr}{y v:V}{u r:Value}{o:Option V}{A:Around}{E:Value->Shared->Prop}
theorem Inv.big(I:Inv X pins σ H s):sysModules<s.heap.objs.size:=by
 have h:mainGlobals<s.heap.objs.size:=(I.mod.glob.keeps I.bk).lt
 exact Nat.lt_trans (by decide) h
theorem Ae2{Q:Value->Shared->Prop}(hu:A.units+1<cLine)(I:Inv X pins σ H s)(g:DGet H a y (some v))(ry:RelV y u)(h:∀w' s',Inv X pins σ H s'->RelV v w'->Q w' s') :
  wpAny (model X.prog X.w) A (getItem (.ref a) u) Q E s:=by
 rcases g with ⟨kvs,k,e,ey,l⟩ | ⟨kvs,k,b,e,ey,eb,l⟩
 ·subst ey
  obtain⟨z,hd,vs,rel,dd⟩:=Qh I.hok e
  obtain⟨w',hw,rw'⟩:=RelO.some_of (v:=v) (o:=valueAt vs k) (by rw[l];exact rel.val k)
  exact wpAny_getItem_of (Rl ry) dd.mapOf hw (h w' _ (I.tok _) rw')
 ·subst ey
  cases (show u=Value.ref b from ry)
  obtain⟨z,hd,xs,rel,dd⟩:=Qk I.hok e
  obtain⟨w',hw,rw'⟩:=RelO.some_of (v:=v) (o:=(atKey xs k).map (·.2)) (by rw[l];exact rel.val k)
  obtain⟨p,hp,hp2⟩:=map_eq_some_iff.mp hw
  refine wpAny_getItem_heap (tupleKind_room_in1 hu) (Qa I.hok eb) dd hp ?_
  rw[hp2]
  exact h w' _ (I.tok _) rw'
theorem Aox{Q:Value->Shared->Prop}(hu:A.units+1<cLine)(I:Inv X pins σ H s)(g:DGet H a y o)(ry:RelV y u)(h:∀s',Inv X pins σ H s'->Q (.bool o.isSome) s') :
  wpAny (model X.prog X.w) A (compareOp .In u (.ref a)) Q E s:=by
 rcases g with ⟨kvs,k,e,ey,l⟩ | ⟨kvs,k,b,e,ey,eb,l⟩
 ·subst ey
  obtain⟨z,hd,vs,rel,dd⟩:=Qh I.hok e
  refine wpAny_in_of (Rl ry) hd dd.mapOf ?_
  rw[<- (rel.val k).isSome_eq,<- l]
  exact h _ (I.tok _)
 ·subst ey
  cases (show u=Value.ref b from ry)
  obtain⟨z,hd,xs,rel,dd⟩:=Qk I.hok e
  refine wpAny_in_heap (tupleKind_room_in1 hu) (Qa I.hok eb) hd dd ?_
  have q:=(rel.val k).isSome_eq
  rw[isSome_map] at q
  rw[<- q,<- l]
  exact h _ (I.tok _)
theorem Ai6{Q:Value->Shared->Prop}(hu:A.units+1<cLine)(I:Inv X pins σ H s)(g:DGet H a y o)(ry:RelV y u)(h:∀s',Inv X pins σ H s'->Q (.bool (!o.isSome)) s') :
  wpAny (model X.prog X.w) A (compareOp .NotIn u (.ref a)) Q E s:=by
 rcases g with ⟨kvs,k,e,ey,l⟩ | ⟨kvs,k,b,e,ey,eb,l⟩
 ·subst ey
  obtain⟨z,hd,vs,rel,dd⟩:=Qh I.hok e
  refine wpAny_notIn_of (Rl ry) hd dd.mapOf ?_
  rw[<- (rel.val k).isSome_eq,<- l]
  exact h _ (I.tok _)
 ·subst ey
  cases (show u=Value.ref b from ry)
  obtain⟨z,hd,xs,rel,dd⟩:=Qk I.hok e
  refine wpAny_notIn_heap (tupleKind_room_in1 hu) (Qa I.hok eb) hd dd ?_
  have q:=(rel.val k).isSome_eq
  rw[isSome_map] at q
  rw[<- q,<- l]
  exact h _ (I.tok _)
theorem Aa1{h':Heap}{t':Nat}{ob:HO}(I:Inv X pins σ H s)(mu:Mut (H a))(hs:SameBut a s.heap h')(he:∃q,h'.get? a=some q)(new:ObjOk X.prog X.w (upd H a ob) h' a ob) :
  Inv X pins σ (upd H a ob) { s with heap:=h',toks:=t' } :=
 I.write (x:=a) (e:=a) mu (.inl rfl) (λb q hb z=>(hs.2 b hb).trans z) he new
theorem Amn{P:Program}{w:World}{H':Hp}{h':Heap}{kvs:List (Key×V)}{vs:List (Key×Value)}(z:kvs.length<=sizeLine)(hd:(a==sysModules)=false)(rel:KV kvs vs)(dd:h'.DictOf (Ds P w) a vs) :
  ObjOk P w H' h' a (.dK kvs):=⟨z,hd,vs,rel,dd⟩
theorem AdU{H':Hp}{Q:Unit->Shared->Prop}(hu:A.units+1<cLine)(I:Inv X pins σ H s)(g:DPut H a y v H')(ry:RelV y u)(rv:RelV v r)(h:∀s',Inv X pins σ H' s'->Q () s') :
  wpAny (model X.prog X.w) A (setItem (.ref a) u r) Q E s:=by
 rcases g with ⟨kvs,k,e,ey,l,eH⟩ | ⟨kvs,k,b,e,ey,eb,l,eH⟩
 ·subst ey eH
  obtain⟨z,hd,vs,rel,dd⟩:=Am1 I.hok e
  have hz:vs.length<=sizeLine:=by rw[<- rel.length];exact z
  have hl:(Jk kvs k v).length<=sizeLine:=by have:=Ua kvs k v;omega
  refine wpAny_setItem_pairs (hsz:=hz) (Rl ry) dd λh' dd' hs=>h _ ?_
  have he:∃q,h'.get? a=some q:=let ⟨q,_,_,hq,_⟩:=dd';⟨q,hq⟩
  exact Aa1 I (by rw[e];exact True.intro) hs he (Amn hl hd (rel.put k rv) dd')
 ·subst ey eH
  cases (show u=Value.ref b from ry)
  obtain⟨z,hd,xs,rel,dd⟩:=Anl I.hok e
  have hz:xs.length<=sizeLine:=by rw[<- Paired.length rel];exact z
  have hl:(Jk kvs k v).length<=sizeLine:=by have:=Ua kvs k v;omega
  refine wpAny_setItem_heap (hsz:=hz) (tupleKind_room_in1 hu) (Qa I.hok eb) dd λh' dd' hs=>h _ ?_
  obtain⟨q,es,ep,hq,h2,h3,h4,_,h5⟩:=dd'
  refine Aa1 I (by rw[e];exact True.intro) hs ⟨q,hq⟩ ⟨hl,hd,_,(rel.put k eb rv).keeps λc ys ec=>?_,q,es,ep,hq,h2,h3,h4,h5⟩
  rw[Bj (Fg ec e (λz=>nomatch z))]
  exact ec
end
section
variable {X:Cx}{pins:List (Addr×Obj)}{σ:St}{H:Hp}{s:Shared}{a:Addr}{kvs:List (Key×V)}{k:Key}{u:Value}{A:Around}{E:Value->Shared->Prop}
end
def AlJ(i:Expr):Prop:=∀ov iv,subscripted i false ov iv=operate [ov,iv] (getItem ov iv)
theorem Aix{prog:Program}{w:World}{A:Around}{E:Value->Shared->Prop}{s:Shared}{env:Env}{value slice:Expr}{pos:Pos}{T id:String}{Q:Value->Shared->Prop}
  (hl:typeLookup (.type T) "__getitem__"=pure (some (.builtin id))) (hs:AlJ slice)
  (h:wpAny (model prog w) A (eval value env) (λo s₁=>wpAny (model prog w) A (eval slice env) (λi s₂=>s₂.TypeIs o T/\wpAny (model prog w) A (getItem o i) Q E s₂) E s₁) E s) :
  wpAny (model prog w) A (eval (.Subscript value slice pos) env) Q E s:=by
 refine Subscript_ (wpAny_mono h (λo s₁ h₁=>wpAny_mono h₁ (λi s₂ h₂=>?_) λ_ _ x=>x) λ_ _ x=>x)
 obtain⟨hT,h₂⟩:=h₂
 unfold subscriptTail
 refine wpAny_bind ?_
 rw[getitemInPython_of_ne hT.not_modules]
 refine wpAny_bind (wpAny_specialOf hT hl ?_)
 have fin:wpAny (model prog w) A (subscripted slice false o i) (λr s₃=>wpAny (model prog w) A (letTemporaryGo value o r >>= λ_=>pure r) Q E s₃) E s₂:=by
  rw[hs o i]
  exact wpAny_operating (wpAny_mono h₂ (λr s₃ h₃=>wpAny_bind (wpAny_letTemporaryGo (wpAny_pure h₃))) λ_ _ x=>x)
 first
  | exact wpAny_pure (wpAny_bind fin)
  | exact wpAny_bind (wpAny_pure (wpAny_bind fin))
  | exact wpAny_bind fin
theorem AaR{X:Cx}{pins:List (Addr×Obj)}{σ:St}{H:Hp}{s:Shared}{a:Addr}{y:V}{o:Option V}(I:Inv X pins σ H s)(g:DGet H a y o):s.TypeIs (.ref a) "dict":=by
 rcases g with ⟨kvs,k,e,_,_⟩ | ⟨kvs,k,b,e,_,_,_⟩
 ·obtain⟨_,_,vs,_,dd⟩:=Qh I.hok e
  exact dd.typeIs
 ·obtain⟨_,_,xs,_,dd⟩:=Qk I.hok e
  exact dd.typeIs
def Yz(td ty:TE):TE:=λσ H Q=>td σ H λx H1=>ty σ H1 λy H2=>∃a v,x=.ref a/\DGet H2 a y (some v)/\Q v H2
def Agu(ty td:TE):TE:=λσ H Q=>ty σ H λy H1=>td σ H1 λx H2=>∃a o,x=.ref a/\DGet H2 a y o/\Q (.bl o.isSome) H2
def Abq(ty td:TE):TE:=λσ H Q=>ty σ H λy H1=>td σ H1 λx H2=>∃a o,x=.ref a/\DGet H2 a y o/\Q (.bl (!o.isSome)) H2
def Acc(td ty tv:TE):TS:=λD σ H=>tv σ H λv H1=>td σ H1 λx H2=>ty σ H2 λy H3=>∃a H4,x=.ref a/\DPut H3 a y v H4/\D.nx σ H4
section
variable {X:Cx}{o i e value:Expr}{pos pos' tpos:Pos}{td ty tv:TE}
theorem Qv(hu:X.A.units+1<cLine)(ho:PE X o td)(hi:PE X i ty)(hs:AlJ i):PE X (.Subscript o i pos) (Yz td ty):=by
 intro pins s σ H Q I h
 refine Aix PySem.F.slot_dict_getitem.lookup hs (thn (ho pins s σ H _ I h) λu s1 ⟨x,H1,I1,rx,q1⟩=>thn (hi pins s1 σ H1 _ I1 q1) λiv s2 ⟨y,H2,I2,ry,a,v,ex,g,q2⟩=>?_)
 subst ex
 obtain rfl:u=Value.ref a:=rx
 exact⟨AaR I2 g,Ae2 hu I2 g ry λw' s3 I3 rw'=>⟨v,H2,I3,rw',q2⟩⟩
theorem AeF(hu:X.A.units+1<cLine)(hi:PE X i ty)(ho:PE X o td):PC X .In i o (Agu ty td):=by
 intro pins s σ H Q I h
 refine thn (hi pins s σ H _ I h) λiv s1 ⟨y,H1,I1,ry,q1⟩=>thn (ho pins s1 σ H1 _ I1 q1) λu s2 ⟨x,H2,I2,rx,a,ov,ex,g,q2⟩=>?_
 subst ex
 obtain rfl:u=Value.ref a:=rx
 exact Aox hu I2 g ry λs3 I3=>⟨.bl ov.isSome,H2,I3,rfl,q2⟩
theorem Qi(hu:X.A.units+1<cLine)(hi:PE X i ty)(ho:PE X o td):PC X .NotIn i o (Abq ty td):=by
 intro pins s σ H Q I h
 refine thn (hi pins s σ H _ I h) λiv s1 ⟨y,H1,I1,ry,q1⟩=>thn (ho pins s1 σ H1 _ I1 q1) λu s2 ⟨x,H2,I2,rx,a,ov,ex,g,q2⟩=>?_
 subst ex
 obtain rfl:u=Value.ref a:=rx
 exact Ai6 hu I2 g ry λs3 I3=>⟨.bl (!ov.isSome),H2,I3,rfl,q2⟩
theorem Gv(hu:X.A.units+1<cLine)(ho:PE X o td)(hi:PE X i ty)(hv:PE X value tv)(hs:swapsWith value (some (.Subscript o i pos')) pos.line X.env=pure false) :
  PS X (.Assign [.Subscript o i pos'] value pos) (Acc td ty tv):=by
 intro pins s σ H D I h
 refine wpAny_Assign_Subscript (thn (hv pins s σ H _ I h) λr s1 ⟨v,H1,I1,rv,q1⟩=>thn (ho pins s1 σ H1 _ I1 q1) λu s2 ⟨x,H2,I2,rx,q2⟩=>thn (hi pins s2 σ H2 _ I2 q2) λiv s3 ⟨y,H3,I3,ry,a,H4,ex,g,q3⟩=>?_) hs
 subst ex
 obtain rfl:u=Value.ref a:=rx
 exact AdU hu I3 g ry rv λs4 I4=>⟨σ,H4,I4,q3⟩
end
theorem Ago{P:Program}{w:World}{H:Hp}(h:Heap)(hb:sysModules<h.objs.size):ObjOk P w H (h.push { cls:=.type "dict",data:=.dict #[] }) h.objs.size (.dK []) :=
 ⟨zero_le _,beq_eq_false_iff_ne.mpr (Ne.symm (ne_of_lt hb)),[],.nil,Heap.DictOf.new h⟩
theorem Agk{P:Program}{w:World}{H:Hp}(h:Heap)(hb:sysModules<h.objs.size):ObjOk P w H (h.push { cls:=.type "dict",data:=.dict #[] }) h.objs.size (.dT []) :=
 ⟨zero_le _,beq_eq_false_iff_ne.mpr (Ne.symm (ne_of_lt hb)),[],.nil,_,#[],0,get?_push_size _ rfl,⟨rfl,rfl,rfl⟩,rfl,rfl,nodup_nil⟩
def Aak:TE:=λ_ H Q=>∀p,H p=none->Q (.ref p) (upd H p (.dK []))
def Adg:TE:=λ_ H Q=>∀p,H p=none->Q (.ref p) (upd H p (.dT []))
section
variable {X:Cx}{pos:Pos}
theorem Ls:PE X (.Dict [] [] pos) Aak:=λpins s σ H Q I h =>
 wpAny_Dict_empty ⟨.ref s.heap.objs.size,_,I.laid (a:=s.heap.objs.size) (o:=.dK []) (t':=s.toks) (λ_ _ q=>get?_push_of_some _ q) (Nat.le_refl _) (Ago s.heap I.big),rfl,h _ (I.hok.fresh (Nat.le_refl _))⟩
theorem Afj:PE X (.Dict [] [] pos) Adg:=λpins s σ H Q I h =>
 wpAny_Dict_empty ⟨.ref s.heap.objs.size,_,I.laid (a:=s.heap.objs.size) (o:=.dT []) (t':=s.toks) (λ_ _ q=>get?_push_of_some _ q) (Nat.le_refl _) (Agk s.heap I.big),rfl,h _ (I.hok.fresh (Nat.le_refl _))⟩
end
structure M1(X:Cx)(o:Expr)(m:Str)(apos:Pos)(e:Expr)(cpos:Pos):Prop where
 base:attributeBase o m X.env (eval o X.env)=eval o X.env
 few:((backTo cpos (starEach [e] X.env)).all (λx=>!x.1)&&(backToKw cpos (keywordEach [] X.env)).all (λx=>x.1.isSome)
  && decide (([e]:List Expr).length+([]:List Keyword).length+(if ([]:List Keyword).isEmpty then 0 else 1)<30))=true
 line:(apos.endLine==cpos.line)=true
 trees:backTo cpos (starEach [e] X.env)=[(false,eval e X.env)]
structure M2(X:Cx)(o:Expr)(m:Str)(apos:Pos)(e f:Expr)(cpos:Pos):Prop where
 base:attributeBase o m X.env (eval o X.env)=eval o X.env
 few:((backTo cpos (starEach [e,f] X.env)).all (λx=>!x.1)&&(backToKw cpos (keywordEach [] X.env)).all (λx=>x.1.isSome)
  && decide (([e,f]:List Expr).length+([]:List Keyword).length+(if ([]:List Keyword).isEmpty then 0 else 1)<30))=true
 line:(apos.endLine==cpos.line)=true
 trees:backTo cpos (starEach [e,f] X.env)=[(false,eval e X.env),(false,eval f X.env)]
def IsD(H:Hp)(a:Addr):Prop:=(∃kvs,Rd H a (.dK kvs))\/∃kvs,Rd H a (.dT kvs)
theorem Ac6{X:Cx}{pins:List (Addr×Obj)}{σ:St}{H:Hp}{s:Shared}{a:Addr}(I:Inv X pins σ H s)(d:IsD H a) :
  s.TypeIs (.ref a) "dict"/\(∀b,Value.ref a=.ref b->∃ob,s.heap.get? b=some ob/\ob.dict=none)/\(a==sysModules)=false:=by
 rcases d with ⟨kvs,e⟩ | ⟨kvs,e⟩
 ·obtain⟨_,hd,vs,_,dd⟩:=Qh I.hok e
  refine⟨dd.typeIs,λb q=>?_,hd⟩
  cases q
  obtain⟨ob,_,_,h1,h2,_⟩:=dd
  exact⟨ob,h1,h2.2.1⟩
 ·obtain⟨_,hd,xs,_,dd⟩:=Qk I.hok e
  refine⟨dd.typeIs,λb q=>?_,hd⟩
  cases q
  obtain⟨ob,_,_,h1,h2,_⟩:=dd
  exact⟨ob,h1,h2.2.1⟩
section
variable {X:Cx}{pins:List (Addr×Obj)}{σ:St}{H:Hp}{s:Shared}{a:Addr}{y d:V}{u r:Value}{o:Option V}{A:Around}{E:Value->Shared->Prop}
theorem AkQ{Q:Value->Shared->Prop}(hu:A.units+1<cLine)(I:Inv X pins σ H s)(g:DGet H a y o)(ry:RelV y u)(h:∀w' s',Inv X pins σ H s'->RelV (o.getD .non) w'->Q w' s') :
  wpAny (model X.prog X.w) A (call (.builtin "dict.get") [.ref a,u]) Q E s:=by
 rcases g with ⟨kvs,k,e,ey,l⟩ | ⟨kvs,k,b,e,ey,eb,l⟩
 ·subst ey
  obtain⟨z,hd,vs,rel,dd⟩:=Qh I.hok e
  refine call_meetsIn slot_dict_get dd.typeIs entry_dict_get (PySem.F.args_dict_get_2 _ _) (meets_dict_get (Ds X.prog X.w) a (Rl ry) hd) ⟨_,dd.mapOf,h _ _ (I.tok _) ?_⟩
  rw[l]
  exact (rel.val k).getD rfl
 ·subst ey
  cases (show u=Value.ref b from ry)
  obtain⟨z,hd,xs,rel,dd⟩:=Qk I.hok e
  refine call_meetsIn slot_dict_get dd.typeIs entry_dict_get (PySem.F.args_dict_get_2 _ _) (meetsH_dict_get (tupleKind (Ds X.prog X.w)) a b hd) ⟨tupleKind_room_in1 hu,k,xs,Qa I.hok eb,dd,h _ _ (I.tok _) ?_⟩
  rw[l]
  exact (rel.val k).getD rfl
theorem AmA{Q:Value->Shared->Prop}(hu:A.units+1<cLine)(I:Inv X pins σ H s)(g:DGet H a y o)(ry:RelV y u)(rd:RelV d r)(h:∀w' s',Inv X pins σ H s'->RelV (o.getD d) w'->Q w' s') :
  wpAny (model X.prog X.w) A (call (.builtin "dict.get") [.ref a,u,r]) Q E s:=by
 rcases g with ⟨kvs,k,e,ey,l⟩ | ⟨kvs,k,b,e,ey,eb,l⟩
 ·subst ey
  obtain⟨z,hd,vs,rel,dd⟩:=Qh I.hok e
  refine call_meetsIn slot_dict_get dd.typeIs entry_dict_get (PySem.F.args_dict_get_3 _ _ _) (meets_dict_get_default (Ds X.prog X.w) a (Rl ry) hd r) ⟨_,dd.mapOf,h _ _ (I.tok _) ?_⟩
  rw[l]
  exact (rel.val k).getD rd
 ·subst ey
  cases (show u=Value.ref b from ry)
  obtain⟨z,hd,xs,rel,dd⟩:=Qk I.hok e
  refine call_meetsIn slot_dict_get dd.typeIs entry_dict_get (PySem.F.args_dict_get_3 _ _ _) (meetsH_dict_get_default (tupleKind (Ds X.prog X.w)) a b hd r) ⟨tupleKind_room_in1 hu,k,xs,Qa I.hok eb,dd,h _ _ (I.tok _) ?_⟩
  rw[l]
  exact (rel.val k).getD rd
end
def AeI(td ty:TE):TE:=λσ H Q=>td σ H λx H1=>∃a,x=.ref a/\IsD H1 a/\ty σ H1 λy H2=>∃o,DGet H2 a y o/\Q (o.getD .non) H2
def Zp(td ty tx:TE):TE:=λσ H Q=>td σ H λx H1=>∃a,x=.ref a/\IsD H1 a/\ty σ H1 λy H2=>tx σ H2 λz H3=>∃o,DGet H3 a y o/\Q (o.getD z) H3
section
variable {X:Cx}{o e f:Expr}{apos cpos:Pos}{td ty tx:TE}
theorem Afp(hu:X.A.units+1<cLine)(ho:PE X o td)(he:PE X e ty)(m:M1 X o "get" apos e cpos):PE X (.Call (.Attribute o "get" apos) [e] [] cpos) (AeI td ty):=by
 intro pins s σ H Q I h
 refine wpAny_Call_method m.base m.few m.line plainAttrs_dict slot_dict_get type_dict_get (thn (ho pins s σ H _ I h) λu s1 ⟨x,H1,I1,rx,a,ex,d,q1⟩=>?_)
 subst ex
 obtain rfl:u=Value.ref a:=rx
 obtain⟨t1,t2,_⟩:=Ac6 I1 d
 refine⟨t1,t2,?_⟩
 rw[m.trees]
 refine Calls.callWith_builtin rfl (Calls.evalArgs_plain (Calls.spliced_cons (thn (he pins s1 σ H1 _ I1 q1) λiv s2 ⟨y,H2,I2,ry,ov,g,q2⟩=>Calls.spliced_nil ?_)))
 exact AkQ hu I2 g ry λw' s3 I3 rw'=>⟨_,H2,I3,rw',q2⟩
theorem Ot(hu:X.A.units+1<cLine)(ho:PE X o td)(he:PE X e ty)(hf:PE X f tx)(m:M2 X o "get" apos e f cpos):PE X (.Call (.Attribute o "get" apos) [e,f] [] cpos) (Zp td ty tx):=by
 intro pins s σ H Q I h
 refine wpAny_Call_method m.base m.few m.line plainAttrs_dict slot_dict_get type_dict_get (thn (ho pins s σ H _ I h) λu s1 ⟨x,H1,I1,rx,a,ex,d,q1⟩=>?_)
 subst ex
 obtain rfl:u=Value.ref a:=rx
 obtain⟨t1,t2,_⟩:=Ac6 I1 d
 refine⟨t1,t2,?_⟩
 rw[m.trees]
 refine Calls.callWith_builtin rfl (Calls.evalArgs_plain (Calls.spliced_cons (thn (he pins s1 σ H1 _ I1 q1) λiv s2 ⟨y,H2,I2,ry,q2⟩ =>
  Calls.spliced_cons (thn (hf pins s2 σ H2 _ I2 q2) λfv s3 ⟨z,H3,I3,rz,ov,g,q3⟩=>Calls.spliced_nil ?_))))
 exact AmA hu I3 g ry rz λw' s4 I4 rw'=>⟨_,H3,I4,rw',q3⟩
end
section
variable {X:Cx}{pins:List (Addr×Obj)}{σ:St}{H:Hp}{s:Shared}{a:Addr}{kvs:List (Key×V)}{A:Around}{E:Value->Shared->Prop}
end
section
variable {X:Cx}{pins:List (Addr×Obj)}{σ:St}{H:Hp}{s:Shared}{a:Addr}{y:V}{u:Value}{A:Around}{E:Value->Shared->Prop}
end
end L2
namespace Att
open PySem PySem.W PySem.Calls PyProof.Rows
theorem Wf{P:Params}{h:Heap}:∀(ns:List Int) (vs:List Value),WellAll P h vs (ns.map WData.int)->IntsAre vs ns:=by
 intro ns
 induction ns with
 | nil =>
  intro vs w
  rw[map_nil] at w
  cases w
  exact .nil
 | cons n ns ih =>
  intro vs w
  rw[map_cons] at w
  cases w with
  | cons a b =>
   cases a
   exact .cons _ _ (ih _ b)
theorem Aeo{l:OpenLaw}{n:Nat}(hn:l.most=some n){P:Params}{h:Heap}{args:List WData}{vals:List Value}
  (hpre:l.row.toRowW.claim.pre args=true) (hwl:WellAll P h vals args) :
  ∃a vs ns,vals=[Value.ref a]/\args=[WData.list (ns.map WData.int)]/\h.get? a=some { cls:=.type "list",data:=.seq vs.toArray }/\IntsAre vs ns/\ns.length<=n:=by
 have hsh:WShape.hasAll [] args [.list .int]=true:=(pre_splitW hpre).1
 have hc:l.pre.holds [] { args:=args }=true:=(pre_splitW hpre).2
 obtain⟨d,r,rfl,h1,h2⟩:=hasAllW_cons hsh
 obtain rfl:=hasAllW_nil h2
 obtain⟨xs,rfl,h3⟩:=hasW_list h1
 obtain⟨ns,rfl⟩:=items_int h3
 have hlen:ns.length<=n:=by
  unfold OpenLaw.pre at hc
  have h4:(WTm.not (.lt (.lit (.int (n:Int))) (.len (.arg 0)))).holds [] { args:=[.list (ns.map .int)] }=true:=by
   have h4:=(holds_andW hc).1
   rw[hn] at h4
   exact h4
  have h5:=condW_of h4 (w_not (w_lt w_lit (w_len_list (w_arg rfl))))
  rw[length_map] at h5
  refine Nat.le_of_not_lt λq=>?_
  have q':(n:Int)<((ns.length:Nat):Int):=by omega
  first
   | (rw[decide_eq_true q'] at h5;exact absurd h5 (by decide))
   | (simp at h5;omega)
 cases hwl with
 | cons w1 w2 =>
  cases w2
  cases w1 with
  | list ho hall=>exact⟨_,_,ns,rfl,rfl,ho,Wf ns _ hall,hlen⟩
theorem AdN(l:OpenLaw)(args:List WData):l.row.toRowW.claim.post args (.bool true) args=true :=
 postW_of (r:=l.row.toRowW) (X:=(true==true))
  (show WShape.has [] (.bool true) .bool=true by first | rfl | decide | simp [WShape.has,WShape.arms,WShape.armsAll])
  (show (WTm.eq .res (.lit (.bool true))).value [] { args:=args,res:=some (.bool true),after:=args }=some (.bool (true==true)) from w_eq_bool (w_res rfl) w_lit) rfl
theorem attach_call{l:OpenLaw}{n:Nat}{q:Program}{loose:List Str}{XP:(Str->Option Value)->Heap->Prop}{YP:World->Heap->Prop}{d:DefRec}
  (hn:l.most=some n) (hdf:d.params.defaults=[])
  (call:∀(w:World) (s₀ s₁:Shared) (mg mb:Str->Option Value) (fa:Addr) (o:Obj) (pm cd doc:Value) (a:Addr) (vs:List Value) (ns:List Int),
   Ground q loose [] XP w s₀ mg mb s₁.heap->YP w s₁.heap ->
   s₁.heap.get? fa=some o->o.data=.func (docDef d.name d.params d.body d.scope pm cd doc)->s₁.heap.CodeRec cd d.name->mg d.name=some (.ref fa) ->
   s₁.heap.get? a=some { cls:=.type "list",data:=.seq vs.toArray }->IntsAre vs ns->ns.length<=n->s₁.gens = #[] ->
   codeAny (model l.prog w) callerA (.call (.ref fa) ⟨[.ref a],[]⟩) (λr s'=>r=.ok (.ret (.bool true))/\OldK s₁.heap s'.heap/\s'.os=s₁.os/\AllBare s'.gens) s₁) :
  WalkO q loose XP YP l.row.toRowW d [] (λf vs=>PySem.call f vs):=by
 intro w s₀ s₁ mg mb G Y fa o pm cd doc dV kV ho hd hcd hD hmg hg args vals as hpre hlay hrd hwl hlo
 obtain rfl:dV=.none:=Dflts.none hD hdf
 obtain rfl:kV=.none:=Dflts.noKw hD
 obtain⟨a,vs,ns,rfl,rfl,hobj,hints,hlen⟩:=Aeo hn hpre hwl
 refine enter_call (codeAny_mono (call w s₀ s₁ mg mb fa o pm cd doc a vs ns G Y ho (fd_plain hd) hcd hmg hobj hints hlen hg) λr s' hq=>?_)
 obtain⟨rfl,h2,h3,h4⟩:=hq
 exact⟨.inl ⟨.bool true,.bool true,[],rfl,λ_=>rfl,.bool true,AdN l _,λ_=>⟨Pairwise.nil,λ_ hm=>(nomatch hm)⟩⟩,h2,h3,h4⟩
section
variable {prog:Program}{w:World}{A:Around}{E:Value->Shared->Prop}{s:Shared}{K:Frag}
end
end Att
namespace L2
open PySem PySem.Spec PyProof.Rows
theorem Xz:∀{vs:List Value} {ns:List Int},IntsAre vs ns->Vals (ns.map V.int) vs
 | _,_,.nil=>.nil
 | _,_,.cons n t h=>.cons ⟨t,rfl⟩ (Xz h)
def AgF(H:Hp):Prop:=∀b,H b=none\/∃o xs,H b=some (.frz o (.lst xs))
theorem AfO{P:Program}{w:World}{K:Frag}{mg mb:Str->Option Value}{CX:CXT}{k:Nat}{fa a:Addr}{fd:FuncData}{x:Str}{sp:Sp}{s₁:Shared}{vs:List Value}{ns:List Int}
  (KX:K.In s₁.heap) (hns:s₁.heap.Ns mainGlobals mg) (hb:s₁.heap.Ns builtinsNs mb) (hbb:∀x:Str,x≠"__name__"->mb x=bootBuiltins x) (hlim:s₁.heap.NoLimit) (hg:s₁.gens = #[])
  (ha:s₁.heap.get? a=some { cls:=.type "list",data:=.seq vs.toArray }) (hi:IntsAre vs ns) (hl:ns.length<=sizeLine) (hr:Room k callerA)
  (F:∀base:Heap,K.In base->base.Ns mainGlobals mg->FnOk P w K mg base CX k fa fd [x] sp) (hbind:∀(s:Shared) (u:Value),BindsTo s fd ⟨[u],[]⟩ [(x,u)])
  (hsp:∀H:Hp,AgF H->SqL K H a (ns.map V.int)->sp [.ref a] H (λv _=>v=.bl true) λ_ _ _=>False)
  (hCX:∀H e s',CX [] H s₁ (λ_ _ _=>False) e s'->False) :
  codeAny (model P w) callerA (.call (.ref fa) ⟨[.ref a],[]⟩) (λr s'=>r=.ok (.ret (.bool true))/\OldK s₁.heap s'.heap/\s'.os=s₁.os/\AllBare s'.gens) s₁:=by
 have rv:=Xz hi
 have lenV:=hi.length
 -- from an abstract heap in which nothing but the script may be tracked
 have core:∀H:Hp,AgF H->SqL K H a (ns.map V.int)->HOk P w H s₁.heap->(∀b,H b≠none->b=a)->(H a≠none->K.lookup a=none) ->
   codeAny (model P w) callerA (.call (.ref fa) ⟨[.ref a],[]⟩) (λr s'=>r=.ok (.ret (.bool true))/\OldK s₁.heap s'.heap/\s'.os=s₁.os/\AllBare s'.gens) s₁:=by
  intro H hO hS hok hA hK
  have base_of:∀{b:Addr} {o:Obj},s₁.heap.get? b=some o->H b=none->(Rn s₁.heap H).get? b=some o:=λe n=>Af8 e n
  have noA:∀{b:Addr} {o:Obj} {es:Array DictEntry} {ep:Nat},s₁.heap.get? b=some o->o.data=.dict es ep->H b=none:=λ{b o es ep} e d=>by
   cases q:H b with
   | none=>rfl
   | some u =>
    have e':b=a:=hA b (by rw[q];simp)
    subst e'
    rw[ha] at e;cases e
    have d':Data.seq vs.toArray _=Data.dict es ep:=d
    cases d'
  have nsK:∀{b:Addr} {m:Str->Option Value},s₁.heap.Ns b m->(Rn s₁.heap H).Ns b m:=λ{b m} ⟨o,es,ep,e,d,r⟩=>⟨o,es,ep,base_of e (noA e d),d,r⟩
  have hKb:K.In (Rn s₁.heap H):=λb o e=>base_of (KX b o e) (by
   cases q:H b with
   | none=>rfl
   | some u =>
    have e':b=a:=hA b (by rw[q];simp)
    subst e'
    rw[hK (by rw[q];simp)] at e;cases e)
  have hM:Mod K mg (Rn s₁.heap H):=⟨hKb,nsK hns,⟨mb,nsK hb,hbb⟩,let ⟨mc,h1,h2⟩:=hlim;⟨mc,nsK h1,h2⟩⟩
  have e0:Env0 P w K mg (Rn s₁.heap H) callerA [] s₁ H:=⟨rfl,hM,λb o e=>AiI e,Nat.le_of_eq (AdI _ _),trivial,λb hb=>absurd (show b∈([]:List Addr) from hb) (by simp),hok,.of_eq hg⟩
  refine codeAny_mono ((F _ hKb (nsK hns)).run callerA [] s₁ H ⟨[.ref a],[]⟩ [.ref a] [.ref a] _ _ hr e0 (hbind s₁ (.ref a)) (.cons rfl .nil) (hsp H hO hS)) λr s' h=>?_
  cases r with
  | error e=>exact (hCX H e s' h).elim
  | ok fl =>
   cases fl with
   | next=>exact False.elim h
   | brk=>exact False.elim h
   | cont=>exact False.elim h
   | ret u =>
    obtain⟨v,H',os,bare,un,hok',r',q⟩:=h
    have q':v=.bl true:=q
    subst q'
    obtain rfl:u=Value.bool true:=r'
    refine⟨rfl,OldK.of_keep λb o e=>?_,os,bare⟩
    cases q:H b with
    | none=>exact un.keep b o e q (by intro z;exact absurd (show b∈([]:List Addr) from z) (by simp)) (by simp)
    | some u =>
     rcases hO b with z | ⟨ob,xs,z⟩
     ·rw[q] at z;cases z
     ·have z2:=un.frzs b ob _ z
      obtain⟨e1,_⟩:=hok b _ z
      obtain⟨e2,_⟩:=hok' b _ z2
      rw[e] at e1;cases e1
      exact e2
 cases hk:K.lookup a with
 | some o =>
  -- the script is one of the module's own objects
  have e:=KX a o hk
  rw[ha] at e
  cases e
  refine core (λ_=>none) (λ_=>.inl rfl) (.inr ⟨_,vs.toArray,_,hk,rfl,rfl,rfl,by rw[size_toArray,lenV];exact hl,by simpa using rv⟩) (λb u z=>by have z':(none:Option HO)=some u:=z;cases z') (λb z=>absurd rfl z) λz=>absurd rfl z
 | none =>
  refine core (λb=>if b=a then some (.frz { cls:=.type "list",data:=.seq vs.toArray } (.lst (ns.map V.int))) else none) (λb=>?_) (.inl (.inr ⟨{ cls:=.type "list",data:=.seq vs.toArray },if_pos rfl⟩)) (λb u z=>?_) (λb z=>?_) λ_=>hk
  ·by_cases hb:b=a
   ·exact .inr ⟨_,_,if_pos hb⟩
   ·exact .inl (if_neg hb)
  ·by_cases hb:b=a
   ·have z':=(if_pos hb).symm.trans z
    cases z'
    subst hb
    exact⟨ha,by rw[length_map];exact hl,vs,_,rv,ha⟩
   ·have z':=(if_neg hb).symm.trans z
    cases z'
  ·by_cases hb:b=a
   ·exact hb
   ·exact absurd (if_neg hb) z
theorem AoU{l:PySem.W.OpenLaw}{n k:Nat}{q:Program}{loose:List Str}{XP:(Str->Option Value)->Heap->Prop}{YP:World->Heap->Prop}{d:DefRec}{K:Params->Frag}{CX:World->CXT}{sp:World->Sp}{x:Str}
  (hn:l.most=some n) (hn2:n<=sizeLine) (hdf:d.params.defaults=[]) (hr:Room k callerA)
  (hY:∀(w:World) (h:Heap),YP w h->(K w.params).In h)
  (F:∀(w:World) (mg:Str->Option Value) (fa:Addr) (h:Heap),(K w.params).In h->h.Ns mainGlobals mg->mg d.name=some (.ref fa) ->
   ∃fd:FuncData,(∀(s:Shared) (u:Value),BindsTo s fd ⟨[u],[]⟩ [(x,u)]) /\
    ∀base:Heap,(K w.params).In base->base.Ns mainGlobals mg->FnOk l.prog w (K w.params) mg base (CX w) k fa fd [x] (sp w))
  (hsp:∀(w:World) (H:Hp) (a:Addr) (ns:List Int),ns.length<=n->AgF H->SqL (K w.params) H a (ns.map V.int)->sp w [.ref a] H (λv _=>v=.bl true) λ_ _ _=>False)
  (hCX:∀(w:World) (H:Hp) (s:Shared) (e:Value) (s':Shared),CX w [] H s (λ_ _ _=>False) e s'->False) :
  PySem.W.WalkO q loose XP YP l.row.toRowW d [] (λf vs=>PySem.call f vs):=by
 refine Att.attach_call hn hdf λw s₀ s₁ mg mb fa o pm cd doc a vs ns G Y ho hd hcd hmg hobj hints hlen hg=>?_
 have KX:=hY w _ Y
 obtain⟨fd,hb,hF⟩:=F w mg fa _ KX G.T.g hmg
 exact AfO KX G.T.g G.T.b G.T.builtins G.T.nolimit hg hobj hints (Nat.le_trans hlen hn2) hr hF hb (λH hO hS=>hsp w H a ns hlen hO hS) λH e s'=>hCX w H s₁ e s'
def Wk(s:Stmt)(j:Nat):Stmt:=match s with
 | .ClassDef _ _ _ body _ _ _ _ _ _ _=>body.getD j (.Pass ⟨0,0,0,0⟩)
 | _=>.Pass ⟨0,0,0,0⟩
def Js(s:Stmt):Arguments:=match s with
 | .FunctionDef _ a _ _ _ _ _ _ _ _=>a
 | _=>{ posonlyargs:=[],args:=[],vararg:=none,kwonlyargs:=[],kw_defaults:=[],kwarg:=none,defaults:=[] }
def Gr(s:Stmt):List Stmt:=match s with
 | .FunctionDef _ _ b _ _ _ _ _ _ _=>b
 | _=>[]
def Bs(s:Stmt):Scope:=match s with
 | .FunctionDef _ _ _ _ _ _ sc _ _ _=>sc
 | _=>{ kind:=.function,names:=[],isGenerator:=false,isCoroutine:=false }
abbrev CX0:CXT:=λ_ _ _ _ _ _=>False
abbrev E0:XK:=λ_ _ _=>False
theorem Bw{X:Cx}:Qw CX0 X E0:=λ_ _ _ _ _ _ _ h=>h.elim
structure Fun(K:Frag)(x qual:Str)(st:Stmt)(f:Addr)(fd:FuncData):Prop where
 ex:∃(oc:Value) (od:Option Addr) (kV doc pm:Value) (an:Option Addr) (cdv ct:Value) (osl:Array (Option Value)),
  fd=fnOf x qual (Js st) (Gr st) (Bs st) .none kV doc pm an cdv ct/\K.lookup f=some ⟨oc,od,.func fd,osl⟩/\codeIn K cdv qual=true
 kp:keepIn K (.ref f)=true
section
variable {P:Program}{w:World}{K:Frag}{mg:Str->Option Value}{base:Heap}
theorem Fun.ok{x qual:Str}{st:Stmt}{f:Addr}{fd:FuncData}{N ps:List Str}{k:Nat}{sp:Sp}(F:Fun K x qual st f fd)(S:Cd N ps (Bs st))(len:∀vs H Q E,sp vs H Q E->vs.length=ps.length)
  (hbody:∀(cdv:Value) (A:Around) (outer:List Env) (s:Shared) (H:Hp) (vs:List V) (Q:VK) (E:XK),Room k (A.deeper (envOfC qual (Bs st) s.heap.objs.size f cdv))->sp vs H Q E ->
   ∃t,PSs (Sq CX0 P w K mg base N qual (Bs st) f cdv A outer s H E).nox (Gr st) t/\t { nx:=λ_ H'=>Q .non H',rt:=Q } (Ob N vs) H):FnOk P w K mg base CX0 (k+1) f fd ps sp:=by
 obtain⟨oc,od,kV,doc,pm,an,cdv,ct,osl,rfl,lk,hcd⟩:=F.ex
 refine Aik lk hcd S len λA outer s H vs Q E hr hsp=>?_
 obtain⟨t,h,q⟩:=hbody cdv A outer s H vs Q E hr hsp
 exact⟨t,h.nox,q⟩
theorem Fun.binds{x qual:Str}{st:Stmt}{f:Addr}{fd:FuncData}{ps:List Str}(F:Fun K x qual st f fd)
  (h:∀(kV doc pm:Value) (an:Option Addr) (cdv ct:Value) (us:List Value),us.length=ps.length->bindArgs (fnOf x qual (Js st) (Gr st) (Bs st) .none kV doc pm an cdv ct) ⟨us,[]⟩=pure (ps.zip us)):Binds K fd ps []:=by
 obtain⟨oc,od,kV,doc,pm,an,cdv,ct,osl,rfl,lk,hcd⟩:=F.ex
 exact .all (h kV doc pm an cdv ct)
theorem Tc{x qual:Str}{st:Stmt}{f:Addr}{oc:Value}{od an:Option Addr}{osl:Array (Option Value)}{kV doc pm cdv ct:Value}(l:K.lookup f=some ⟨oc,od,.func (fnOf x qual (Js st) (Gr st) (Bs st) .none kV doc pm an cdv ct),osl⟩)
  (c:codeIn K cdv qual=true) (k:keepIn K (.ref f)=true):Fun K x qual st f (fnOf x qual (Js st) (Gr st) (Bs st) .none kV doc pm an cdv ct):=⟨⟨oc,od,kV,doc,pm,an,cdv,ct,osl,rfl,l,c⟩,k⟩
end
theorem Cq{A:Around}{k:Nat}(hr:Room k A):A.units+1<cLine:=Nat.lt_of_le_of_lt (Nat.add_le_add_left (by decide:1<=64) _) hr.units
theorem Np{n:Nat}(h:n<=1000):n<sizeLine:=Nat.lt_of_le_of_lt h (by decide)
section
variable {X:Cx}
theorem pv(i:Nat){x:Str}{pos:Pos}(hN:X.N[i]? = some x:=by rfl)(hv:Vis X.env.scope x:=by first | exact Or.inl rfl | exact Or.inr (Or.inl rfl) | exact Or.inr (Or.inr rfl))(hd:(x==("__debug__" : Str))=false:=by decide)
  (hcd:(x==("__classdict__" : Str))=false:=by decide):PE X (.Name x pos) (Fn i):=Aj7 hN hv hd hcd
end
theorem Lw{A B:Prop}(h:B):if false=true then A else B:=by
 rw[if_neg Bool.false_ne_true]
 exact h
theorem Lo{A B:Prop}(h:A):if true=true then A else B:=by
 rw[if_pos rfl]
 exact h
theorem Zh{c A B:Prop} [Decidable c] (h1:c->A) (h2:¬c->B):if c then A else B:=by
 by_cases h:c
 ·rw[if_pos h]
  exact h1 h
 ·rw[if_neg h]
  exact h2 h
def Same(H H':Hp):Prop:=∀b o,H b=some o->H' b=some o
theorem Same.refl(H:Hp):Same H H:=λ_ _ h=>h
theorem Same.trans{H H1 H2:Hp}(a:Same H H1)(b:Same H1 H2):Same H H2:=λc o h=>b c o (a c o h)
theorem Same.free{H H':Hp}(e:Same H H'){l:Addr}(h:H' l=Option.none):H l=Option.none:=by
 cases q:H l with
 | none=>rfl
 | some o =>
  rw[e l o q] at h
  cases h
theorem Same.seq{K:Frag}{H H':Hp}{a:Addr}{xs:List V}(e:Same H H')(h:SqL K H a xs):SqL K H' a xs:=by
 rcases h with (h | ⟨o,h⟩) | h
 ·exact .inl (.inl (e _ _ h))
 ·exact .inl (.inr ⟨o,e _ _ h⟩)
 ·exact .inr h
section
variable {κ:Type} [DecidableEq κ]
theorem AbA{kvs:List (κ×V)}{k:κ}{v:V}(h:Cs kvs k=some v):k∈kvs.map (·.1):=by
 have q:(kvs.any λkv=>decide (kv.1=k))=true:=by
  rw[Ru,h]
  all_goals rfl
 obtain⟨p,hp,e⟩:=any_eq_true.mp q
 exact mem_map.mpr ⟨p,hp,of_decide_eq_true e⟩
end
section
variable {X:Cx}
theorem Jj:Nn X (.builtin "isinstance") (λvs H Q=>∃x n t b,vs=[x,.ty n]/\Gm X.K H x t/\kitOne X.K t (.type n)=some b/\Q (.bl b) H):=by
 intro pins s σ H vs us Q I r h
 obtain⟨x,n,t,b,rfl,ty,e,q⟩:=h
 obtain⟨u,w',rfl,rx,ry⟩:=Aca r
 cases ry
 exact Ael I rx ty e λtk=>⟨.bl b,H,I.tok tk,rfl,q⟩
end
theorem Ra{K:Frag}{T S:String}{b:Bool}(h:(if (Value.type T==Value.type S)=true then some true else if kitMeta S=true then (fastBuiltinMro T).map (·.contains (Value.type S)) else none)=some b):kitOne K (.type T) (.type S)=some b:=h
theorem AaN{K:Frag}:kitOne K (.type "int") (.type "int")=some true:=Ra (by decide +kernel)
theorem Aaf{K:Frag}:kitOne K (.type "int") (.type "bool")=some false:=Ra (by decide +kernel)
theorem AaO{K:Frag}:kitOne K (.type "str") (.type "str")=some true:=Ra (by decide +kernel)
theorem Yb{K:Frag}:kitOne K (.type "list") (.type "list")=some true:=Ra (by decide +kernel)
theorem AaQ{K:Frag}:kitOne K (.type "tuple") (.type "tuple")=some true:=Ra (by decide +kernel)
inductive EqD(K:Frag)(H:Hp):Nat->V->V->Bool->Prop where
 | flat {n:Nat} {x y:V} (hx:Lm x=true) (hy:Lm y=true):EqD K H n x y (eqV x y)
 | same {n:Nat} (a:Addr):EqD K H n (.ref a) (.ref a) true
 | lst {n:Nat} {a b:Addr} {xs ys:List V} (e:Nat->Bool) (ne:a≠b) (hx:SqL K H a xs) (hy:SqL K H b ys) (hl:xs.length=ys.length)
   (he:∀(i:Nat) (x y:V),xs[i]? = some x->ys[i]? = some y->EqD K H n x y (e i)):EqD K H (n+1) (.ref a) (.ref b) ((range xs.length).all e)
 | lstN {n:Nat} {a b:Addr} {xs ys:List V} (ne:a≠b) (hx:SqL K H a xs) (hy:SqL K H b ys) (hl:¬xs.length=ys.length):EqD K H (n+1) (.ref a) (.ref b) false
 | tup {n:Nat} {a b:Addr} {xs ys:List V} (e:Nat->Bool) (ne:a≠b) (hx:SqT K H a xs) (hy:SqT K H b ys)
   (he:∀(i:Nat) (x y:V),xs[i]? = some x->ys[i]? = some y->EqD K H n x y (e i)):EqD K H (n+1) (.ref a) (.ref b) ((range (min xs.length ys.length)).all e&&xs.length==ys.length)
section
variable {X:Cx}{pins:List (Addr×Obj)}{σ:St}{H:Hp}{s:Shared}
theorem Jz(A:Around):A.in1.units=A.units+1:=rfl
theorem Ow{xs ys:List V}{us vs:List Value}{R:Nat->Value->Value->Prop}(r1:Vals xs us)(r2:Vals ys vs)
  (h:∀(i:Nat) (x y:V) (u v:Value),xs[i]? = some x->ys[i]? = some y->RelV x u->RelV y v->R i u v) :
  ∀j (h1:j<us.toArray.size) (h2:j<vs.toArray.size),R j us.toArray[j] vs.toArray[j]:=by
 intro j h1 h2
 have h1':j<us.length:=by simpa using h1
 have h2':j<vs.length:=by simpa using h2
 have l1:j<xs.length:=by rw[r1.length];exact h1'
 have l2:j<ys.length:=by rw[r2.length];exact h2'
 obtain⟨u,eu,ru⟩:=r1.get (i:=j) (x:=xs[j]) (by simp [l1])
 obtain⟨v,ev,rv⟩:=r2.get (i:=j) (x:=ys[j]) (by simp [l2])
 have eu':us[j]=u:=by simpa [h1'] using eu
 have ev':vs[j]=v:=by simpa [h2'] using ev
 have q:=h j xs[j] ys[j] u v (by simp [l1]) (by simp [l2]) ru rv
 simpa [eu',ev'] using q
theorem EqD.at(I:Inv X pins σ H s):∀{n:Nat} {x y:V} {b:Bool},EqD X.K H n x y b->∀{A:Around} {u v:Value},A.units+n<cLine->RelV x u->RelV y v->SeqAt.EqAt A s u v b:=by
 intro n x y b h
 induction h with
 | flat hx hy=>intro A u v _ ru rv;exact AeS ru rv hx hy
 | same a=>intro A u v _ ru rv;cases ru;cases rv;exact SeqAt.EqAt.same _
 | @lst n a b xs ys e ne hx hy hl he ih =>
  intro A u v hu ru rv
  cases ru;cases rv
  obtain⟨us,r1,p1,_⟩:=I.list hx
  obtain⟨vs,r2,p2,_⟩:=I.list hy
  have es:us.toArray.size=xs.length:=by rw[size_toArray];exact r1.length.symm
  have es2:us.toArray.size=vs.toArray.size:=by rw[es,size_toArray,<- r2.length];exact hl
  refine SeqAt.EqAt.of_refs ne ?_
  rw[<- es]
  exact SeqAt.RcAt.lists p1.isList p2.isList es2 (by omega) (Ow r1 r2 λi x y u v hx hy ru rv=>ih i x y hx hy (by rw[Jz];omega) ru rv)
 | @lstN n a b xs ys ne hx hy hl =>
  intro A u v hu ru rv
  cases ru;cases rv
  obtain⟨us,r1,p1,_⟩:=I.list hx
  obtain⟨vs,r2,p2,_⟩:=I.list hy
  refine SeqAt.EqAt.of_refs ne (SeqAt.RcAt.lists_lengths p1.isList p2.isList ?_ (by omega))
  rw[size_toArray,size_toArray,<- r1.length,<- r2.length]
  simpa using hl
 | @tup n a b xs ys e ne hx hy he ih =>
  intro A u v hu ru rv
  cases ru;cases rv
  obtain⟨us,r1,p1,_⟩:=I.tuple hx
  obtain⟨vs,r2,p2,_⟩:=I.tuple hy
  have es:us.toArray.size=xs.length:=by rw[size_toArray];exact r1.length.symm
  have es2:vs.toArray.size=ys.length:=by rw[size_toArray];exact r2.length.symm
  refine SeqAt.EqAt.of_refs ne ?_
  rw[<- es,<- es2]
  exact SeqAt.RcAt.tuples p1 p2 (by omega) (Ow r1 r2 λi x y u v hx hy ru rv=>ih i x y hx hy (by rw[Jz];omega) ru rv)
def LEq(K:Frag)(H:Hp)(xs ys:List V)(k:Bool):Prop :=
 (¬xs.length=ys.length/\k=false)\/(xs.length=ys.length/\∃e:Nat->Bool,(∀(i:Nat) (x y:V),xs[i]? = some x->ys[i]? = some y->EqD K H 40 x y (e i))/\k=(range xs.length).all e)
def Aaj(K:Frag)(neg:Bool):R2:=λx y H Q=>∃a b xs ys k,x=.ref a/\y=.ref b/\SqL K H a xs/\SqL K H b ys/\LEq K H xs ys k/\Q (.bl (if neg then !k else k)) H
theorem Alt(hu:X.A.units+64<cLine):OpR X (compareOp .Eq) (Aaj X.K false):=by
 intro pins s σ H x y v u Q I rx ry h
 obtain⟨a,b,xs,ys,k,rfl,rfl,hx,hy,hk,q⟩:=h
 cases rx;cases ry
 obtain⟨us,r1,p1,_⟩:=I.list hx
 obtain⟨vs,r2,p2,_⟩:=I.list hy
 have fin:EP X pins σ Q (.bool k) s:=⟨.bl k,H,I,rfl,q⟩
 rcases hk with ⟨hl,rfl⟩ | ⟨hl,e,he,rfl⟩
 ·refine SeqAt.eq_list_lengthsAt p1.isList p2.isList ?_ (by omega) fin
  rw[size_toArray,size_toArray,<- r1.length,<- r2.length]
  simpa using hl
 ·have es:us.toArray.size=xs.length:=by rw[size_toArray];exact r1.length.symm
  have es2:us.toArray.size=vs.toArray.size:=by rw[es,size_toArray,<- r2.length];exact hl
  rw[<- es] at fin
  exact SeqAt.eq_listAt p1.isList p2.isList es2 (by omega) (Ow r1 r2 λi x y u v hx hy ru rv=>(he i x y hx hy).at I (by rw[Jz];omega) ru rv) fin
theorem Ali(hu:X.A.units+64<cLine):OpR X (compareOp .NotEq) (Aaj X.K true):=by
 intro pins s σ H x y v u Q I rx ry h
 obtain⟨a,b,xs,ys,k,rfl,rfl,hx,hy,hk,q⟩:=h
 cases rx;cases ry
 obtain⟨us,r1,p1,_⟩:=I.list hx
 obtain⟨vs,r2,p2,_⟩:=I.list hy
 have fin:EP X pins σ Q (.bool (!k)) s:=⟨.bl (!k),H,I,rfl,q⟩
 rcases hk with ⟨hl,rfl⟩ | ⟨hl,e,he,rfl⟩
 ·refine SeqAt.RcNeAt.lists_lengths p1.isList p2.isList ?_ (by omega) _ _ _ _ fin
  rw[size_toArray,size_toArray,<- r1.length,<- r2.length]
  simpa using hl
 ·have es:us.toArray.size=xs.length:=by rw[size_toArray];exact r1.length.symm
  have es2:us.toArray.size=vs.toArray.size:=by rw[es,size_toArray,<- r2.length];exact hl
  rw[<- es] at fin
  exact SeqAt.RcNeAt.lists p1.isList p2.isList es2 (by omega) (Ow r1 r2 λi x y u v hx hy ru rv=>(he i x y hx hy).at I (by rw[Jz];omega) ru rv) _ _ _ _ fin
def AfS(K:Frag)(neg:Bool):R2:=λx y H Q=>∃a b xs ys e,x=.ref a/\y=.ref b/\SqT K H a xs/\SqT K H b ys/\(∀(i:Nat) (x y:V),xs[i]? = some x->ys[i]? = some y->EqD K H 40 x y (e i)) /\
 Q (.bl (if neg then !((range (min xs.length ys.length)).all e&&xs.length==ys.length) else ((range (min xs.length ys.length)).all e&&xs.length==ys.length))) H
theorem Alg(hu:X.A.units+64<cLine):OpR X (compareOp .Eq) (AfS X.K false):=by
 intro pins s σ H x y v u Q I rx ry h
 obtain⟨a,b,xs,ys,e,rfl,rfl,hx,hy,he,q⟩:=h
 cases rx;cases ry
 obtain⟨us,r1,p1,_⟩:=I.tuple hx
 obtain⟨vs,r2,p2,_⟩:=I.tuple hy
 have es:us.toArray.size=xs.length:=by rw[size_toArray];exact r1.length.symm
 have es2:vs.toArray.size=ys.length:=by rw[size_toArray];exact r2.length.symm
 have fin:EP X pins σ Q (.bool ((range (min xs.length ys.length)).all e&&xs.length==ys.length)) s:=⟨.bl _,H,I,rfl,q⟩
 rw[<- es,<- es2] at fin
 exact SeqAt.eq_tupleAt p1 p2 (by omega) (Ow r1 r2 λi x y u v hx hy ru rv=>(he i x y hx hy).at I (by rw[Jz];omega) ru rv) fin
end
section
variable {X:Cx}{pins:List (Addr×Obj)}{σ:St}{H:Hp}{s:Shared}{a:Addr}
def Frb:HO->Prop
 | .dK _=>True
 | .dT _=>True
 | _=>False
theorem Frb.notup{u:HO}(h:Frb u)(xs:List V):u≠.tup xs:=by intro e;subst e;exact h
theorem Frb.nofrz{u:HO}(h:Frb u)(o:Obj)(v:HO):u≠.frz o v:=by intro e;subst e;exact h
theorem Frb.noown{u:HO}(h:Frb u)(x:Addr):u≠.own x:=by intro e;subst e;exact h
theorem Frb.notbl{u:HO}(h:Frb u)(ps:Array Value):u≠.tbl ps:=by intro e;subst e;exact h
def AcX(X:Cx)(a:Addr):Prop:=(∀xs,X.H₀ a≠some (.tup xs))/\(∀o v,X.H₀ a≠some (.frz o v))/\∀ps,X.H₀ a≠some (.tbl ps)
theorem Inv.free0(I:Inv X pins σ H s){u:HO}(hu:Frb u)(e:H a=some u):AcX X a:=by
 refine⟨λxs q=>?_,λo v q=>?_,λps q=>?_⟩
 ·have:=I.base.tups a xs q;rw[e] at this;exact hu.notup xs (Option.some.inj this)
 ·have:=I.base.frzs a o v q;rw[e] at this;exact hu.nofrz o v (Option.some.inj this)
 ·obtain⟨m,this⟩:=I.base.tbls a ps q;rw[e] at this;exact hu.notbl _ (Option.some.inj this)
theorem Inv.swap{u v:HO}(I:Inv X pins σ H s)(hu:∀x,u≠.own x)(hu2:∀xs,u≠.tup xs)(e:H a=some u)(f:AcX X a)(ok:ObjOk X.prog X.w (upd H a v) s.heap a v):Inv X pins σ (upd H a v) s:=by
 have nown:∀b x,H b=some (.own x)->b≠a:=λb x q z=>by subst z;rw[e] at q;exact hu x (Option.some.inj q)
 have ntup:∀b xs,H b=some (.tup xs)->b≠a:=λb xs q z=>by subst z;rw[e] at q;exact hu2 xs (Option.some.inj q)
 have nnone:∀b,H b=none->b≠a:=λb q z=>by subst z;rw[e] at q;cases q
 refine⟨I.ok,I.os,I.bare,⟨I.base.keep,I.base.slot,λb o h1 h2 h3=>?_,I.base.there,λb xs q=>?_,λb o w q=>?_,λb ps q=>?_⟩,I.loc,I.cell,?_,λx c q=>?_,λp hp=>?_,λb o q=>?_,I.len⟩
 ·have q:=I.base.free b o h1 h2 h3
  rw[Bj (nnone b q)];exact q
 ·have h:b≠a:=λz=>by subst z;exact f.1 xs q
  rw[Bj h];exact I.base.tups b xs q
 ·have h:b≠a:=λz=>by subst z;exact f.2.1 o w q
  rw[Bj h];exact I.base.frzs b o w q
 ·have h:b≠a:=λz=>by subst z;exact f.2.2 ps q
  rw[Bj h];exact I.base.tbls b ps q
 ·rw[Bj (nnone _ I.free)];exact I.free
 ·rw[Bj (nnone _ (I.freeC x c q))];exact I.freeC x c q
 ·obtain⟨h1,h2,h3⟩:=I.pin p hp
  exact⟨h1,by rw[Bj (nnone _ h2)];exact h2,h3⟩
 ·by_cases hb:b=a
  ·subst hb;rw[Bn] at q;cases q;exact ok
  ·rw[Bj hb] at q
   exact (I.hok b o q).stay (λ_ _ _ z=>z) (λc z=>by rw[Bj (nown c b z)];exact z) λc xs z=>by rw[Bj (ntup c xs z)];exact z
theorem ObjOk.heap{P:Program}{w:World}{h:Heap}{H':Hp}{u:HO}(x:ObjOk P w H h a u)(hd:∀b xs,H b=some (.tup xs)->H' b=some (.tup xs))(ho:∀b,H b=some (.own a)->H' b=some (.own a)):ObjOk P w H' h a u :=
 x.stay (λ_ _ _ z=>z) ho hd
theorem Inv.freeze{u:HO}(I:Inv X pins σ H s)(hu:Frb u)(e:H a=some u):∃o,Inv X pins σ (upd H a (.frz o u)) s:=by
 have ok:=I.hok a u e
 obtain⟨o,ho⟩:∃o,s.heap.get? a=some o:=by
  cases u with
  | dK kvs=>obtain⟨_,_,_,_,o,_,_,h,_⟩:=ok;exact⟨o,h⟩
  | dT kvs=>obtain⟨_,_,_,_,o,_,_,h,_⟩:=ok;exact⟨o,h⟩
  | _=>exact hu.elim
 refine⟨o,I.swap (λx=>hu.noown x) (λxs=>hu.notup xs) e (I.free0 hu e) ⟨ho,ok.heap (λb xs q=>?_) λb q=>?_⟩⟩
 ·rw[Bj (λz=>by subst z;rw[e] at q;exact hu.notup xs (Option.some.inj q))];exact q
 ·rw[Bj (λz=>by subst z;rw[e] at q;exact hu.noown _ (Option.some.inj q))];exact q
theorem Inv.thaw{u:HO}{o:Obj}(I:Inv X pins σ H s)(f:AcX X a)(e:H a=some (.frz o u)):Inv X pins σ (upd H a u) s:=by
 obtain⟨ho,ok⟩:=(show ObjOk X.prog X.w H s.heap a (.frz o u) from I.hok a _ e)
 refine I.swap (by intro x z;cases z) (by intro xs z;cases z) e f (ok.heap (λb xs q=>?_) λb q=>?_)
 ·rw[Bj (λz=>by subst z;rw[e] at q;cases q)];exact q
 ·rw[Bj (λz=>by subst z;rw[e] at q;cases q)];exact q
def Qt(a:Addr)(u:HO)(D:Ends):Ends where
 nx:=λσ H=>∃o,H a=some (.frz o u)/\D.nx σ (upd H a u)
 rt:=λv H=>∃o,H a=some (.frz o u)/\D.rt v (upd H a u)
 bk:=λσ H=>∃o,H a=some (.frz o u)/\D.bk σ (upd H a u)
 ct:=λσ H=>∃o,H a=some (.frz o u)/\D.ct σ (upd H a u)
def Acy(t:TS):TS:=λD σ H=>∃a u,Frb u/\H a=some u/\∀o,t (Qt a u D) σ (upd H a (.frz o u))
theorem Wg{st:Stmt}{t:TS}(h:PS X st t):PS X st (Acy t):=by
 intro pins s σ H D I q
 obtain⟨a,u,hu,e,q⟩:=q
 have f:=I.free0 hu e
 obtain⟨o,I1⟩:=I.freeze hu e
 refine thn (h pins s σ _ _ I1 (q o)) λfl s' hs=>?_
 cases fl with
 | next=>obtain⟨σ',H',I',o',e',q'⟩:=hs;exact⟨σ',_,I'.thaw f e',q'⟩
 | brk=>obtain⟨σ',H',I',o',e',q'⟩:=hs;exact⟨σ',_,I'.thaw f e',q'⟩
 | cont=>obtain⟨σ',H',I',o',e',q'⟩:=hs;exact⟨σ',_,I'.thaw f e',q'⟩
 | ret v=>obtain⟨x,σ',H',I',r,o',e',q'⟩:=hs;exact⟨x,σ',_,I'.thaw f e',r,q'⟩
end
def Itd(a:Addr)(o:Obj)(kvs:List (Key×V)):It :=
 ⟨λi H=>H a=some (.frz o (.dK kvs))/\i<kvs.length,λi H x H'=>H'=H/\∃kv,kvs[i]? = some kv/\x=kV kv.1,λi H=>H a=some (.frz o (.dK kvs))/\kvs.length<=i⟩
theorem Abf{P:Program}{w:World}{k:Key}{u:Value}(h:(Ds P w).is k u=true):RelV (kV k) u:=by
 rcases Fo h with ⟨i,t,rfl,rfl⟩ | ⟨x,t,rfl,rfl⟩
 ·exact⟨t,rfl⟩
 ·exact⟨t,rfl⟩
theorem Rw{P:Program}{w:World}{H:Hp}{h:Heap}{a:Addr}{o:Obj}{kvs:List (Key×V)}{es:Array DictEntry}{ep:Nat}(ok:HOk P w H h)(e:H a=some (.frz o (.dK kvs)))(hd:o.data=.dict es ep) :
  (a==sysModules)=false/\∃vs,KV kvs vs/\h.DictAt (Ds P w) a vs ep:=by
 obtain⟨ho,_,hm,vs,r,o',es',ep',h1,h2,h3,h4⟩:=(show ObjOk P w H h a (.frz o (.dK kvs)) from ok a _ e)
 rw[ho] at h1
 cases h1
 rw[hd] at h3
 cases h3
 exact⟨hm,vs,r,o,es,ho,h2,hd,h4⟩
theorem Aff{P:Program}{w:World}{K:Frag}{tg:Expr}(a it:Addr)(o:Obj)(kvs:List (Key×V))(es:Array DictEntry)(ep:Nat)(hd:o.data=.dict es ep) :
  Ur P w K tg (Itd a o kvs) [it] it (λi h=>h.IsKeyIter it a i kvs.length ep) where
 mem:=by simp
 obj:=λi h st b hb=>by
  have e:b=it:=by simpa using hb
  subst e
  obtain⟨o,e,c,d⟩:=st
  exact⟨o,e,λv z=>by rw[d] at z;cases z⟩
 keep:=λi h h' st k=>by
  obtain⟨o,e,r⟩:=st
  exact⟨o,k it (by simp) o e,r⟩
 item:=by
  intro X hP hw hK hc i pins s σ H E I hf st hg
  subst hP hw hK
  obtain⟨hz,hi⟩:=hg
  obtain⟨hm,vs,r,da⟩:=Rw I.hok hz hd
  have hl:kvs.length=vs.length:=Paired.length r
  obtain⟨f0,f1,f2,f3,f4,f5⟩:=hf it (by simp)
  have hiv:i<vs.length:=by omega
  have ek:(kvs[i]).1=(vs[i]).1:=by
   have q:=KV.keys r
   have q1:=congrArg (λl=>l[i]?) q
   simp only [getElem?_map,getElem?_eq_getElem hi,getElem?_eq_getElem hiv,Option.map_some,Option.some.injEq] at q1
   exact q1
  refine wpAny_pyNext_dict_item (k:=(vs[i]).1) (v:=(vs[i]).2) (kvs:=vs) (by rw[<- hl];exact st) da (by rw[getElem?_eq_getElem hiv]) λkey h' hkey st' sb=>?_
  have I1:Inv X pins σ H { s with heap:=h' }:=I.turned (t':=s.toks) (λb o hb e=>(sb.2 b hb).trans e) f0 f1 f3 f4 f5
  rw[<- hl] at st'
  obtain⟨o',e',c',d'⟩:=id st'
  exact⟨key,rfl,Ace (s:={ s with heap:=h' }) e' c' d' (by decide) ⟨kV (kvs[i]).1,H,I1,by rw[ek];exact Abf hkey,⟨rfl,kvs[i],getElem?_eq_getElem hi,rfl⟩,st',λb hb=>(hf b hb).1⟩⟩
 done:=by
  intro X hP hw hK hc i pins s σ H E I hf st hg
  subst hP hw hK
  obtain⟨hz,hi⟩:=hg
  obtain⟨hm,vs,r,da⟩:=Rw I.hok hz hd
  have hl:kvs.length=vs.length:=Paired.length r
  obtain⟨f0,f1,f2,f3,f4,f5⟩:=hf it (by simp)
  exact wpAny_pyNext_dict_end (kvs:=vs) (I.ok.hd hc) (by rw[<- hl];exact st) da (getElem?_eq_none (by omega)) λh' eb=>⟨rfl,I.turned (t':=s.toks) (λb o hb e=>eb b o hb e) f0 f1 f3 f4 f5⟩
 self:=λ_ _ _ _ _ st h=>wpAny_pyIter_keyiter st h
section
variable {X:Cx}{tg:Expr}
def iDk(tl:TE):TI:=λσ H R=>tl σ H λx H1=>∃a o kvs,x=.ref a/\H1 a=some (.frz o (.dK kvs))/\R (Itd a o kvs) H1
theorem Vb{l:Expr}{tl:TE}(hl:PE X l tl):PI X tg l (iDk tl):=by
 intro pins s σ H R I h
 refine thn (hl pins s σ H _ I h) λv s1 ⟨x,H1,I1,r1,q1⟩=>?_
 obtain⟨a,o,kvs,e,hz,q⟩:=q1
 subst e
 cases r1
 obtain⟨ho,_,hm,vs,r,o',es,ep,h1,h2,h3,h4⟩:=(show ObjOk X.prog X.w H1 s1.heap a (.frz o (.dK kvs)) from I1.hok a _ hz)
 rw[ho] at h1
 cases h1
 have hl:kvs.length=vs.length:=Paired.length r
 refine wpAny_pyIter_dict (knd:=Ds X.prog X.w) (kvs:=vs) (ep:=ep) hm ⟨o,es,ho,h2,h3,h4⟩ ?_
 refine⟨s1.heap.objs.size,[s1.heap.objs.size],_,_,H1,rfl,I1.kept (t':=s1.toks) λb o e=>get?_push_of_some _ e,Aff a _ o kvs es ep h3,⟨_,get?_push_size _ rfl,rfl,by rw[hl];rfl⟩,λb hb=>?_,q⟩
 have e:b=s1.heap.objs.size:=by simpa using hb
 subst e
 exact I1.fpOk (Nat.le_refl _) (I1.hok.fresh (Nat.le_refl _))
theorem Ado{a:Addr}{o:Obj}{kvs:List (Key×V)}{g:TG}{tb:TS}{D:Ends}{σ:St}{H:Hp}(Pv:Nat->St->Hp->Prop)(h0:Pv 0 σ H)(hl:∀i σ H,i<=kvs.length->Pv i σ H->H a=some (.frz o (.dK kvs)))
  (hs:∀i kv σ H,kvs[i]? = some kv->Pv i σ H->g (kV kv.1) σ H λσ2 H2=>tb { D with nx:=Pv (i+1),ct:=Pv (i+1),bk:=D.nx } σ2 H2) (hd:∀σ H,Pv kvs.length σ H->D.nx σ H) :
  ∃W:Nat->Nat->St->Hp->Prop,(∃m,W 0 m σ H)/\∀i m σ H,W i m σ H ->
   ((Itd a o kvs).stop i H/\D.nx σ H)\/((Itd a o kvs).go i H/\∃N:St->Hp->Prop,(∀σ' H',N σ' H'->∃m',m'<m/\W (i+1) m' σ' H')/\∀x H',(Itd a o kvs).yld i H x H'->g x σ H' λσ2 H2=>tb { D with nx:=N,ct:=N,bk:=D.nx } σ2 H2):=by
 refine⟨λi m σ H=>m=kvs.length - i/\i<=kvs.length/\Pv i σ H,⟨kvs.length,by simp,zero_le _,h0⟩,?_⟩
 rintro i m σ H ⟨rfl,hi,p⟩
 have q:=hl i σ H hi p
 by_cases hlt:i<kvs.length
 ·refine .inr ⟨⟨q,hlt⟩,Pv (i+1),λσ' H' p'=>⟨kvs.length - (i+1),by omega,rfl,hlt,p'⟩,λx H' y=>?_⟩
  obtain⟨e,kv,y1,y2⟩:=y
  subst e y2
  exact hs i kv σ _ y1 p
 ·have e:i=kvs.length:=by omega
  subst e
  exact .inl ⟨⟨q,Nat.le_refl _⟩,hd σ H p⟩
end
def Iti(a:Addr)(o:Obj)(kvs:List (Key×V)):It :=
 ⟨λi H=>H a=some (.frz o (.dK kvs))/\i<kvs.length,λi H x H'=>∃t kv,H t=none/\kvs[i]? = some kv/\x=.ref t/\H'=upd H t (.tup [kV kv.1,kv.2]),λi H=>H a=some (.frz o (.dK kvs))/\kvs.length<=i⟩
theorem Ad2{κ:Type}:∀{kvs:List (κ×V)} {vs:List (κ×Value)} {i:Nat} {kv:κ×V},KV kvs vs->kvs[i]? = some kv->∃v,vs[i]? = some (kv.1,v)/\RelV kv.2 v
 | _,_,_,_,.nil,e=>by simp at e
 | _,(k',v')::_,0,_,.cons r _,e=>by
  simp at e;subst e
  obtain⟨h1,h2⟩:=r
  exact⟨v',by simp [h1],h2⟩
 | _,_,i+1,kv,.cons _ t,e=>by
  obtain⟨v,h1,h2⟩:=Ad2 (i:=i) (kv:=kv) t (by simpa using e)
  exact⟨v,by simpa using h1,h2⟩
theorem AcY{P:Program}{w:World}{K:Frag}{elts:List Expr}{x1:Nat}{tp:Pos}(a it:Addr)(o:Obj)(kvs:List (Key×V))(es:Array DictEntry)(ep:Nat)(hd:o.data=.dict es ep) :
  Ur P w K (.Tuple elts x1 tp) (Iti a o kvs) [it] it (λi h=>∃ok ov,IsItemIter h it a i kvs.length ep ok ov) where
 mem:=by simp
 obj:=λi h st b hb=>by
  have e:b=it:=by simpa using hb
  subst e
  obtain⟨ok,ov,e⟩:=st
  exact⟨_,e,λv z=>nomatch z⟩
 keep:=λi h h' st k=>by
  obtain⟨ok,ov,e⟩:=st
  exact⟨ok,ov,k it (by simp) _ e⟩
 item:=by
  intro X hP hw hK hc i pins s σ H E I hf st hg
  subst hP hw hK
  obtain⟨hz,hi⟩:=hg
  obtain⟨ok,ov,st⟩:=st
  obtain⟨hm,vs,r,da⟩:=Rw I.hok hz hd
  have hl:kvs.length=vs.length:=Paired.length r
  obtain⟨f0,f1,f2,f3,f4,f5⟩:=hf it (by simp)
  obtain⟨v,hv,rv⟩:=Ad2 (i:=i) (kv:=kvs[i]) r (getElem?_eq_getElem hi)
  have hit:it<s.heap.objs.size:=lt_size st
  have hne:s.heap.objs.size≠it:=Nat.ne_of_gt hit
  have hfr:H s.heap.objs.size=none:=I.hok.fresh (Nat.le_refl _)
  rw[hl] at st
  refine wpAny_pyNext_items_item st da hv λkey h' hkey ho hT hsz hk=>⟨_,rfl,?_⟩
  refine wpAny_letOwnedTupleGo_items (s:={ s with heap:=h' }) ho λh2 he hs=>?_
  have hs2:∀b,b≠it->h2.get? b=h'.get? b:=hs.2
  have kp:∀b o,b≠it->s.heap.get? b=some o->h2.get? b=some o:=λb o hb e=>(hs2 b hb).trans (hk b o hb e)
  have hT2:h2.get? s.heap.objs.size=some { cls:=.type "tuple",data:=.seq #[key,v] }:=(hs2 _ hne).trans hT
  have nt:∀b u,H b=some u->b≠s.heap.objs.size:=λb u e=>Bz e hfr
  rw[<- hl] at he
  refine⟨.ref s.heap.objs.size,upd H s.heap.objs.size (.tup [kV (kvs[i]).1,(kvs[i]).2]),?_,rfl,⟨_,_,hfr,getElem?_eq_getElem hi,rfl,rfl⟩,⟨_,_,he⟩,λb hb=>?_⟩
  ·refine Inv.step (s:=s) (h':=h2) I (g':=s.gens) (d':=s.drawn) (t':=s.toks) (ch:=[it]) (λb hb=>?_) (λb o _ _ hc e _=>kp b o (λz=>hc (by simp [z])) e) (λb o _ _ hc e _=>⟨o.slots,kp b o (λz=>hc (by simp [z])) e⟩)
    (λb o hc e n=>by rw[Bj (ne_of_lt (lt_size e))];exact n) (λb o hc e=>⟨o,kp b o (λz=>hc (by simp [z])) e⟩) (λb xs e=>by rw[Bj (nt b _ e)];exact e) (λb o u e=>by rw[Bj (nt b _ e)];exact e)
    (λb ps e=>⟨#[],by rw[Bj (nt b _ e),e];simp⟩) (λm hm=>?_) (λb u e=>?_) I.bare
   ·have e:b=it:=by simpa using hb
    subst e
    exact⟨f3,f1,f4,f5⟩
   ·obtain⟨o,es,ep,ho,r⟩:=hm
    exact⟨o,es,ep,kp _ o (Ne.symm f1) ho,r⟩
   ·by_cases hb:b=s.heap.objs.size
    ·subst hb
     rw[Bn] at e
     cases e
     exact⟨by show 2<=sizeLine;decide,[key,v],.cons (Abf hkey) (.cons rv .nil),_,hT2,rfl,_,rfl⟩
    ·rw[Bj hb] at e
     have nit:∀c w,H c=some w->c≠it:=λc w e z=>by rw[z,f0] at e;cases e
     refine (I.hok b u e).stay (λc v hc q=>kp c v ?_ q) (λc q=>by rw[Bj (nt c _ q)];exact q) λc xs q=>by rw[Bj (nt c _ q)];exact q
     rcases hc with z | z
     ·rw[z];exact nit b u e
     ·exact nit c _ z
  ·have e:b=it:=by simpa using hb
   rw[e,Bj (Ne.symm hne)]
   exact f0
 done:=by
  intro X hP hw hK hc i pins s σ H E I hf st hg
  subst hP hw hK
  obtain⟨hz,hi⟩:=hg
  obtain⟨ok,ov,st⟩:=st
  obtain⟨hm,vs,r,da⟩:=Rw I.hok hz hd
  have hl:kvs.length=vs.length:=Paired.length r
  obtain⟨f0,f1,f2,f3,f4,f5⟩:=hf it (by simp)
  rw[hl] at st
  exact wpAny_pyNext_items_end (I.ok.hd hc) st da (getElem?_eq_none (by omega)) λh' eb=>⟨rfl,I.turned (t':=s.toks) (λb o hb e=>eb b o hb e) f0 f1 f3 f4 f5⟩
 self:=λA i s Q E st h=>by
  obtain⟨ok,ov,e⟩:=st
  exact PySem.W.kcp_self e h
section
variable {X:Cx}{elts:List Expr}{x1:Nat}{tp apos cpos:Pos}
def iDi(tl:TE):TI:=λσ H R=>tl σ H λx H1=>∃a o kvs,x=.ref a/\H1 a=some (.frz o (.dK kvs))/\R (Iti a o kvs) H1
theorem Ad1{l:Expr}{tl:TE}(hl:PE X l tl)(hbase:attributeBase l "items" X.env (eval l X.env)=eval l X.env:=by rfl)(hline:(apos.endLine==cpos.line)=true:=by rfl) :
  PI X (.Tuple elts x1 tp) (.Call (.Attribute l "items" apos) [] [] cpos) (iDi tl):=by
 intro pins s σ H R I h
 refine wpAny_Call_method0_late hbase hline (thn (hl pins s σ H _ I h) λv s1 ⟨x,H1,I1,r1,q1⟩=>?_)
 obtain⟨a,o,kvs,e,hz,q⟩:=q1
 subst e
 cases r1
 obtain⟨ho,_,hm,vs,r,o',es,ep,h1,h2,h3,h4⟩:=(show ObjOk X.prog X.w H1 s1.heap a (.frz o (.dK kvs)) from I1.hok a _ hz)
 rw[ho] at h1
 cases h1
 have hlen:kvs.length=vs.length:=Paired.length r
 have da:s1.heap.DictAt (Ds X.prog X.w) a vs ep:=⟨o,es,ho,h2,h3,h4⟩
 refine⟨"dict","dict.items",plainAttrs_dict,PySem.F.slot_dict_items,PySem.F.type_dict_items,⟨o,ho,h2.1⟩,λb eb=>?_,Calls.callWith_builtin rfl (PySem.evalArgs_none ?_)⟩
 ·cases eb
  exact⟨o,ho,h2.2.1⟩
 refine call_meetsIn PySem.F.slot_dict_items da.dictOf.typeIs PySem.F.entry_dict_items (PySem.F.args_dict_items_1 _) (meets_dict_items (Ds X.prog X.w) a hm) ⟨⟨vs,da.dictOf⟩,?_⟩
 refine wpAny_pyIter_items (s:={ s1 with heap:=s1.heap.push { cls:=.type "dict_items",data:=.fields #[.ref a] } }) (knd:=Ds X.prog X.w) (kvs:=vs) (ep:=ep) ⟨_,get?_push_size _ rfl,rfl,rfl⟩ (da.push _) ?_
 have I2:Inv X pins σ H1 { s1 with heap:=s1.heap.push { cls:=.type "dict_items",data:=.fields #[.ref a] } }:=I1.kept (t':=s1.toks) λb o e=>get?_push_of_some _ e
 refine⟨_,[_],_,_,H1,rfl,I2.kept (t':=s1.toks) λb o e=>get?_push_of_some _ e,AcY a _ o kvs es ep h3,⟨.none,.none,by rw[hlen];exact get?_push_size _ rfl⟩,λb hb=>?_,q⟩
 have e:=mem_singleton.mp hb
 subst e
 exact I2.fpOk (Nat.le_refl _) (I2.hok.fresh (Nat.le_refl _))
theorem AcS{a:Addr}{o:Obj}{kvs:List (Key×V)}{g:TG}{tb:TS}{D:Ends}{σ:St}{H:Hp}(Pv:Nat->St->Hp->Prop)(h0:Pv 0 σ H)(hl:∀i σ H,i<=kvs.length->Pv i σ H->H a=some (.frz o (.dK kvs)))
  (hs:∀i kv t σ H,kvs[i]? = some kv->H t=none->Pv i σ H->g (.ref t) σ (upd H t (.tup [kV kv.1,kv.2])) λσ2 H2=>tb { D with nx:=Pv (i+1),ct:=Pv (i+1),bk:=D.nx } σ2 H2) (hd:∀σ H,Pv kvs.length σ H->D.nx σ H) :
  ∃W:Nat->Nat->St->Hp->Prop,(∃m,W 0 m σ H)/\∀i m σ H,W i m σ H ->
   ((Iti a o kvs).stop i H/\D.nx σ H)\/((Iti a o kvs).go i H/\∃N:St->Hp->Prop,(∀σ' H',N σ' H'->∃m',m'<m/\W (i+1) m' σ' H')/\∀x H',(Iti a o kvs).yld i H x H'->g x σ H' λσ2 H2=>tb { D with nx:=N,ct:=N,bk:=D.nx } σ2 H2):=by
 refine⟨λi m σ H=>m=kvs.length - i/\i<=kvs.length/\Pv i σ H,⟨kvs.length,by simp,zero_le _,h0⟩,?_⟩
 rintro i m σ H ⟨rfl,hi,p⟩
 have q:=hl i σ H hi p
 by_cases hlt:i<kvs.length
 ·refine .inr ⟨⟨q,hlt⟩,Pv (i+1),λσ' H' p'=>⟨kvs.length - (i+1),by omega,rfl,hlt,p'⟩,λx H' y=>?_⟩
  obtain⟨t,kv,ht,y1,y2,y3⟩:=y
  subst y2 y3
  exact hs i kv t σ _ y1 ht p
 ·have e:i=kvs.length:=by omega
  subst e
  exact .inl ⟨⟨q,Nat.le_refl _⟩,hd σ H p⟩
end
section
variable {σ:St}{H:Hp}{Q:VK}{B:Bool->Hp->Prop}{v x y:V}{ta tb tc:TE}{tA tB':TT}{D:Ends}{t u:TS}{K:Frag}
theorem AnY{i:Nat}(h:σ[i]? = some (some v))(q:Q v H):Fn i σ H Q:=⟨v,h,q⟩
theorem i_c(q:Q v H):tC v σ H Q:=q
theorem AoC{r:R2}(q:ta σ H λx H1=>tb σ H1 λy H2=>r x y H2 Q):tOp r ta tb σ H Q:=q
theorem Aoo{r:V->Hp->VK->Prop}(q:ta σ H λx H1=>r x H1 Q):tUn r ta σ H Q:=q
theorem AoO{g:Int->V}{i:Int}(q:Q (g i) H):rU g (.int i) H Q:=⟨i,rfl,q⟩
theorem AmR{g:Int->Int->V}{i j:Int}(q:Q (g i j) H):rI0 g (.int i) (.int j) H Q:=⟨i,j,rfl,rfl,q⟩
theorem AhS{i j:Int}:decide (V.int i=V.int j)=decide (i=j):=by
 by_cases h:i=j
 ·subst h;simp
 ·rw[decide_eq_false h,decide_eq_false λe=>h (V.int.inj e)]
theorem AgY{i j:Str}:decide (V.str i=V.str j)=decide (i=j):=by
 by_cases h:i=j
 ·subst h;simp
 ·rw[decide_eq_false h,decide_eq_false λe=>h (V.str.inj e)]
theorem AhT{i j:Int}(q:Q (.bl (decide (i=j))) H):rEq (.int i) (.int j) H Q:=⟨rfl,by rw[AhS];exact q⟩
theorem Ah6{i j:Str}(q:Q (.bl (decide (i=j))) H):rEq (.str i) (.str j) H Q:=⟨rfl,by rw[AgY];exact q⟩
theorem Aha{i j:Int}(q:Q (.bl (!decide (i=j))) H):rNe (.int i) (.int j) H Q:=⟨rfl,by rw[AhS];exact q⟩
theorem AhN{i j:Str}(q:Q (.bl (!decide (i=j))) H):rNe (.str i) (.str j) H Q:=⟨rfl,by rw[AgY];exact q⟩
theorem AoT{t:TE}(q:t σ H λx H1=>∃c,x=.bl c/\B c H1):tB t σ H B:=q
theorem Aj0{t:TE}(q:t σ H λx H1=>∃c,x=.bl c/\B c H1):Aci t σ H B:=q
theorem Am0{b:Bool}{P:Bool->Prop}(q:P b):∃c,V.bl b=V.bl c/\P c:=⟨b,rfl,q⟩
theorem AmT(q:tA σ H λc H1=>if c=true then tB' σ H1 B else B false H1):AfE tA tB' σ H B:=q
theorem Aoy(q:tA σ H λc H1=>if c=true then B true H1 else tB' σ H1 B):tOr tA tB' σ H B:=q
theorem Am3(q:tA σ H λc H1=>B (!c) H1):Afo tA σ H B:=q
theorem AkA(q:ta σ H λx H1=>∃c,x=.bl c/\if c=true then tb σ H1 Q else Q (.bl false) H1):AhY ta tb σ H Q:=q
theorem Ak3(q:ta σ H λx H1=>∃c,x=.bl c/\Q (.bl (!c)) H1):Ahr ta σ H Q:=q
theorem Ab5(q:t { D with nx:=u D } σ H):Wl t u D σ H:=q
theorem Aof(q:D.nx σ H):Acs D σ H:=q
theorem Al9(q:ta σ H λ_ H1=>D.nx σ H1):Vg ta D σ H:=q
theorem Ane(q:ta σ H D.rt):Uw ta D σ H:=q
theorem Aok(q:tA σ H λb H1=>if b=true then t D σ H1 else u D σ H1):Agb tA t u D σ H:=q
theorem Am2{g:TG}(q:ta σ H λx H1=>g x σ H1 D.nx):Lj ta g D σ H:=q
theorem Ai9{i:Nat}{R:St->Hp->Prop}(q:R (σ.set i (some v)) H):Go i v σ H R:=q
theorem Alm{n:Nat}{a:Addr}{xs:List V}{g:TGs}{R:St->Hp->Prop}(h:SqT K H a xs)(hl:xs.length=n)(q:g xs σ H R):Xa K n g (.ref a) σ H R:=⟨a,xs,rfl,h,hl,q⟩
theorem AiZ{g:TG}{gs:TGs}{vs:List V}{R:St->Hp->Prop}(q:g v σ H λσ' H'=>gs vs σ' H' R):Vu g gs (v::vs) σ H R:=⟨v,vs,rfl,q⟩
theorem Amq{R:St->Hp->Prop}(q:R σ H):Ab8 [] σ H R:=⟨rfl,q⟩
theorem AlE{sp:Sp}{dvs:List V}{E:XK}{t:TA}(q:t σ H λvs H1=>sp (vs++dvs) H1 Q E):Rz sp dvs E t σ H Q:=q
theorem Aj6{C:Addr}{m:Str}{sp:Sp}{dvs:List V}{E:XK}{t:TA}(q:ta σ H λx H1=>∃a dx fs,x=.ref a/\H1 a=some (.ins C dx fs)/\fs.lookup m=none/\t σ H1 λvs H2=>sp (x::(vs++dvs)) H2 Q E):Vh C m sp dvs E ta t σ H Q:=q
theorem AnT{R:List V->Hp->Prop}(q:R [] H):Nb σ H R:=q
theorem AmI{tr:TA}{R:List V->Hp->Prop}(q:ta σ H λx H1=>tr σ H1 λxs H2=>R (x::xs) H2):Ga ta tr σ H R:=q
theorem AnX{t:TA}(q:t σ H λxs H1=>xs.length<=sizeLine/\∀p,H1 p=none->Q (.ref p) (upd H1 p (.tup xs))):AkP t σ H Q:=q
theorem AmW{f:Str}(q:ta σ H λx H1=>∃a C dx fs v,x=.ref a/\H1 a=some (.ins C dx fs)/\Cls K C/\NoAttr K C f/\fs.lookup f=some v/\Q v H1):Akt K ta f σ H Q:=q
theorem Aor{r:List V->Hp->VK->Prop}{t:TA}(q:t σ H λvs H1=>r vs H1 Q):tCB r t σ H Q:=q
theorem AnW(q:ta σ H λy H1=>tb σ H1 λx H2=>∃a o,x=.ref a/\DGet H2 a y o/\Q (.bl o.isSome) H2):Agu ta tb σ H Q:=q
theorem AfD(q:ta σ H λy H1=>tb σ H1 λx H2=>∃a o,x=.ref a/\DGet H2 a y o/\Q (.bl (!o.isSome)) H2):Abq ta tb σ H Q:=q
theorem Ak0(q:ta σ H λx H1=>tb σ H1 λy H2=>∃a v,x=.ref a/\DGet H2 a y (some v)/\Q v H2):Yz ta tb σ H Q:=q
theorem Ajv(q:ta σ H λx H1=>∃a,x=.ref a/\IsD H1 a/\tb σ H1 λy H2=>∃o,DGet H2 a y o/\Q (o.getD .non) H2):AeI ta tb σ H Q:=q
theorem Ai2(q:ta σ H λx H1=>∃a,x=.ref a/\IsD H1 a/\tb σ H1 λy H2=>tc σ H2 λz H3=>∃o,DGet H3 a y o/\Q (o.getD z) H3):Zp ta tb tc σ H Q:=q
theorem Al0(q:tc σ H λv H1=>ta σ H1 λx H2=>tb σ H2 λy H3=>∃a H4,x=.ref a/\DPut H3 a y v H4/\D.nx σ H4):Acc ta tb tc D σ H:=q
theorem AjT{f:Str}(q:tb σ H λy H1=>ta σ H1 λx H2=>∃a C dx fs,x=.ref a/\H2 a=some (.ins C dx fs)/\Cls K C/\NoAttr K C f/\fs.length<1000/\D.nx σ (upd H2 a (.ins C dx (Cc f y fs)))):Aj9 K ta tb f D σ H:=q
theorem Aoi{T:String}{r:V->List V->Hp->VK->Prop}{t:TA}(q:ta σ H λx H1=>tyV K T x H1/\t σ H1 λxs H2=>r x xs H2 Q):tBM K T r ta t σ H Q:=q
theorem Akz(q:∀p,H p=none->Q (.ref p) (upd H p (.dK []))):Aak σ H Q:=q
theorem AlT(q:∀p,H p=none->Q (.ref p) (upd H p (.dT []))):Adg σ H Q:=q
theorem No{i:Nat}{a:Addr}{xs:List V}{g:TG}(hv:σ[i]? = some (some (.ref a)))(hS:SqL K H a xs)(Pv:Nat->St->Hp->Prop)(h0:Pv 0 σ H)(hl:∀i σ H,i<=xs.length->Pv i σ H->SqL K H a xs)
  (hs:∀i x σ H,xs[i]? = some x->Pv i σ H->g x σ H λσ2 H2=>t { D with nx:=Pv (i+1),ct:=Pv (i+1),bk:=D.nx } σ2 H2) (hd:∀σ H,Pv xs.length σ H->D.nx σ H):Na (Qp K (Fn i)) g t D σ H :=
 ⟨_,hv,a,rfl,⟨_,hS⟩,Rx Pv h0 hl hs hd⟩
theorem Aob{ta:TA}{R:It->Hp->Prop}(q:ta σ H λvs H1=>∃j:Int,vs=[.int j]/\-(2^62)<=j/\j<2^62/\R (Itr 0 j.toNat) H1):Vw ta σ H R:=q
theorem Aou{R:It->Hp->Prop}(q:ta σ H λx H1=>∃a,x=.ref a/\(∃xs,SqL K H1 a xs)/\R (Itl K a) H1):Qp K ta σ H R:=q
theorem AjX{i:Nat}{a:Addr}{kvs:List (Key×V)}{g:TG}(hv:σ[i]? = some (some (.ref a)))(hS:H a=some (.dK kvs))(Pv:Nat->St->Hp->Prop)(h0:Pv 0 σ H)
  (hl:∀i σ H,i<=kvs.length->Pv i σ H->H a=some (.dK kvs))
  (hs:∀o i kv σ H,kvs[i]? = some kv->Pv i σ H->g (kV kv.1) σ (upd H a (.frz o (.dK kvs))) λσ2 H2=>t (Ends.mk (λσ H=>H a=some (.frz o (.dK kvs))/\Pv (i+1) σ (upd H a (.dK kvs))) (Qt a (.dK kvs) D).rt (Qt a (.dK kvs) D).nx (λσ H=>H a=some (.frz o (.dK kvs))/\Pv (i+1) σ (upd H a (.dK kvs)))) σ2 H2)
  (hd:∀σ H,Pv kvs.length σ H->D.nx σ H):Acy (Na (iDk (Fn i)) g t) D σ H:=by
 refine⟨a,.dK kvs,trivial,hS,λo=>⟨_,hv,a,o,kvs,rfl,Bn,Ado (λi σ H=>H a=some (.frz o (.dK kvs))/\Pv i σ (upd H a (.dK kvs))) ⟨Bn,?_⟩ (λi σ H _ p=>p.1) (λi kv σ H e p=>?_) λσ H p=>⟨o,p.1,hd σ _ p.2⟩⟩⟩
 ·have e:upd (upd H a (.frz o (.dK kvs))) a (.dK kvs)=H:=by
   rw[Gw];funext b;unfold upd;split
   ·rename_i h;rw[h,hS]
   ·rfl
  rw[e];exact h0
 ·have e2:upd (upd H a (.dK kvs)) a (.frz o (.dK kvs))=H:=by
   rw[Gw];funext b;unfold upd;split
   ·rename_i h;rw[h,p.1]
   ·rfl
  have q:=hs o i kv σ _ e p.2
  rw[e2] at q
  exact q
theorem Al6{i:Nat}{a:Addr}{kvs:List (Key×V)}{g:TG}(hv:σ[i]? = some (some (.ref a)))(hS:H a=some (.dK kvs))(Pv:Nat->St->Hp->Prop)(h0:Pv 0 σ H)
  (hs:∀o i kv p σ H,kvs[i]? = some kv->H p=none->p≠a->Pv i σ H->g (.ref p) σ (upd (upd H a (.frz o (.dK kvs))) p (.tup [kV kv.1,kv.2])) λσ2 H2=>t (Ends.mk (λσ H=>H a=some (.frz o (.dK kvs))/\Pv (i+1) σ (upd H a (.dK kvs))) (Qt a (.dK kvs) D).rt (Qt a (.dK kvs) D).nx (λσ H=>H a=some (.frz o (.dK kvs))/\Pv (i+1) σ (upd H a (.dK kvs)))) σ2 H2)
  (hd:∀σ H,Pv kvs.length σ H->D.nx σ H):Acy (Na (iDi (Fn i)) g t) D σ H:=by
 refine⟨a,.dK kvs,trivial,hS,λo=>⟨_,hv,a,o,kvs,rfl,Bn,AcS (λi σ H=>H a=some (.frz o (.dK kvs))/\Pv i σ (upd H a (.dK kvs))) ⟨Bn,?_⟩ (λi σ H _ p=>p.1) (λi kv p σ H e hp w=>?_) λσ H p=>⟨o,p.1,hd σ _ p.2⟩⟩⟩
 ·have e:upd (upd H a (.frz o (.dK kvs))) a (.dK kvs)=H:=by
   rw[Gw];funext b;unfold upd;split
   ·rename_i h;rw[h,hS]
   ·rfl
  rw[e];exact h0
 ·have e2:upd (upd H a (.dK kvs)) a (.frz o (.dK kvs))=H:=by
   rw[Gw];funext b;unfold upd;split
   ·rename_i h;rw[h,w.1]
   ·rfl
  have ne:p≠a:=λz=>by rw[z,w.1] at hp;cases hp
  have q:=hs o i kv p σ (upd H a (.dK kvs)) e (by rw[Bj ne];exact hp) ne w.2
  rw[e2] at q
  exact q
theorem AiP{ta:TA}{g:TG}{hi:Int}{n:Nat}(hargs:∀R:List V->Hp->Prop,R [.int hi] H->ta σ H R)(hb:-(2^62)<=hi/\hi<2^62)(hn:hi.toNat=n)(Pv:Nat->St->Hp->Prop)(h0:Pv 0 σ H)
  (hs:∀i σ H,i<n->Pv i σ H->g (.int (0+i)) σ H λσ2 H2=>t { D with nx:=Pv (i+1),ct:=Pv (i+1),bk:=D.nx } σ2 H2) (hd:∀σ H,Pv n σ H->D.nx σ H):Na (Vw ta) g t D σ H :=
 hargs _ ⟨hi,rfl,hb.1,hb.2,by rw[hn];exact Xm Pv h0 hs hd⟩
end
def Fd(fn:List Str)(env:Env):List (Str×Addr):=fn.map λx=>(x,(env.cells.lookup x).getD 0)
theorem Ub{env:Env}:∀{fn:List Str} {x:Str} {c:Addr},(Fd fn env).lookup x=some c->x∈fn/\c=(env.cells.lookup x).getD 0
 | [],_,_,h=>by cases h
 | y::r,x,c,h=>by
  unfold Fd at h
  rw[map_cons,lookup_cons] at h
  cases e:x==y with
  | true =>
   rw[e] at h
   have:x=y:=eq_of_beq e
   subst this
   cases h
   exact⟨mem_cons_self,rfl⟩
  | false =>
   rw[e] at h
   obtain⟨h1,h2⟩:=Ub (fn:=r) (x:=x) (c:=c) h
   exact⟨mem_cons_of_mem _ h1,h2⟩
theorem Uh{env:Env}:∀{fn:List Str} {x:Str},x∈fn->(Fd fn env).lookup x=some ((env.cells.lookup x).getD 0)
 | [],_,h=>by cases h
 | y::r,x,h=>by
  unfold Fd
  rw[map_cons,lookup_cons]
  cases e:x==y with
  | true =>
   have:x=y:=eq_of_beq e
   subst this
   rfl
  | false =>
   rcases mem_cons.mp h with z | z
   ·subst z;rw[beq_self_eq_true] at e;cases e
   ·exact Uh z
def Fb(X:Cx)(scope:Scope)(N' fn:List Str)(C:Addr)(fp:List Addr)(s:Shared)(H:Hp):Cx :=
 { X with N:=N',s₀:=s,H₀:=H,env:=compEnvC scope (Fd fn X.env) C X.env,outer:=X.stack,stack:=X.stack,ex:=fp,fn:=λ_=>false,pn:=[],xe:=λ_ _=>False }
def compσ(k:Nat)(fr:List Nat)(σ:St):St:=replicate k none++fr.map λi=>(σ[i]?).join
def Jm(wi:TI)(g:TG)(tc:TT)(te:TE)(k:Nat)(fr:List Nat):TE:=λσ H Q=>wi σ H λJ H1=>∀D,H1 D=none ->
 ∃W:Nat->Nat->Hp->Prop,(∃m,W 0 m (upd H1 D (.lst [])))/\∀i m H,W i m H->(J.stop i H/\Q (.ref D) H)\/(J.go i H/\∀x H',J.yld i H x H'->g x (compσ k fr σ) H' λσ2 H2 =>
  σ2.drop k=(compσ k fr σ).drop k/\tc σ2 H2 λb H3=>if b=true then te σ2 H3 (λy H4=>∃ys,H4 D=some (.lst ys)/\ys.length<sizeLine/\∃m',m'<m/\W (i+1) m' (upd H4 D (.lst (ys++[y])))) else ∃m',m'<m/\W (i+1) m' H3)
def Qq(X:Cx)(ifs:List Expr)(t:TT):Prop :=
 ∀(pins:List (Addr×Obj)) (s:Shared) (σ:St) (H:Hp) (Q:Bool->Hp->Prop),Inv X pins σ H s->t σ H Q ->
  wpAny (model X.prog X.w) X.A (forIn ifs true λc r=>if r=true then do let ok <- isTrue c X.env (eval c X.env);pure (ForInStep.yield ok) else pure (ForInStep.yield r)) (TP X pins σ Q) X.xe s
def AcN:TT:=λ_ H Q=>Q true H
theorem Gz{X:Cx}:Qq X [] AcN:=λ_ _ _ H _ I h=>wpAny_tests_nil ⟨H,I,h⟩
theorem Jr{X:Cx}{c:Expr}{t:TT}(h:PT X c t):Qq X [c] t:=λpins s σ H Q I q=>wpAny_tests_one (h pins s σ H Q I q)
theorem Ad3{prog:Program}{w:World}{A:Around}{R:Result->Shared->Prop}{s:Shared}{elt target iter:Expr}{ifs:List Expr}{scope:Scope}{pos:Pos}{it acc:Value}{env:Env}(I:Nat->Shared->Prop)
  (turn:∀n s,I n s->wpAny (model prog w) A (pyNext it) (λr s₁=>match r with
   | none=>R (.ok .next) s₁
   | some v=>wpAny (model prog w) A (letOwnedTupleGo target it v) (λ_ s₁'=>wpAny (model prog w) A (assign target env v) (λ_ s₂ =>
     wpAny (model prog w) A (forIn ifs true λc r=>if r=true then do let ok <- isTrue c env (eval c env);pure (ForInStep.yield ok) else pure (ForInStep.yield r)) (λok s₃ =>
      if ok=true then wpAny (model prog w) A (eval elt env) (λx s₄ =>
       wpAny (model prog w) A (call (.builtin "list.append") [acc,x]) (λ_ s₅=>∃m,m<n/\I m s₅) (λ_ _=>False) s₄) (λ_ _=>False) s₃
      else ∃m,m<n/\I m s₃) (λ_ _=>False) s₂) (λ_ _=>False) s₁') (λ_ _=>False) s₁) (λ_ _=>False) s)
  (n:Nat) (h:I n s) :
  codeAny (model prog w) A (.compLoop (.ListComp elt [⟨target,iter,ifs,0⟩] scope pos) 0 it acc env) R s:=by
 refine codeAny_loop rfl I (λn s hI=>?_) n h
 show wpAny _ A ((compTurn (.ListComp elt [⟨target,iter,ifs,0⟩] scope pos) 0 it acc env).onRaise (λx=>do noteFrame x env;theTreesLotGoes x)) _ _ s
 refine wpAny_noted ?_
 rw[compTurn_list]
 refine wpAny_bind (wpAny_standAt (wpAny_bind (wpAny_mono (turn n s hI) (λr s₁ h₁=>?_) λ_ _ h'=>h'.elim)))
 cases r with
 | none=>exact wpAny_pure h₁
 | some v =>
  refine wpAny_bind (wpAny_mono h₁ (λ_ s₁' h₁'=>?_) λ_ _ h'=>h'.elim)
  refine wpAny_bind (wpAny_mono h₁' (λ_ s₂ h₂=>wpAny_bind (wpAny_mono h₂ (λok s₃ h₃=>?_) λ_ _ h'=>h'.elim)) λ_ _ h'=>h'.elim)
  cases ok with
  | false=>exact wpAny_pure ⟨rfl,h₃⟩
  | true =>
   exact wpAny_bind (wpAny_bind (wpAny_mono h₃ (λx s₄ h₄=>wpAny_bind (wpAny_mono h₄ (λ_ s₅ h₅=>wpAny_pure (wpAny_pure ⟨rfl,h₅⟩)) λ_ _ h'=>h'.elim)) λ_ _ h'=>h'.elim))
theorem compσ_len(k:Nat)(fr:List Nat)(σ:St):(compσ k fr σ).length=k+fr.length:=by
 unfold compσ;rw[length_append,length_replicate,length_map]
theorem compσ_weak{k:Nat}{fr:List Nat}{σ σ2:St}(hd:σ2.drop k=(compσ k fr σ).drop k):∀(i:Nat) v,(compσ k fr σ)[i]? = some (some v)->σ2[i]? = some (some v):=by
 intro i v h
 by_cases hi:i<k
 ·unfold compσ at h
  rw[getElem?_append_left (by rw[length_replicate];exact hi),getElem?_replicate] at h
  rw[if_pos hi] at h;cases h
 ·have e:∀l:St,l[i]? = (l.drop k)[i - k]?:=λl=>by rw[List.getElem?_drop];congr 1;omega
  rw[e] at h ⊢
  rw[hd];exact h
theorem Inv.nsch{X:Cx}{pins:List (Addr×Obj)}{σ:St}{H:Hp}{s:Shared}{C:Addr}{h':Heap}(I:Inv X pins σ H s)(sb:SameBut C s.heap h')(hC:H C=none)(h1:X.s₀.heap.objs.size<=C)(h2:C≠X.env.locals)
  (h3:∀x c,X.env.cells.lookup x=some c->c≠C) (h4:∀p∈X.pn++pins,p.1≠C):Inv X pins σ H { s with heap:=h' }:=by
 have nc:∀b:Addr,b∉[C]->b≠C:=λb z w=>z (by rw[w];exact mem_cons_self)
 refine Inv.call (s:=s) I (h':=h') (g':=s.gens) (d':=s.drawn) (t':=s.toks) (ch:=[C]) ⟨λb o e n _ hx=>(sb.2 b (nc b hx)).trans e,λb o e n _ hx=>⟨o.slots,(sb.2 b (nc b hx)).trans e⟩,λ_ _ _ n _=>n,λb o e hx=>⟨o,(sb.2 b (nc b hx)).trans e⟩,λ_ _ e=>e,λ_ _ _ e=>e,λb ps e=>⟨#[],by rw[Array.append_empty];exact e⟩⟩ (λb u e=>?_) I.bare (λb hb=>?_)
 ·refine (I.hok b u e).stay (λc v hc' q'=>(sb.2 c ?_).trans q') (λ_ q'=>q') λ_ _ q'=>q'
  rcases hc' with w | w
  ·rw[w];exact Bz e hC
  ·exact Bz w hC
 ·rw[mem_singleton.mp hb]
  exact⟨.inr h1,h2,h3,h4⟩
theorem Xu{X:Cx}{elt tg iter:Expr}{ifs:List Expr}{scope:Scope}{pos:Pos}{wi:TI}{g:TG}{tc:TT}{te:TE}{k:Nat}{fr:List Nat}{N' fn:List Str}(hc:X.calm=true)
  (hi:PI X tg iter wi) (hN:N'.length=k+fr.length)
  (hfr:∀j y,N'[k+j]? = some y->∀i,fr[j]? = some i->X.N[i]? = some y/\X.env.kindOf y=some .cell/\(compEnvC scope (Fd fn X.env) 0 X.env).kindOf y=some .cell/\y∈fn)
  (hfn:∀y∈fn,X.env.kindOf y=some .cell)
  (hkd:∀y,((compEnvC scope (Fd fn X.env) 0 X.env).kindOf y=some .cell\/(compEnvC scope (Fd fn X.env) 0 X.env).kindOf y=some .free)->y∈fn)
  (hg:∀C fp s H,PG (Fb X scope N' fn C fp s H) tg g) (ht:∀C fp s H,Qq (Fb X scope N' fn C fp s H) ifs tc) (he:∀C fp s H,PE (Fb X scope N' fn C fp s H) elt te)
  (hclos:closureFor scope X.env=pure (Fd fn X.env)) (hcell:∀y∈scope.names,y.2≠.cell) (hkind:scope.kind=.function) (hnames:∀y∈scope.names,y.2=.local->scope.names.lookup y.1=some .local)
  (hs:∀x,foldedSetIterable iter X.env x=pure x:=by intro _;rfl) {pins:List (Addr×Obj)} {s:Shared} {σ:St} {H:Hp} {Q:VK} {use:Option (Value->Sem Unit)} {Qc:Value->Shared->Prop} {cpos:Pos} (I:Inv X pins σ H s) (h:Jm wi g tc te k fr σ H Q)
  (fin:∀(H3:Hp) (s4:Shared) (D C:Addr) (m:Str->Option Value),s4.heap.Ns C m->Inv X pins σ H3 s4->H3 C=none->X.s₀.heap.objs.size<=C->C≠X.env.locals->(∀x c,X.env.cells.lookup x=some c->c≠C)->(∀p∈X.pn++pins,p.1≠C)->Q (.ref D) H3 ->
   compPost (model X.prog X.w) X.A X.xe use Qc (.ref D) C (.ok .next) s4) :
  wpAny (model X.prog X.w) X.A (comprehension (.ListComp elt [⟨tg,iter,ifs,0⟩] scope pos) scope X.env cpos (newList []) false (eval iter X.env) use) Qc X.xe s:=by
 refine wpAny_comprehension_free (use:=use) rfl hs hclos hkind hnames (thn (hi pins s σ H _ I h) λv s1 h1=>thn h1 λitv s2 h2=>?_)
 obtain⟨it,fp,tn,J,H2,e,I2,T,st2,f2,q⟩:=h2
 subst e
 have hfr2:H2 s2.heap.objs.size=none:=I2.hok.fresh (Nat.le_refl _)
 obtain⟨W,⟨m0,w0⟩,turn⟩:=q s2.heap.objs.size hfr2
 refine wpAny_newObj_type (wpAny_newFunctionEnv hcell (by intro y hy;simp at hy) (λh₁ hns₁ hsb₁=>?_) hkind)
 dsimp only at hns₁ hsb₁ ⊢
 generalize hHH:s2.heap.push { cls:=.type "list",dict:=none,data:=.seq ([]:List Value).toArray }=HH at hns₁ hsb₁ ⊢
 have hC:HH.objs.size=s2.heap.objs.size+1:=by rw[<- hHH,Heap.size_push]
 have hDC:s2.heap.objs.size≠HH.objs.size:=by rw[hC];exact ne_of_lt (lt_succ_self _)
 have hCle:s2.heap.objs.size<=HH.objs.size:=by rw[hC];exact le_succ _
 have below:∀b,b<s2.heap.objs.size->b≠HH.objs.size:=λb hb=>by rw[hC];exact ne_of_lt (lt_succ_of_lt hb)
 have old:∀b o,s2.heap.get? b=some o->h₁.get? b=some o:=λb o e=>hsb₁.extBut b o (below b (lt_size e)) (get?_push_of_some _ (hHH▸get?_push_of_some _ e))
 have hacc:h₁.get? s2.heap.objs.size=some { cls:=.type "list",dict:=none,data:=.seq ([]:List Value).toArray }:=hsb₁.extBut _ _ hDC (get?_push_of_some _ (hHH▸get?_push_size _ rfl))
 have hst₁:tn 0 h₁:=T.keep _ _ _ st2 λb _ o e=>old b o e
 -- the cells from around
 have hcl:∀x c,(Fd fn X.env).lookup x=some c->X.env.cells.lookup x=some c:=λx c e=>by
  obtain⟨h1,h2⟩:=Ub e
  obtain⟨c',e'⟩:=I2.ok.has x (.inl (hfn x h1))
  rw[h2,e'];rfl
 have kd0:∀C y,(compEnvC scope (Fd fn X.env) C X.env).kindOf y=(compEnvC scope (Fd fn X.env) 0 X.env).kindOf y:=λ_ _=>rfl
 have fpLt:∀b∈fp,b<s2.heap.objs.size:=λb hb=>by obtain⟨o,e,_⟩:=T.obj _ _ st2 b hb;exact lt_size e
 have cLt:∀x c,(Fd fn X.env).lookup x=some c->c<s2.heap.objs.size:=λx c e=>by obtain⟨v,z⟩:=I2.cell x c (hcl x c e);exact z.lt
 -- the block's context
 generalize hX:Fb X scope N' fn HH.objs.size fp s2 H2=X'
 have ok:X'.Ok:=by
  subst hX
  exact {
   mod:=I2.ok.mod
   kind:=hkind
   glob:=I2.ok.glob
   blt:=I2.ok.blt
   above:=hCle
   inj:=λx y c h1 h2=>I2.ok.inj x y c (hcl x c h1) (hcl y c h2)
   has:=λx hx=>⟨_,Uh (hkd x hx)⟩
   cab:=λx c z=>by cases z
   hd:=λ_=>I2.ok.hd hc
   frames:=I2.ok.frames
   stk:=.inl rfl
   exf:=λb hb=>⟨ne_of_lt (Nat.lt_of_lt_of_le (fpLt b hb) hCle),λx c e z=>by
    obtain⟨_,_,_,_,f4,_⟩:=f2 b hb
    exact f4 x c (hcl x c e) z⟩
   bs:=I2.bs
   bsz:=Nat.le_trans I2.ok.bsz I2.sz
   noex:=λb o e z=>by
    obtain⟨_,_,_,f3,_,_⟩:=f2 b z
    rcases f3 with w | w
    ·exact I2.ok.noex b o e w
    ·have h1:=(I2.ok.bs b o e).1
     exact absurd (Nat.lt_of_lt_of_le (lt_size h1) w) (Nat.lt_irrefl _)
   exfs:=λb z hb=>by
    obtain⟨_,f1,f2',_⟩:=f2 b z
    rcases mem_cons.mp (I2.stkSub b hb) with w | w
    ·exact f1 w
    ·exact f2' w
   funs:=I2.stack
   frf:=I2.stkFree }
 have un1:Un X'.fs X'.ex H2 (upd H2 s2.heap.objs.size (.lst [])) s2.heap h₁:=Un.laid old (Nat.le_refl _) hfr2
 have hok1:HOk X.prog X.w (upd H2 s2.heap.objs.size (.lst [])) h₁:=I2.hok.laid old (Nat.le_refl _) ⟨zero_le _,[],0,.nil,hacc⟩
 have nC:H2 HH.objs.size=none:=I2.hok.fresh hCle
 have I0:∀tk,Inv X' [] (compσ k fr σ) (upd H2 s2.heap.objs.size (.lst [])) { s2 with heap:=h₁,toks:=tk }:=λtk=>by
  have ex:X'.env=compEnvC scope (Fd fn X.env) HH.objs.size X.env:=by subst hX;rfl
  refine⟨ok,by subst hX;rfl,I2.bare,by subst hX;exact un1,?_,?_,?_,?_,?_,by subst hX;exact hok1,?_⟩
  ·obtain⟨m,hn,hl⟩:=I2.loc
   refine⟨_,by rw[ex];exact hns₁,λi x v e1 e2 e3=>?_⟩
   have e1':N'[i]? = some x:=by subst hX;exact e1
   have hik:k<=i:=by
    rcases Nat.lt_or_ge i k with z | z
    ·unfold compσ at e2
     rw[getElem?_append_left (by rw[length_replicate];exact z),getElem?_replicate,if_pos z] at e2
     cases e2
    ·exact z
   obtain⟨j,rfl⟩:=Nat.exists_eq_add_of_le hik
   have e2':(fr.map λi=>(σ[i]?).join)[j]? = some (some v):=by
    unfold compσ at e2
    rw[getElem?_append_right (by rw[length_replicate];omega),length_replicate] at e2
    simpa using e2
   rw[getElem?_map] at e2'
   cases ef:fr[j]? with
   | none=>rw[ef] at e2';cases e2'
   | some i0 =>
    rw[ef] at e2'
    have e4:(σ[i0]?).join=some v:=Option.some.inj e2'
    obtain⟨a1,a2,a3,a4⟩:=hfr j x e1' i0 ef
    have e5:σ[i0]? = some (some v):=by
     cases z:σ[i0]? with
     | none=>rw[z] at e4;cases e4
     | some o=>rw[z] at e4;have:o=some v:=e4;rw[this]
    obtain⟨u,ru,l⟩:=hl i0 x v a1 e5 (.inr (.inl a2))
    refine⟨u,ru,.inr ⟨.inl (by rw[ex,kd0];exact a3),?_⟩⟩
    rcases l with ⟨lk,_⟩ | ⟨_,c,lc,lcell⟩
    ·rw[a2] at lk;cases lk
    ·refine⟨c,by rw[ex];show (Fd fn X.env).lookup x=some c;rw[Uh a4,lc];rfl,?_⟩
     obtain⟨o,ho,hd⟩:=lcell
     exact⟨o,old c o ho,hd⟩
  ·intro x c e
   rw[ex] at e
   obtain⟨v,o,ho,hd⟩:=I2.cell x c (hcl x c e)
   exact⟨v,o,old c o ho,hd⟩
  ·rw[ex]
   show (upd H2 s2.heap.objs.size (.lst [])) HH.objs.size=none
   rw[Bj hDC.symm];exact nC
  ·intro x c e
   rw[ex] at e
   rw[Bj (ne_of_lt (cLt x c e))]
   exact I2.freeC x c (hcl x c e)
  ·intro p hp
   subst hX
   exact absurd (show p∈([]:List (Addr×Obj)) from hp) (by simp)
  ·rw[compσ_len];subst hX;exact hN.symm
 have fpOk:∀{H':Hp} {pins':List (Addr×Obj)},(∀b∈fp,H' b=none)->pins'=[]->∀b∈fp,Sm X' pins' H' b:=λ{H' pins'} hn e b hb=>by
  subst e
  obtain⟨_,f1,f2',f3,f4,f5⟩:=f2 b hb
  subst hX
  refine⟨hn b hb,ne_of_lt (Nat.lt_of_lt_of_le (fpLt b hb) hCle),λz=>?_,.inl hb,λx c e=>f4 x c (hcl x c e),λp hp=>absurd (show p∈([]:List (Addr×Obj)) from hp) (by simp)⟩
  rcases mem_cons.mp (I2.stkSub b z) with w | w
  ·exact f1 w
  ·exact f2' w
 have eqP:X'.prog=X.prog/\X'.w=X.w/\X'.K=X.K/\X'.calm=true/\X'.A=X.A/\X'.env=compEnvC scope (Fd fn X.env) HH.objs.size X.env/\X'.N=N':=by subst hX;exact⟨rfl,rfl,rfl,hc,rfl,rfl,rfl⟩
 obtain⟨eP,eW,eK,eC,eA,eE,eN⟩:=eqP
 have hg':PG X' tg g:=by subst hX;exact hg _ _ _ _
 have ht':Qq X' ifs tc:=by subst hX;exact ht _ _ _ _
 have he':PE X' elt te:=by subst hX;exact he _ _ _ _
 have eX:X'.xe=λ_ _=>False:=by subst hX;rfl
 have loop:∀s₃:Shared,s₃={ s2 with heap:=h₁,toks:=s2.toks+([]:List (Str×Value)).length } ->
   codeAny (model X.prog X.w) X.A (.compLoop (.ListComp elt [⟨tg,iter,ifs,0⟩] scope pos) 0 (.ref it) (.ref s2.heap.objs.size) (compEnvC scope (Fd fn X.env) HH.objs.size X.env))
    (compPost (model X.prog X.w) X.A X.xe use Qc (.ref s2.heap.objs.size) HH.objs.size) s₃:=by
  rintro s₃ rfl
  refine Ad3 (λn s'=>∃i H',Inv X' [] (compσ k fr σ) H' s'/\tn i s'.heap/\(∀b∈fp,H' b=none)/\W i n H') ?_ m0 ⟨0,_,I0 _,hst₁,λb hb=>by rw[Bj (ne_of_lt (fpLt b hb))];exact (f2 b hb).1,w0⟩
  rintro n s3 ⟨i,H3,I3,st3,fr3,w3⟩
  rcases turn i n H3 w3 with ⟨stop,qn⟩ | ⟨go,step⟩
  ·have d:=T.done X' eP eW eK eC i [] s3 (compσ k fr σ) H3 (λ_ _=>False) I3 (fpOk fr3 rfl) st3 stop
   rw[eA] at d
   refine thn d λr s4 ⟨hr,I4⟩=>?_
   subst hr
   obtain⟨m,hn,_⟩:=I4.loc
   rw[eE] at hn
   have u4:Un (frs X.stack) fp H2 H3 s2.heap s4.heap:=by have:=I4.base;subst hX;exact this
   have nC3:H3 HH.objs.size=none:=by have:=I4.free;rw[eE] at this;exact this
   have hok5:HOk X.prog X.w H3 s4.heap:=λb u e=>by
    have z:=I4.hok b u e
    rw[eP,eW] at z
    exact z
   have os4:s4.os=s2.os:=by have:=I4.os;subst hX;exact this
   obtain⟨hh,gg,dd,tt,oo⟩:=s4
   obtain rfl:oo=s2.os:=os4
   have Ix:Inv X pins σ H3 ⟨hh,gg,dd,tt,s2.os⟩:=Inv.call (s:=s2) I2 (h':=hh) (g':=gg) (d':=dd) (t':=tt) (ch:=fp) u4 hok5 I4.bare λb hb=>by
    obtain⟨_,f1,_,f3,f4,f5⟩:=f2 b hb
    exact⟨f3,f1,f4,f5⟩
   refine fin H3 _ _ _ m hn Ix nC3 (Nat.le_trans I2.sz hCle) ?_ (λx c e=>?_) (λp hp=>?_) qn
   ·obtain⟨_,⟨o,_,_,ho,_⟩,_⟩:=I2.loc
    exact (below _ (lt_size ho)).symm
   ·obtain⟨v,z⟩:=I2.cell x c e
    exact below _ z.lt
   ·exact below _ (lt_size (I2.pin p hp).1)
  ·have d:=T.item X' eP eW eK eC i [] s3 (compσ k fr σ) H3 (λ_ _=>False) I3 (fpOk fr3 rfl) st3 go
   rw[eA] at d
   refine thn d λr s4 ⟨u,hr,h4⟩=>?_
   subst hr
   refine thn h4 λ_ s5 ⟨x,H5,I5,r5,y5,st5,fr5⟩=>?_
   have I5':=I5.pinned (fpOk fr5 rfl) (T.obj _ _ st5)
   have a1:=hg' _ s5 (compσ k fr σ) H5 x u _ I5' r5 (step x H5 y5)
   rw[eP,eW,eA,eE,eX] at a1
   refine thn a1 λ_ s6 ⟨σ6,H6,I6,q6a,q6⟩=>?_
   have a2:=ht' _ s6 σ6 H6 _ I6 q6
   rw[eP,eW,eA,eE,eX] at a2
   refine thn a2 λb s7 ⟨H7,I7,q7⟩=>?_
   have again:∀{H8:Hp} {s8:Shared},Inv X' ([]++Sr fp s5.heap) σ6 H8 s8->(∃m',m'<n/\W (i+1) m' H8)->∃m,m<n/\∃i H',Inv X' [] (compσ k fr σ) H' s8/\tn i s8.heap/\(∀b∈fp,H' b=none)/\W i m H':=λ{H8 s8} I8 ⟨m',hm,w8⟩=>by
    refine⟨m',hm,i+1,H8,I8.unpinned.weak ?_ (compσ_weak q6a),T.keep _ _ _ st5 λb hb o e=>(I8.pin (b,o) (mem_append_right _ (mem_append_right _ (Nx hb e)))).1,λb hb=>?_,w8⟩
    ·rw[compσ_len,I8.len,eN,hN]
    ·obtain⟨o,e,_⟩:=T.obj _ _ st5 b hb
     exact (I8.pin (b,o) (mem_append_right _ (mem_append_right _ (Nx hb e)))).2.1
   cases b with
   | false =>
    rw[if_neg Bool.false_ne_true] at q7 ⊢
    exact again I7 q7
   | true =>
    rw[if_pos rfl] at q7 ⊢
    have a3:=he' _ s7 σ6 H7 _ I7 q7
    rw[eP,eW,eA,eE,eX] at a3
    refine thn a3 λyv s8 ⟨y,H8,I8,r8,ys,hD,hz,q8⟩=>?_
    have a4:=Xi (X:=X') _ s8 σ6 H8 (.ref s2.heap.objs.size) [y] (.ref s2.heap.objs.size) [yv] (λ_ H9=>∃m',m'<n/\W (i+1) m' H9) I8 rfl (.cons r8 .nil) ⟨_,ys,y,rfl,rfl,hD,hz,q8⟩
    rw[eP,eW,eA,eX] at a4
    exact thn a4 λ_ s9 ⟨_,H9,I9,_,q9⟩=>again I9 q9
 exact codeAny_compStart_list (loop _ rfl) (T.self _ 0 _ _ _ hst₁ (loop _ rfl))
theorem Aa5{X:Cx}{elt tg iter:Expr}{ifs:List Expr}{scope:Scope}{pos:Pos}{wi:TI}{g:TG}{tc:TT}{te:TE}{k:Nat}{fr:List Nat}{N' fn:List Str}(hc:X.calm=true)
  (hi:PI X tg iter wi) (hN:N'.length=k+fr.length)
  (hfr:∀j y,N'[k+j]? = some y->∀i,fr[j]? = some i->X.N[i]? = some y/\X.env.kindOf y=some .cell/\(compEnvC scope (Fd fn X.env) 0 X.env).kindOf y=some .cell/\y∈fn)
  (hfn:∀y∈fn,X.env.kindOf y=some .cell)
  (hkd:∀y,((compEnvC scope (Fd fn X.env) 0 X.env).kindOf y=some .cell\/(compEnvC scope (Fd fn X.env) 0 X.env).kindOf y=some .free)->y∈fn)
  (hg:∀C fp s H,PG (Fb X scope N' fn C fp s H) tg g) (ht:∀C fp s H,Qq (Fb X scope N' fn C fp s H) ifs tc) (he:∀C fp s H,PE (Fb X scope N' fn C fp s H) elt te)
  (hclos:closureFor scope X.env=pure (Fd fn X.env)) (hcell:∀y∈scope.names,y.2≠.cell) (hkind:scope.kind=.function) (hnames:∀y∈scope.names,y.2=.local->scope.names.lookup y.1=some .local)
  (hs:∀x,foldedSetIterable iter X.env x=pure x:=by intro _;rfl):PE X (.ListComp elt [⟨tg,iter,ifs,0⟩] scope pos) (Jm wi g tc te k fr):=by
 intro pins s σ H Q I h
 rw[eval_ListComp]
 refine Xu hc hi hN hfr hfn hkd hg ht he hclos hcell hkind hnames hs I h λH3 s4 D C m hn Ix hC h1 h2 h3 h4 q=>?_
 exact⟨m,hn,λh' sb=>⟨.ref D,H3,Inv.nsch Ix sb hC h1 h2 h3 h4,rfl,q⟩⟩
theorem Aa2{X:Cx}{elt tg iter:Expr}{ifs:List Expr}{scope:Scope}{pos px spos:Pos}{i:Nat}{x:Str}{wi:TI}{g:TG}{tc:TT}{te:TE}{k:Nat}{fr:List Nat}{N' fn:List Str}(hc:X.calm=true)
  (hi:PI X tg iter wi) (hN:N'.length=k+fr.length)
  (hfr:∀j y,N'[k+j]? = some y->∀i,fr[j]? = some i->X.N[i]? = some y/\X.env.kindOf y=some .cell/\(compEnvC scope (Fd fn X.env) 0 X.env).kindOf y=some .cell/\y∈fn)
  (hfn:∀y∈fn,X.env.kindOf y=some .cell)
  (hkd:∀y,((compEnvC scope (Fd fn X.env) 0 X.env).kindOf y=some .cell\/(compEnvC scope (Fd fn X.env) 0 X.env).kindOf y=some .free)->y∈fn)
  (hg:∀C fp s H,PG (Fb X scope N' fn C fp s H) tg g) (ht:∀C fp s H,Qq (Fb X scope N' fn C fp s H) ifs tc) (he:∀C fp s H,PE (Fb X scope N' fn C fp s H) elt te)
  (hclos:closureFor scope X.env=pure (Fd fn X.env)) (hcell:∀y∈scope.names,y.2≠.cell) (hkind:scope.kind=.function) (hnames:∀y∈scope.names,y.2=.local->scope.names.lookup y.1=some .local)
  (hs:∀x,foldedSetIterable iter X.env x=pure x:=by intro _;rfl) (hNd:X.N.Nodup) (hix:X.N[i]? = some x) (hx:Loc X.env.scope x) (hsw:swapsWith (.ListComp elt [⟨tg,iter,ifs,0⟩] scope pos) (some (.Name x px)) spos.line X.env=pure true)
  (hf:X.fn x=true\/X.env.scope.names.lookup x=some .local:=by first | exact .inl rfl | exact .inr rfl | assumption):PS X (.Assign [.Name x px] (.ListComp elt [⟨tg,iter,ifs,0⟩] scope pos) spos) (Lj (Jm wi g tc te k fr) (Go i)):=by
 intro pins s σ H D I h
 rw[exec_Assign_Name_used _ _ _ _ hsw]
 refine wpAny_bind (wpAny_standAt (wpAny_bind ?_))
 show wpAny _ X.A (do let _ <- comprehension (.ListComp elt [⟨tg,iter,ifs,0⟩] scope pos) scope X.env _ (newList []) false (eval iter X.env) (some (assign (.Name x px) X.env))) _ _ s
 refine wpAny_bind (wpAny_mono (Xu (use:=some (assign (.Name x px) X.env)) (Qc:=λ_ s'=>SP X pins D .next s') hc hi hN hfr hfn hkd hg ht he hclos hcell hkind hnames hs I h λH3 s4 D' C m hn Ix hC h1 h2 h3 h4 q=>?_) (λ_ s' hq=>wpAny_pure (wpAny_pure hq)) λ_ _ e=>e)
 show wpAny _ X.A (assign (.Name x px) X.env (.ref D')) _ _ _
 refine wpAny_assign_Name (Xs Ix hNd hix hx (v:=.ref D') rfl (λs' I' ⟨a,sb,ha⟩=>?_) hf)
 have nCa:C≠a:=by
  rcases ha with w | w
  ·rw[w];exact h2
  ·exact (h3 _ _ w).symm
 exact⟨m,hn.sameBut sb nCa,λh' sb'=>⟨_,H3,Inv.nsch I' sb' hC h1 h2 h3 h4,q⟩⟩
theorem Cb{X:Cx}{scope:Scope}{N' fn:List Str}{C:Addr}{fp:List Addr}{s:Shared}{H:Hp}:(Fb X scope N' fn C fp s H).K=X.K:=rfl
theorem Fy{X:Cx}{pos:Pos}{K':Frag}(hK:X.K=K'){es:List Expr}{k:Nat}{t:TGs}{n:Nat}(hc:X.calm=true)(h:PGs X es t)
  (hn:(assignEach es X.env).length=n:=by rfl) (hst:(assignEach es X.env).findIdx? (·.1)=none:=by rfl):PG X (.Tuple es k pos) (Xa K' n t):=by
 subst hK
 exact Qb hc h hn hst
theorem Jw:∀{l:List (Str×NameKind)} {y:Str} {k:NameKind},l.lookup y=some k->(y,k)∈l
 | [],_,_,h=>by cases h
 | (x,j)::r,y,k,h=>by
  rw[lookup_cons] at h
  cases e:y==x with
  | true =>
   rw[e] at h
   cases h
   rw[eq_of_beq e];exact mem_cons_self
  | false =>
   rw[e] at h
   exact mem_cons_of_mem _ (Jw h)
theorem Uv{X:Cx}{elt tg iter:Expr}{ifs:List Expr}{scope:Scope}{pos:Pos}{wi:TI}{g:TG}{tc:TT}{te:TE}(k:Nat)(N':List Str)(hN:N'.length=k)(hc:X.calm=true)
  (hi:PI X tg iter wi)
  (hg:∀C fp s H,PG (Fb X scope N' [] C fp s H) tg g) (ht:∀C fp s H,Qq (Fb X scope N' [] C fp s H) ifs tc) (he:∀C fp s H,PE (Fb X scope N' [] C fp s H) elt te)
  (hfree:∀y∈scope.names,y.2≠.free) (hcell:∀y∈scope.names,y.2≠.cell) (hkind:scope.kind=.function) (hnames:∀y∈scope.names,y.2=.local->scope.names.lookup y.1=some .local)
  (hs:∀x,foldedSetIterable iter X.env x=pure x:=by intro _;rfl):PE X (.ListComp elt [⟨tg,iter,ifs,0⟩] scope pos) (Jm wi g tc te k []):=by
 refine Aa5 (fn:=[]) (fr:=[]) (k:=k) hc hi hN (λj y _ i e=>by simp at e) (λy hy=>by cases hy) (λy h=>?_) hg ht he (PySem.closureFor_none hfree) hcell hkind hnames hs
 have e:∀k,(compEnvC scope (Fd [] X.env) 0 X.env).kindOf y=some k->∃p∈scope.names,p.2=.free\/p.2=k:=by
  intro k h
  have m:=Jw (show (relabel scope X.env).names.lookup y=some k from h)
  obtain⟨p,hp,ep⟩:=mem_map.mp (show (y,k)∈scope.names.map _ from m)
  obtain⟨n,kd⟩:=p
  refine⟨(n,kd),hp,?_⟩
  dsimp only at ep
  split at ep
  ·rename_i c
   simp only [and_eq_true,beq_iff_eq] at c
   exact .inl c.1.1
  ·exact .inr (Prod.mk.inj ep).2
 rcases h with h | h
 ·obtain⟨p,hp,z⟩:=e _ h
  rcases z with z | z
  ·exact (hfree p hp z).elim
  ·exact (hcell p hp z).elim
 ·obtain⟨p,hp,z⟩:=e _ h
  rcases z with z | z
  ·exact (hfree p hp z).elim
  ·exact (hfree p hp z).elim
theorem Rt{X:Cx}{elt tg iter:Expr}{ifs:List Expr}{scope:Scope}{pos px spos:Pos}{i:Nat}{x:Str}{wi:TI}{g:TG}{tc:TT}{te:TE}(k:Nat)(N':List Str)(hN:N'.length=k)(hc:X.calm=true)
  (hi:PI X tg iter wi)
  (hg:∀C fp s H,PG (Fb X scope N' [] C fp s H) tg g) (ht:∀C fp s H,Qq (Fb X scope N' [] C fp s H) ifs tc) (he:∀C fp s H,PE (Fb X scope N' [] C fp s H) elt te)
  (hfree:∀y∈scope.names,y.2≠.free) (hcell:∀y∈scope.names,y.2≠.cell) (hkind:scope.kind=.function) (hnames:∀y∈scope.names,y.2=.local->scope.names.lookup y.1=some .local)
  (hs:∀x,foldedSetIterable iter X.env x=pure x:=by intro _;rfl) (hNd:X.N.Nodup) (hix:X.N[i]? = some x) (hx:Loc X.env.scope x) (hsw:swapsWith (.ListComp elt [⟨tg,iter,ifs,0⟩] scope pos) (some (.Name x px)) spos.line X.env=pure true)
  (hf:X.fn x=true\/X.env.scope.names.lookup x=some .local:=by first | exact .inl rfl | exact .inr rfl | assumption):PS X (.Assign [.Name x px] (.ListComp elt [⟨tg,iter,ifs,0⟩] scope pos) spos) (Lj (Jm wi g tc te k []) (Go i)):=by
 refine Aa2 (fn:=[]) (fr:=[]) (k:=k) hc hi hN (λj y _ i e=>by simp at e) (λy hy=>by cases hy) (λy h=>?_) hg ht he (PySem.closureFor_none hfree) hcell hkind hnames hs hNd hix hx hsw hf
 have e:∀k,(compEnvC scope (Fd [] X.env) 0 X.env).kindOf y=some k->∃p∈scope.names,p.2=.free\/p.2=k:=by
  intro k h
  have m:=Jw (show (relabel scope X.env).names.lookup y=some k from h)
  obtain⟨p,hp,ep⟩:=mem_map.mp (show (y,k)∈scope.names.map _ from m)
  obtain⟨n,kd⟩:=p
  refine⟨(n,kd),hp,?_⟩
  dsimp only at ep
  split at ep
  ·rename_i c
   simp only [and_eq_true,beq_iff_eq] at c
   exact .inl c.1.1
  ·exact .inr (Prod.mk.inj ep).2
 rcases h with h | h
 ·obtain⟨p,hp,z⟩:=e _ h
  rcases z with z | z
  ·exact (hfree p hp z).elim
  ·exact (hcell p hp z).elim
 ·obtain⟨p,hp,z⟩:=e _ h
  rcases z with z | z
  ·exact (hfree p hp z).elim
  ·exact (hfree p hp z).elim
theorem Jq{X:Cx}{elt tg iter:Expr}{ifs:List Expr}{scope:Scope}{pos:Pos}{wi:TI}{g:TG}{tc:TT}{te:TE}(k:Nat)(fr:List Nat)(N' fn:List Str)(hc:X.calm=true)
  (hi:PI X tg iter wi) (hN:N'.length=k+fr.length)
  (hfr:∀j y,N'[k+j]? = some y->∀i,fr[j]? = some i->X.N[i]? = some y/\X.env.kindOf y=some .cell/\(compEnvC scope (Fd fn X.env) 0 X.env).kindOf y=some .cell/\y∈fn)
  (hfn:∀y∈fn,X.env.kindOf y=some .cell) (hkd:∀p∈scope.names,(p.2=.cell\/p.2=.free)->p.1∈fn)
  (hg:∀C fp s H,PG (Fb X scope N' fn C fp s H) tg g) (ht:∀C fp s H,Qq (Fb X scope N' fn C fp s H) ifs tc) (he:∀C fp s H,PE (Fb X scope N' fn C fp s H) elt te)
  (hclos:closureFor scope X.env=pure (Fd fn X.env)) (hcell:∀y∈scope.names,y.2≠.cell) (hkind:scope.kind=.function) (hnames:∀y∈scope.names,y.2=.local->scope.names.lookup y.1=some .local)
  (hs:∀x,foldedSetIterable iter X.env x=pure x:=by intro _;rfl):PE X (.ListComp elt [⟨tg,iter,ifs,0⟩] scope pos) (Jm wi g tc te k fr):=by
 refine Aa5 hc hi hN hfr hfn (λy h=>?_) hg ht he hclos hcell hkind hnames hs
 have e:∀k,(compEnvC scope (Fd fn X.env) 0 X.env).kindOf y=some k->∃p∈scope.names,p.1=y/\(p.2=.free\/p.2=k):=by
  intro k h
  have m:=Jw (show (relabel scope X.env).names.lookup y=some k from h)
  obtain⟨p,hp,ep⟩:=mem_map.mp (show (y,k)∈scope.names.map _ from m)
  obtain⟨n,kd⟩:=p
  refine⟨(n,kd),hp,?_⟩
  dsimp only at ep
  split at ep
  ·rename_i c
   simp only [and_eq_true,beq_iff_eq] at c
   exact⟨(Prod.mk.inj ep).1,.inl c.1.1⟩
  ·exact⟨(Prod.mk.inj ep).1,.inr (Prod.mk.inj ep).2⟩
 rcases h with h | h
 ·obtain⟨p,hp,z1,z⟩:=e _ h
  rw[<- z1];exact hkd p hp (z.elim .inr .inl)
 ·obtain⟨p,hp,z1,z⟩:=e _ h
  rw[<- z1];exact hkd p hp (.inr (z.elim id id))
theorem Ov{X:Cx}{elt tg iter:Expr}{ifs:List Expr}{scope:Scope}{pos px spos:Pos}{i:Nat}{x:Str}{wi:TI}{g:TG}{tc:TT}{te:TE}(k:Nat)(fr:List Nat)(N' fn:List Str)(hc:X.calm=true)
  (hi:PI X tg iter wi) (hN:N'.length=k+fr.length)
  (hfr:∀j y,N'[k+j]? = some y->∀i,fr[j]? = some i->X.N[i]? = some y/\X.env.kindOf y=some .cell/\(compEnvC scope (Fd fn X.env) 0 X.env).kindOf y=some .cell/\y∈fn)
  (hfn:∀y∈fn,X.env.kindOf y=some .cell) (hkd:∀p∈scope.names,(p.2=.cell\/p.2=.free)->p.1∈fn)
  (hg:∀C fp s H,PG (Fb X scope N' fn C fp s H) tg g) (ht:∀C fp s H,Qq (Fb X scope N' fn C fp s H) ifs tc) (he:∀C fp s H,PE (Fb X scope N' fn C fp s H) elt te)
  (hclos:closureFor scope X.env=pure (Fd fn X.env)) (hcell:∀y∈scope.names,y.2≠.cell) (hkind:scope.kind=.function) (hnames:∀y∈scope.names,y.2=.local->scope.names.lookup y.1=some .local)
  (hs:∀x,foldedSetIterable iter X.env x=pure x:=by intro _;rfl) (hNd:X.N.Nodup) (hix:X.N[i]? = some x) (hx:Loc X.env.scope x) (hsw:swapsWith (.ListComp elt [⟨tg,iter,ifs,0⟩] scope pos) (some (.Name x px)) spos.line X.env=pure true)
  (hf:X.fn x=true\/X.env.scope.names.lookup x=some .local:=by first | exact .inl rfl | exact .inr rfl | assumption):PS X (.Assign [.Name x px] (.ListComp elt [⟨tg,iter,ifs,0⟩] scope pos) spos) (Lj (Jm wi g tc te k fr) (Go i)):=by
 refine Aa2 hc hi hN hfr hfn (λy h=>?_) hg ht he hclos hcell hkind hnames hs hNd hix hx hsw hf
 have e:∀k,(compEnvC scope (Fd fn X.env) 0 X.env).kindOf y=some k->∃p∈scope.names,p.1=y/\(p.2=.free\/p.2=k):=by
  intro k h
  have m:=Jw (show (relabel scope X.env).names.lookup y=some k from h)
  obtain⟨p,hp,ep⟩:=mem_map.mp (show (y,k)∈scope.names.map _ from m)
  obtain⟨n,kd⟩:=p
  refine⟨(n,kd),hp,?_⟩
  dsimp only at ep
  split at ep
  ·rename_i c
   simp only [and_eq_true,beq_iff_eq] at c
   exact⟨(Prod.mk.inj ep).1,.inl c.1.1⟩
  ·exact⟨(Prod.mk.inj ep).1,.inr (Prod.mk.inj ep).2⟩
 rcases h with h | h
 ·obtain⟨p,hp,z1,z⟩:=e _ h
  rw[<- z1];exact hkd p hp (z.elim .inr .inl)
 ·obtain⟨p,hp,z1,z⟩:=e _ h
  rw[<- z1];exact hkd p hp (.inr (z.elim id id))
theorem Aey{K:Frag}{σ:St}{H:Hp}{Q:VK}{D a:Addr}{xs:List V}{g:TG}{tc:TT}{te:TE}{k:Nat}{fr:List Nat}(Pv:Nat->Hp->Prop)
  (h0:Pv 0 H) (hl:∀i H',i<=xs.length->Pv i H'->SqL K H' a xs)
  (hs:∀i x H' (N:Hp->Prop),xs[i]? = some x->Pv i H'->(∀H'',Pv (i+1) H''->N H'')->g x (compσ k fr σ) H' λσ2 H2=>σ2.drop k=(compσ k fr σ).drop k/\tc σ2 H2 λb H3 =>
   if b=true then te σ2 H3 (λy H4=>∃ys,H4 D=some (.lst ys)/\ys.length<sizeLine/\N (upd H4 D (.lst (ys++[y])))) else N H3)
  (hd:∀H',Pv xs.length H'->Q (.ref D) H') :
  ∃W:Nat->Nat->Hp->Prop,(∃m,W 0 m H)/\∀i m H,W i m H->((Itl K a).stop i H/\Q (.ref D) H)\/((Itl K a).go i H/\∀x H',(Itl K a).yld i H x H'->g x (compσ k fr σ) H' λσ2 H2 =>
  σ2.drop k=(compσ k fr σ).drop k/\tc σ2 H2 λb H3=>if b=true then te σ2 H3 (λy H4=>∃ys,H4 D=some (.lst ys)/\ys.length<sizeLine/\∃m',m'<m/\W (i+1) m' (upd H4 D (.lst (ys++[y])))) else ∃m',m'<m/\W (i+1) m' H3):=by
 refine⟨λi m H=>m=xs.length - i/\i<=xs.length/\Pv i H,⟨xs.length,by simp,zero_le _,h0⟩,?_⟩
 rintro i m H' ⟨rfl,hi,p⟩
 have q:=hl i H' hi p
 by_cases hlt:i<xs.length
 ·refine .inr ⟨⟨xs,xs[i],q,by simp [hlt]⟩,λx H'' y=>?_⟩
  obtain⟨e,y⟩:=y
  subst e
  exact hs i x _ (λH''=>∃m',m'<xs.length - i/\m'=xs.length - (i+1)/\i+1<=xs.length/\Pv (i+1) H'') (y xs q) p λH'' p'=>⟨_,by omega,rfl,hlt,p'⟩
 ·have e:i=xs.length:=by omega
  subst e
  exact .inl ⟨⟨xs,q,Nat.le_refl _⟩,hd H' p⟩
theorem Acr{σ:St}{H:Hp}{Q:VK}{D:Addr}{lo:Int}{n:Nat}{g:TG}{tc:TT}{te:TE}{k:Nat}{fr:List Nat}(Pv:Nat->Hp->Prop)(h0:Pv 0 H)
  (hs:∀i H' (N:Hp->Prop),i<n->Pv i H'->(∀H'',Pv (i+1) H''->N H'')->g (.int (lo+i)) (compσ k fr σ) H' λσ2 H2=>σ2.drop k=(compσ k fr σ).drop k/\tc σ2 H2 λb H3 =>
   if b=true then te σ2 H3 (λy H4=>∃ys,H4 D=some (.lst ys)/\ys.length<sizeLine/\N (upd H4 D (.lst (ys++[y])))) else N H3)
  (hd:∀H',Pv n H'->Q (.ref D) H') :
  ∃W:Nat->Nat->Hp->Prop,(∃m,W 0 m H)/\∀i m H,W i m H->((Itr lo n).stop i H/\Q (.ref D) H)\/((Itr lo n).go i H/\∀x H',(Itr lo n).yld i H x H'->g x (compσ k fr σ) H' λσ2 H2 =>
  σ2.drop k=(compσ k fr σ).drop k/\tc σ2 H2 λb H3=>if b=true then te σ2 H3 (λy H4=>∃ys,H4 D=some (.lst ys)/\ys.length<sizeLine/\∃m',m'<m/\W (i+1) m' (upd H4 D (.lst (ys++[y])))) else ∃m',m'<m/\W (i+1) m' H3):=by
 refine⟨λi m H=>m=n - i/\i<=n/\Pv i H,⟨n,by simp,zero_le _,h0⟩,?_⟩
 rintro i m H' ⟨rfl,hi,p⟩
 by_cases hlt:i<n
 ·refine .inr ⟨hlt,λx H'' y=>?_⟩
  obtain⟨e,y⟩:=y
  subst e
  subst y
  exact hs i _ (λH''=>∃m',m'<n - i/\m'=n - (i+1)/\i+1<=n/\Pv (i+1) H'') hlt p λH'' p'=>⟨_,by omega,rfl,hlt,p'⟩
 ·have e:i=n:=by omega
  subst e
  exact .inl ⟨Nat.le_refl _,hd H' p⟩
section
variable {X:Cx}{K':Frag}
theorem Df(K':Frag)(h:X.K=K':=by rfl):IxR X (Wh K'):=by subst h;exact AeZ
theorem Cp(K':Frag)(h:X.K=K':=by rfl):IxR X (Aaw K'):=by subst h;exact Xd
theorem Ju(K':Frag)(h:X.K=K':=by rfl):OpR X (compareOp .In) (rIn K' false):=by subst h;exact Sz
theorem Ws(K':Frag)(hu:X.A.units+64<cLine)(h:X.K=K':=by rfl):OpR X (compareOp .Eq) (Aaj K' false):=by subst h;exact Alt hu
theorem AbD(K':Frag)(hu:X.A.units+64<cLine)(h:X.K=K':=by rfl):OpR X (compareOp .NotEq) (Aaj K' true):=by subst h;exact Ali hu
theorem Sj(K':Frag)(h:X.K=K':=by rfl):Nn X (.builtin "isinstance") (λvs H Q=>∃x n t b,vs=[x,.ty n]/\Gm K' H x t/\kitOne K' t (.type n)=some b/\Q (.bl b) H):=by subst h;exact Jj
theorem Ck(K':Frag)(h:X.K=K':=by rfl):Nn X (.builtin "len") (λxs H Q=>∃p ys,xs=[.ref p]/\(SqL K' H p ys\/SqT K' H p ys)/\Q (.int ys.length) H):=by subst h;exact Lp
end
theorem Same.laid{H:Hp}{p:Addr}{o:HO}(h:H p=none):Same H (upd H p o):=λq u e=>by rw[Bj (by intro z;subst z;rw[h] at e;cases e)];exact e
def Chg(a:Addr)(H H':Hp):Prop:=∀q o,H q=some o->q≠a->H' q=some o
theorem Chg.put{H:Hp}{a:Addr}{o:HO}:Chg a H (upd H a o):=λq u e n=>by rw[Bj n];exact e
theorem Same.chg{a:Addr}{H H1 H2:Hp}(x:Same H H1)(y:Chg a H1 H2)(f:H a=none):Same H H2:=λq o h=>y q o (x q o h) (by intro z;subst z;rw[f] at h;cases h)
section
variable {X:Cx}{es:List Expr}{t:TA}{pos:Pos}
def Act(t:TA):TE:=λσ H Q=>t σ H λxs H1=>xs.length<=sizeLine/\∀p H2,H1 p=none->Same H1 H2->H2 p=some (.tup xs)->Q (.ref p) H2
def Yv(t:TA):TE:=λσ H Q=>t σ H λxs H1=>xs.length<=sizeLine/\∀p H2,H1 p=none->Same H1 H2->H2 p=some (.lst xs)->Q (.ref p) H2
theorem Ft{x1}(h:PA X es t):PE X (.Tuple es x1 pos) (Act t):=by
 intro pins s σ H Q I hq
 refine wpAny_Tuple_spliced (thn (h pos pins s σ H _ I hq) λus s1 ⟨xs,H1,I1,r,z,q⟩=>⟨by rw[<- r.length];exact z,?_⟩)
 have hf:H1 s1.heap.objs.size=none:=I1.hok.fresh (Nat.le_refl _)
 refine⟨.ref s1.heap.objs.size,upd H1 s1.heap.objs.size (.tup xs),I1.laid (t':=s1.toks) (λb u e=>get?_push_of_some _ e) (Nat.le_refl _) ?_,rfl,q _ _ hf (Same.laid hf) Bn⟩
 exact⟨z,us,r,⟨_,get?_push_size _ rfl,rfl,_,rfl⟩⟩
theorem Db(h:PA X es t):PE X (.List es pos) (Yv t):=by
 intro pins s σ H Q I hq
 refine wpAny_List_spliced (thn (h pos pins s σ H _ I hq) λus s1 ⟨xs,H1,I1,r,z,q⟩=>⟨by rw[<- r.length];exact z,?_⟩)
 have hf:H1 s1.heap.objs.size=none:=I1.hok.fresh (Nat.le_refl _)
 refine⟨.ref s1.heap.objs.size,upd H1 s1.heap.objs.size (.lst xs),I1.laid (t':=s1.toks) (λb u e=>get?_push_of_some _ e) (Nat.le_refl _) ?_,rfl,q _ _ hf (Same.laid hf) Bn⟩
 exact⟨z,us,0,r,get?_push_size _ rfl⟩
def Aho:R2:=λx y H Q=>∃l b xs zs,x=.ref l/\y=.ref b/\H l=some (.lst xs)/\H b=some (.lst zs)/\xs.length+zs.length<=sizeLine/\∀p H',H p=none->Same H H'->H' p=some (.lst (xs++zs))->Q (.ref p) H'
theorem Ol:OpR X (binaryOp .Add) Aho:=λpins s σ H x y v u Q I r1 r2 ⟨l,b,xs,zs,e1,e2,h1,h2,hz,q⟩=>Alu pins s σ H x y v u Q I r1 r2 ⟨l,b,xs,zs,e1,e2,h1,h2,hz,λp hp=>q p _ hp (Same.laid hp) Bn⟩
def Qe:V->List V->Hp->VK->Prop:=λx vs H Q=>∃l xs y,x=.ref l/\vs=[y]/\H l=some (.lst xs)/\xs.length<sizeLine/\∀H',Chg l H H'->H' l=some (.lst (xs++[y]))->Q .non H'
theorem Da:MtR X "list.append" Qe:=λpins s σ H x vs v us Q I rx rv ⟨l,xs,y,e1,e2,h1,hz,q⟩=>Xi pins s σ H x vs v us Q I rx rv ⟨l,xs,y,e1,e2,h1,hz,q _ Chg.put Bn⟩
variable {K':Frag}
def Ah8(K:Frag):V->Option Int->Option Int->Hp->VK->Prop:=λx lo hi H Q=>∃a xs,x=.ref a/\SqL K H a xs/\∀p H',H p=none->Same H H'->H' p=some (.lst (Uu xs lo hi))->Q (.ref p) H'
theorem Gc(K':Frag)(h:X.K=K':=by rfl):SlR X (Ah8 K'):=by
 subst h
 exact λpins s σ H x v vl vu lo hi sl Q I rx hs pl pu ⟨a,xs,e,hx,q⟩=>AjC pins s σ H x v vl vu lo hi sl Q I rx hs pl pu ⟨a,xs,e,hx,λp hp=>q p _ hp (Same.laid hp) Bn⟩
theorem Gi(K':Frag)(h:X.K=K':=by rfl):Nn X (.type "list") (λxs H Q=>∃p ys,xs=[.ref p]/\(SqL K' H p ys\/SqT K' H p ys)/\∀l H',H l=none->Same H H'->H' l=some (.lst ys)->Q (.ref l) H'):=by
 subst h
 exact λpins s σ H xs us Q I r ⟨p,ys,e,hx,q⟩=>Zi pins s σ H xs us Q I r ⟨p,ys,e,hx,λl hl=>q l _ hl (Same.laid hl) Bn⟩
end
section
variable {σ:St}{H:Hp}{Q:VK}{K:Frag}
theorem Amk{t:TA}(q:t σ H λxs H1=>xs.length<=sizeLine/\∀p H2,H1 p=none->Same H1 H2->H2 p=some (.lst xs)->Q (.ref p) H2):Yv t σ H Q:=q
theorem Jc{a:Addr}{xs:List V}{y:V}(h:H a=some (.lst xs))(hl:xs.length<sizeLine)(q:∀H',Chg a H H'->H' a=some (.lst (xs++[y]))->Q .non H'):Qe (.ref a) [y] H Q:=⟨a,xs,y,rfl,rfl,h,hl,q⟩
end
def CP(J:It)(D:Addr)(g:TG)(tc:TT)(te:TE)(k:Nat)(fr:List Nat)(σ:St)(H1:Hp)(Q:VK):Prop :=
 ∃W:Nat->Nat->Hp->Prop,(∃m,W 0 m H1)/\∀i m H,W i m H->(J.stop i H/\Q (.ref D) H)\/(J.go i H/\∀x H',J.yld i H x H'->g x (compσ k fr σ) H' λσ2 H2 =>
  σ2.drop k=(compσ k fr σ).drop k/\tc σ2 H2 λb H3=>if b=true then te σ2 H3 (λy H4=>∃ys,H4 D=some (.lst ys)/\ys.length<sizeLine/\∃m',m'<m/\W (i+1) m' (upd H4 D (.lst (ys++[y])))) else ∃m',m'<m/\W (i+1) m' H3)
theorem Of{σ:St}{H:Hp}{Q:VK}{wi:TI}{g:TG}{tc:TT}{te:TE}{k:Nat}{fr:List Nat}(q:wi σ H λJ H1=>∀D,H1 D=none->CP J D g tc te k fr σ (upd H1 D (.lst [])) Q):Jm wi g tc te k fr σ H Q:=q
theorem CP.list{K:Frag}{σ:St}{H:Hp}{Q:VK}{D a:Addr}{g:TG}{tc:TT}{te:TE}{k:Nat}{fr:List Nat}(xs:List V)(Pv:Nat->Hp->Prop)
  (h0:Pv 0 H) (hl:∀i H',i<=xs.length->Pv i H'->SqL K H' a xs)
  (hs:∀i x H' (N:Hp->Prop),xs[i]? = some x->Pv i H'->(∀H'',Pv (i+1) H''->N H'')->g x (compσ k fr σ) H' λσ2 H2=>σ2.drop k=(compσ k fr σ).drop k/\tc σ2 H2 λb H3 =>
   if b=true then te σ2 H3 (λy H4=>∃ys,H4 D=some (.lst ys)/\ys.length<sizeLine/\N (upd H4 D (.lst (ys++[y])))) else N H3)
  (hd:∀H',Pv xs.length H'->Q (.ref D) H'):CP (Itl K a) D g tc te k fr σ H Q:=Aey Pv h0 hl hs hd
theorem CP.range{σ:St}{H:Hp}{Q:VK}{D:Addr}{lo:Int}{n:Nat}{g:TG}{tc:TT}{te:TE}{k:Nat}{fr:List Nat}(Pv:Nat->Hp->Prop)(h0:Pv 0 H)
  (hs:∀i H' (N:Hp->Prop),i<n->Pv i H'->(∀H'',Pv (i+1) H''->N H'')->g (.int (lo+i)) (compσ k fr σ) H' λσ2 H2=>σ2.drop k=(compσ k fr σ).drop k/\tc σ2 H2 λb H3 =>
   if b=true then te σ2 H3 (λy H4=>∃ys,H4 D=some (.lst ys)/\ys.length<sizeLine/\N (upd H4 D (.lst (ys++[y])))) else N H3)
  (hd:∀H',Pv n H'->Q (.ref D) H'):CP (Itr lo n) D g tc te k fr σ H Q:=Acr Pv h0 hs hd
def Aar(e:Addr->Bool):V->Bool
 | .ref p=>e p
 | _=>false
def AcO(e:Addr->Bool):Value->Bool
 | .ref p=>e p
 | _=>false
theorem Aaa{e:Addr->Bool}:∀{xs:List V} {us:List Value},Vals xs us->(∀x∈xs,∃p,x=V.ref p)->us.any (AcO e)=xs.any (Aar e)
 | _,_,.nil,_=>rfl
 | y::xs,u::us,.cons r t,f=>by
  obtain⟨p,rfl⟩:=f y mem_cons_self
  cases r
  rw[any_cons,any_cons,Aaa t λx hx=>f x (mem_cons_of_mem _ hx)]
  rfl
theorem Afw{xs:List V}{us:List Value}(r:Vals xs us):∀u∈us,∃x∈xs,RelV x u:=by
 induction r with
 | nil=>intro u hu;cases hu
 | cons r t ih =>
  intro u hu
  rcases mem_cons.mp hu with e | hu
  ·subst e;exact⟨_,mem_cons_self,r⟩
  ·obtain⟨x,hx,rx⟩:=ih u hu
   exact⟨x,mem_cons_of_mem _ hx,rx⟩
def Ak6(K:Frag)(neg:Bool):R2:=λx y H Q=>∃p xs e,y=.ref p/\SqL K H p xs/\(∀x∈xs,∃r,x=V.ref r)/\(∀r,V.ref r∈xs->EqD K H 40 (.ref r) x (e r))/\Q (.bl (if neg then !(xs.any (Aar e)) else xs.any (Aar e))) H
theorem Yc{X:Cx}(hu:X.A.units+64<cLine):OpR X (compareOp .NotIn) (Ak6 X.K true):=by
 intro pins s σ H x y v u Q I rx ry h
 obtain⟨p,xs,e,rfl,hq,fr,he,q⟩:=h
 cases ry
 obtain⟨its,r,pl,hz⟩:=I.list hq
 refine SeqAt.notIn_listAt (AcO e) pl.isList (λw hw=>?_) ⟨.bl _,H,I,rfl,?_⟩
 ·obtain⟨z,hz,rz⟩:=Afw r w (by simpa using hw)
  obtain⟨a,rfl⟩:=fr z hz
  have:=(he a hz).at I (A:=X.A.in1) (by rw[Jz];omega) rz rx
  cases rz
  exact this
 ·rw[show its.toArray.any (AcO e)=its.any (AcO e) by simp,Aaa r fr]
  exact q
section
variable {X:Cx}
end
section
variable {X:Cx}
end
section
variable {M:Model}{A:Around}{E:Value->Shared->Prop}{s:Shared}{base:Heap}{env:Env}{outer:List Env}{L e:Addr}{Q:Unit->Shared->Prop}
end
section
variable {P:Program}{w:World}{H:Hp}{h h':Heap}{a:Addr}{o:HO}
end
section
variable {P:Program}{w:World}{K:Frag}{mg:Str->Option Value}{base:Heap}{N:List Str}{qual:Str}{scope:Scope}{f:Addr}{cd:Value}{A:Around}{outer:List Env}{s0:Shared}{H0:Hp}{E:XK}
end
section
variable {P:Program}{w:World}{K:Frag}{mg:Str->Option Value}{base:Heap}{N:List Str}{qual:Str}{scope:Scope}{f:Addr}{cd:Value}{A:Around}{outer:List Env}{s0:Shared}{H0:Hp}{E:XK}
end
section
variable {X:Cx}{pins:List (Addr×Obj)}{σ:St}{H:Hp}{s:Shared}
end
def AoP(x C:Addr):Heap->Prop:=λh=>∃o vs,h.get? x=some o/\o.cls=.ref C/\o.dict=none/\o.data=.fields vs
section
variable {X:Cx}{pins:List (Addr×Obj)}{σ:St}{H:Hp}{s:Shared}
end
section
variable {X:Cx}{k:Nat}{f C:Addr}{fd:FuncData}{ps:List Str}{sp:Sp}{dvs:List V}{ds:List Value}{x m:Str}{p pos apos:Pos}{e o:Expr}{es:List Expr}{ta:TE}{t:TA}
end
section
variable {σ:St}{H:Hp}{Q:VK}{D:Ends}{Ex:Addr->Hp->Prop}
end
section
variable {X:Cx}{pos:Pos}{a b:Expr}{op op' op2:CmpOp}{ops:List CmpOp}{es:List Expr}{e2:Expr}{ta tb:TE}{r:R2}{u:V->TE}
end
section
variable {a:Array Keyed}
end
section
variable {prog:Program}{w:World}{A:Around}{E:Value->Shared->Prop}{s:Shared}{z:Array Keyed}
end
section
variable {X:Cx}{pins:List (Addr×Obj)}{σ:St}{H:Hp}{s:Shared}
end
section
variable {X:Cx}{CX:CXT}{pins:List (Addr×Obj)}{σ:St}{H:Hp}{s:Shared}{k:Nat}{f:Addr}{fd:FuncData}{ps:List Str}{sp:Sp}
end
section
variable {X:Cx}{CX:CXT}{pins:List (Addr×Obj)}{σ:St}{H:Hp}{s:Shared}{k:Nat}{f C a dx:Addr}{fd:FuncData}{ps:List Str}{sp:Sp}{fs:List (Str×V)}{m x:Str}{A:Around}{E:Value->Shared->Prop}{o e ke:Expr}{to te:TE}{t tk:TA}{pos p kpos:Pos}
end
def Oy(n:Nat)(lo hi st:Option Int):List Nat:=sliceRange (sliceBounds lo hi st n).1 (sliceBounds lo hi st n).2.1 (sliceBounds lo hi st n).2.2
def pick{α:Type}(is:List Nat)(xs:List α):List α:=is.filterMap (xs[·]?)
theorem AfG{α β:Type}(f:α->β)(is:List Nat)(xs:List α):pick is (xs.map f)=(pick is xs).map f:=by
 unfold pick
 induction is with
 | nil=>rfl
 | cons i is ih =>
  rw[filterMap_cons,filterMap_cons,getElem?_map,ih]
  cases xs[i]? <;> rfl
theorem AaC{α:Type}(is:List Nat)(xs:List α):(pick is xs).length<=is.length:=by unfold pick;exact List.length_filterMap_le ..
theorem Vals.pick{xs:List V}{us:List Value}(r:Vals xs us):∀is:List Nat,Vals (pick is xs) (pick is us)
 | []=>.nil
 | i::is=>by
  have ih:=Vals.pick r is
  unfold L2.pick at ih ⊢
  rw[filterMap_cons,filterMap_cons]
  cases e:xs[i]? with
  | none =>
   have:us[i]? = none:=by
    rw[List.getElem?_eq_none_iff] at e ⊢
    rw[<- r.length];exact e
   rw[this];exact ih
  | some x =>
   obtain⟨u,hu,ru⟩:=r.get e
   rw[hu];exact .cons ru ih
theorem Xo(lo hi st:Option Int)(n:Nat):((sliceBounds lo hi st n).2.2>0->0<=(sliceBounds lo hi st n).1/\(sliceBounds lo hi st n).2.1<=n)/\(¬(sliceBounds lo hi st n).2.2>0->(sliceBounds lo hi st n).1<=(n:Int) - 1/\-1<=(sliceBounds lo hi st n).2.1):=by
 unfold sliceBounds
 dsimp only
 constructor
 ·intro h
  cases lo <;> cases hi <;> simp only [h,if_true] <;> omega
 ·intro h
  cases lo <;> cases hi <;> simp only [h,if_false] <;> omega
theorem Aah(n:Nat)(lo hi st:Option Int):(Oy n lo hi st).length<=n:=sliceRange_length_le _ _ _ n (Xo lo hi st n).1 (Xo lo hi st n).2
def AoM(K:Frag):V->Option Int->Option Int->Option Int->Hp->VK->Prop:=λx lo hi st H Q=>∃a xs,x=.ref a/\SqL K H a xs/\st≠some 0/\∀p H',H p=none->Same H H'->H' p=some (.lst (pick (Oy xs.length lo hi st) xs))->Q (.ref p) H'
def AfT(K:Frag)(te:TE)(tl th ts:TO):TE:=λσ H Q=>te σ H λx H1=>tl σ H1 λl H2=>th σ H2 λu H3=>ts σ H3 λst H4=>AoM K x l u st H4 Q
theorem AdH{X:Cx}{e:Expr}{te:TE}{lo hi:Option Expr}{st:Expr}{tl th ts:TO}{pos p2:Pos}(he:PE X e te)(hl:PO X lo tl)(hu:PO X hi th)(hs:PO X (some st) ts):PE X (.Subscript e (.Slice lo hi (some st) p2) pos) (AfT X.K te tl th ts):=by
 intro pins s σ H Q I h
 refine Subscript_ (thn (he pins s σ H _ I h) λv s1 ⟨x,H1,I1,r1,q1⟩=>?_)
 refine wpAny_Slice (thn (hl pins s1 σ H1 _ I1 q1) λvl s2 ⟨l,H2,I2,pl,q2⟩=>thn (hu pins s2 σ H2 _ I2 q2) λvu s3 ⟨u,H3,I3,pu,q3⟩=>thn (hs pins s3 σ H3 _ I3 q3) λvs s4 ⟨w,H4,I4,pw,q4⟩=>?_)
 have I5:Inv X pins σ H4 { s4 with heap:=s4.heap.push { cls:=.type "slice",data:=.fields #[vl,vu,vs] } }:=I4.kept (t':=s4.toks) λb ob q=>get?_push_of_some _ q
 obtain⟨a,xs,rfl,hx,h0,q⟩:=q4
 cases r1
 obtain⟨its,r,ht,hz⟩:=I5.list hx
 have hlen:=r.length
 show wpAny (model X.prog X.w) X.A (subscriptTail e (.Slice lo hi (some st) p2) (.ref a) (.ref s4.heap.objs.size)) (EP X pins σ Q) X.xe { s4 with heap:=s4.heap.push { cls:=.type "slice",data:=.fields #[vl,vu,vs] } }
 refine tail_any (ops:=[.ref a,.ref s4.heap.objs.size]) ht.isList.typeIs slot_list_getitem.lookup ?_ (by with_unfolding_all rfl)
 refine wpAny_getItem_list_slice ht.isList (Heap.IsSliceOf.new ..) pl pu pw h0 ?_ (by rw[size_toArray];omega)
 have hf:H4 (s4.heap.push { cls:=.type "slice",data:=.fields #[vl,vu,vs] }).objs.size=none:=I5.hok.fresh (Nat.le_refl _)
 have ep:slicePick its.toArray l u w=(pick (Oy xs.length l u w) its).toArray:=by
  unfold slicePick pick Oy
  rw[hlen,size_toArray]
  congr 2
  funext i
  simp
 rw[ep]
 refine⟨.ref (s4.heap.push { cls:=.type "slice",data:=.fields #[vl,vu,vs] }).objs.size,_,I5.laid (t':=s4.toks) (o:=.lst (pick (Oy xs.length l u w) xs)) (λb ob q=>get?_push_of_some _ q) (Nat.le_refl _) ?_,rfl,q _ _ hf (Same.laid hf) Bn⟩
 exact⟨Nat.le_trans (AaC _ _) (Nat.le_trans (Aah _ _ _ _) hz),_,0,Vals.pick r _,get?_push_size _ rfl⟩
def Itn(K:Frag)(a:Addr):It :=
 ⟨λi H=>∃xs x,SqL K H a xs/\xs[i]? = some x,λi H x H'=>∃t y,H t=none/\(∀xs,SqL K H a xs->xs[i]? = some y)/\x=.ref t/\H'=upd H t (.tup [.int (i:Int),y]),λi H=>∃xs,SqL K H a xs/\xs.length<=i⟩
theorem Ac3{P:Program}{w:World}{K:Frag}{elts:List Expr}{x1:Nat}{tp:Pos}(a e it:Addr)(hne:e≠it) :
  Ur P w K (.Tuple elts x1 tp) (Itn K a) [e,it] e (λi h=>(∃old,IsEnum h e it i old)/\h.IsListIter it a i) where
 mem:=by simp
 obj:=λi h st b hb=>by
  obtain⟨⟨old,e1⟩,ob,e2,c2,d2⟩:=st
  rcases mem_cons.mp hb with z | z
  ·subst z;exact⟨_,e1,λv z=>nomatch z⟩
  ·have z':=mem_singleton.mp z
   subst z'
   exact⟨ob,e2,λv z=>by rw[d2] at z;cases z⟩
 keep:=λi h h' st k=>by
  obtain⟨⟨old,e1⟩,li⟩:=st
  exact⟨⟨old,k e (by simp) _ e1⟩,li.at λo q=>k it (by simp) o q⟩
 item:=by
  intro X hP hw hK hc i pins s σ H E I hf st hg
  subst hP hw hK
  obtain⟨xs,x,hq,hx⟩:=hg
  obtain⟨⟨old,he⟩,li⟩:=st
  obtain⟨its,rv,p,hz⟩:=I.list hq
  obtain⟨u,hu,ru⟩:=rv.get hx
  obtain⟨f0,f1,f2,f3,f4,f5⟩:=hf e (by simp)
  obtain⟨g0,g1,g2,g3,g4,g5⟩:=hf it (by simp)
  have hfr:H s.heap.objs.size=none:=I.hok.fresh (Nat.le_refl _)
  have hne1:s.heap.objs.size≠e:=Nat.ne_of_gt (lt_size he)
  have hne2:s.heap.objs.size≠it:=by obtain⟨_,q,_⟩:=li;exact Nat.ne_of_gt (lt_size q)
  refine wpAny_pyNext_enum_item he li p.isList (x:=u) (by simpa using hu) hne λh' ho li' hT hsz hk=>⟨_,rfl,?_⟩
  refine wpAny_letOwnedTupleGo_enum (s:={ s with heap:=h',toks:=s.toks+1 }) ho λh2 he2 hs=>?_
  have kp:∀b o,b≠e->b≠it->s.heap.get? b=some o->h2.get? b=some o:=λb o n1 n2 q=>(hs.2 b n1).trans (hk b o n1 n2 q)
  have hT2:h2.get? s.heap.objs.size=some { cls:=.type "tuple",data:=.seq #[.int i s.toks,u] }:=(hs.2 _ hne1).trans hT
  have nt:∀b v,H b=some v->b≠s.heap.objs.size:=λb v q=>Bz q hfr
  have nc:∀b,b∉[e,it]->b≠e/\b≠it:=λb z=>⟨λw=>z (by simp [w]),λw=>z (by simp [w])⟩
  refine⟨.ref s.heap.objs.size,upd H s.heap.objs.size (.tup [.int (i:Int),x]),?_,rfl,⟨_,x,hfr,(λys hy=>by rw[I.list_inj hy hq];exact hx),rfl,rfl⟩,⟨⟨u,by simpa using he2⟩,li'.at λo q=>(hs.2 it hne.symm).trans q⟩,λb hb=>?_⟩
  ·refine Inv.step (s:=s) (h':=h2) I (g':=s.gens) (d':=s.drawn) (t':=s.toks+1) (ch:=[e,it]) (λb hb=>?_) (λb o _ _ hc q _=>kp b o (nc b hc).1 (nc b hc).2 q) (λb o _ _ hc q _=>⟨o.slots,kp b o (nc b hc).1 (nc b hc).2 q⟩)
    (λb o hc q n=>by rw[Bj (ne_of_lt (lt_size q))];exact n) (λb o hc q=>⟨o,kp b o (nc b hc).1 (nc b hc).2 q⟩) (λb xs q=>by rw[Bj (nt b _ q)];exact q) (λb o v q=>by rw[Bj (nt b _ q)];exact q)
    (λb ps q=>⟨#[],by rw[Bj (nt b _ q),q];simp⟩) (λm hm=>?_) (λb v q=>?_) I.bare
   ·rcases mem_cons.mp hb with z | z
    ·subst z;exact⟨f3,f1,f4,f5⟩
    ·have z':=mem_singleton.mp z
     subst z';exact⟨g3,g1,g4,g5⟩
   ·obtain⟨o,es,ep,ho,r⟩:=hm
    exact⟨o,es,ep,kp _ o (Ne.symm f1) (Ne.symm g1) ho,r⟩
   ·by_cases hb:b=s.heap.objs.size
    ·subst hb
     rw[Bn] at q
     cases q
     exact⟨by show 2<=sizeLine;decide,[.int i s.toks,u],.cons (show RelV (.int (i:Int)) (.int i s.toks) from ⟨_,rfl⟩) (.cons ru .nil),_,hT2,rfl,_,rfl⟩
    ·rw[Bj hb] at q
     have n1:∀c w,H c=some w->c≠e:=λc w q z=>by rw[z,f0] at q;cases q
     have n2:∀c w,H c=some w->c≠it:=λc w q z=>by rw[z,g0] at q;cases q
     refine (I.hok b v q).stay (λc v' hc q'=>?_) (λc q'=>by rw[Bj (nt c _ q')];exact q') λc xs q'=>by rw[Bj (nt c _ q')];exact q'
     rcases hc with z | z
     ·rw[z] at q' ⊢;exact kp b v' (n1 b _ q) (n2 b _ q) q'
     ·exact kp c v' (n1 c _ z) (n2 c _ z) q'
  ·rcases mem_cons.mp hb with z | z
   ·rw[z,Bj (Ne.symm hne1)];exact f0
   ·rw[mem_singleton.mp z,Bj (Ne.symm hne2)];exact g0
 done:=by
  intro X hP hw hK hc i pins s σ H E I hf st hg
  subst hP hw hK
  obtain⟨xs,hq,hx⟩:=hg
  obtain⟨⟨old,he⟩,li⟩:=st
  obtain⟨its,rv,p,hz⟩:=I.list hq
  obtain⟨g0,g1,g2,g3,g4,g5⟩:=hf it (by simp)
  have hl:=rv.length
  exact wpAny_pyNext_enum_end (I.ok.hd hc) he li p.isList (by simp;omega) λh' eb=>⟨rfl,I.turned (t':=s.toks) (λb o hb q=>eb b o hb q) g0 g1 g3 g4 g5⟩
 self:=λA i s Q E st h=>by
  obtain⟨⟨old,he⟩,_⟩:=st
  exact wpAny_pyIter_enum he h
section
variable {X:Cx}{elts:List Expr}{x1:Nat}{tp p pos:Pos}
def Zb(K:Frag)(tl:TE):TI:=λσ H R=>tl σ H λx H1=>∃a,x=.ref a/\(∃xs,SqL K H1 a xs)/\R (Itn K a) H1
theorem Ri{l:Expr}{tl:TE}(hl:PE X l tl)(hg:Gl X "enumerate")(hm:X.mg "enumerate"=none)(hs:starEach [l] X.env=[(false,eval l X.env)]:=by rfl):PI X (.Tuple elts x1 tp) (.Call (.Name "enumerate" p) [l] [] pos) (Zb X.K tl):=by
 intro pins s σ H R I h
 have pa:PA X [l] (Ga tl Nb):=Ba hl Be hs
 refine Call_ (Lq I hg hm PyProof.Rows.boot_enumerate (PyProof.Rows.callWith_type1 (thn (pa pos pins s σ H (λvs H1=>match vs with
  | [x]=>∃a,x=.ref a/\(∃xs,SqL X.K H1 a xs)/\R (Itn X.K a) H1
  | _=>False) I h) λus s1 ⟨vs,H1,I1,r1,q1⟩=>?_) hs rfl))
 match vs,q1 with
 | [x],⟨a,e,⟨xs,hq⟩,q⟩ =>
  subst e
  obtain⟨u,rfl,ru⟩:=Yi r1
  cases ru
  obtain⟨its,rv,pl,hz⟩:=I1.list hq
  refine call_enumerate_list pl.isList λh' he li hsz hk=>?_
  have I2:Inv X pins σ H1 { s1 with heap:=h' }:=I1.kept (t':=s1.toks) hk
  refine wpAny_pyIter_enum (s:={ s1 with heap:=h' }) he ⟨s1.heap.objs.size+1,[s1.heap.objs.size+1,s1.heap.objs.size],_,_,H1,rfl,I2,Ac3 a _ _ (Nat.succ_ne_self _),⟨⟨_,he⟩,li⟩,λb hb=>?_,q⟩
  have hge:s1.heap.objs.size<=b:=by
   rcases mem_cons.mp hb with z | z
   ·rw[z];exact le_succ _
   ·rw[mem_singleton.mp z];exact Nat.le_refl _
  exact I1.fpOk hge (I1.hok.fresh hge)
theorem Zg{K:Frag}{a:Addr}{xs:List V}{g:TG}{tb:TS}{D:Ends}{σ:St}{H:Hp}(Pv:Nat->St->Hp->Prop)(h0:Pv 0 σ H)(hl:∀i σ H,i<=xs.length->Pv i σ H->SqL K H a xs)
  (hs:∀i x t σ H,xs[i]? = some x->H t=none->Pv i σ H->g (.ref t) σ (upd H t (.tup [.int (i:Int),x])) λσ2 H2=>tb { D with nx:=Pv (i+1),ct:=Pv (i+1),bk:=D.nx } σ2 H2) (hd:∀σ H,Pv xs.length σ H->D.nx σ H) :
  ∃W:Nat->Nat->St->Hp->Prop,(∃m,W 0 m σ H)/\∀i m σ H,W i m σ H ->
   ((Itn K a).stop i H/\D.nx σ H)\/((Itn K a).go i H/\∃N:St->Hp->Prop,(∀σ' H',N σ' H'->∃m',m'<m/\W (i+1) m' σ' H')/\∀x H',(Itn K a).yld i H x H'->g x σ H' λσ2 H2=>tb { D with nx:=N,ct:=N,bk:=D.nx } σ2 H2):=by
 refine⟨λi m σ H=>m=xs.length - i/\i<=xs.length/\Pv i σ H,⟨xs.length,by simp,zero_le _,h0⟩,?_⟩
 rintro i m σ H ⟨rfl,hi,p⟩
 have q:=hl i σ H hi p
 by_cases hlt:i<xs.length
 ·refine .inr ⟨⟨xs,xs[i],q,by simp [hlt]⟩,Pv (i+1),λσ' H' p'=>⟨xs.length - (i+1),by omega,rfl,hlt,p'⟩,λx H' y=>?_⟩
  obtain⟨t,y,ht,hy,rfl,rfl⟩:=y
  have e:=hy xs q
  exact hs i y t σ _ e ht p
 ·have e:i=xs.length:=by omega
  subst e
  exact .inl ⟨⟨xs,q,Nat.le_refl _⟩,hd σ H p⟩
theorem CP.enum{K:Frag}{σ:St}{H:Hp}{Q:VK}{D a:Addr}{g:TG}{tc:TT}{te:TE}{k:Nat}{fr:List Nat}(xs:List V)(Pv:Nat->Hp->Prop)
  (h0:Pv 0 H) (hl:∀i H',i<=xs.length->Pv i H'->SqL K H' a xs)
  (hs:∀i x t H' (N:Hp->Prop),xs[i]? = some x->H' t=none->Pv i H'->(∀H'',Pv (i+1) H''->N H'')->g (.ref t) (compσ k fr σ) (upd H' t (.tup [.int (i:Int),x])) λσ2 H2=>σ2.drop k=(compσ k fr σ).drop k/\tc σ2 H2 λb H3 =>
   if b=true then te σ2 H3 (λy H4=>∃ys,H4 D=some (.lst ys)/\ys.length<sizeLine/\N (upd H4 D (.lst (ys++[y])))) else N H3)
  (hd:∀H',Pv xs.length H'->Q (.ref D) H'):CP (Itn K a) D g tc te k fr σ H Q:=by
 refine⟨λi m H=>m=xs.length - i/\i<=xs.length/\Pv i H,⟨xs.length,by simp,zero_le _,h0⟩,?_⟩
 rintro i m H ⟨rfl,hi,p⟩
 have q:=hl i H hi p
 by_cases hlt:i<xs.length
 ·refine .inr ⟨⟨xs,xs[i],q,by simp [hlt]⟩,λx H' y=>?_⟩
  obtain⟨t,y,ht,hy,rfl,rfl⟩:=y
  have e:=hy xs q
  exact hs i y t H (λH''=>∃m',m'<xs.length - i/\m'=xs.length - (i+1)/\i+1<=xs.length/\Pv (i+1) H'') e ht p λH'' p''=>⟨xs.length - (i+1),by omega,rfl,hlt,p''⟩
 ·have e:i=xs.length:=by omega
  subst e
  exact .inl ⟨⟨xs,q,Nat.le_refl _⟩,hd H p⟩
end
section
variable {X:Cx}{e de:Expr}{t tk:TA}{pos p kpos:Pos}
end
theorem AdG:typeLookup (.type "list_reverseiterator") "__len__"=pure none:=by rw[typeLookup_type,builtinLookup_eq_fast];kernel_rfl
theorem AgA:typeLookup (.type "list_reverseiterator") "__length_hint__"=pure (some (.builtin "list_reverseiterator.__length_hint__")):=by rw[typeLookup_type,builtinLookup_eq_fast];kernel_rfl
section
variable {prog:Program}{w:World}{A:Around}{E:Value->Shared->Prop}{s:Shared}{R:Result->Shared->Prop}{I:Addr}{fp wr:List Addr}{G:Array GenState->Array GenState->Prop}{n:Nat}{P:Nat->Value->Prop}{St:Nat->Shared->Prop}
theorem Ab4(W:WalksS prog w A.in1 I fp wr G n P St)(hT:∀i s,St i s->s.TypeIs (.ref I) "list_reverseiterator")(S:Addr)(res:Value)(c₀:Nat)(hst:St 0 s)(hSf:S∉fp)(hI:I∈fp)
  (hS:s.heap.get? S=some { cls:=.type "list",data:=.seq #[] c₀ })
  (hR:∀s' acc' c',Moved (S::wr) G s s'->s'.heap.get? S=some { cls:=.type "list",dict:=none,data:=.seq acc' c',slots:=#[] }->ItemsOf P acc' n->R (.ok (.ret res)) s') (hn:n<=sizeLine) :
  wpAny (model prog w) A.in1 (Builtin.List.listExtendWith (.ref S) (.ref I) res)
   (λfin s'=>match fin with | .done f=>R (.ok f) s' | .again c'=>c'.quiet=true/\codeAny (model prog w) A c' R s') (λe s'=>R (.error e) s') s:=by
 have hSI:S≠I:=λe=>hSf (e▸hI)
 unfold Builtin.List.listExtendWith
 refine wpAny_bind (wpAny_typeOf (hT 0 _ hst) ?_)
 have h1:Builtin.List.listSameRef (.ref S) (.ref I)=false:=by simp [Builtin.List.listSameRef,hSI]
 rw[if_neg (by rw[h1];decide)]
 refine wpAny_bind (W.self 0 _ _ _ hst ?_)
 refine wpAny_bind (wpAny_holding ?_)
 unfold Builtin.List.listLengthHint
 refine wpAny_bind (wpAny_specialOf (hT 0 _ hst) AdG ?_)
 show wpAny _ A.in1 (specialOf (Value.ref I) (Str.ofString "__length_hint__") >>= _) _ _ _
 refine wpAny_bind (wpAny_specialOf (hT 0 _ hst) AgA ?_)
 (generalize hid:("list_reverseiterator.__length_hint__" : String)=id0;(fail_if_success (clear hid id0));wp_delta;rw[show splitId id0=some ("list_reverseiterator","__length_hint__") from by subst hid;decide +kernel];subst hid)
 refine wpAny_bind (wpAny_isInstance (b:=true) (hT 0 _ hst) (by rw[isSubtype_type];kernel_rfl) ?_)
 refine wpAny_pure ?_
 rw[if_neg (by decide)]
 exact wpAny_pure ⟨plainId_quiet F.plain_extend_loop _,codeAny_extend_loopS W hn _ hSf _ n 0 _ _ _ rfl (zero_le _) hst hS (ItemsOf.nil P) λs' acc' c' hm hS' hacc=>hR s' acc' c' hm hS' hacc⟩
theorem Af2(W:WalksS prog w A.in1 I fp wr G n P St)(hT:∀i s,St i s->s.TypeIs (.ref I) "list_reverseiterator")(S:Addr)(hst:St 0 s)(hSf:S∉fp)(hI:I∈fp)
  (hS:s.heap.get? S=some { cls:=.type "list",data:=.seq #[] })
  (hR:∀s' acc' c',Moved (S::wr) G s s'->s'.heap.get? S=some { cls:=.type "list",dict:=none,data:=.seq acc' c',slots:=#[] }->ItemsOf P acc' n->R (.ok (.ret .none)) s') (hn:n<=sizeLine) :
  wpAny (model prog w) A.in1 (Builtin.«list.__init__» ⟨[.ref S,.ref I],[]⟩)
   (λfin s'=>match fin with | .done f=>R (.ok f) s' | .again c'=>c'.quiet=true/\codeAny (model prog w) A c' R s') (λe s'=>R (.error e) s') s:=by
 show wpAny _ A.in1 (do let old <- Builtin.List.listItems (.ref S);Builtin.List.listUpdate (.ref S) (λ_=>#[]);letGo old.toList.reverse;Builtin.List.listExtendWith (.ref S) (.ref I) .none) _ _ s
 refine wpAny_bind ?_
 unfold Builtin.List.listItems
 refine wpAny_bind (wpAny_seqItems hS rfl (wpAny_pure ?_))
 show wpAny _ A.in1 (updateSeq S (λ_=>#[]) >>= λ_=>letGo (#[]:Array Value).toList.reverse >>= λ_=>Builtin.List.listExtendWith (.ref S) (.ref I) .none) _ _ s
 refine wpAny_bind (wpAny_updateSeq hS rfl ?_)
 have hS₂:=Heap.get?_update_self (Obj.mapSeq (λ_=>(#[]:Array Value))) hS rfl
 have oth:∀b o,b≠S->s.heap.get? b=some o->(s.heap.update S (Obj.mapSeq (λ_=>(#[]:Array Value)))).get? b=some o :=
  λb o hb e=>(Heap.get?_update_other _ _ (Ne.symm hb)).trans e
 refine wpAny_bind (wpAny_letGo ?_)
 refine Ab4 W hT S .none _ (W.frame 0 s _ s.toks hst (Nat.le_refl _) λb hb o e=>oth b o (λh=>hSf (h▸hb)) e) hSf hI hS₂ (λs' acc' c' hm hS' hacc=>?_) hn
 exact hR s' acc' c' (Moved.trans W.gtrans ((Moved.refl W.grefl).then_heap (Nat.le_refl _) λb o hb e=>oth b o (λh=>hb (h▸mem_cons_self)) e) hm) hS' hacc
theorem Ya{Q:Value->Shared->Prop}(W:WalksS prog w A.in1.in1 I fp wr G n P St)(hT:∀i s,St i s->s.TypeIs (.ref I) "list_reverseiterator")(hst:St 0 s)(hfp:∀b∈fp,b<s.heap.objs.size)(hI:I∈fp)
  (hQ:∀s' acc' c',Moved (s.heap.objs.size::wr) G { s with heap:=s.heap.push { cls:=.type "list",data:=.seq #[] } } s' ->
   s'.heap.get? s.heap.objs.size=some { cls:=.type "list",dict:=none,data:=.seq acc' c',slots:=#[] }->ItemsOf P acc' n->Q (.ref s.heap.objs.size) s') (hn:n<=sizeLine) :
  wpAny (model prog w) A (call (.type "list") [.ref I]) Q E s:=by
 have hSf:s.heap.objs.size∉fp:=λhm=>Nat.lt_irrefl _ (hfp _ hm)
 refine callType_codes (Q₁:=λobj s₁=>obj=.ref s.heap.objs.size/\s₁={ s with heap:=s.heap.push { cls:=.type "list",data:=.seq #[] } }) F.called_list (F.typeCall_list_1 _) F.entry_list_init
  (code_list_new _ ⟨rfl,rfl⟩) λobj s₁ h₁=>?_
 obtain⟨rfl,rfl⟩:=h₁
 have hS:(s.heap.push { cls:=.type "list",data:=.seq #[] }).get? s.heap.objs.size=some { cls:=.type "list",data:=.seq #[] }:=get?_push_size _ rfl
 refine⟨⟨_,hS,rfl⟩,F.args_list_init_2 _ _,Af2 W hT _ (W.frame 0 s _ s.toks hst (Nat.le_refl _) λb _ o e=>get?_push_of_some _ e) hSf hI hS (λs' acc' c' hm hS' hacc=>?_) hn⟩
 exact⟨rfl,hQ s' acc' c' hm hS' hacc⟩
end
theorem Yd:bootBuiltins "reversed"=some (.type "reversed"):=by kernel_rfl
def Aj1(K:Frag)(tl:TE):TE:=λσ H Q=>tl σ H λx H1=>∃a xs,x=.ref a/\SqL K H1 a xs/\∀l H',H1 l=none->Same H1 H'->H' l=some (.lst xs.reverse)->Q (.ref l) H'
def on1(R:V->Hp->Prop):List V->Hp->Prop
 | [x],H=>R x H
 | _,_=>False
section
variable {X:Cx}{p p2 pos pos2:Pos}{tg:Expr}
theorem AgS{xs:List V}{its:List Value}(h:Vals xs its):Vals xs.reverse its.reverse:=by
 induction h with
 | nil=>exact .nil
 | cons r t ih =>
  rw[List.reverse_cons,List.reverse_cons]
  exact ih.append (.cons r .nil)
theorem AeM{l:Expr}{tl:TE}(hl:PE X l tl)(hc:X.calm=true)(hgl:Gl X "list")(hml:X.mg "list"=none)(hg:Gl X "reversed")(hm:X.mg "reversed"=none)(hs:starEach [l] X.env=[(false,eval l X.env)]:=by rfl)
  (hs2:starEach [.Call (.Name "reversed" p) [l] [] pos] X.env=[(false,eval (.Call (.Name "reversed" p) [l] [] pos) X.env)]:=by rfl) :
  PE X (.Call (.Name "list" p2) [.Call (.Name "reversed" p) [l] [] pos] [] pos2) (Aj1 X.K tl):=by
 intro pins s σ H Q I h
 refine wpAny_Call_Name_kw (Lq I hgl hml boot_list ?_)
 refine callWith_type1 ?_ hs2 rfl
 rw[hs2]
 refine Calls.spliced_cons ?_
 refine wpAny_Call_Name_kw (Lq I hg hm Yd (callWith_type1 (thn ((Ba hl Be hs) pos pins s σ H (on1 λx H1=>∃a xs,x=.ref a/\SqL X.K H1 a xs/\∀l H',H1 l=none->Same H1 H'->H' l=some (.lst xs.reverse)->Q (.ref l) H') I h) λus s1 ⟨vs,H1,I1,r1,q1⟩=>?_) hs rfl))
 cases vs with
 | nil=>exact False.elim q1
 | cons x vs =>
  cases vs with
  | cons y vs=>exact False.elim q1
  | nil =>
    obtain⟨a,xs,e0,hq,q⟩:=q1
    subst e0
    obtain⟨u,rfl,ru⟩:=Yi r1
    cases ru
    obtain⟨its,rv,pl,hz⟩:=I1.list hq
    have hlen:=rv.length
    have psz:∀(h:Heap) (o:Obj),(h.push o).objs.size=h.objs.size+1:=λh o=>by simp [Heap.push]
    refine call_reversed_list pl.isList ?_
    refine Calls.spliced_nil ?_
    have hlt:a<s1.heap.objs.size:=by obtain⟨_,e,_⟩:=pl.isList;exact lt_size e
    have W:=(Walks.listRev (prog:=X.prog) (w:=X.w) (A:=X.A.in1.in1) (I.ok.hd hc) s1.heap.objs.size a (ne_of_lt hlt) its.toArray).toS
    refine Ya W (λi s st=>st.2.1.typeIs) ⟨zero_le _,?_,pl.isList.push _⟩ (λb hb=>?_) (by simp) (λs' acc' c' hm hS hacc=>?_) (by simpa [<- hlen] using hz)
    ·exact⟨_,get?_push_size _ rfl,rfl,by simp [revObj]⟩
    ·have hb':b=s1.heap.objs.size\/b=a:=by simpa using hb
     rcases hb' with e | e
     ·rw[e];show _<(s1.heap.push _).objs.size;rw[psz];exact lt_succ_self _
     ·rw[e];show _<(s1.heap.push _).objs.size;rw[psz];exact lt_succ_of_lt hlt
    ·rw[Moved.eq_with hm]
     have es:acc'=its.reverse.toArray:=by
      apply Array.ext_getElem?
      intro i
      obtain⟨h1,h2⟩:=hacc
      by_cases hi:i<acc'.size
      ·have e1:acc'[i]? = some acc'[i]:=Array.getElem?_eq_getElem hi
       have e2:=h2 i _ e1
       rw[e1,<- e2]
       simp only [size_toArray] at h1 ⊢
       rw[List.getElem?_toArray,List.getElem?_toArray,List.getElem?_reverse (by omega)]
      ·rw[Array.getElem?_eq_none (by omega),Array.getElem?_eq_none (by simp only [size_toArray] at h1;simp;omega)]
     subst es
     refine⟨.ref _,upd H1 _ (.lst xs.reverse),I1.laid (s:=s1) (h':=s'.heap) (λb o e=>?_) ?_ ?_,rfl,q _ _ (I1.hok.fresh ?_) (Same.laid (I1.hok.fresh ?_)) Bn⟩
     ·have hb:b<s1.heap.objs.size:=lt_size e
      refine hm.heap b o (λz=>?_) (get?_push_of_some _ (get?_push_of_some _ e))
      have z':b=(s1.heap.push (revObj a ((its.toArray.size:Int) - 1))).objs.size\/b=s1.heap.objs.size:=by simpa using z
      rw[psz] at z'
      rcases z' with z' | z'
      ·rw[z'] at hb;exact absurd hb (Nat.not_lt.mpr (le_succ _))
      ·rw[z'] at hb;exact Nat.lt_irrefl _ hb
     ·show _<=(s1.heap.push _).objs.size;rw[psz];exact le_succ _
     ·exact⟨by simpa using hz,its.reverse,c',AgS rv,hS⟩
     ·show _<=(s1.heap.push _).objs.size;rw[psz];exact le_succ _
     ·show _<=(s1.heap.push _).objs.size;rw[psz];exact le_succ _
def Adl:V->V->V->Hp->(Hp->Prop)->Prop:=λo i v H Q=>∃p xs k j,o=.ref p/\i=.int k/\H p=some (.lst xs)/\ixN xs.length k=some j/\∀H',Chg p H H'->H' p=some (.lst (xs.set j v))->Q H'
theorem Nw:AfV X Adl:=λpins s σ H o i v ov iv u Q I ro ri rv ⟨p,xs,k,j,e1,e2,h1,h2,q⟩=>Afn pins s σ H o i v ov iv u Q I ro ri rv ⟨p,xs,k,j,e1,e2,h1,h2,q _ Chg.put Bn⟩
def Ahi:R2:=λx y H Q=>∃l k xs,x=.ref l/\y=.int k/\H l=some (.lst xs)/\-(2^63)<=k/\k<2^63/\xs.length*k.toNat<=sizeLine /\
 ∀p H',H p=none->Same H H'->H' p=some (.lst (replicate k.toNat xs).flatten)->Q (.ref p) H'
theorem Abl:OpR X (binaryOp .Mult) Ahi:=λpins s σ H x y v u Q I r1 r2 ⟨l,k,xs,e1,e2,h1,h2,h3,hz,q⟩=>Ale pins s σ H x y v u Q I r1 r2 ⟨l,k,xs,e1,e2,h1,h2,h3,hz,λp hp=>q p _ hp (Same.laid hp) Bn⟩
def AkI(K:Frag)(neg:Bool):R2:=λx y H Q=>AfS K neg x y H Q\/(Afs x y=true/\Q (.bl (if neg then !decide (x=y) else decide (x=y))) H)\/∃a xs,SqT K H a xs/\((x=.ref a/\(y=.non\/∃z,y=.str z))\/(x=.non/\y=.ref a))/\Q (.bl neg) H
theorem Amb(K':Frag)(hu:X.A.units+64<cLine)(hK:X.K=K':=by rfl):OpR X (compareOp .Eq) (AkI K' false):=by
 subst hK
 intro pins s σ H x y v u Q I rx ry h
 rcases h with h | h | ⟨a,xs,hq,h,q⟩
 ·exact Alg hu pins s σ H x y v u Q I rx ry h
 ·exact Do pins s σ H x y v u Q I rx ry h
 ·obtain⟨us,r1,p1,_⟩:=I.tuple hq
  have fin:EP X pins σ Q (.bool false) s:=⟨.bl _,H,I,rfl,q⟩
  rcases h with ⟨rfl,rfl | ⟨z,rfl⟩⟩ | ⟨rfl,rfl⟩
  ·cases rx;cases ry
   exact SeqAt.RcAt.tuple_none p1 (by omega) _ _ _ _ fin
  ·cases rx
   obtain⟨t,rfl⟩:=ry
   exact SeqAt.RcAt.tuple_str z t p1 (by omega) _ _ _ _ fin
  ·cases rx;cases ry
   exact SeqAt.RcAt.none_tuple p1 (by omega) _ _ _ _ fin
end
theorem Wc{X:Cx}(K':Frag){e:Expr}{te:TE}{lo hi:Option Expr}{st:Expr}{tl th ts:TO}{pos p2:Pos}(he:PE X e te)(hl:PO X lo tl)(hu:PO X hi th)(hs:PO X (some st) ts)(h:X.K=K':=by rfl):PE X (.Subscript e (.Slice lo hi (some st) p2) pos) (AfT K' te tl th ts):=by
 subst h
 exact AdH he hl hu hs
theorem AdR:bootBuiltins "zip"=some (.type "zip"):=by kernel_rfl
theorem Inv.turnedL{X:Cx}{pins:List (Addr×Obj)}{σ:St}{H:Hp}{s:Shared}{h':Heap}{t':Nat}{ch:List Addr}(I:Inv X pins σ H s)(k:∀b o,b∉ch->s.heap.get? b=some o->h'.get? b=some o)(hf:∀b∈ch,Sm X pins H b):Inv X pins σ H { s with heap:=h',toks:=t' }:=by
 have nit:∀b u,H b=some u->b∉ch:=λb u e z=>by rw[(hf b z).1] at e;cases e
 refine I.step (g':=s.gens) (d':=s.drawn) (ch:=ch) (λb hb=>?_) (λb o _ _ hc e _=>k b o hc e) (λb o _ _ hc e _=>⟨o.slots,k b o hc e⟩) (λ_ _ _ _ n=>n)
  (λb o hc e=>⟨o,k b o hc e⟩) (λ_ _ e=>e) (λ_ _ _ e=>e) (λb ps e=>⟨#[],by rw[e];simp⟩) (λm hm=>?_) (λb u e=>?_) I.bare
 ·obtain⟨f0,f1,f2,f3,f4,f5⟩:=hf b hb
  exact⟨f3,f1,f4,f5⟩
 ·obtain⟨o,es,ep,ho,r⟩:=hm
  exact⟨o,es,ep,k _ o (λz=>(hf _ z).2.1 rfl) ho,r⟩
 ·refine (I.hok b u e).stay (λc v hc q=>k c v ?_ q) (λ_ q=>q) λ_ _ q=>q
  rcases hc with z | z
  ·rw[z];exact nit b u e
  ·exact nit c _ z
def Itz(K:Frag)(a b:Addr):It :=
 ⟨λi H=>∃xs x ys y,SqL K H a xs/\xs[i]? = some x/\SqL K H b ys/\ys[i]? = some y,
  λi H v H'=>∃t x y,H t=none/\(∀xs,SqL K H a xs->xs[i]? = some x)/\(∀ys,SqL K H b ys->ys[i]? = some y)/\v=.ref t/\H'=upd H t (.tup [x,y]),
  λi H=>∃xs ys,SqL K H a xs/\SqL K H b ys/\(xs.length<=i\/ys.length<=i)⟩
theorem Aga{P:Program}{w:World}{K:Frag}{elts:List Expr}{x1:Nat}{tp:Pos}(a b z TI TO i1 i2:Addr)(D:ZipApart z TI TO i1 i2 a b) :
  Ur P w K (.Tuple elts x1 tp) (Itz K a b) [z,TI,TO,i1,i2] z (λi h=>IsZip h z TI TO .none/\IsPair h TI (.ref i1) (.ref i2)/\(∃x y,IsPair h TO x y)/\h.IsListIter i1 a i/\h.IsListIter i2 b i) where
 mem:=by simp
 obj:=λi h st c hc=>by
  obtain⟨hz,hTI,⟨x,y,hTO⟩,⟨o1,e1,c1,d1⟩,⟨o2,e2,c2,d2⟩⟩:=st
  simp only [mem_cons,not_mem_nil,or_false] at hc
  rcases hc with rfl | rfl | rfl | rfl | rfl
  ·exact⟨_,hz,λv z=>nomatch z⟩
  ·exact⟨_,hTI,λv z=>nomatch z⟩
  ·exact⟨_,hTO,λv z=>nomatch z⟩
  ·exact⟨o1,e1,λv z=>by rw[d1] at z;cases z⟩
  ·exact⟨o2,e2,λv z=>by rw[d2] at z;cases z⟩
 keep:=λi h h' st k=>by
  obtain⟨hz,hTI,⟨x,y,hTO⟩,h1,h2⟩:=st
  exact⟨k z (by simp) _ hz,k TI (by simp) _ hTI,⟨x,y,k TO (by simp) _ hTO⟩,h1.at λo e=>k i1 (by simp) o e,h2.at λo e=>k i2 (by simp) o e⟩
 item:=by
  intro X hP hw hK hc i pins s σ H E I hf st hg
  subst hP hw hK
  obtain⟨xs,x,ys,y,hq,hx,hq2,hy⟩:=hg
  obtain⟨hz,hTI,⟨oa,ob,hTO⟩,h1,h2⟩:=st
  obtain⟨its,rv,p,hzz⟩:=I.list hq
  obtain⟨its2,rv2,p2,hzz2⟩:=I.list hq2
  obtain⟨u,hu,ru⟩:=rv.get hx
  obtain⟨u2,hu2,ru2⟩:=rv2.get hy
  have hfr:H s.heap.objs.size=none:=I.hok.fresh (Nat.le_refl _)
  have lt:∀c∈[z,TI,TO,i1,i2],s.heap.objs.size≠c:=λc hc=>by
   simp only [mem_cons,not_mem_nil,or_false] at hc
   rcases hc with rfl | rfl | rfl | rfl | rfl
   ·exact Nat.ne_of_gt (lt_size hz)
   ·exact Nat.ne_of_gt (lt_size hTI)
   ·exact Nat.ne_of_gt (lt_size hTO)
   ·obtain⟨_,e,_⟩:=h1;exact Nat.ne_of_gt (lt_size e)
   ·obtain⟨_,e,_⟩:=h2;exact Nat.ne_of_gt (lt_size e)
  refine wpAny_pyNext_zip_item D hz hTI hTO h1 h2 p.isList p2.isList (x:=u) (y:=u2) (by simpa using hu) (by simpa using hu2) λh' a1 a2 a3 a4 a5 a6 hk=>⟨_,rfl,?_⟩
  refine wpAny_letOwnedTupleGo_zip (s:={ s with heap:=h' }) a1 λh2' hz2 hs=>?_
  have kp:∀c o,c∉[z,TI,TO,i1,i2]->s.heap.get? c=some o->h2'.get? c=some o:=λc o hc q=>by
   simp only [mem_cons,not_mem_nil,or_false,not_or] at hc
   exact (hs.2 c hc.1).trans (hk c o hc.1 hc.2.2.1 hc.2.2.2.1 hc.2.2.2.2 q)
  have hT2:h2'.get? s.heap.objs.size=some { cls:=.type "tuple",data:=.seq #[u,u2] }:=(hs.2 _ (lt z (by simp))).trans a5
  have nt:∀b v,H b=some v->b≠s.heap.objs.size:=λb v q=>Bz q hfr
  have nit:∀b v,H b=some v->b∉[z,TI,TO,i1,i2]:=λb v q hb=>by rw[(hf b hb).1] at q;cases q
  refine⟨.ref s.heap.objs.size,upd H s.heap.objs.size (.tup [x,y]),?_,rfl,⟨_,x,y,hfr,(λzs hy=>by rw[I.list_inj hy hq];exact hx),(λzs hz=>by rw[I.list_inj hz hq2];exact hy),rfl,rfl⟩,
   ⟨hz2,(hs.2 TI D.TIz).trans (hk TI _ D.TIz D.TITO D.TIi1 D.TIi2 hTI),⟨_,_,(hs.2 TO D.TOz).trans a2⟩,a3.at λo q=>(hs.2 i1 D.i1z).trans q,a4.at λo q=>(hs.2 i2 D.i2z).trans q⟩,λc hc=>?_⟩
  ·refine Inv.step (s:=s) (h':=h2') I (g':=s.gens) (d':=s.drawn) (t':=s.toks) (ch:=[z,TI,TO,i1,i2]) (λb hb=>?_) (λb o _ _ hc q _=>kp b o hc q) (λb o _ _ hc q _=>⟨o.slots,kp b o hc q⟩)
    (λb o hc q n=>by rw[Bj (ne_of_lt (lt_size q))];exact n) (λb o hc q=>⟨o,kp b o hc q⟩) (λb xs q=>by rw[Bj (nt b _ q)];exact q) (λb o v q=>by rw[Bj (nt b _ q)];exact q)
    (λb ps q=>⟨#[],by rw[Bj (nt b _ q),q];simp⟩) (λm hm=>?_) (λb v q=>?_) I.bare
   ·obtain⟨f0,f1,f2,f3,f4,f5⟩:=hf b hb
    exact⟨f3,f1,f4,f5⟩
   ·obtain⟨o,es,ep,ho,r⟩:=hm
    exact⟨o,es,ep,kp _ o (λz=>(hf _ z).2.1 rfl) ho,r⟩
   ·by_cases hb:b=s.heap.objs.size
    ·subst hb
     rw[Bn] at q
     cases q
     exact⟨by show 2<=sizeLine;decide,[u,u2],.cons ru (.cons ru2 .nil),_,hT2,rfl,_,rfl⟩
    ·rw[Bj hb] at q
     refine (I.hok b v q).stay (λc v' hc q'=>?_) (λc q'=>by rw[Bj (nt c _ q')];exact q') λc xs q'=>by rw[Bj (nt c _ q')];exact q'
     rcases hc with z | z
     ·rw[z] at q' ⊢;exact kp b v' (nit b _ q) q'
     ·exact kp c v' (nit c _ z) q'
  ·rw[Bj (Ne.symm (lt c hc))];exact (hf c hc).1
 done:=by
  intro X hP hw hK hc i pins s σ H E I hf st hg
  subst hP hw hK
  obtain⟨xs,ys,hq,hq2,he⟩:=hg
  obtain⟨hz,hTI,⟨oa,ob,hTO⟩,h1,h2⟩:=st
  obtain⟨its,rv,p,hzz⟩:=I.list hq
  obtain⟨its2,rv2,p2,hzz2⟩:=I.list hq2
  have hl:=rv.length
  have hl2:=rv2.length
  refine wpAny_pyNext_zip_end (I.ok.hd hc) D hz hTI hTO h1 h2 p.isList p2.isList (he.imp (λh=>by simp;omega) (λh=>by simp;omega)) λh' hk=>⟨rfl,I.turnedL (t':=s.toks) (ch:=[z,TI,TO,i1,i2]) (λc o hc q=>?_) hf⟩
  simp only [mem_cons,not_mem_nil,or_false,not_or] at hc
  exact hk c o hc.1 hc.2.2.1 hc.2.2.2.1 hc.2.2.2.2 q
 self:=λA i s Q E st h=>wpAny_pyIter_zip st.1 h
theorem AaM{n a b:Nat}(la:a<n)(lb:b<n):ZipApart (n+4) (n+2) (n+3) n (n+1) a b:=by
 constructor <;> (intro h;have h':@Eq Nat _ _:=h;omega)
section
variable {X:Cx}{elts:List Expr}{x1:Nat}{tp p pos:Pos}
def AcM(K:Frag)(ta tb:TE):TI:=λσ H R=>ta σ H λx H1=>tb σ H1 λy H2=>∃a b,x=.ref a/\y=.ref b/\(∃xs,SqL K H2 a xs)/\(∃ys,SqL K H2 b ys)/\R (Itz K a b) H2
theorem AlP{l m:Expr}{tl tm:TE}(hl:PE X l tl)(hm':PE X m tm)(hg:Gl X "zip")(hm:X.mg "zip"=none)(hs:starEach [l,m] X.env=[(false,eval l X.env),(false,eval m X.env)]:=by rfl)(hs2:starEach [m] X.env=[(false,eval m X.env)]:=by rfl):PI X (.Tuple elts x1 tp) (.Call (.Name "zip" p) [l,m] [] pos) (AcM X.K tl tm):=by
 intro pins s σ H R I h
 have pa:PA X [l,m] (Ga tl (Ga tm Nb)):=Ba hl (Ba hm' Be hs2) (by rw[hs,hs2])
 refine Call_ (Lq I hg hm AdR (PyProof.Rows.callWith_type1 (thn (pa pos pins s σ H (λvs H1=>match vs with
  | [x,y]=>∃a b,x=.ref a/\y=.ref b/\(∃xs,SqL X.K H1 a xs)/\(∃ys,SqL X.K H1 b ys)/\R (Itz X.K a b) H1
  | _=>False) I h) λus s1 ⟨vs,H1,I1,r1,q1⟩=>?_) (by rw[hs,hs2]) (by rw[hs2];rfl)))
 match vs,q1 with
 | [x,y],⟨a,b,e1,e2,⟨xs,hq⟩,⟨ys,hq2⟩,q⟩ =>
  subst e1 e2
  cases r1 with
  | cons r rr =>
   cases rr with
   | cons r' rr =>
    cases rr
    cases r
    cases r'
    obtain⟨its,rv,pl,hz⟩:=I1.list hq
    obtain⟨its2,rv2,pl2,hz2⟩:=I1.list hq2
    have la:a<s1.heap.objs.size:=by obtain⟨o,e,_⟩:=pl.isList;exact lt_size e
    have lb:b<s1.heap.objs.size:=by obtain⟨o,e,_⟩:=pl2.isList;exact lt_size e
    have D:=AaM la lb
    refine call_zip_2 pl.isList pl2.isList λh' z1 z2 z3 z4 z5 z6 hk=>?_
    have I2:Inv X pins σ H1 { s1 with heap:=h' }:=I1.kept (t':=s1.toks) hk
    refine wpAny_pyIter_zip (s:={ s1 with heap:=h' }) z1 ⟨_,[s1.heap.objs.size+4,s1.heap.objs.size+2,s1.heap.objs.size+3,s1.heap.objs.size,s1.heap.objs.size+1],_,_,H1,rfl,I2,Aga a b _ _ _ _ _ D,⟨z1,z2,⟨_,_,z3⟩,z4,z5⟩,λc hc=>?_,q⟩
    have hge:s1.heap.objs.size<=c:=by
     simp only [mem_cons,not_mem_nil,or_false] at hc
     rcases hc with rfl | rfl | rfl | rfl | rfl
     ·exact le_add_right _ _
     ·exact le_add_right _ _
     ·exact le_add_right _ _
     ·exact Nat.le_refl _
     ·exact le_add_right _ _
    exact I1.fpOk hge (I1.hok.fresh hge)
theorem Wm(K':Frag){l m:Expr}{tl tm:TE}(hl:PE X l tl)(hm':PE X m tm)(hg:Gl X "zip")(hm:X.mg "zip"=none)(hK:X.K=K':=by rfl)(hs:starEach [l,m] X.env=[(false,eval l X.env),(false,eval m X.env)]:=by rfl)(hs2:starEach [m] X.env=[(false,eval m X.env)]:=by rfl):PI X (.Tuple elts x1 tp) (.Call (.Name "zip" p) [l,m] [] pos) (AcM K' tl tm):=by
 subst hK
 exact AlP hl hm' hg hm hs hs2
theorem Ai3{K:Frag}{a b:Addr}{xs ys:List V}{g:TG}{tb:TS}{D:Ends}{σ:St}{H:Hp}(Pv:Nat->St->Hp->Prop)(h0:Pv 0 σ H)(hl:∀i σ H,Pv i σ H->SqL K H a xs/\SqL K H b ys)
  (hs:∀i x y t σ H,xs[i]? = some x->ys[i]? = some y->H t=none->Pv i σ H->g (.ref t) σ (upd H t (.tup [x,y])) λσ2 H2=>tb { D with nx:=Pv (i+1),ct:=Pv (i+1),bk:=D.nx } σ2 H2) (hd:∀σ H,Pv (min xs.length ys.length) σ H->D.nx σ H) :
  ∃W:Nat->Nat->St->Hp->Prop,(∃m,W 0 m σ H)/\∀i m σ H,W i m σ H ->
   ((Itz K a b).stop i H/\D.nx σ H)\/((Itz K a b).go i H/\∃N:St->Hp->Prop,(∀σ' H',N σ' H'->∃m',m'<m/\W (i+1) m' σ' H')/\∀x H',(Itz K a b).yld i H x H'->g x σ H' λσ2 H2=>tb { D with nx:=N,ct:=N,bk:=D.nx } σ2 H2):=by
 refine⟨λi m σ H=>m=min xs.length ys.length - i/\i<=min xs.length ys.length/\Pv i σ H,⟨min xs.length ys.length,by simp,zero_le _,h0⟩,?_⟩
 rintro i m σ H ⟨rfl,hi,p⟩
 obtain⟨q,q2⟩:=hl i σ H p
 by_cases hlt:i<min xs.length ys.length
 ·have h1:i<xs.length:=by omega
  have h2:i<ys.length:=by omega
  refine .inr ⟨⟨xs,xs[i],ys,ys[i],q,by simp [h1],q2,by simp [h2]⟩,Pv (i+1),λσ' H' p'=>⟨min xs.length ys.length - (i+1),by omega,rfl,hlt,p'⟩,λx H' y=>?_⟩
  obtain⟨t,y,z,ht,hy,hz,rfl,rfl⟩:=y
  exact hs i y z t σ _ (hy xs q) (hz ys q2) ht p
 ·have e:i=min xs.length ys.length:=by omega
  subst e
  exact .inl ⟨⟨xs,ys,q,q2,by omega⟩,hd σ H p⟩
theorem CP.zip{K:Frag}{σ:St}{H:Hp}{Q:VK}{D a b:Addr}{g:TG}{tc:TT}{te:TE}{k:Nat}{fr:List Nat}(xs ys:List V)(Pv:Nat->Hp->Prop)
  (h0:Pv 0 H) (hl:∀i H',Pv i H'->SqL K H' a xs/\SqL K H' b ys)
  (hs:∀i x y t H' (N:Hp->Prop),xs[i]? = some x->ys[i]? = some y->H' t=none->Pv i H'->(∀H'',Pv (i+1) H''->N H'')->g (.ref t) (compσ k fr σ) (upd H' t (.tup [x,y])) λσ2 H2=>σ2.drop k=(compσ k fr σ).drop k/\tc σ2 H2 λb H3 =>
   if b=true then te σ2 H3 (λy H4=>∃ys,H4 D=some (.lst ys)/\ys.length<sizeLine/\N (upd H4 D (.lst (ys++[y])))) else N H3)
  (hd:∀H',Pv (min xs.length ys.length) H'->Q (.ref D) H'):CP (Itz K a b) D g tc te k fr σ H Q:=by
 refine⟨λi m H=>m=min xs.length ys.length - i/\i<=min xs.length ys.length/\Pv i H,⟨min xs.length ys.length,by simp,zero_le _,h0⟩,?_⟩
 rintro i m H ⟨rfl,hi,p⟩
 obtain⟨q,q2⟩:=hl i H p
 by_cases hlt:i<min xs.length ys.length
 ·have h1:i<xs.length:=by omega
  have h2:i<ys.length:=by omega
  refine .inr ⟨⟨xs,xs[i],ys,ys[i],q,by simp [h1],q2,by simp [h2]⟩,λx H' y=>?_⟩
  obtain⟨t,y,z,ht,hy,hz,rfl,rfl⟩:=y
  exact hs i y z t H (λH''=>∃m',m'<min xs.length ys.length - i/\m'=min xs.length ys.length - (i+1)/\i+1<=min xs.length ys.length/\Pv (i+1) H'') (hy xs q) (hz ys q2) ht p λH'' p''=>⟨min xs.length ys.length - (i+1),by omega,rfl,hlt,p''⟩
 ·have e:i=min xs.length ys.length:=by omega
  subst e
  exact .inl ⟨⟨xs,ys,q,q2,by omega⟩,hd H p⟩
end
theorem Fi{X:Cx}{c:Const}{n:Nat}{pos:Pos}{es:List Expr}{te:TE}{t:TA}(h:PE X (.Constant c n pos) te)(h2:PA X es t):PA X (.Constant c n pos::es) (Ga te t):=Ba h h2 rfl
section
variable {X:Cx}
end
theorem CP.dkeys{σ:St}{H:Hp}{Q:VK}{D a:Addr}{o:Obj}{kvs:List (Key×V)}{g:TG}{tc:TT}{te:TE}{k:Nat}{fr:List Nat}(Pv:Nat->Hp->Prop)
  (h0:Pv 0 H) (hl:∀i H',Pv i H'->H' a=some (.frz o (.dK kvs)))
  (hs:∀i kv H' (N:Hp->Prop),kvs[i]? = some kv->Pv i H'->(∀H'',Pv (i+1) H''->N H'')->g (kV kv.1) (compσ k fr σ) H' λσ2 H2=>σ2.drop k=(compσ k fr σ).drop k/\tc σ2 H2 λb H3 =>
   if b=true then te σ2 H3 (λy H4=>∃ys,H4 D=some (.lst ys)/\ys.length<sizeLine/\N (upd H4 D (.lst (ys++[y])))) else N H3)
  (hd:∀H',Pv kvs.length H'->Q (.ref D) H'):CP (Itd a o kvs) D g tc te k fr σ H Q:=by
 refine⟨λi m H=>m=kvs.length - i/\i<=kvs.length/\Pv i H,⟨kvs.length,by simp,zero_le _,h0⟩,?_⟩
 rintro i m H ⟨rfl,hi,p⟩
 have q:=hl i H p
 by_cases hlt:i<kvs.length
 ·refine .inr ⟨⟨q,hlt⟩,λx H' y=>?_⟩
  obtain⟨rfl,kv,hy,rfl⟩:=y
  exact hs i kv H' (λH''=>∃m',m'<kvs.length - i/\m'=kvs.length - (i+1)/\i+1<=kvs.length/\Pv (i+1) H'') hy p λH'' p''=>⟨kvs.length - (i+1),by omega,rfl,hlt,p''⟩
 ·have e:i=kvs.length:=by omega
  subst e
  exact .inl ⟨⟨q,Nat.le_refl _⟩,hd H p⟩
structure FunD(K:Frag)(x qual:Str)(st:Stmt)(f:Addr)(fd:FuncData)(D:Addr)(ds:List Value):Prop where
 ex:∃(oc:Value) (od:Option Addr) (kV doc pm:Value) (an:Option Addr) (cdv ct:Value) (osl:Array (Option Value)),
  fd=fnOf x qual (Js st) (Gr st) (Bs st) (.ref D) kV doc pm an cdv ct/\K.lookup f=some ⟨oc,od,.func fd,osl⟩/\codeIn K cdv qual=true
 kp:keepIn K (.ref f)=true
 dl:∃(od:Option Addr) (n:Nat) (sl:Array (Option Value)),K.lookup D=some ⟨.type "tuple",od,.seq ds.toArray n,sl⟩
section
variable {P:Program}{w:World}{K:Frag}{mg:Str->Option Value}{base:Heap}
theorem FunD.ok{x qual:Str}{st:Stmt}{f D:Addr}{dl:List Value}{fd:FuncData}{N ps:List Str}{k:Nat}{sp:Sp}(F:FunD K x qual st f fd D dl)(S:Cd N ps (Bs st))(len:∀vs H Q E,sp vs H Q E->vs.length=ps.length)
  (hbody:∀(cdv:Value) (A:Around) (outer:List Env) (s:Shared) (H:Hp) (vs:List V) (Q:VK) (E:XK),Room k (A.deeper (envOfC qual (Bs st) s.heap.objs.size f cdv))->sp vs H Q E ->
   ∃t,PSs (Sq CX0 P w K mg base N qual (Bs st) f cdv A outer s H E).nox (Gr st) t/\t { nx:=λ_ H'=>Q .non H',rt:=Q } (Ob N vs) H):FnOk P w K mg base CX0 (k+1) f fd ps sp:=by
 obtain⟨oc,od,kV,doc,pm,an,cdv,ct,osl,rfl,lk,hcd⟩:=F.ex
 refine Aik lk hcd S len λA outer s H vs Q E hr hsp=>?_
 obtain⟨t,h,q⟩:=hbody cdv A outer s H vs Q E hr hsp
 exact⟨t,h.nox,q⟩
theorem FunD.binds{x qual:Str}{st:Stmt}{f D:Addr}{dl ds:List Value}{fd:FuncData}{ps:List Str}(g:Nat)(F:FunD K x qual st f fd D dl)(hg:ps.length=g+ds.length)
  (h:∀(kV doc pm:Value) (an:Option Addr) (cdv ct:Value) (us:List Value),us.length=g->∃k:Option (Array Value)->Sem (List (Str×Value)),bindArgs (fnOf x qual (Js st) (Gr st) (Bs st) (.ref D) kV doc pm an cdv ct) ⟨us,[]⟩=seqItems? (.ref D) >>= k/\k (some dl.toArray)=pure (ps.zip (us++ds))):Binds K fd ps ds:=by
 obtain⟨oc,od,kV,doc,pm,an,cdv,ct,osl,rfl,lk,hcd⟩:=F.ex
 obtain⟨od2,n,sl,ld⟩:=F.dl
 intro s us X hl
 obtain⟨k,h1,h2⟩:=h kV doc pm an cdv ct us (by rw[length_append,hg] at hl;omega)
 exact PySem.W.binds_K X rfl ld rfl h1 h2
theorem Abg{x qual:Str}{st:Stmt}{f D:Addr}{dl:List Value}{oc:Value}{od an od2:Option Addr}{n:Nat}{osl sl:Array (Option Value)}{kV doc pm cdv ct:Value}(l:K.lookup f=some ⟨oc,od,.func (fnOf x qual (Js st) (Gr st) (Bs st) (.ref D) kV doc pm an cdv ct),osl⟩)
  (c:codeIn K cdv qual=true) (k:keepIn K (.ref f)=true) (d:K.lookup D=some ⟨.type "tuple",od2,.seq dl.toArray n,sl⟩):FunD K x qual st f (fnOf x qual (Js st) (Gr st) (Bs st) (.ref D) kV doc pm an cdv ct) D dl:=⟨⟨oc,od,kV,doc,pm,an,cdv,ct,osl,rfl,l,c⟩,k,od2,n,sl,d⟩
end
def AgZ:V->List V->Hp->VK->Prop:=λx vs H Q=>∃l xs y,x=.ref l/\vs=[]/\H l=some (.lst xs)/\xs[xs.length - 1]? = some y/\∀H',Chg l H H'->H' l=some (.lst xs.dropLast)->Q y H'
theorem AiV{X:Cx}:MtR X "list.pop" AgZ:=λpins s σ H x vs v us Q I rx rv ⟨l,xs,y,e1,e2,h1,hy,q⟩=>Akm pins s σ H x vs v us Q I rx rv ⟨l,xs,y,e1,e2,h1,hy,q _ Chg.put Bn⟩
end L2
namespace My
open PySem L2
local macro_rules | `(tactic| walk_at "k")=>`(tactic| exact⟨rfl,rfl,rfl,by decide +kernel,rfl,by decide +kernel,by decide +kernel⟩)
local macro_rules | `(tactic| walk_at "b1")=>`(tactic| exact fun _ _ _ _ _ _ us hl=>match us,hl with | [_],_=>rfl)
local macro_rules | `(tactic| walk_at "b2")=>`(tactic| exact fun _ _ _ _ _ _ us hl=>match us,hl with | [_,_],_=>rfl)
local macro_rules | `(tactic| walk_at "b3")=>`(tactic| exact fun _ _ _ _ _ _ us hl=>match us,hl with | [_,_,_],_=>rfl)
local macro_rules | `(tactic| walk_at "b4")=>`(tactic| exact fun _ _ _ _ _ _ us hl=>match us,hl with | [_,_,_,_],_=>rfl)
def top(i:Nat):Stmt:=PySem.Challenge.pw_bothhands_k36_whole_inside_and_without.main.body.getD i (.Pass ⟨0,0,0,0⟩)
abbrev AcZ:Stmt:=top 51
theorem sc_qbp:Cd ["_law_cell","_law_by","_law_low","_law_step"] ["_law_cell"] (Bs AcZ):=by walk_at "k"
abbrev AcI:Stmt:=top 52
theorem sc_qbw:Cd ["_law_cell","_law_more","_law_signs_here","_law_words_here","_law_told_here","_law_k","_law_word","_law_rank"] ["_law_cell","_law_more","_law_signs_here"] (Bs AcI):=by walk_at "k"
abbrev AbM:Stmt:=top 53
theorem sc_qbm:Cd ["_law_cell","_law_told_here","_law_signs_here","_law_words_here","_law_sign","_law_word","_law_rank","_law_marks","_law_bases","_law_joins_here","_law_held","_law_k","_law_base","_law_mark"] ["_law_cell","_law_told_here","_law_signs_here"] (Bs AbM):=by walk_at "k"
abbrev Af3:Stmt:=top 50
theorem Ans:Cd ["_law_script","_law_k"] ["_law_script","_law_k"] (Bs Af3):=by walk_at "k"
abbrev AcQ:Stmt:=top 54
theorem sc_qbo:Cd ["_law_script","_law_cell","_law_signs_here","_law_told_here","_law_joins_here","_law_mates"] ["_law_script"] (Bs AcQ):=by walk_at "k"
abbrev Acw:Stmt:=top 55
theorem sc_qbq:Cd ["_law_lists_here","_law_words_here","_law_sign","_law_word","_law_rank","_law_one","_law_other"] ["_law_lists_here"] (Bs Acw):=by walk_at "k"
abbrev Agl:Stmt:=top 56
theorem sc_qz:Cd ["_law_lists_here","_law_words_here","_law_chosen","_law_groups_here","_law_word"] ["_law_lists_here","_law_words_here","_law_chosen"] (Bs Agl):=by walk_at "k"
abbrev AfF:Stmt:=top 35
theorem AmY:Cd ["held","words"] ["held","words"] (Bs AfF):=by walk_at "k"
abbrev Af6:Stmt:=top 36
theorem sc_qf:Cd ["rows","length","row"] ["rows","length"] (Bs Af6):=by walk_at "k"
abbrev AgO:Stmt:=top 29
theorem AnR:Cd ["thing"] ["thing"] (Bs AgO):=by walk_at "k"
abbrev AbV:Stmt:=top 30
theorem Aj8:Cd ["thing"] ["thing"] (Bs AbV):=by walk_at "k"
abbrev Ab3:Stmt:=top 40
theorem Akl:Cd ["kinds","sign","kind"] ["kinds","sign","kind"] (Bs Ab3):=by walk_at "k"
abbrev AgE:Stmt:=top 37
theorem An9:Cd ["thing"] ["thing"] (Bs AgE):=by walk_at "k"
abbrev AfH:Stmt:=top 38
theorem Aod:Cd ["kind","thing"] ["kind","thing"] (Bs AfH):=by walk_at "k"
abbrev Af0:Stmt:=top 41
theorem sc_qy:Cd ["signs","mates","kinds","sign","kind","rank","first","second"] ["signs","mates"] (Bs Af0):=by walk_at "k"
abbrev Acz:Stmt:=top 42
theorem sc_qbd:Cd ["signs","ranks","sign","kind","rank"] ["signs"] (Bs Acz):=by walk_at "k"
abbrev AbZ:Stmt:=top 43
theorem sc_qbi:Cd ["mates","found","first","second"] ["mates"] (Bs AbZ):=by walk_at "k"
abbrev AgK:Stmt:=top 39
theorem AmN:Cd ["kinds","sign"] ["kinds","sign"] (Bs AgK):=by walk_at "k"
abbrev AgH:Stmt:=top 44
theorem sc_qv:Cd ["kinds","whole","base","mark","kind"] ["kinds","whole","base","mark"] (Bs AgH):=by walk_at "k"
abbrev AfI:Stmt:=top 45
theorem sc_qg:Cd ["pairs","whole","sign","going"] ["pairs","whole"] (Bs AfI):=by walk_at "k"
abbrev AcF:Stmt:=top 46
theorem sc_qbc:Cd ["kinds","joins","pairs","whole","base","mark"] ["kinds","joins"] (Bs AcF):=by walk_at "k"
abbrev Afl:Stmt:=top 47
theorem sc_qt:Cd ["pairs","wholes","whole","pair"] ["pairs"] (Bs Afl):=by walk_at "k"
abbrev Yw:Stmt:=Wk (top 48) 0
theorem Akv:Cd ["self","signs","mates","joins"] ["self","signs","mates","joins"] (Bs Yw):=by walk_at "k"
abbrev AcJ:Stmt:=top 57
theorem sc_qbv:Cd ["_law_groups_here","_law_cells","_law_found","_law_cell","_law_group"] ["_law_groups_here","_law_cells"] (Bs AcJ):=by walk_at "k"
abbrev Yk:Stmt:=Wk (top 48) 1
theorem Ak4:Cd ["self","sign"] ["self","sign"] (Bs Yk):=by walk_at "k"
abbrev AbO:Stmt:=top 2
theorem sc_qbs:Cd ["book","text","wholes","sign"] ["book","text"] (Bs AbO):=by walk_at "k"
abbrev AgI:Stmt:=top 3
theorem sc_qc:Cd ["book","whole","kind"] ["book","whole"] (Bs AgI):=by walk_at "k"
abbrev AcL:Stmt:=top 4
theorem Ak8:Cd ["book","text"] ["book","text"] (Bs AcL):=by walk_at "k"
abbrev AbU:Stmt:=top 7
theorem sc_qby:Cd ["book","text","depth","kind"] ["book","text"] (Bs AbU):=by walk_at "k"
abbrev AfQ:Stmt:=top 8
theorem Anz:Cd ["book","text","base"] ["book","text","base"] (Bs AfQ):=by walk_at "k"
abbrev Af4:Stmt:=top 9
theorem sc_qk:Cd ["kind","level","most","remainder","least"] ["kind","level","most"] (Bs Af4):=by walk_at "k"
abbrev Yu:Stmt:=top 10
theorem sc_qbx:Cd ["book","text","base","most","kinds","nests","waiting","level","at","kind","inner","ended","nest"] ["book","text","base","most"] (Bs Yu):=by walk_at "k"
abbrev Afu:Stmt:=top 14
theorem sc_ql:Cd ["nests","number","base","stretches","homes","home","stretch","k","rows"] ["nests","number","base"] (Bs Afu):=by walk_at "k"
abbrev AfN:Stmt:=top 15
theorem sc_qi:Cd ["kinds","own","ways","last","kind"] ["kinds","own"] (Bs AfN):=by walk_at "k"
abbrev Yn:Stmt:=Wk (top 48) 3
theorem AlR:Cd ["self","sign"] ["self","sign"] (Bs Yn):=by walk_at "k"
abbrev Acd:Stmt:=top 16
theorem sc_qbz:Cd ["book","kinds","bases","pairs","waiting","k","kind","fitting"] ["book","kinds","bases"] (Bs Acd):=by walk_at "k"
abbrev Ab9:Stmt:=top 19
theorem sc_qbj:Cd ["ways","own","found","last","way"] ["ways","own"] (Bs Ab9):=by walk_at "k"
abbrev AgN:Stmt:=top 20
theorem sc_qr:Cd ["ways","own","ahead","behind"] ["ways","own"] (Bs AgN):=by walk_at "k"
abbrev AfA:Stmt:=top 17
theorem sc_qq:Cd ["ways","pair","own","within","ahead"] ["ways","pair","own"] (Bs AfA):=by walk_at "k"
abbrev Agg:Stmt:=top 18
theorem sc_qb:Cd ["ways","pairs","own","found","pair","way"] ["ways","pairs","own"] (Bs Agg):=by walk_at "k"
abbrev AfM:Stmt:=top 21
theorem sc_qs:Cd ["book","kinds","bases","own","ways","pairs"] ["book","kinds","bases","own"] (Bs AfM):=by walk_at "k"
abbrev AfR:Stmt:=top 13
theorem AnL:Cd ["level"] ["level"] (Bs AfR):=by walk_at "k"
abbrev Agw:Stmt:=top 22
theorem AnI:Cd ["kind","way","level"] ["kind","way","level"] (Bs Agw):=by walk_at "k"
abbrev Afi:Stmt:=top 23
theorem sc_qd:Cd ["book","row","level","kinds","bases","ways"] ["book","row","level"] (Bs Afi):=by walk_at "k"
abbrev Yh:Stmt:=top 24
theorem sc_qbr:Cd ["book","text","base","most","wholes","lowest","levels","nests","level","row","found","k","own"] ["book","text","base","most"] (Bs Yh):=by walk_at "k"
abbrev Acg:Stmt:=top 58
theorem sc_qbb:Cd ["_law_words_here","_law_signs_here","_law_found","_law_sign"] ["_law_words_here","_law_signs_here"] (Bs Acg):=by walk_at "k"
abbrev AbQ:Stmt:=top 60
theorem sc_qba:Cd ["_law_signs_here","_law_at","_law_to","_law_found","_law_whole"] ["_law_signs_here","_law_at","_law_to"] (Bs AbQ):=by walk_at "k"
abbrev Ack:Stmt:=top 61
theorem sc_qbl:Cd ["_law_words_here","_law_signs_here","_law_close","_law_found","_law_deep","_law_sign","_law_word"] ["_law_words_here","_law_signs_here","_law_close"] (Bs Ack):=by walk_at "k"
abbrev AcK:Stmt:=top 62
theorem sc_qbk:Cd ["_law_book","_law_signs_here","_law_told_here","_law_number","_law_found","_law_most","_law_at","_law_to","_law_level","_law_inside_here","_law_inner","_law_one"] ["_law_book","_law_signs_here","_law_told_here","_law_number","_law_found","_law_most"] (Bs AcK):=by walk_at "k"
abbrev Vj:Stmt:=top 63
theorem sc_qcc:Cd ["_law_script","_law_lists_here","_law_words_here","_law_chosen","_law_groups_here","_law_cell","_law_book","_law_text_here","_law_other","_law_base","_law_most","_law_found","_law_told_here","_law_signs_here","_law_live","_law_number","_law_at","_law_to","_law_level","_law_closing","_law_changed","_law_again"] ["_law_script"] (Bs Vj):=by walk_at "k"
structure Adr where
 f_qbp:Addr
 d_qbp:FuncData
 f_qbw:Addr
 d_qbw:FuncData
 f_qbm:Addr
 d_qbm:FuncData
 f_qp:Addr
 d_qp:FuncData
 f_qbo:Addr
 d_qbo:FuncData
 f_qbq:Addr
 d_qbq:FuncData
 f_qz:Addr
 d_qz:FuncData
 f_qe:Addr
 d_qe:FuncData
 f_qf:Addr
 d_qf:FuncData
 f_qa:Addr
 d_qa:FuncData
 f_qca:Addr
 d_qca:FuncData
 f_qbt:Addr
 d_qbt:FuncData
 f_qh:Addr
 d_qh:FuncData
 f_qw:Addr
 d_qw:FuncData
 f_qy:Addr
 d_qy:FuncData
 f_qbd:Addr
 d_qbd:FuncData
 f_qbi:Addr
 d_qbi:FuncData
 f_qx:Addr
 d_qx:FuncData
 f_qv:Addr
 d_qv:FuncData
 f_qg:Addr
 d_qg:FuncData
 f_qbc:Addr
 d_qbc:FuncData
 f_qt:Addr
 d_qt:FuncData
 f_qbe:Addr
 d_qbe:FuncData
 f_qbv:Addr
 d_qbv:FuncData
 f_qbf:Addr
 d_qbf:FuncData
 f_qbs:Addr
 d_qbs:FuncData
 f_qc:Addr
 d_qc:FuncData
 f_qbu:Addr
 d_qbu:FuncData
 f_qby:Addr
 d_qby:FuncData
 f_qo:Addr
 d_qo:FuncData
 f_qk:Addr
 d_qk:FuncData
 f_qbx:Addr
 d_qbx:FuncData
 D_nests_of:Addr
 v_nests_of_0:Value
 f_ql:Addr
 d_ql:FuncData
 f_qi:Addr
 d_qi:FuncData
 f_qbg:Addr
 d_qbg:FuncData
 f_qbz:Addr
 d_qbz:FuncData
 f_qbj:Addr
 d_qbj:FuncData
 f_qr:Addr
 d_qr:FuncData
 f_qq:Addr
 d_qq:FuncData
 f_qb:Addr
 d_qb:FuncData
 f_qs:Addr
 d_qs:FuncData
 f_qm:Addr
 d_qm:FuncData
 f_qj:Addr
 d_qj:FuncData
 f_qd:Addr
 d_qd:FuncData
 f_qbr:Addr
 d_qbr:FuncData
 D_levels_of:Addr
 v_levels_of_0:Value
 v_levels_of_1:Value
 f_qbb:Addr
 d_qbb:FuncData
 f_qba:Addr
 d_qba:FuncData
 f_qbl:Addr
 d_qbl:FuncData
 f_qbk:Addr
 d_qbk:FuncData
 f_qcc:Addr
 d_qcc:FuncData
 C_Book:Addr
 a_BEGINNINGS:Addr
 a_JOINED_KINDS:Addr
 a_LEADING_KINDS:Addr
 a_TOLD_KINDS:Addr
structure Txt(K:Frag)(mg:Str->Option Value)(t:Adr):Prop where
 F_qbp:Fun K "_law_signs" "_law_signs" AcZ t.f_qbp t.d_qbp
 m_qbp:mg "_law_signs"=some (.ref t.f_qbp)
 F_qbw:Fun K "_law_told" "_law_told" AcI t.f_qbw t.d_qbw
 m_qbw:mg "_law_told"=some (.ref t.f_qbw)
 F_qbm:Fun K "_law_joins" "_law_joins" AbM t.f_qbm t.d_qbm
 m_qbm:mg "_law_joins"=some (.ref t.f_qbm)
 F_qp:Fun K "_law_cell_at" "_law_cell_at" Af3 t.f_qp t.d_qp
 m_qp:mg "_law_cell_at"=some (.ref t.f_qp)
 F_qbo:Fun K "_law_lists" "_law_lists" AcQ t.f_qbo t.d_qbo
 m_qbo:mg "_law_lists"=some (.ref t.f_qbo)
 F_qbq:Fun K "_law_words" "_law_words" Acw t.f_qbq t.d_qbq
 m_qbq:mg "_law_words"=some (.ref t.f_qbq)
 F_qz:Fun K "_law_groups" "_law_groups" Agl t.f_qz t.d_qz
 m_qz:mg "_law_groups"=some (.ref t.f_qz)
 F_qe:Fun K "refuse_unless" "refuse_unless" AfF t.f_qe t.d_qe
 m_qe:mg "refuse_unless"=some (.ref t.f_qe)
 F_qf:Fun K "check_tuples" "check_tuples" Af6 t.f_qf t.d_qf
 m_qf:mg "check_tuples"=some (.ref t.f_qf)
 F_qa:Fun K "is_whole_number" "is_whole_number" AgO t.f_qa t.d_qa
 m_qa:mg "is_whole_number"=some (.ref t.f_qa)
 F_qca:Fun K "is_sign" "is_sign" AbV t.f_qca t.d_qca
 m_qca:mg "is_sign"=some (.ref t.f_qca)
 F_qbt:Fun K "add_kind" "add_kind" Ab3 t.f_qbt t.d_qbt
 m_qbt:mg "add_kind"=some (.ref t.f_qbt)
 F_qh:Fun K "is_told_kind" "is_told_kind" AgE t.f_qh t.d_qh
 m_qh:mg "is_told_kind"=some (.ref t.f_qh)
 F_qw:Fun K "is_rank_of" "is_rank_of" AfH t.f_qw t.d_qw
 m_qw:mg "is_rank_of"=some (.ref t.f_qw)
 F_qy:Fun K "kinds_told" "kinds_told" Af0 t.f_qy t.d_qy
 m_qy:mg "kinds_told"=some (.ref t.f_qy)
 F_qbd:Fun K "ranks_told" "ranks_told" Acz t.f_qbd t.d_qbd
 m_qbd:mg "ranks_told"=some (.ref t.f_qbd)
 F_qbi:Fun K "both_ways" "both_ways" AbZ t.f_qbi t.d_qbi
 m_qbi:mg "both_ways"=some (.ref t.f_qbi)
 F_qx:Fun K "kind_among" "kind_among" AgK t.f_qx t.d_qx
 m_qx:mg "kind_among"=some (.ref t.f_qx)
 F_qv:Fun K "check_join" "check_join" AgH t.f_qv t.d_qv
 m_qv:mg "check_join"=some (.ref t.f_qv)
 F_qg:Fun K "ends_in_time" "ends_in_time" AfI t.f_qg t.d_qg
 m_qg:mg "ends_in_time"=some (.ref t.f_qg)
 F_qbc:Fun K "pairs_told" "pairs_told" AcF t.f_qbc t.d_qbc
 m_qbc:mg "pairs_told"=some (.ref t.f_qbc)
 F_qt:Fun K "wholes_told" "wholes_told" Afl t.f_qt t.d_qt
 m_qt:mg "wholes_told"=some (.ref t.f_qt)
 F_qbe:Fun K "__init__" "Book.__init__" Yw t.f_qbe t.d_qbe
 F_qbv:Fun K "_law_text" "_law_text" AcJ t.f_qbv t.d_qbv
 m_qbv:mg "_law_text"=some (.ref t.f_qbv)
 F_qbf:Fun K "kind" "Book.kind" Yk t.f_qbf t.d_qbf
 M_qbf:AbR K t.C_Book "kind" t.f_qbf
 F_qbs:Fun K "wholes_of" "wholes_of" AbO t.f_qbs t.d_qbs
 m_qbs:mg "wholes_of"=some (.ref t.f_qbs)
 F_qc:Fun K "kind_of_whole" "kind_of_whole" AgI t.f_qc t.d_qc
 m_qc:mg "kind_of_whole"=some (.ref t.f_qc)
 F_qbu:Fun K "kinds_of" "kinds_of" AcL t.f_qbu t.d_qbu
 m_qbu:mg "kinds_of"=some (.ref t.f_qbu)
 F_qby:Fun K "own_base" "own_base" AbU t.f_qby t.d_qby
 m_qby:mg "own_base"=some (.ref t.f_qby)
 F_qo:Fun K "base_or_own" "base_or_own" AfQ t.f_qo t.d_qo
 m_qo:mg "base_or_own"=some (.ref t.f_qo)
 F_qk:Fun K "level_within" "level_within" Af4 t.f_qk t.d_qk
 m_qk:mg "level_within"=some (.ref t.f_qk)
 F_qbx:FunD K "nests_of" "nests_of" Yu t.f_qbx t.d_qbx t.D_nests_of [t.v_nests_of_0]
 w_nests_of_0:Vals [.int 20] [t.v_nests_of_0]
 m_qbx:mg "nests_of"=some (.ref t.f_qbx)
 F_ql:Fun K "stretch_rows" "stretch_rows" Afu t.f_ql t.d_ql
 m_ql:mg "stretch_rows"=some (.ref t.f_ql)
 F_qi:Fun K "leading_ways" "leading_ways" AfN t.f_qi t.d_qi
 m_qi:mg "leading_ways"=some (.ref t.f_qi)
 F_qbg:Fun K "mate" "Book.mate" Yn t.f_qbg t.d_qbg
 M_qbg:AbR K t.C_Book "mate" t.f_qbg
 F_qbz:Fun K "pairs_in" "pairs_in" Acd t.f_qbz t.d_qbz
 m_qbz:mg "pairs_in"=some (.ref t.f_qbz)
 F_qbj:Fun K "last_ways" "last_ways" Ab9 t.f_qbj t.d_qbj
 m_qbj:mg "last_ways"=some (.ref t.f_qbj)
 F_qr:Fun K "ways_filled" "ways_filled" AgN t.f_qr t.d_qr
 m_qr:mg "ways_filled"=some (.ref t.f_qr)
 F_qq:Fun K "way_of_pair" "way_of_pair" AfA t.f_qq t.d_qq
 m_qq:mg "way_of_pair"=some (.ref t.f_qq)
 F_qb:Fun K "ways_with_pairs" "ways_with_pairs" Agg t.f_qb t.d_qb
 m_qb:mg "ways_with_pairs"=some (.ref t.f_qb)
 F_qs:Fun K "ways_in_row" "ways_in_row" AfM t.f_qs t.d_qs
 m_qs:mg "ways_in_row"=some (.ref t.f_qs)
 F_qm:Fun K "way_of_level" "way_of_level" AfR t.f_qm t.d_qm
 m_qm:mg "way_of_level"=some (.ref t.f_qm)
 F_qj:Fun K "level_by_way" "level_by_way" Agw t.f_qj t.d_qj
 m_qj:mg "level_by_way"=some (.ref t.f_qj)
 F_qd:Fun K "levels_in_row" "levels_in_row" Afi t.f_qd t.d_qd
 m_qd:mg "levels_in_row"=some (.ref t.f_qd)
 F_qbr:FunD K "levels_of" "levels_of" Yh t.f_qbr t.d_qbr t.D_levels_of [t.v_levels_of_0,t.v_levels_of_1]
 w_levels_of_0:Vals [.non] [t.v_levels_of_0]
 w_levels_of_1:Vals [.int 20] [t.v_levels_of_1]
 m_qbr:mg "levels_of"=some (.ref t.f_qbr)
 F_qbb:Fun K "_law_wholes" "_law_wholes" Acg t.f_qbb t.d_qbb
 m_qbb:mg "_law_wholes"=some (.ref t.f_qbb)
 F_qba:Fun K "_law_inside" "_law_inside" AbQ t.f_qba t.d_qba
 m_qba:mg "_law_inside"=some (.ref t.f_qba)
 F_qbl:Fun K "_law_ended" "_law_ended" Ack t.f_qbl t.d_qbl
 m_qbl:mg "_law_ended"=some (.ref t.f_qbl)
 F_qbk:Fun K "_law_alone" "_law_alone" AcK t.f_qbk t.d_qbk
 m_qbk:mg "_law_alone"=some (.ref t.f_qbk)
 F_qcc:Fun K "law" "law" Vj t.f_qcc t.d_qcc
 m_qcc:mg "law"=some (.ref t.f_qcc)
 m_Book:mg "Book"=some (.ref t.C_Book)
 cl_Book:Cls K t.C_Book
 K_Book:Mk K t.C_Book t.f_qbe
 n_Book_kinds:NoAttr K t.C_Book "kinds"
 n_Book_ranks:NoAttr K t.C_Book "ranks"
 n_Book_mates:NoAttr K t.C_Book "mates"
 n_Book_pairs:NoAttr K t.C_Book "pairs"
 n_Book_wholes:NoAttr K t.C_Book "wholes"
 z_bool:mg "bool"=none
 z_enumerate:mg "enumerate"=none
 z_int:mg "int"=none
 z_isinstance:mg "isinstance"=none
 z_len:mg "len"=none
 z_list:mg "list"=none
 z_max:mg "max"=none
 z_min:mg "min"=none
 z_range:mg "range"=none
 z_reversed:mg "reversed"=none
 z_str:mg "str"=none
 z_tuple:mg "tuple"=none
 z_zip:mg "zip"=none
 g_BEGINNINGS:mg "BEGINNINGS"=some (.ref t.a_BEGINNINGS)
 q_BEGINNINGS:∀H,SqT K H t.a_BEGINNINGS [.str "forein",.str "backin"]
 g_JOINED_KINDS:mg "JOINED_KINDS"=some (.ref t.a_JOINED_KINDS)
 q_JOINED_KINDS:∀H,SqT K H t.a_JOINED_KINDS [.str "fore",.str "back",.str "num",.str "blank",.str "plain"]
 g_LEADING_KINDS:mg "LEADING_KINDS"=some (.ref t.a_LEADING_KINDS)
 q_LEADING_KINDS:∀H,SqT K H t.a_LEADING_KINDS [.str "fore",.str "back",.str "num"]
 g_MOST_GOINGS:∃u,mg "MOST_GOINGS"=some u/\RelV (.int 7) u
 g_TOLD_KINDS:mg "TOLD_KINDS"=some (.ref t.a_TOLD_KINDS)
 q_TOLD_KINDS:∀H,SqT K H t.a_TOLD_KINDS [.str "fore",.str "back",.str "num",.str "blank",.str "mark",.str "forein",.str "backin",.str "out"]
abbrev Sg:=Int×Str×Int
def toldK:List Str:=["fore","back","num","blank","mark","forein","backin","out"]
def Nr(k:Str)(r:Int):Prop:=(k="mark"/\1<=r)\/(¬k="mark"/\r=0)
def TripAt(H:Hp)(x:V)(s:Sg):Prop:=∃p,x=.ref p/\H p=some (.tup [.int s.1,.str s.2.1,.int s.2.2])
def PairAt(H:Hp)(x:V)(m:Int×Int):Prop:=∃p,x=.ref p/\H p=some (.tup [.int m.1,.int m.2])
def LAt{β α:Type}(R:Hp->β->α->Prop)(H:Hp)(xs:List β)(ys:List α):Prop:=xs.length=ys.length/\∀(i:Nat) (x:β) (y:α),xs[i]? = some x->ys[i]? = some y->R H x y
theorem LAt.get{β α:Type}{R:Hp->β->α->Prop}{H:Hp}{xs:List β}{ys:List α}(h:LAt R H xs ys){i:Nat}{x:β}(e:xs[i]? = some x):∃y,ys[i]? = some y/\R H x y:=by
 have hi:i<xs.length:=(List.getElem?_eq_some_iff.mp e).1
 have hy:i<ys.length:=by rw[<- h.1];exact hi
 exact⟨ys[i],getElem?_eq_getElem hy,h.2 i x _ e (getElem?_eq_getElem hy)⟩
theorem LAt.mono{β α:Type}{R R':Hp->β->α->Prop}{H H':Hp}{xs:List β}{ys:List α}(h:LAt R H xs ys)(m:∀x y,R H x y->R' H' x y):LAt R' H' xs ys:=⟨h.1,λi x y e1 e2=>m x y (h.2 i x y e1 e2)⟩
theorem LAt.snoc{β α:Type}{R:Hp->β->α->Prop}{H:Hp}{xs:List β}{ys:List α}{x:β}{y:α}(h:LAt R H xs ys)(r:R H x y):LAt R H (xs++[x]) (ys++[y]):=by
 refine⟨by simp [h.1],λi u v e1 e2=>?_⟩
 by_cases hi:i<xs.length
 ·rw[getElem?_append_left hi] at e1
  rw[getElem?_append_left (by rw[<- h.1];exact hi)] at e2
  exact h.2 i u v e1 e2
 ·rw[getElem?_append_right (by omega)] at e1
  rw[getElem?_append_right (by rw[<- h.1];omega),<- h.1] at e2
  have hz:i - xs.length=0:=by
   have:=(List.getElem?_eq_some_iff.mp e1).1
   simp at this;omega
  rw[hz] at e1 e2
  simp at e1 e2
  rw[<- e1,<- e2];exact r
theorem LAt.nil{β α:Type}{R:Hp->β->α->Prop}{H:Hp}:LAt R H ([]:List β) ([]:List α):=⟨rfl,λi x y e=>by simp at e⟩
structure Yl(s:Sg):Prop where
 nn:0<=s.1
 kd:s.2.1∈toldK
 rk:Nr s.2.1 s.2.2
def kK(signs:List Sg):List (Key×V):=signs.map λs=>(.inl s.1,.str s.2.1)
def kR(signs:List Sg):List (Key×V):=signs.map λs=>(.inl s.1,.int s.2.2)
def kM:List (Int×Int)->List (Key×V)
 | []=>[]
 | m::r=>(.inl m.1,.str "open")::(.inl m.2,.str "shut")::kM r
def kB:List (Int×Int)->List (Key×V)
 | []=>[]
 | m::r=>(.inl m.1,.int m.2)::(.inl m.2,.int m.1)::kB r
def Fx:List (Int×Int)->List Int
 | []=>[]
 | m::r=>m.1::m.2::Fx r
theorem Tz(xs ys:List (Int×Int)):Fx (xs++ys)=Fx xs++Fx ys:=by
 induction xs with
 | nil=>rfl
 | cons x r ih=>simp [Fx,ih]
theorem Qj(xs ys:List (Int×Int)):kM (xs++ys)=kM xs++kM ys:=by
 induction xs with
 | nil=>rfl
 | cons x r ih=>simp [kM,ih]
theorem Xj(xs ys:List (Int×Int)):kB (xs++ys)=kB xs++kB ys:=by
 induction xs with
 | nil=>rfl
 | cons x r ih=>simp [kB,ih]
theorem Aba(xs:List (Int×Int)):(kM xs).map (·.1)=(Fx xs).map Sum.inl:=by
 induction xs with
 | nil=>rfl
 | cons x r ih=>simp [kM,Fx,ih]
theorem AjM(xs:List (Int×Int)):(kB xs).map (·.1)=(Fx xs).map Sum.inl:=by
 induction xs with
 | nil=>rfl
 | cons x r ih=>simp [kB,Fx,ih]
theorem Amm(xs:List (Int×Int)):(kM xs).length=2*xs.length:=by
 induction xs with
 | nil=>rfl
 | cons x r ih=>simp [kM,ih];omega
theorem AlK(xs:List (Int×Int)):(kB xs).length=2*xs.length:=by
 induction xs with
 | nil=>rfl
 | cons x r ih=>simp [kB,ih];omega
theorem Nk{kvs:List (Key×V)}{n:Int}(h:¬(Sum.inl n:Key)∈kvs.map (·.1)):Cs kvs (Sum.inl n)=none:=by
 cases e:Cs kvs (Sum.inl n:Key) with
 | none=>rfl
 | some v=>exact absurd (AbA e) h
theorem Um{kvs:List (Key×V)}(nd:(kvs.map (·.1)).Nodup){k:Key}{v:V}(h:(k,v)∈kvs):Cs kvs k=some v:=by
 induction kvs with
 | nil=>cases h
 | cons p r ih =>
  have nd':(p.1::r.map (·.1)).Nodup:=nd
  obtain⟨h1,h2⟩:=nodup_cons.mp nd'
  rcases mem_cons.mp h with e | e
  ·subst e;exact Ni rfl
  ·have:¬p.1=k:=λz=>h1 (by rw[z];exact mem_map.mpr ⟨_,e,rfl⟩)
   rw[Nf this];exact ih h2 e
theorem Ql{l:List Int}(h:l.Nodup):(l.map (Sum.inl:Int->Key)).Nodup:=by
 induction l with
 | nil=>exact nodup_nil
 | cons a r ih =>
  obtain⟨h1,h2⟩:=nodup_cons.mp h
  refine nodup_cons.mpr ⟨λm=>h1 ?_,ih h2⟩
  obtain⟨b,hb,e⟩:=mem_map.mp m
  cases e;exact hb
theorem inl_mem{l:List Int}{n:Int}:(Sum.inl n:Key)∈l.map (Sum.inl:Int->Key)↔n∈l:=by
 constructor
 ·intro m;obtain⟨b,hb,e⟩:=mem_map.mp m;cases e;exact hb
 ·intro m;exact mem_map.mpr ⟨n,m,rfl⟩
theorem Jh{n:Nat}(h:n<=1000):n<sizeLine:=Np h
theorem Dj{α:Type}{l:List α}{i:Nat}{x:α}(h:l[i]? = some x):l.take (i+1)=l.take i++[x]:=by
 obtain⟨hi,e⟩:=List.getElem?_eq_some_iff.mp h
 rw[List.take_add_one,getElem?_eq_getElem hi,e]
 rfl
theorem Same.new{d:Addr}{H:Hp}{o:HO}(h:H d=none):Same H (upd H d o):=λq u e=>by rw[Bj (Bz e h)];exact e
theorem TripAt.mono{H H':Hp}{x:V}{s:Sg}(h:TripAt H x s)(k:∀q xs,H q=some (.tup xs)->H' q=some (.tup xs)):TripAt H' x s:=by
 obtain⟨p,e,hp⟩:=h
 exact⟨p,e,k p _ hp⟩
theorem PairAt.mono{H H':Hp}{x:V}{s:Int×Int}(h:PairAt H x s)(k:∀q xs,H q=some (.tup xs)->H' q=some (.tup xs)):PairAt H' x s:=by
 obtain⟨p,e,hp⟩:=h
 exact⟨p,e,k p _ hp⟩
theorem Cm{CX:CXT}{P:Program}{w:World}{K:Frag}{mg:Str->Option Value}{base:Heap}{N:List Str}{qual:Str}{sc:Scope}{f:Addr}{cd:Value}{A:Around}{outer:List Env}{s:Shared}{H:Hp}{E:XK}:(Sq CX P w K mg base N qual sc f cd A outer s H E).K=K:=rfl
section
variable {σ:St}{H:Hp}{Q:VK}{K:Frag}{a d:Addr}{n:Int}
theorem Aco{A B:Prop}(h:B):if (!true)=true then A else B:=Lw h
theorem AcW{A B:Prop}(h:A):if (!false)=true then A else B:=Lo h
theorem Agq{P:Bool->Prop}(q:P true):∃x m t b,[V.int n,V.ty "int"]=[x,V.ty m]/\Gm K H x t/\kitOne K t (.type m)=some b/\P b:=⟨_,_,_,_,rfl,.int n,AaN,q⟩
theorem Aem{P:Bool->Prop}(q:P false):∃x m t b,[V.int n,V.ty "bool"]=[x,V.ty m]/\Gm K H x t/\kitOne K t (.type m)=some b/\P b:=⟨_,_,_,_,rfl,.int n,Aaf,q⟩
theorem AfJ{z:Str}{P:Bool->Prop}(q:P true):∃x m t b,[V.str z,V.ty "str"]=[x,V.ty m]/\Gm K H x t/\kitOne K t (.type m)=some b/\P b:=⟨_,_,_,_,rfl,.str z,AaO,q⟩
theorem Alv{xs:List V}(h:H a=some (.lst xs)){P:Bool->Prop}(q:P true):∃x m t b,[V.ref a,V.ty "list"]=[x,V.ty m]/\Gm K H x t/\kitOne K t (.type m)=some b/\P b:=⟨_,_,_,_,rfl,.lst h,Yb,q⟩
theorem AmU{xs:List V}(h:H a=some (.tup xs)){P:Bool->Prop}(q:P true):∃x m t b,[V.ref a,V.ty "tuple"]=[x,V.ty m]/\Gm K H x t/\kitOne K t (.type m)=some b/\P b:=⟨_,_,_,_,rfl,.tup h,AaQ,q⟩
theorem Aet{xs:List V}(h:SqL K H a xs){P:List V->Prop}(q:P xs):∃p ys,[V.ref a]=[V.ref p]/\(SqL K H p ys\/SqT K H p ys)/\P ys:=⟨a,xs,rfl,.inl h,q⟩
theorem AkN{xs:List V}(h:H a=some (.tup xs)){P:List V->Prop}(q:P xs):∃p ys,[V.ref a]=[V.ref p]/\(SqL K H p ys\/SqT K H p ys)/\P ys:=⟨a,xs,rfl,.inr (SqT.of h),q⟩
theorem An6{kvs:List (Key×V)}(h:H d=some (.dK kvs)){P:Option V->Prop}(q:P (Cs kvs (.inl n))):∃a o,V.ref d=V.ref a/\DGet H a (.int n) o/\P o:=⟨d,_,rfl,DGet.k (k:=Sum.inl n) h,q⟩
theorem Ada{kvs:List (Key×V)}{v:V}{R:Hp->Prop}(h:H d=some (.dK kvs))(q:R (upd H d (.dK (Jk kvs (.inl n) v))))(hl:kvs.length<sizeLine):∃a H4,V.ref d=V.ref a/\DPut H a (.int n) v H4/\R H4:=⟨d,_,rfl,DPut.k (k:=Sum.inl n) h hl,q⟩
theorem Am4{kvs:List (Key×V)}{P:Addr->Prop}(h:H d=some (.dK kvs))(q:P d):∃a,V.ref d=V.ref a/\IsD H a/\P a:=⟨d,rfl,.inl ⟨_,.inl h⟩,q⟩
theorem Aky{kvs:List (Key×V)}{P:Option V->Prop}(h:H d=some (.dK kvs))(q:P (Cs kvs (.inl n))):∃o,DGet H d (.int n) o/\P o:=⟨_,DGet.k (k:=Sum.inl n) h,q⟩
theorem AmZ{P:Prop}{xs:List V}(h:H a=some (.lst xs))(q:P):tyV K "list" (.ref a) H/\P:=⟨.inl ⟨rfl,_,SqL.of h⟩,q⟩
theorem Yf{xs:List V}{i:Int}{v:V}(h:SqL K H a xs)(q:Q v H)(hv:atI xs i=some v):Aaw K (.ref a) (.int i) H Q:=⟨a,xs,i,v,rfl,rfl,h,hv,q⟩
theorem Am6{xs:List V}{i:Int}{v:V}(h:H a=some (.tup xs))(q:Q v H)(hv:atI xs i=some v):Wh K (.ref a) (.int i) H Q:=⟨a,xs,i,v,rfl,rfl,SqT.of h,hv,q⟩
end
section
variable {S:List Sg}{M:List (Int×Int)}{s:Sg}{m:Int×Int}{n:Int}
theorem Ajh(s:List Sg):(kK s).map (·.1)=(s.map (·.1)).map Sum.inl:=by simp [kK]
theorem AbK:(kK S++kM M).map (·.1)=(S.map (·.1)++Fx M).map (Sum.inl:Int->Key):=by rw[map_append,Ajh,Aba,<- map_append]
theorem Yg(nd:(S.map (·.1)++Fx M).Nodup):((kK S++kM M).map (·.1)).Nodup:=by rw[AbK];exact Ql nd
theorem Ad5(h:m∈M):(Sum.inl m.1,V.str "open")∈kM M/\(Sum.inl m.2,V.str "shut")∈kM M:=by
 induction M with
 | nil=>cases h
 | cons x r ih =>
  rcases mem_cons.mp h with e | e
  ·subst e;exact⟨mem_cons_self,mem_cons_of_mem _ mem_cons_self⟩
  ·exact⟨mem_cons_of_mem _ (mem_cons_of_mem _ (ih e).1),mem_cons_of_mem _ (mem_cons_of_mem _ (ih e).2)⟩
theorem AiT(nd:(S.map (·.1)++Fx M).Nodup)(h:m∈M):(Cs (kK S++kM M) (Sum.inl m.1)).getD (.str "plain")=.str "open":=by
 rw[Um (Yg nd) (mem_append_right _ (Ad5 h).1)];rfl
theorem AiU(nd:(S.map (·.1)++Fx M).Nodup)(h:m∈M):(Cs (kK S++kM M) (Sum.inl m.2)).getD (.str "plain")=.str "shut":=by
 rw[Um (Yg nd) (mem_append_right _ (Ad5 h).2)];rfl
theorem Xg(nd:(S.map (·.1)++Fx M).Nodup)(h:s∈S):(Cs (kK S++kM M) (Sum.inl s.1)).getD (.str "plain")=.str s.2.1:=by
 rw[Um (v:=.str s.2.1) (Yg nd) (mem_append_left _ (mem_map.mpr ⟨s,h,rfl⟩))];rfl
theorem AeY(h:¬n∈S.map (·.1)++Fx M):(Cs (kK S++kM M) (Sum.inl n)).getD (.str "plain")=.str "plain":=by
 rw[Nk (by rw[AbK];exact λw=>h (inl_mem.mp w))];rfl
end
abbrev Jn:=Int×Int×Int
def joinedK:List Str:=["fore","back","num","blank","plain"]
def TrjAt(H:Hp)(x:V)(j:Jn):Prop:=∃p,x=.ref p/\H p=some (.tup [.int j.1,.int j.2.1,.int j.2.2])
def KvAt(H:Hp)(kv:Key×V)(j:Jn):Prop:=kv.1=Sum.inl j.1/\∃p,kv.2=.ref p/\H p=some (.tup [.int j.2.1,.int j.2.2])
theorem TrjAt.mono{H H':Hp}{x:V}{j:Jn}(h:TrjAt H x j)(k:∀q xs,H q=some (.tup xs)->H' q=some (.tup xs)):TrjAt H' x j:=by
 obtain⟨p,e,hp⟩:=h
 exact⟨p,e,k p _ hp⟩
theorem KvAt.mono{H H':Hp}{x:Key×V}{j:Jn}(h:KvAt H x j)(k:∀q xs,H q=some (.tup xs)->H' q=some (.tup xs)):KvAt H' x j:=by
 obtain⟨e1,p,e,hp⟩:=h
 exact⟨e1,p,e,k p _ hp⟩
theorem LAt.tripS{H H':Hp}{xs:List V}{S:List Sg}(h:LAt TripAt H xs S)(s:Same H H'):LAt TripAt H' xs S:=h.mono λ_ _ z=>z.mono λ_ _ e=>s _ _ e
theorem LAt.pairS{H H':Hp}{xs:List V}{S:List (Int×Int)}(h:LAt PairAt H xs S)(s:Same H H'):LAt PairAt H' xs S:=h.mono λ_ _ z=>z.mono λ_ _ e=>s _ _ e
theorem LAt.trjS{H H':Hp}{xs:List V}{S:List Jn}(h:LAt TrjAt H xs S)(s:Same H H'):LAt TrjAt H' xs S:=h.mono λ_ _ z=>z.mono λ_ _ e=>s _ _ e
theorem LAt.kvS{H H':Hp}{xs:List (Key×V)}{S:List Jn}(h:LAt KvAt H xs S)(s:Same H H'):LAt KvAt H' xs S:=h.mono λ_ _ z=>z.mono λ_ _ e=>s _ _ e
theorem LAt.take{β α:Type}{R:Hp->β->α->Prop}{H:Hp}{xs:List β}{ys:List α}(h:LAt R H xs ys)(n:Nat):LAt R H (xs.take n) (ys.take n) :=
 ⟨by rw[length_take,length_take,h.1],λi x y e1 e2=>by
  rw[getElem?_take] at e1 e2
  split at e1
  ·rename_i hi
   rw[if_pos hi] at e2
   exact h.2 i x y e1 e2
  ·cases e1⟩
theorem LAt.drop{β α:Type}{R:Hp->β->α->Prop}{H:Hp}{xs:List β}{ys:List α}(h:LAt R H xs ys)(n:Nat):LAt R H (xs.drop n) (ys.drop n) :=
 ⟨by rw[length_drop,length_drop,h.1],λi x y e1 e2=>by
  rw[List.getElem?_drop] at e1 e2
  exact h.2 _ x y e1 e2⟩
theorem LAt.append{β α:Type}{R:Hp->β->α->Prop}{H:Hp}{xs xs':List β}{ys ys':List α}(h:LAt R H xs ys)(h':LAt R H xs' ys'):LAt R H (xs++xs') (ys++ys') :=
 ⟨by rw[length_append,length_append,h.1,h'.1],λi x y e1 e2=>by
  by_cases hi:i<xs.length
  ·rw[getElem?_append_left hi] at e1
   rw[getElem?_append_left (by rw[<- h.1];exact hi)] at e2
   exact h.2 i x y e1 e2
  ·rw[getElem?_append_right (by omega)] at e1
   rw[getElem?_append_right (by rw[<- h.1];omega),<- h.1] at e2
   exact h'.2 _ x y e1 e2⟩
theorem Lu{α:Type}:∀{l:List α},(∀(i j:Nat) (x:α),l[i]? = some x->l[j]? = some x->i=j)->l.Nodup
 | [],_=>nodup_nil
 | a::r,h=>nodup_cons.mpr ⟨λm=>by
   obtain⟨j,hj⟩:=getElem?_of_mem m
   have:=h 0 (j+1) a rfl (by simpa using hj)
   omega,Lu λi j x h1 h2=>by
   have:=h (i+1) (j+1) x (by simpa using h1) (by simpa using h2)
   omega⟩
theorem LAt.uncons{β α:Type}{R:Hp->β->α->Prop}{H:Hp}{x:β}{xs:List β}{y:α}{ys:List α}(h:LAt R H (x::xs) (y::ys)):R H x y/\LAt R H xs ys :=
 ⟨h.2 0 x y rfl rfl,by simpa using h.1,λi u v e1 e2=>h.2 (i+1) u v e1 e2⟩
def Fp:List Jn->Int->Option (Int×Int)
 | [],_=>none
 | j::r,n=>if j.1=n then some j.2 else Fp r n
def Fs(J:List Jn)(n:Int):Int:=match Fp J n with | some m=>m.1 | none=>n
def jGo(J:List Jn):Nat->Int->Int
 | 0,n=>n
 | k+1,n=>Fs J (jGo J k n)
theorem Vf{J:List Jn}{n:Int}{m:Int×Int}(h:Fp J n=some m):(n,m)∈J:=by
 induction J with
 | nil=>cases h
 | cons x r ih =>
  unfold Fp at h
  split at h
  ·rename_i e
   cases h
   rw[<- e];exact mem_cons_self
  ·exact mem_cons_of_mem _ (ih h)
theorem Aaz{H:Hp}{kvs:List (Key×V)}{J:List Jn}(h:LAt KvAt H kvs J)(n:Int) :
  (Fp J n=none/\Cs kvs (Sum.inl n)=none)\/∃m p,Fp J n=some m/\Cs kvs (Sum.inl n)=some (.ref p)/\H p=some (.tup [.int m.1,.int m.2]):=by
 induction kvs generalizing J with
 | nil =>
  cases J with
  | nil=>exact .inl ⟨rfl,rfl⟩
  | cons j r=>have:=h.1;simp at this
 | cons kv ks ih =>
  cases J with
  | nil=>have:=h.1;simp at this
  | cons j r =>
   obtain⟨⟨h1,p,e,hp⟩,h3⟩:=h.uncons
   unfold Fp
   by_cases z:j.1=n
   ·rw[if_pos z]
    exact .inr ⟨j.2,p,rfl,by rw[Ni (by rw[h1,z]),e],hp⟩
   ·rw[if_neg z,Nf (by rw[h1];intro w;exact z (Sum.inl.inj w))]
    exact ih h3
def kW(J:List Jn):List (List Key×V):=J.map λj=>([Sum.inl j.2.1,Sum.inl j.2.2],V.int j.1)
theorem Anb{J:List Jn}{a b:Int}(h:¬(a,b)∈J.map (·.2)):Cs (kW J) [Sum.inl a,Sum.inl b]=none:=by
 cases e:Cs (kW J) ([Sum.inl a,Sum.inl b]:List Key) with
 | none=>rfl
 | some v =>
  have:=AbA e
  unfold kW at this
  rw[map_map] at this
  obtain⟨j,hj,z⟩:=mem_map.mp this
  have z':([Sum.inl j.2.1,Sum.inl j.2.2]:List Key)=[Sum.inl a,Sum.inl b]:=z
  injection z' with z1 z2
  injection z2 with z3 z4
  exact absurd (mem_map.mpr ⟨j,hj,Prod.ext (Sum.inl.inj z1) (Sum.inl.inj z3)⟩) h
def knd(kk:List (Key×V))(n:Int):V:=(Cs kk (Sum.inl n)).getD (.str "plain")
structure Ab7(kk:List (Key×V))(J:List Jn):Prop where
 nn:∀j∈J,0<=j.1/\0<=j.2.1/\0<=j.2.2
 mr:∀j∈J,knd kk j.2.2=.str "mark"
 kd:∀j∈J,∃k∈joinedK,knd kk j.1=.str k/\knd kk j.2.1=.str k
 nw:(J.map (·.1)).Nodup
 np:(J.map (·.2)).Nodup
 en:∀j∈J,Fp J (jGo J 7 j.1)=none
 ln:J.length<=400
theorem Ak5{c A B:Prop} [Decidable c] (hc:c) (h:A):if decide c=true then A else B:=by
 rw[if_pos (decide_eq_true hc)];exact h
theorem Afk{H:Hp}{a:Addr}{u o:HO}(h:H a=some u):upd (upd H a o) a u=H:=by
 rw[Gw];funext b;unfold upd;split
 ·rename_i e;rw[e,h]
 ·rfl
theorem AjR{H:Hp}{a:Addr}{u:HO}{o:Obj}:Rd (upd H a (.frz o u)) a u:=.inr ⟨o,Bn⟩
theorem Ry{α:Type}{l:List α}{i:Nat}{x:α}(nd:l.Nodup)(h:l[i]? = some x):¬x∈l.take i:=by
 obtain⟨hi,e⟩:=List.getElem?_eq_some_iff.mp h
 rw[<- take_append_drop i l,drop_eq_getElem_cons hi,e] at nd
 intro m
 exact (nodup_append.mp nd).2.2 _ m _ mem_cons_self rfl
theorem Ox{α β:Type}{l:List α}{f:α->β}{i:Nat}{x:α}(nd:(l.map f).Nodup)(h:l[i]? = some x):¬f x∈(l.take i).map f:=by
 rw[map_take]
 exact Ry nd (by rw[getElem?_map,h];rfl)
def bkF(dk dr dm dp dw:Addr):List (Str×V):=Cc "wholes" (.ref dw) (Cc "pairs" (.ref dp) (Cc "mates" (.ref dm) (Cc "ranks" (.ref dr) (Cc "kinds" (.ref dk) []))))
theorem AeB{dk dr dm dp dw:Addr}:(bkF dk dr dm dp dw).lookup ("kinds" : Str)=some (.ref dk):=by
 unfold bkF
 rw[Cz,if_neg (by decide +kernel),Cz,if_neg (by decide +kernel),Cz,if_neg (by decide +kernel),Cz,if_neg (by decide +kernel),Cz,if_pos rfl]
theorem Afc{dk dr dm dp dw:Addr}:(bkF dk dr dm dp dw).lookup ("mates" : Str)=some (.ref dm):=by
 unfold bkF
 rw[Cz,if_neg (by decide +kernel),Cz,if_neg (by decide +kernel),Cz,if_pos rfl]
theorem Adv{dk dr dm dp dw:Addr}{m:Str}(h1:¬m="wholes")(h2:¬m="pairs")(h3:¬m="mates")(h4:¬m="ranks")(h5:¬m="kinds"):(bkF dk dr dm dp dw).lookup m=none:=by
 unfold bkF
 rw[Cz,if_neg h1,Cz,if_neg h2,Cz,if_neg h3,Cz,if_neg h4,Cz,if_neg h5]
 rfl
theorem Zz{dk dr dm dp dw:Addr}:(bkF dk dr dm dp dw).lookup ("kind" : Str)=none:=Adv (by decide +kernel) (by decide +kernel) (by decide +kernel) (by decide +kernel) (by decide +kernel)
theorem Aaq{dk dr dm dp dw:Addr}:(bkF dk dr dm dp dw).lookup ("mate" : Str)=none:=Adv (by decide +kernel) (by decide +kernel) (by decide +kernel) (by decide +kernel) (by decide +kernel)
def BookAt(C:Addr)(H:Hp)(b:Addr)(k r m p:List (Key×V))(w:List (List Key×V)):Prop :=
 ∃dx dk dr dm dp dw,H b=some (.ins C dx (bkF dk dr dm dp dw))/\H dk=some (.dK k)/\H dr=some (.dK r)/\H dm=some (.dK m)/\H dp=some (.dK p)/\H dw=some (.dT w)
theorem BookAt.mono{C:Addr}{H H':Hp}{b:Addr}{k r m p:List (Key×V)}{w:List (List Key×V)}(h:BookAt C H b k r m p w)(s:∀q o,H q=some o->(∀xs,o≠.lst xs)->H' q=some o):BookAt C H' b k r m p w:=by
 obtain⟨dx,dk,dr,dm,dp,dw,h1,h2,h3,h4,h5,h6⟩:=h
 exact⟨dx,dk,dr,dm,dp,dw,s _ _ h1 (λ_ z=>nomatch z),s _ _ h2 (λ_ z=>nomatch z),s _ _ h3 (λ_ z=>nomatch z),s _ _ h4 (λ_ z=>nomatch z),s _ _ h5 (λ_ z=>nomatch z),s _ _ h6 (λ_ z=>nomatch z)⟩
theorem Zq{C b:Addr}{H:Hp}{k r m p:List (Key×V)}{w:List (List Key×V)}{nm:Str}{P:Prop}(h:BookAt C H b k r m p w)(hm:∀{dk dr dm dp dw:Addr},(bkF dk dr dm dp dw).lookup nm=none)(q:P) :
  ∃a dx fs,V.ref b=V.ref a/\H a=some (.ins C dx fs)/\fs.lookup nm=none/\P:=by
 obtain⟨dx,dk,dr,dm,dp,dw,h1,_⟩:=h
 exact⟨b,dx,_,rfl,h1,hm,q⟩
def Keep(p:Addr)(H H':Hp):Prop:=∀q o,H q=some o->q≠p->H' q=some o
theorem Keep.trans{p:Addr}{H H1 H2:Hp}(a:Keep p H H1)(b:Keep p H1 H2):Keep p H H2:=λq o h n=>b q o (a q o h n) n
theorem Keep.new{p d:Addr}{H:Hp}{o:HO}(h:H d=none):Keep p H (upd H d o):=λq u e _=>by rw[Bj (Bz e h)];exact e
theorem Keep.put{p:Addr}{H:Hp}{o:HO}:Keep p H (upd H p o):=λq u e n=>by rw[Bj n];exact e
theorem Keep.free{p:Addr}{H H':Hp}{o:HO}(k:Keep p H H')(hp:H' p=some o){d:Addr}(h:H' d=none):H d=none:=by
 cases e:H d with
 | none=>rfl
 | some u =>
  by_cases z:d=p
  ·subst z;rw[hp] at h;cases h
  ·rw[k _ _ e z] at h;cases h
def Abt(C:Addr):Sp:=λvs H Q _=>∃p dx a b cc xs ys zs signs mates J,vs=[.ref p,.ref a,.ref b,.ref cc]/\H p=some (.ins C dx [])/\H a=some (.lst xs)/\H b=some (.lst ys)/\H cc=some (.lst zs)/\LAt TripAt H xs signs/\LAt PairAt H ys mates/\LAt TrjAt H zs J /\
 (∀s∈signs,Yl s)/\(∀m∈mates,0<=m.1/\0<=m.2)/\(signs.map (·.1)++Fx mates).Nodup/\Ab7 (kK signs++kM mates) J/\signs.length+2*mates.length<=400 /\
 ∀H' kvs dx dk dr dm dp dw,Keep p H H'->H dk=none->H dr=none->H dm=none->H dp=none->H dw=none->H' p=some (.ins C dx (bkF dk dr dm dp dw))->H' dk=some (.dK (kK signs++kM mates))->H' dr=some (.dK (kR signs))->H' dm=some (.dK (kB mates))->H' dp=some (.dK kvs)->H' dw=some (.dT (kW J))->LAt KvAt H' kvs J->Q .non H'
def Wt(C:Addr):Sp:=λvs H Q _=>∃b n k r m p w,vs=[.ref b,.int n]/\BookAt C H b k r m p w/\Q ((Cs k (Sum.inl n)).getD (.str "plain")) H
theorem AeP{C b:Addr}{n:Int}{k r m p:List (Key×V)}{w:List (List Key×V)}{H:Hp}{Q:VK}{E:XK}(h:BookAt C H b k r m p w)(q:Q ((Cs k (Sum.inl n)).getD (.str "plain")) H):Wt C [.ref b,.int n] H Q E:=⟨b,n,k,r,m,p,w,rfl,h,q⟩
def AbE(C:Addr):Sp:=λvs H Q _=>∃b n k r m p w,vs=[.ref b,.int n]/\BookAt C H b k r m p w/\Q ((Cs m (Sum.inl n)).getD .non) H
inductive PV where
 | non | bl (b:Bool) | int (i:Int) | str (x:Str)
 | lst (xs:List PV) | tup (xs:List PV) | ctp (xs:List PV)
 | dk (kvs:List (Key×PV)) | dt (kvs:List (List Key×PV))
 | bk (S:List Sg) (M:List (Int×Int)) (J:List Jn)
 | scr (ns:List Int)
 | exc (c:Addr) | cls (c:Addr) | ty (n:String)
inductive Rep(K:Frag)(C:Addr)(G:Hp):V->PV->Prop where
 | non:Rep K C G .non .non
 | bl (b:Bool):Rep K C G (.bl b) (.bl b)
 | int (i:Int):Rep K C G (.int i) (.int i)
 | str (x:Str):Rep K C G (.str x) (.str x)
 | lst {a:Addr} {vs:List V} {ps:List PV} (e:G a=some (.lst vs)) (l:vs.length=ps.length) (h:∀(i:Nat) (v:V) (p:PV),vs[i]? = some v->ps[i]? = some p->Rep K C G v p):Rep K C G (.ref a) (.lst ps)
 | tup {a:Addr} {vs:List V} {ps:List PV} (e:G a=some (.tup vs)) (l:vs.length=ps.length) (h:∀(i:Nat) (v:V) (p:PV),vs[i]? = some v->ps[i]? = some p->Rep K C G v p):Rep K C G (.ref a) (.tup ps)
 | ctp {a:Addr} {vs:List V} {ps:List PV} (e:∀H,SqT K H a vs) (l:vs.length=ps.length) (h:∀(i:Nat) (v:V) (p:PV),vs[i]? = some v->ps[i]? = some p->Rep K C G v p):Rep K C G (.ref a) (.ctp ps)
 | dk {a:Addr} {kvs:List (Key×V)} {ps:List (Key×PV)} (e:G a=some (.dK kvs)) (l:kvs.length=ps.length) (hk:∀(i:Nat) (v:Key×V) (p:Key×PV),kvs[i]? = some v->ps[i]? = some p->v.1=p.1)
   (h:∀(i:Nat) (v:Key×V) (p:Key×PV),kvs[i]? = some v->ps[i]? = some p->Rep K C G v.2 p.2):Rep K C G (.ref a) (.dk ps)
 | dt {a:Addr} {kvs:List (List Key×V)} {ps:List (List Key×PV)} (e:G a=some (.dT kvs)) (l:kvs.length=ps.length) (hk:∀(i:Nat) (v:List Key×V) (p:List Key×PV),kvs[i]? = some v->ps[i]? = some p->v.1=p.1)
   (h:∀(i:Nat) (v:List Key×V) (p:List Key×PV),kvs[i]? = some v->ps[i]? = some p->Rep K C G v.2 p.2):Rep K C G (.ref a) (.dt ps)
 | bk {b:Addr} {S:List Sg} {M:List (Int×Int)} {J:List Jn} {kvs:List (Key×V)} (h:BookAt C G b (kK S++kM M) (kR S) (kB M) kvs (kW J)) (l:LAt KvAt G kvs J):Rep K C G (.ref b) (.bk S M J)
 | scr {a:Addr} {ns:List Int} (h:SqL K G a (ns.map V.int)):Rep K C G (.ref a) (.scr ns)
 | exc {a c:Addr} (e:G a=some (.ext (AoP a c))):Rep K C G (.ref a) (.exc c)
 | cls {c:Addr}:Rep K C G (.ref c) (.cls c)
 | ty {n:String}:Rep K C G (.ty n) (.ty n)
section
variable {K:Frag}{C:Addr}{ω:Om}{G G' H H':Hp}{v:V}{p:PV}{a:Addr}
theorem Rep.mono(h:Rep K C G v p)(s:Same G G'):Rep K C G' v p:=by
 induction h with
 | non=>exact .non
 | bl b=>exact .bl b
 | int i=>exact .int i
 | str x=>exact .str x
 | lst e l _ ih=>exact .lst (s _ _ e) l ih
 | tup e l _ ih=>exact .tup (s _ _ e) l ih
 | ctp e l _ ih=>exact .ctp e l ih
 | dk e l hk _ ih=>exact .dk (s _ _ e) l hk ih
 | dt e l hk _ ih=>exact .dt (s _ _ e) l hk ih
 | bk h l=>exact .bk (h.mono λ_ _ e _=>s _ _ e) (l.kvS s)
 | scr h=>exact .scr (s.seq h)
 | exc e=>exact .exc (s _ _ e)
 | cls=>exact .cls
 | ty=>exact .ty
def KRep{κ:Type}(K:Frag)(C:Addr)(G:Hp)(v:κ×V)(p:κ×PV):Prop:=v.1=p.1/\Rep K C G v.2 p.2
theorem KRep.mono{κ:Type}{v:κ×V}{p:κ×PV}(h:KRep K C G v p)(s:Same G G'):KRep K C G' v p:=⟨h.1,h.2.mono s⟩
abbrev Reps(K:Frag)(C:Addr)(G:Hp)(vs:List V)(ps:List PV):Prop:=LAt (Rep K C) G vs ps
theorem Reps.mono{vs:List V}{ps:List PV}(h:Reps K C G vs ps)(s:Same G G'):Reps K C G' vs ps:=LAt.mono h λ_ _ z=>z.mono s
theorem KReps.mono{κ:Type}{vs:List (κ×V)}{ps:List (κ×PV)}(h:LAt (KRep K C) G vs ps)(s:Same G G'):LAt (KRep K C) G' vs ps:=LAt.mono h λ_ _ z=>z.mono s
theorem Rep.ofL{vs:List V}{ps:List PV}(e:G a=some (.lst vs))(h:Reps K C G vs ps):Rep K C G (.ref a) (.lst ps):=.lst e h.1 h.2
theorem Rep.ofT{vs:List V}{ps:List PV}(e:G a=some (.tup vs))(h:Reps K C G vs ps):Rep K C G (.ref a) (.tup ps):=.tup e h.1 h.2
theorem Rep.ofD{vs:List (Key×V)}{ps:List (Key×PV)}(e:G a=some (.dK vs))(h:LAt (KRep K C) G vs ps):Rep K C G (.ref a) (.dk ps):=.dk e h.1 (λi v p h1 h2=>(h.2 i v p h1 h2).1) (λi v p h1 h2=>(h.2 i v p h1 h2).2)
theorem Rep.ofDt{vs:List (List Key×V)}{ps:List (List Key×PV)}(e:G a=some (.dT vs))(h:LAt (KRep K C) G vs ps):Rep K C G (.ref a) (.dt ps):=.dt e h.1 (λi v p h1 h2=>(h.2 i v p h1 h2).1) (λi v p h1 h2=>(h.2 i v p h1 h2).2)
def Rr(o:HO):Prop:=∀xs,o≠.tup xs
def OwnA(K:Frag)(C:Addr)(G H:Hp)(a:Addr):PV->Prop
 | .lst ps=>∃vs,H a=some (.lst vs)/\Reps K C G vs ps
 | .dk ps=>∃kvs,H a=some (.dK kvs)/\LAt (KRep K C) G kvs ps
 | .dt ps=>∃kvs,H a=some (.dT kvs)/\LAt (KRep K C) G kvs ps
 | _=>False
theorem OwnA.ofL{vs:List V}{ps:List PV}(e:H a=some (.lst vs))(r:Reps K C G vs ps):OwnA K C G H a (.lst ps):=⟨vs,e,r⟩
theorem OwnA.ofD{vs:List (Key×V)}{ps:List (Key×PV)}(e:H a=some (.dK vs))(r:LAt (KRep K C) G vs ps):OwnA K C G H a (.dk ps):=⟨vs,e,r⟩
theorem OwnA.here(h:OwnA K C G H a p):H a≠none:=by
 cases p <;> first | exact h.elim | (obtain⟨_,e,_⟩:=h;rw[e];exact λz=>nomatch z)
theorem OwnA.thing(h:OwnA K C G H a p):∃o,H a=some o/\Rr o:=by
 cases p <;> first | exact h.elim | (obtain⟨_,e,_⟩:=h;exact⟨_,e,λ_ z=>nomatch z⟩)
theorem OwnA.mono(h:OwnA K C G H a p)(s:Same G G')(e:H' a=H a):OwnA K C G' H' a p:=by
 cases p <;> first | exact h.elim | (obtain⟨vs,e1,l⟩:=h;exact⟨vs,by rw[e];exact e1,l.mono s⟩) | (obtain⟨vs,e1,l⟩:=h;exact⟨vs,by rw[e];exact e1,KReps.mono l s⟩)
def RepB(K:Frag)(C:Addr)(G H:Hp)(v:V)(p:PV):Prop:=Rep K C G v p\/∃a,v=.ref a/\OwnA K C G H a p
structure Grow(G H G' H':Hp):Prop where
 g:Same G G'
 h:Same H H'
 i:Same G' H'
 n:∀a o,H a=some o->Rr o->G a=none->G' a=none
theorem Grow.refl(s:Same G H):Grow G H G H:=⟨Same.refl _,Same.refl _,s,λ_ _ _ _ h=>h⟩
theorem _root_.L2.Same.eq(s:Same H H'){a:Addr}(h:H a≠none):H' a=H a:=by
 cases e:H a with
 | none=>exact absurd e h
 | some o=>exact s _ _ e
theorem Grow.trans{G1 H1:Hp}(x:Grow G H G1 H1)(y:Grow G1 H1 G' H'):Grow G H G' H':=⟨x.g.trans y.g,x.h.trans y.h,y.i,λa o h1 t h2=>y.n a o (x.h _ _ h1) t (x.n a o h1 t h2)⟩
theorem RepB.grow(h:RepB K C G H v p)(w:Grow G H G' H'):RepB K C G' H' v p:=by
 rcases h with h | ⟨a,e,h⟩
 ·exact .inl (h.mono w.g)
 ·exact .inr ⟨a,e,h.mono w.g (w.h.eq h.here)⟩
theorem Grow.put{o:HO}(s:Same G H)(n:H a=none)(s2:Same H H')(e:H' a=some o):Grow G H (upd G a o) H':=by
 have gn:G a=none:=s.free n
 refine⟨Same.new gn,s2,λb u h=>?_,λb u h1 _ h2=>?_⟩
 ·by_cases z:b=a
  ·subst z;rw[Bn] at h;rw[e];exact h
  ·rw[Bj z] at h;exact s2 _ _ (s _ _ h)
 ·rw[Bj (by intro z;subst z;rw[n] at h1;cases h1)];exact h2
theorem Grow.own(s:Same G H)(s2:Same H H'):Grow G H G H':=⟨Same.refl _,s2,s.trans s2,λ_ _ _ _ h=>h⟩
end
inductive Sl where
 | un | sh (p:PV) | bo (p:PV) | ow (p:PV) | fz (z:Addr×Obj×List (Key×V)) (kvs:List (Key×PV)) | bz (kvs:List (Key×PV)) | fl (z:Addr×List V) (ps:List PV) | om (a:Addr) (p:PV)
abbrev Bh:=List Sl
def SlOk(K:Frag)(C:Addr)(G0 H0:Hp)(own:Nat->Option Addr)(G:Hp)(σ:St)(H:Hp)(i:Nat):Sl->Prop
 | .un=>True
 | .sh p=>∃v,σ[i]? = some (some v)/\Rep K C G v p
 | .bo p=>∃v,σ[i]? = some (some v)/\RepB K C G0 H0 v p
 | .ow p=>∃a,σ[i]? = some (some (.ref a))/\own i=some a/\OwnA K C G H a p
 | .fz z kvs=>σ[i]? = some (some (.ref z.1))/\own i=some z.1/\H z.1=some (.frz z.2.1 (.dK z.2.2))/\LAt (KRep K C) G z.2.2 kvs
 | .bz kvs=>∃a o vs,σ[i]? = some (some (.ref a))/\H0 a=some (.frz o (.dK vs))/\LAt (KRep K C) G vs kvs
 | .fl z ps=>σ[i]? = some (some (.ref z.1))/\own i=some z.1/\H z.1=some (.lst z.2)/\Reps K C G z.2 ps
 | .om a p=>σ[i]? = some (some (.ref a))/\own i=some a/\OwnA K C G H a p
structure Om where
 E:XK
 X:Nat->Prop
 ca:Nat->Addr
def Om.no:Om:=⟨λ_ _ _=>False,λ_=>False,λ_=>0⟩
structure Sat(K:Frag)(C:Addr)(ω:Om)(B G0 H0:Hp)(own:Nat->Option Addr)(G:Hp)(σ:St)(H:Hp)(ρ:Bh):Prop where
 kb:Same B G
 gr:Grow G0 H0 G H
 len:σ.length=ρ.length
 inj:∀i j a,own i=some a->own j=some a->i=j
 fr:∀i a,own i=some a->H0 a=none/\G a=none/\∃o,H a=some o/\Rr o
 sl:∀i s,ρ[i]? = some s->SlOk K C G0 H0 own G σ H i s
 ex:∀x H',Same H0 H'->ω.X x->ω.E (.ref (ω.ca x)) none H'
abbrev UE:=Bh->(PV->Prop)->Prop
abbrev UT:=Bh->(Bool->Prop)->Prop
abbrev UA:=Bh->(List PV->Prop)->Prop
structure Fv where
 nx:Bh->Prop
 rt:PV->Prop
 bk:Bh->Prop
 ct:Bh->Prop
abbrev US:=Fv->Bh->Prop
section
variable (K:Frag)(C:Addr)(ω:Om)
def EB(t:TE)(u:UE):Prop:=∀(B G0 H0:Hp) (own:Nat->Option Addr) (G:Hp) (σ:St) (H:Hp) (ρ:Bh) (P:PV->Prop) (Q:VK),Sat K C ω B G0 H0 own G σ H ρ->u ρ P->(∀v p G' H',Grow G H G' H'->RepB K C G' H' v p->P p->Q v H')->t σ H Q
def EU(t:TE)(u:UE):Prop:=∀(B G0 H0:Hp) (own:Nat->Option Addr) (G:Hp) (σ:St) (H:Hp) (ρ:Bh) (P:PV->Prop) (Q:VK),Sat K C ω B G0 H0 own G σ H ρ->u ρ P->(∀v p G' H',Grow G H G' H'->Rep K C G' v p->P p->Q v H')->t σ H Q
def EF(t:TE)(u:UE):Prop:=∀(B G0 H0:Hp) (own:Nat->Option Addr) (G:Hp) (σ:St) (H:Hp) (ρ:Bh) (P:PV->Prop) (Q:VK),Sat K C ω B G0 H0 own G σ H ρ->u ρ P->(∀a p G' H',Grow G H G' H'->H a=none->G' a=none->OwnA K C G' H' a p->P p->Q (.ref a) H')->t σ H Q
def TU(t:TT)(u:UT):Prop:=∀(B G0 H0:Hp) (own:Nat->Option Addr) (G:Hp) (σ:St) (H:Hp) (ρ:Bh) (P:Bool->Prop) (Q:Bool->Hp->Prop),Sat K C ω B G0 H0 own G σ H ρ->u ρ P->(∀b G' H',Grow G H G' H'->P b->Q b H')->t σ H Q
def ArgsOk(G H:Hp):List Bool->List V->List PV->Prop
 | [],[],[]=>True
 | true::ms,v::vs,p::ps=>Rep K C G v p/\ArgsOk G H ms vs ps
 | false::ms,v::vs,p::ps=>RepB K C G H v p/\ArgsOk G H ms vs ps
 | _,_,_=>False
def AU(ms:List Bool)(t:TA)(u:UA):Prop:=∀(B G0 H0:Hp) (own:Nat->Option Addr) (G:Hp) (σ:St) (H:Hp) (ρ:Bh) (P:List PV->Prop) (Q:List V->Hp->Prop),Sat K C ω B G0 H0 own G σ H ρ->u ρ P->(∀vs ps G' H',Grow G H G' H'->ArgsOk K C G' H' ms vs ps->P ps->Q vs H')->t σ H Q
inductive Rm where
 | sh | fr | mu (a:Addr)
def ROk(rm:Rm)(H0 G H:Hp)(v:V)(p:PV):Prop:=match rm with
 | .sh=>Rep K C G v p
 | .fr=>∃a,v=.ref a/\H0 a=none/\G a=none/\OwnA K C G H a p
 | .mu b=>∃p1 p2 a,p=.tup [p1,p2]/\v=.ref a/\H0 a=none/\a≠b/\G a=none/\OwnA K C G H a p1/\G b=none/\OwnA K C G H b p2
structure AcC(rm:Rm)(B G0 H0:Hp)(D:Ends)(d:Fv):Prop where
 nx:∀own G σ H ρ,Sat K C ω B G0 H0 own G σ H ρ->d.nx ρ->D.nx σ H
 rt:∀G H v p,Grow G0 H0 G H->ROk K C rm H0 G H v p->d.rt p->D.rt v H
 bk:∀own G σ H ρ,Sat K C ω B G0 H0 own G σ H ρ->d.bk ρ->D.bk σ H
 ct:∀own G σ H ρ,Sat K C ω B G0 H0 own G σ H ρ->d.ct ρ->D.ct σ H
def SU(rm:Rm)(t:TS)(u:US):Prop:=∀(B G0 H0:Hp) (own:Nat->Option Addr) (G:Hp) (σ:St) (H:Hp) (ρ:Bh) (D:Ends) (d:Fv),Sat K C ω B G0 H0 own G σ H ρ->AcC K C ω rm B G0 H0 D d->u d ρ->t D σ H
def GU(top:Nat)(g:TG)(u:PV->Bh->(Bh->Prop)->Prop):Prop:=∀(B G0 H0:Hp) (own:Nat->Option Addr) (G:Hp) (σ:St) (H:Hp) (ρ:Bh) (v:V) (p:PV) (P:Bh->Prop) (R:St->Hp->Prop),Sat K C ω B G0 H0 own G σ H ρ->Rep K C G v p->u p ρ P ->
 (∀own' σ' ρ',Sat K C ω B G0 H0 own' G σ' H ρ'->σ'.drop top=σ.drop top->P ρ'->R σ' H)->g v σ H R
def GsU(top:Nat)(g:TGs)(u:List PV->Bh->(Bh->Prop)->Prop):Prop:=∀(B G0 H0:Hp) (own:Nat->Option Addr) (G:Hp) (σ:St) (H:Hp) (ρ:Bh) (vs:List V) (ps:List PV) (P:Bh->Prop) (R:St->Hp->Prop),Sat K C ω B G0 H0 own G σ H ρ->Reps K C G vs ps->u ps ρ P ->
 (∀own' σ' ρ',Sat K C ω B G0 H0 own' G σ' H ρ'->σ'.drop top=σ.drop top->P ρ'->R σ' H)->g vs σ H R
end
section
variable {K:Frag}{C:Addr}{ω:Om}{B G0 H0 G G' H H':Hp}{own:Nat->Option Addr}{σ:St}{ρ:Bh}
theorem SlOk.grow{i:Nat}{s:Sl}(h:SlOk K C G0 H0 own G σ H i s)(w:Grow G H G' H'):SlOk K C G0 H0 own G' σ H' i s:=by
 cases s with
 | un=>trivial
 | sh p=>obtain⟨v,e,r⟩:=h;exact⟨v,e,r.mono w.g⟩
 | bo p=>exact h
 | ow p=>obtain⟨a,e,o,r⟩:=h;exact⟨a,e,o,r.mono w.g (w.h.eq r.here)⟩
 | fz z kvs=>obtain⟨e,o,h1,h2⟩:=h;exact⟨e,o,w.h _ _ h1,KReps.mono h2 w.g⟩
 | bz kvs=>obtain⟨a,o,vs,e,h1,h2⟩:=h;exact⟨a,o,vs,e,h1,KReps.mono h2 w.g⟩
 | fl z ps=>obtain⟨e,o,h1,h2⟩:=h;exact⟨e,o,w.h _ _ h1,h2.mono w.g⟩
 | om a p=>obtain⟨e,o,r⟩:=h;exact⟨e,o,r.mono w.g (w.h.eq r.here)⟩
theorem Sat.grow(S:Sat K C ω B G0 H0 own G σ H ρ)(w:Grow G H G' H'):Sat K C ω B G0 H0 own G' σ H' ρ :=
 ⟨S.kb.trans w.g,S.gr.trans w,S.len,S.inj,λi a e=>let ⟨f0,fg,o,ho,ht⟩:=S.fr i a e;⟨f0,w.n a o ho ht fg,o,w.h _ _ ho,ht⟩,λi s e=>(S.sl i s e).grow w,S.ex⟩
theorem Sat.base{B':Hp}(S:Sat K C ω B G0 H0 own G σ H ρ)(h:Same B' G):Sat K C ω B' G0 H0 own G σ H ρ:=⟨h,S.gr,S.len,S.inj,S.fr,S.sl,S.ex⟩
def Jx(own:Nat->Option Addr)(i:Nat):Nat->Option Addr:=λj=>if j=i then none else own j
def Qx(own:Nat->Option Addr)(i:Nat)(a:Addr):Nat->Option Addr:=λj=>if j=i then some a else own j
theorem Ff{own:Nat->Option Addr}{i j:Nat}{a:Addr}(h:Jx own i j=some a):j≠i/\own j=some a:=by
 unfold Jx at h
 split at h
 ·cases h
 ·rename_i z;exact⟨z,h⟩
theorem Lx{α:Type}{l:List α}{i j:Nat}{x s:α}(h:(l.set i x)[j]? = some s):(j=i/\s=x/\i<l.length)\/(j≠i/\l[j]? = some s):=by
 by_cases z:j=i
 ·subst z
  rw[List.getElem?_set_self'] at h
  cases e:l[j]? with
  | none=>rw[e] at h;cases h
  | some y=>rw[e] at h;cases h;exact .inl ⟨rfl,rfl,(List.getElem?_eq_some_iff.mp e).1⟩
 ·rw[getElem?_set_ne (Ne.symm z)] at h;exact .inr ⟨z,h⟩
theorem Ts{α:Type}{l:List α}{i j:Nat}{x:α}(z:j≠i):(l.set i x)[j]? = l[j]?:=getElem?_set_ne (Ne.symm z)
theorem La{α:Type}{l:List α}{i:Nat}{x:α}(h:i<l.length):(l.set i x)[i]? = some x:=by rw[getElem?_set_self h]
theorem SlOk.other{own':Nat->Option Addr}{σ':St}{i:Nat}{s:Sl}(h:SlOk K C G0 H0 own G σ H i s)(e1:σ'[i]? = σ[i]?)(e2:own' i=own i):SlOk K C G0 H0 own' G σ' H i s:=by
 cases s with
 | un=>trivial
 | sh p=>obtain⟨v,e,r⟩:=h;exact⟨v,e1.trans e,r⟩
 | bo p=>obtain⟨v,e,r⟩:=h;exact⟨v,e1.trans e,r⟩
 | ow p=>obtain⟨a,e,o,r⟩:=h;exact⟨a,e1.trans e,e2.trans o,r⟩
 | fz z kvs=>obtain⟨e,o,r⟩:=h;exact⟨e1.trans e,e2.trans o,r⟩
 | bz kvs=>obtain⟨a,o,vs,e,r⟩:=h;exact⟨a,o,vs,e1.trans e,r⟩
 | fl z ps=>obtain⟨e,o,r⟩:=h;exact⟨e1.trans e,e2.trans o,r⟩
 | om a p=>obtain⟨e,o,r⟩:=h;exact⟨e1.trans e,e2.trans o,r⟩
theorem Sat.setS(S:Sat K C ω B G0 H0 own G σ H ρ){i:Nat}{v:V}{p:PV}(r:Rep K C G v p):Sat K C ω B G0 H0 (Jx own i) G (σ.set i (some v)) H (ρ.set i (.sh p)):=by
 refine⟨S.kb,S.gr,by rw[length_set,length_set,S.len],λj k a h1 h2=>S.inj j k a (Ff h1).2 (Ff h2).2,λj a h=>S.fr j a (Ff h).2,λj s h=>?_,S.ex⟩
 rcases Lx h with ⟨rfl,rfl,hl⟩ | ⟨z,h⟩
 ·exact⟨v,La (by rw[S.len];exact hl),r⟩
 ·exact (S.sl j s h).other (Ts z) (by unfold Jx;rw[if_neg z])
theorem Sat.setO(S:Sat K C ω B G0 H0 own G σ H ρ){i:Nat}{a:Addr}{p:PV}(r:OwnA K C G H a p)(f0:H0 a=none)(fg:G a=none)(fo:∀j,own j≠some a):Sat K C ω B G0 H0 (Qx own i a) G (σ.set i (some (.ref a))) H (ρ.set i (.ow p)):=by
 refine⟨S.kb,S.gr,by rw[length_set,length_set,S.len],λj k b h1 h2=>?_,λj b h=>?_,λj s h=>?_,S.ex⟩
 ·unfold Qx at h1 h2
  split at h1 <;> split at h2
  ·rename_i z1 z2;rw[z1,z2]
  ·cases h1;exact absurd h2 (fo k)
  ·cases h2;exact absurd h1 (fo j)
  ·exact S.inj j k b h1 h2
 ·unfold Qx at h
  split at h
  ·cases h;exact⟨f0,fg,r.thing⟩
  ·exact S.fr j b h
 ·rcases Lx h with ⟨rfl,rfl,hl⟩ | ⟨z,h⟩
  ·exact⟨a,La (by rw[S.len];exact hl),by unfold Qx;rw[if_pos rfl],r⟩
  ·exact (S.sl j s h).other (Ts z) (by unfold Qx;rw[if_neg z])
theorem Sat.chg(S:Sat K C ω B G0 H0 own G σ H ρ){i:Nat}{a:Addr}{p:PV}(e:own i=some a)(hi:σ[i]? = some (some (.ref a)))(c:Chg a H H')(r:OwnA K C G H' a p):Sat K C ω B G0 H0 own G σ H' (ρ.set i (.ow p)):=by
 obtain⟨f0,fg,fh⟩:=S.fr i a e
 have ng:∀b o,G b=some o->b≠a:=λb o h z=>by subst z;rw[fg] at h;cases h
 refine⟨S.kb,⟨S.gr.g,λb o h=>c _ _ (S.gr.h _ _ h) (by intro z;subst z;rw[f0] at h;cases h),λb o h=>c _ _ (S.gr.i _ _ h) (ng b o h),S.gr.n⟩,by rw[length_set,S.len],S.inj,λj b h=>?_,λj s h=>?_,S.ex⟩
 ·obtain⟨q0,qg,o,qh,qt⟩:=S.fr j b h
  refine⟨q0,qg,?_⟩
  by_cases z:b=a
  ·subst z;exact r.thing
  ·exact⟨o,c _ _ qh z,qt⟩
 ·rcases Lx h with ⟨rfl,rfl,hl⟩ | ⟨z,h⟩
  ·exact⟨a,hi,e,r⟩
  ·have q:=S.sl j s h
   cases s with
   | un=>trivial
   | sh p=>exact q
   | bo p=>exact q
   | bz kvs=>exact q
   | fz y kvs =>
    obtain⟨e1,o,h1,h2⟩:=q
    exact⟨e1,o,c _ _ h1 λw=>z (S.inj j i a (by rw[<- w];exact o) e),h2⟩
   | fl y ps =>
    obtain⟨e1,o,h1,h2⟩:=q
    exact⟨e1,o,c _ _ h1 λw=>z (S.inj j i a (by rw[<- w];exact o) e),h2⟩
   | om b p' =>
    obtain⟨e1,o,r1⟩:=q
    refine⟨e1,o,r1.mono (Same.refl _) ?_⟩
    cases w:H b with
    | none=>exact absurd w r1.here
    | some o'=>exact c _ _ w λw=>z (S.inj j i a (by rw[<- w];exact o) e)
   | ow p' =>
    obtain⟨b,e1,o,r1⟩:=q
    have nb:b≠a:=λw=>z (S.inj j i a (by rw[<- w];exact o) e)
    refine⟨b,e1,o,r1.mono (Same.refl _) ?_⟩
    cases w:H b with
    | none=>exact absurd w r1.here
    | some o=>exact c _ _ w nb
def Qy:Sl->Sl
 | .ow p=>.sh p
 | s=>s
def Lf(i:Nat)(ρ:Bh):Bh:=match ρ[i]? with
 | some s=>ρ.set i (Qy s)
 | none=>ρ
theorem Sat.share(S:Sat K C ω B G0 H0 own G σ H ρ)(i:Nat):∃own' G',Sat K C ω B G0 H0 own' G' σ H (Lf i ρ):=by
 cases e:ρ[i]? with
 | none=>exact⟨own,G,by unfold Lf;rw[e];exact S⟩
 | some s =>
  have hl:i<ρ.length:=(List.getElem?_eq_some_iff.mp e).1
  have same:Qy s=s->∃own' G',Sat K C ω B G0 H0 own' G' σ H (Lf i ρ):=λz=>⟨own,G,by
   unfold Lf;rw[e]
   have:ρ.set i (Qy s)=ρ:=by
    rw[z]
    refine ext_getElem? λj=>?_
    by_cases w:j=i
    ·subst w;rw[La hl,e]
    ·rw[Ts w]
   simp only [this];exact S⟩
  cases s with
  | un=>exact same rfl
  | sh p=>exact same rfl
  | bo p=>exact same rfl
  | fz _ _=>exact same rfl
  | bz _=>exact same rfl
  | fl _ _=>exact same rfl
  | om _ _=>exact same rfl
  | ow p =>
   obtain⟨a,e1,o,r⟩:=S.sl i _ e
   obtain⟨f0,fg,ob,hob,_⟩:=S.fr i a o
   have sg:Same G (upd G a ob):=Same.new fg
   have rp:Rep K C (upd G a ob) (.ref a) p:=by
    cases p <;> first | exact r.elim | skip
    ·obtain⟨vs,h1,h2⟩:=r;rw[hob] at h1;cases h1;exact Rep.ofL Bn (h2.mono sg)
    ·obtain⟨vs,h1,h2⟩:=r;rw[hob] at h1;cases h1;exact Rep.ofD Bn (KReps.mono h2 sg)
    ·obtain⟨vs,h1,h2⟩:=r;rw[hob] at h1;cases h1;exact Rep.ofDt Bn (KReps.mono h2 sg)
   have gi:Same (upd G a ob) H:=λb u h=>by
    by_cases z:b=a
    ·subst z;rw[Bn] at h;rw[hob];exact h
    ·rw[Bj z] at h;exact S.gr.i _ _ h
   have ge:∀b,b≠a->upd G a ob b=G b:=λb z=>Bj z
   refine⟨Jx own i,upd G a ob,S.kb.trans sg,⟨S.gr.g.trans sg,S.gr.h,gi,λb u h1 t h2=>?_⟩,?_,λj k b h1 h2=>S.inj j k b (Ff h1).2 (Ff h2).2,λj b h=>?_,λj s h=>?_,S.ex⟩
   ·rw[ge b (by intro z;subst z;rw[f0] at h1;cases h1)];exact S.gr.n b u h1 t h2
   ·unfold Lf;rw[e];simp only [length_set];exact S.len
   ·obtain⟨nj,h⟩:=Ff h
    obtain⟨q0,qg,qh⟩:=S.fr j b h
    exact⟨q0,by rw[ge b (by intro z;subst z;exact nj (S.inj j i b h o))];exact qg,qh⟩
   ·have h':(ρ.set i (.sh p))[j]? = some s:=by
     unfold Lf at h;rw[e] at h;exact h
    rcases Lx h' with ⟨rfl,rfl,_⟩ | ⟨z,h2⟩
    ·exact⟨_,e1,rp⟩
    ·have q:=S.sl j s h2
     cases s with
     | un=>trivial
     | sh p'=>obtain⟨v,w1,w2⟩:=q;exact⟨v,w1,w2.mono sg⟩
     | bo p'=>exact q
     | fz y kvs=>obtain⟨w0,w1,w2,w3⟩:=q;exact⟨w0,by unfold Jx;rw[if_neg z];exact w1,w2,KReps.mono w3 sg⟩
     | bz kvs=>obtain⟨b,o,vs,w0,w1,w2⟩:=q;exact⟨b,o,vs,w0,w1,KReps.mono w2 sg⟩
     | fl y ps=>obtain⟨w0,w1,w2,w3⟩:=q;exact⟨w0,by unfold Jx;rw[if_neg z];exact w1,w2,w3.mono sg⟩
     | om b p'=>obtain⟨w0,w1,w2⟩:=q;exact⟨w0,by unfold Jx;rw[if_neg z];exact w1,w2.mono sg rfl⟩
     | ow p' =>
      obtain⟨b,w1,w2,w3⟩:=q
      exact⟨b,w1,by unfold Jx;rw[if_neg z];exact w2,w3.mono sg rfl⟩
end
section
variable {K:Frag}{C:Addr}{ω:Om}
theorem EU.eb{t:TE}{u:UE}(h:EU K C ω t u):EB K C ω t u:=λB G0 H0 own G σ H ρ P Q S hu k=>h B G0 H0 own G σ H ρ P Q S hu λv p G' H' w r hp=>k v p G' H' w (.inl r) hp
theorem EF.eb{t:TE}{u:UE}(h:EF K C ω t u):EB K C ω t u:=λB G0 H0 own G σ H ρ P Q S hu k=>h B G0 H0 own G σ H ρ P Q S hu λa p G' H' w _ _ r hp=>k _ p G' H' w (.inr ⟨a,rfl,r⟩) hp
theorem Aev{G H G' H':Hp}{a:Addr}{p:PV}(w:Grow G H G' H')(n:H a=none)(g:G' a=none)(r:OwnA K C G' H' a p):∃G'',Grow G H G'' H'/\Rep K C G'' (.ref a) p:=by
 obtain⟨ob,hob⟩:∃ob,H' a=some ob:=by
  cases e:H' a with
  | none=>exact absurd e r.here
  | some x=>exact⟨x,rfl⟩
 have sg:Same G' (upd G' a ob):=Same.new g
 refine⟨upd G' a ob,⟨w.g.trans sg,w.h,λb u h=>?_,λb u h1 t h2=>?_⟩,?_⟩
 ·by_cases z:b=a
  ·subst z;rw[Bn] at h;rw[hob];exact h
  ·rw[Bj z] at h;exact w.i _ _ h
 ·rw[Bj (by intro z;subst z;rw[n] at h1;cases h1)];exact w.n b u h1 t h2
 ·cases p <;> first | exact r.elim | skip
  ·obtain⟨vs,h1,h2⟩:=r;rw[hob] at h1;cases h1;exact Rep.ofL Bn (h2.mono sg)
  ·obtain⟨vs,h1,h2⟩:=r;rw[hob] at h1;cases h1;exact Rep.ofD Bn (KReps.mono h2 sg)
  ·obtain⟨vs,h1,h2⟩:=r;rw[hob] at h1;cases h1;exact Rep.ofDt Bn (KReps.mono h2 sg)
theorem EF.eu{t:TE}{u:UE}(h:EF K C ω t u):EU K C ω t u:=λB G0 H0 own G σ H ρ P Q S hu k=>h B G0 H0 own G σ H ρ P Q S hu λa p G' H' w n g r hp =>
 let ⟨G'',w2,r2⟩:=Aev w n g r
 k _ p G'' H' w2 r2 hp
def Sl.val:Sl->Option PV
 | .un=>none
 | .sh p=>some p
 | .bo p=>some p
 | .ow p=>some p
 | .fz _ _=>none
 | .bz _=>none
 | .fl _ ps=>some (.lst ps)
 | .om _ p=>some p
def Amc(i:Nat):UE:=λρ P=>∃s p,ρ[i]? = some s/\s.val=some p/\P p
def AhG(i:Nat):UE:=λρ P=>∃p,ρ[i]? = some (.sh p)/\P p
theorem Bc{i:Nat}:EB K C ω (Fn i) (Amc i):=λB G0 H0 own G σ H ρ P Q S ⟨s,p,h1,h2,h3⟩ k=>by
 have q:=S.sl i s h1
 have w:=Grow.refl S.gr.i
 cases s with
 | un=>cases h2
 | sh p'=>cases h2;obtain⟨v,e,r⟩:=q;exact⟨v,e,k v _ G H w (.inl r) h3⟩
 | bo p'=>cases h2;obtain⟨v,e,r⟩:=q;exact⟨v,e,k v _ G H w (r.grow S.gr) h3⟩
 | ow p'=>cases h2;obtain⟨a,e,_,r⟩:=q;exact⟨_,e,k _ _ G H w (.inr ⟨a,rfl,r⟩) h3⟩
 | fz _ _=>cases h2
 | bz _=>cases h2
 | fl z ps=>cases h2;obtain⟨e,_,h1,r⟩:=q;exact⟨_,e,k _ _ G H w (.inr ⟨z.1,rfl,OwnA.ofL h1 r⟩) h3⟩
 | om a p'=>cases h2;obtain⟨e,_,r⟩:=q;exact⟨_,e,k _ _ G H w (.inr ⟨a,rfl,r⟩) h3⟩
theorem Br{i:Nat}:EU K C ω (Fn i) (AhG i):=λB G0 H0 own G σ H ρ P Q S ⟨p,h1,h3⟩ k=>by
 obtain⟨v,e,r⟩:=S.sl i _ h1
 exact⟨v,e,k v _ G H (Grow.refl S.gr.i) r h3⟩
def uC(p:PV):UE:=λ_ P=>P p
theorem Ul{v:V}{p:PV}(h:∀G,Rep K C G v p):EU K C ω (tC v) (uC p):=λB G0 H0 own G σ H ρ P Q S hu k=>k v p G H (Grow.refl S.gr.i) (h G) hu
theorem Bg{i:Int}:EU K C ω (tC (.int i)) (uC (.int i)):=Ul λ_=>.int i
theorem Vm{b:Bool}:EU K C ω (tC (.bl b)) (uC (.bl b)):=Ul λ_=>.bl b
theorem Cl{x:Str}:EU K C ω (tC (.str x)) (uC (.str x)):=Ul λ_=>.str x
theorem Zs:EU K C ω (tC .non) (uC .non):=Ul λ_=>.non
theorem RepB.int{G H:Hp}{v:V}{i:Int}(h:RepB K C G H v (.int i)):v=.int i:=by
 rcases h with h | ⟨a,_,h⟩
 ·cases h;rfl
 ·exact h.elim
theorem RepB.bl{G H:Hp}{v:V}{b:Bool}(h:RepB K C G H v (.bl b)):v=.bl b:=by
 rcases h with h | ⟨a,_,h⟩
 ·cases h;rfl
 ·exact h.elim
theorem RepB.str{G H:Hp}{v:V}{b:Str}(h:RepB K C G H v (.str b)):v=.str b:=by
 rcases h with h | ⟨a,_,h⟩
 ·cases h;rfl
 ·exact h.elim
theorem RepB.lst{G H:Hp}{v:V}{ps:List PV}(i:Same G H)(h:RepB K C G H v (.lst ps)):∃a vs,v=.ref a/\H a=some (.lst vs)/\Reps K C G vs ps:=by
 rcases h with h | ⟨a,e,vs,h1,h2⟩
 ·cases h with
  | lst e l q=>exact⟨_,_,rfl,i _ _ e,l,q⟩
 ·exact⟨a,vs,e,h1,h2⟩
theorem RepB.tup{G H:Hp}{v:V}{ps:List PV}(i:Same G H)(h:RepB K C G H v (.tup ps)):∃a vs,v=.ref a/\H a=some (.tup vs)/\Reps K C G vs ps:=by
 rcases h with h | ⟨a,e,h⟩
 ·cases h with
  | tup e l q=>exact⟨_,_,rfl,i _ _ e,l,q⟩
 ·exact h.elim
theorem RepB.scr{G H:Hp}{v:V}{ns:List Int}(i:Same G H)(h:RepB K C G H v (.scr ns)):∃a,v=.ref a/\SqL K H a (ns.map V.int):=by
 rcases h with h | ⟨a,e,h⟩
 ·cases h with
  | scr e=>exact⟨_,rfl,i.seq e⟩
 ·exact h.elim
theorem RepB.dk{G H:Hp}{v:V}{ps:List (Key×PV)}(i:Same G H)(h:RepB K C G H v (.dk ps)):∃a kvs,v=.ref a/\H a=some (.dK kvs)/\LAt (KRep K C) G kvs ps:=by
 rcases h with h | ⟨a,e,vs,h1,h2⟩
 ·cases h with
  | dk e l hk q=>exact⟨_,_,rfl,i _ _ e,l,λi v p h1 h2=>⟨hk i v p h1 h2,q i v p h1 h2⟩⟩
 ·exact⟨a,vs,e,h1,h2⟩
theorem RepB.dt{G H:Hp}{v:V}{ps:List (List Key×PV)}(i:Same G H)(h:RepB K C G H v (.dt ps)):∃a kvs,v=.ref a/\H a=some (.dT kvs)/\LAt (KRep K C) G kvs ps:=by
 rcases h with h | ⟨a,e,vs,h1,h2⟩
 ·cases h with
  | dt e l hk q=>exact⟨_,_,rfl,i _ _ e,l,λi v p h1 h2=>⟨hk i v p h1 h2,q i v p h1 h2⟩⟩
 ·exact⟨a,vs,e,h1,h2⟩
theorem two{ta tb:TE}{ua ub:UE}{r:R2}(ha:EB K C ω ta ua)(hb:EB K C ω tb ub){B G0 H0:Hp}{own:Nat->Option Addr}{G:Hp}{σ:St}{H:Hp}{ρ:Bh}{Q:VK}{P:PV->PV->Prop}(S:Sat K C ω B G0 H0 own G σ H ρ)
  (hu:ua ρ λp=>ub ρ λq=>P p q) (k:∀v w p q G' H',Grow G H G' H'->RepB K C G' H' v p->RepB K C G' H' w q->P p q->r v w H' Q):tOp r ta tb σ H Q :=
 ha B G0 H0 own G σ H ρ _ _ S hu λv p G1 H1 w1 r1 h1=>hb B G0 H0 own G1 σ H1 ρ _ _ (S.grow w1) h1 λw q G2 H2 w2 r2 h2=>k v w p q G2 H2 (w1.trans w2) (r1.grow w2) r2 h2
def bI0(g:Int->Int->PV)(p q:PV)(P:PV->Prop):Prop:=∃i j,p=.int i/\q=.int j/\P (g i j)
def uI0(g:Int->Int->PV)(ua ub:UE):UE:=λρ P=>ua ρ λp=>ub ρ λq=>bI0 g p q P
def bI(c:Int->Int->Prop)(g:Int->Int->PV)(p q:PV)(P:PV->Prop):Prop:=∃i j,p=.int i/\q=.int j/\c i j/\P (g i j)
def uI(c:Int->Int->Prop)(g:Int->Int->PV)(ua ub:UE):UE:=λρ P=>ua ρ λp=>ub ρ λq=>bI c g p q P
theorem Dk{g:Int->Int->V}{g':Int->Int->PV}{ta tb:TE}{ua ub:UE}(hg:∀G i j,Rep K C G (g i j) (g' i j))(ha:EB K C ω ta ua)(hb:EB K C ω tb ub):EU K C ω (tOp (rI0 g) ta tb) (uI0 g' ua ub) :=
 λB G0 H0 own G σ H ρ P Q S hu k=>two ha hb S hu λv w p q G' H' gr r1 r2 ⟨i,j,e1,e2,h⟩=>by
  subst e1 e2
  exact⟨i,j,r1.int,r2.int,k _ _ G' H' gr (hg G' i j) h⟩
theorem Cw{c:Int->Int->Prop}{g:Int->Int->V}{g':Int->Int->PV}{ta tb:TE}{ua ub:UE}(hg:∀G i j,Rep K C G (g i j) (g' i j))(ha:EB K C ω ta ua)(hb:EB K C ω tb ub):EU K C ω (tOp (rI c g) ta tb) (uI c g' ua ub) :=
 λB G0 H0 own G σ H ρ P Q S hu k=>two ha hb S hu λv w p q G' H' gr r1 r2 ⟨i,j,e1,e2,hc,h⟩=>by
  subst e1 e2
  exact⟨i,j,r1.int,r2.int,hc,k _ _ G' H' gr (hg G' i j) h⟩
def bU(g:Int->PV)(p:PV)(P:PV->Prop):Prop:=∃i,p=.int i/\P (g i)
def uU(g:Int->PV)(ua:UE):UE:=λρ P=>ua ρ λp=>bU g p P
theorem Zd{g:Int->V}{g':Int->PV}{ta:TE}{ua:UE}(hg:∀G i,Rep K C G (g i) (g' i))(ha:EB K C ω ta ua):EU K C ω (tUn (rU g) ta) (uU g' ua) :=
 λB G0 H0 own G σ H ρ P Q S hu k=>ha B G0 H0 own G σ H ρ _ _ S hu λv p G' H' w r ⟨i,e,h⟩=>by
  subst e
  exact⟨i,r.int,k _ _ G' H' w (hg G' i) h⟩
def Wy(neg:Bool)(p q:PV)(P:PV->Prop):Prop:=(∃i j,p=.int i/\q=.int j/\P (.bl (if neg then !decide (i=j) else decide (i=j))))\/(∃i j,p=.str i/\q=.str j/\P (.bl (if neg then !decide (i=j) else decide (i=j))))
def Af7(neg:Bool)(ua ub:UE):UE:=λρ P=>ua ρ λp=>ub ρ λq=>Wy neg p q P
theorem Fe{ta tb:TE}{ua ub:UE}(ha:EB K C ω ta ua)(hb:EB K C ω tb ub):EU K C ω (tOp rEq ta tb) (Af7 false ua ub) :=
 λB G0 H0 own G σ H ρ P Q S hu k=>two ha hb S hu λv w p q G' H' gr r1 r2 h=>by
  rcases h with ⟨i,j,e1,e2,h⟩ | ⟨i,j,e1,e2,h⟩
  ·subst e1 e2;rw[r1.int,r2.int];exact AhT (k _ _ G' H' gr (.bl _) h)
  ·subst e1 e2;rw[r1.str,r2.str];exact Ah6 (k _ _ G' H' gr (.bl _) h)
theorem Ab1{ta tb:TE}{ua ub:UE}(ha:EB K C ω ta ua)(hb:EB K C ω tb ub):EU K C ω (tOp rNe ta tb) (Af7 true ua ub) :=
 λB G0 H0 own G σ H ρ P Q S hu k=>two ha hb S hu λv w p q G' H' gr r1 r2 h=>by
  rcases h with ⟨i,j,e1,e2,h⟩ | ⟨i,j,e1,e2,h⟩
  ·subst e1 e2;rw[r1.int,r2.int];exact Aha (k _ _ G' H' gr (.bl _) h)
  ·subst e1 e2;rw[r1.str,r2.str];exact AhN (k _ _ G' H' gr (.bl _) h)
def isN:PV->Bool
 | .non=>true
 | _=>false
theorem AdM{G H:Hp}{v:V}{p:PV}(r:RepB K C G H v p):decide (v=.non)=isN p:=by
 rcases r with r | ⟨a,e,r⟩
 ·cases r <;> first | rfl | exact decide_eq_false (λz=>nomatch z)
 ·subst e
  cases p <;> first | exact r.elim | exact decide_eq_false (λz=>nomatch z)
def Ach(neg:Bool)(ua:UE):UE:=λρ P=>ua ρ λp=>P (.bl (if neg then !isN p else isN p))
theorem AkV{ta:TE}{ua:UE}(ha:EB K C ω ta ua):EU K C ω (AmD ta) (Ach false ua) :=
 λB G0 H0 own G σ H ρ P Q S hu k=>ha B G0 H0 own G σ H ρ _ _ S hu λv p G' H' w r h=>by rw[AdM r];exact k _ _ G' H' w (.bl _) h
theorem Oj{ta:TE}{ua:UE}(ha:EB K C ω ta ua):EU K C ω (AgW ta) (Ach true ua) :=
 λB G0 H0 own G σ H ρ P Q S hu k=>ha B G0 H0 own G σ H ρ _ _ S hu λv p G' H' w r h=>by rw[AdM r];exact k _ _ G' H' w (.bl _) h
def bB(p:PV)(P:Bool->Prop):Prop:=∃b,p=.bl b/\P b
def uB(ua:UE):UT:=λρ P=>ua ρ λp=>bB p P
theorem Cy{ta:TE}{ua:UE}(ha:EB K C ω ta ua):TU K C ω (tB ta) (uB ua) :=
 λB G0 H0 own G σ H ρ P Q S hu k=>ha B G0 H0 own G σ H ρ _ _ S hu λv p G' H' w r ⟨b,e,h⟩=>by subst e;exact⟨b,r.bl,k b G' H' w h⟩
theorem Wn{ta:TE}{ua:UE}(ha:EB K C ω ta ua):TU K C ω (Aci ta) (uB ua) :=
 λB G0 H0 own G σ H ρ P Q S hu k=>ha B G0 H0 own G σ H ρ _ _ S hu λv p G' H' w r ⟨b,e,h⟩=>by subst e;exact⟨b,r.bl,k b G' H' w h⟩
def AmE(ua ub:UT):UT:=λρ P=>ua ρ λb=>if b=true then ub ρ P else P false
def uOr(ua ub:UT):UT:=λρ P=>ua ρ λb=>if b=true then P true else ub ρ P
def AjY(ua:UT):UT:=λρ P=>ua ρ λb=>P (!b)
theorem Vz{ta tb:TT}{ua ub:UT}(ha:TU K C ω ta ua)(hb:TU K C ω tb ub):TU K C ω (AfE ta tb) (AmE ua ub) :=
 λB G0 H0 own G σ H ρ P Q S hu k=>ha B G0 H0 own G σ H ρ _ _ S hu λb G' H' w h=>by
  cases b with
  | true=>exact Lo (hb B G0 H0 own G' σ H' ρ P Q (S.grow w) (by simpa using h) λc G2 H2 w2 h2=>k c G2 H2 (w.trans w2) h2)
  | false=>exact Lw (k _ G' H' w (by simpa using h))
theorem Yo{ta tb:TT}{ua ub:UT}(ha:TU K C ω ta ua)(hb:TU K C ω tb ub):TU K C ω (tOr ta tb) (uOr ua ub) :=
 λB G0 H0 own G σ H ρ P Q S hu k=>ha B G0 H0 own G σ H ρ _ _ S hu λb G' H' w h=>by
  cases b with
  | false=>exact Lw (hb B G0 H0 own G' σ H' ρ P Q (S.grow w) (by simpa using h) λc G2 H2 w2 h2=>k c G2 H2 (w.trans w2) h2)
  | true=>exact Lo (k _ G' H' w (by simpa using h))
theorem Aao{ta:TT}{ua:UT}(ha:TU K C ω ta ua):TU K C ω (Afo ta) (AjY ua) :=
 λB G0 H0 own G σ H ρ P Q S hu k=>ha B G0 H0 own G σ H ρ _ _ S hu λb G' H' w h=>k _ G' H' w h
def AlF(ua ub:UE):UE:=λρ P=>ua ρ λp=>bB p λb=>if b=true then P (.bl true) else ub ρ P
theorem Amd{ta tb:TE}{ua ub:UE}(ha:EB K C ω ta ua)(hb:EU K C ω tb ub):EU K C ω (Aml ta tb) (AlF ua ub) :=
 λB G0 H0 own G σ H ρ P Q S hu k=>ha B G0 H0 own G σ H ρ _ _ S hu λv p G' H' w r ⟨b,e,h⟩=>by
  subst e
  refine⟨b,r.bl,?_⟩
  cases b with
  | false=>exact Lw (hb B G0 H0 own G' σ H' ρ P Q (S.grow w) (by simpa using h) λc p2 G2 H2 w2 h2=>k c p2 G2 H2 (w.trans w2) h2)
  | true=>exact Lo (k _ _ G' H' w (.bl _) (by simpa using h))
def uIf(uc:UT)(ua ub:UE):UE:=λρ P=>uc ρ λb=>if b=true then ua ρ P else ub ρ P
theorem Oc{tc:TT}{ta tb:TE}{uc:UT}{ua ub:UE}(hc:TU K C ω tc uc)(ha:EU K C ω ta ua)(hb:EU K C ω tb ub):EU K C ω (tIf tc ta tb) (uIf uc ua ub) :=
 λB G0 H0 own G σ H ρ P Q S hu k=>hc B G0 H0 own G σ H ρ _ _ S hu λb G' H' w h=>by
  cases b with
  | true=>exact Lo (ha B G0 H0 own G' σ H' ρ P Q (S.grow w) (by simpa using h) λc p2 G2 H2 w2 h2=>k c p2 G2 H2 (w.trans w2) h2)
  | false=>exact Lw (hb B G0 H0 own G' σ H' ρ P Q (S.grow w) (by simpa using h) λc p2 G2 H2 w2 h2=>k c p2 G2 H2 (w.trans w2) h2)
end
section
variable {K:Frag}{C:Addr}{ω:Om}
theorem ArgsOk.len{G H:Hp}:∀{ms:List Bool} {vs:List V} {ps:List PV},ArgsOk K C G H ms vs ps->vs.length=ms.length/\ps.length=ms.length
 | [],[],[],_=>⟨rfl,rfl⟩
 | true::_,_::_,_::_,h=>⟨congrArg Nat.succ h.2.len.1,congrArg Nat.succ h.2.len.2⟩
 | false::_,_::_,_::_,h=>⟨congrArg Nat.succ h.2.len.1,congrArg Nat.succ h.2.len.2⟩
 | [],_::_,_,h=>h.elim
 | [],[],_::_,h=>h.elim
 | true::_,[],_,h=>by cases h
 | false::_,[],_,h=>by cases h
 | true::_,_::_,[],h=>by cases h
 | false::_,_::_,[],h=>by cases h
theorem ArgsOk.reps{G H:Hp}:∀{n:Nat} {vs:List V} {ps:List PV},ArgsOk K C G H (replicate n true) vs ps->Reps K C G vs ps
 | 0,[],[],_=>LAt.nil
 | 0,_::_,_,h=>by cases h
 | 0,[],_::_,h=>by cases h
 | _+1,[],_,h=>by cases h
 | _+1,_::_,[],h=>by cases h
 | n+1,v::vs,p::ps,h=>by
  have h1:Rep K C G v p:=h.1
  have h2:Reps K C G vs ps:=ArgsOk.reps (n:=n) h.2
  exact⟨congrArg Nat.succ h2.1,λi x y e1 e2=>by
   cases i with
   | zero=>cases e1;cases e2;exact h1
   | succ i=>exact h2.2 i x y (by simpa using e1) (by simpa using e2)⟩
def AkR:UA:=λ_ P=>P []
def AcP(ua:UE)(ur:UA):UA:=λρ P=>ua ρ λp=>ur ρ λps=>P (p::ps)
theorem Bk:AU K C ω [] Nb AkR:=λB G0 H0 own G σ H ρ P Q S hu k=>k [] [] G H (Grow.refl S.gr.i) trivial hu
theorem Bu{ms:List Bool}{ta:TE}{tr:TA}{ua:UE}{ur:UA}(ha:EU K C ω ta ua)(hr:AU K C ω ms tr ur):AU K C ω (true::ms) (Ga ta tr) (AcP ua ur) :=
 λB G0 H0 own G σ H ρ P Q S hu k=>ha B G0 H0 own G σ H ρ _ _ S hu λv p G1 H1 w1 r1 h1=>hr B G0 H0 own G1 σ H1 ρ _ _ (S.grow w1) h1 λvs ps G2 H2 w2 r2 h2=>k (v::vs) (p::ps) G2 H2 (w1.trans w2) ⟨r1.mono w2.g,r2⟩ h2
theorem Bt{ms:List Bool}{ta:TE}{tr:TA}{ua:UE}{ur:UA}(ha:EB K C ω ta ua)(hr:AU K C ω ms tr ur):AU K C ω (false::ms) (Ga ta tr) (AcP ua ur) :=
 λB G0 H0 own G σ H ρ P Q S hu k=>ha B G0 H0 own G σ H ρ _ _ S hu λv p G1 H1 w1 r1 h1=>hr B G0 H0 own G1 σ H1 ρ _ _ (S.grow w1) h1 λvs ps G2 H2 w2 r2 h2=>k (v::vs) (p::ps) G2 H2 (w1.trans w2) ⟨r1.grow w2,r2⟩ h2
def AlQ(u:UA):UE:=λρ P=>u ρ λps=>P (.lst ps)
def Akk(u:UA):UE:=λρ P=>u ρ λps=>P (.tup ps)
theorem Dv(n:Nat){t:TA}{u:UA}(h:AU K C ω (replicate n true) t u)(hn:n<=1000:=by decide):EF K C ω (Yv t) (AlQ u) :=
 λB G0 H0 own G σ H ρ P Q S hu k=>h B G0 H0 own G σ H ρ _ _ S hu λvs ps G1 H1 w1 r1 h1=>by
  have hl:vs.length=n:=by rw[r1.len.1,length_replicate]
  refine⟨Nat.le_of_lt (Np (by omega)),λa H2 ha s2 e2=>?_⟩
  have w2:=w1.trans (Grow.own w1.i s2)
  exact k a _ G1 H2 w2 (w1.h.free ha) (w1.i.free ha) (OwnA.ofL e2 r1.reps) h1
theorem Gk(n:Nat){t:TA}{u:UA}(h:AU K C ω (replicate n true) t u)(hn:n<=1000:=by decide):EU K C ω (Act t) (Akk u) :=
 λB G0 H0 own G σ H ρ P Q S hu k=>h B G0 H0 own G σ H ρ _ _ S hu λvs ps G1 H1 w1 r1 h1=>by
  have hl:vs.length=n:=by rw[r1.len.1,length_replicate]
  refine⟨Nat.le_of_lt (Np (by omega)),λa H2 ha s2 e2=>?_⟩
  have w2:=Grow.put w1.i ha s2 e2
  exact k _ _ _ H2 (w1.trans w2) (Rep.ofT Bn (r1.reps.mono w2.g)) h1
theorem LAt.get'{β α:Type}{R:Hp->β->α->Prop}{H:Hp}{xs:List β}{ys:List α}(h:LAt R H xs ys){i:Nat}{y:α}(e:ys[i]? = some y):∃x,xs[i]? = some x/\R H x y:=by
 have hi:i<ys.length:=(List.getElem?_eq_some_iff.mp e).1
 have hx:i<xs.length:=by rw[h.1];exact hi
 exact⟨xs[i],getElem?_eq_getElem hx,h.2 i _ y (getElem?_eq_getElem hx) e⟩
theorem LAt.atI{β α:Type}{R:Hp->β->α->Prop}{H:Hp}{xs:List β}{ys:List α}(h:LAt R H xs ys){i:Int}{y:α}(e:L2.atI ys i=some y):∃x,L2.atI xs i=some x/\R H x y:=by
 unfold L2.atI at e ⊢
 rw[h.1]
 cases z:ixN ys.length i with
 | none=>rw[z] at e;cases e
 | some j=>rw[z] at e;exact h.get' e
theorem Fj{G:Hp}(ns:List Int):Reps K C G (ns.map V.int) (ns.map PV.int) :=
 ⟨by simp,λi v p h1 h2=>by
  rw[getElem?_map] at h1 h2
  cases e:ns[i]? with
  | none=>rw[e] at h1;cases h1
  | some n=>rw[e] at h1 h2;cases h1;cases h2;exact .int n⟩
def Zl(p q:PV)(P:PV->Prop):Prop:=∃i ps x,q=.int i/\(p=.lst ps\/∃ns,p=.scr ns/\ps=ns.map .int)/\atI ps i=some x/\P x
def Amg(ua ub:UE):UE:=λρ P=>ua ρ λp=>ub ρ λq=>Zl p q P
theorem Dd{ta tb:TE}{ua ub:UE}(ha:EB K C ω ta ua)(hb:EB K C ω tb ub):EU K C ω (tOp (Aaw K) ta tb) (Amg ua ub) :=
 λB G0 H0 own G σ H ρ P Q S hu k=>two ha hb S hu λv w p q G' H' gr r1 r2 ⟨i,ps,x,e1,e2,e3,h⟩=>by
  subst e1
  rcases e2 with e2 | ⟨ns,e2,e4⟩
  ·subst e2
   obtain⟨a,vs,rfl,ea,l⟩:=r1.lst gr.i
   obtain⟨y,hy,ry⟩:=l.atI e3
   exact⟨a,vs,i,y,rfl,r2.int,SqL.of ea,hy,k y x G' H' gr ry h⟩
  ·subst e2 e4
   obtain⟨a,rfl,ea⟩:=r1.scr gr.i
   obtain⟨y,hy,ry⟩:=(Fj (K:=K) (C:=C) (G:=G') ns).atI e3
   exact⟨a,_,i,y,rfl,r2.int,ea,hy,k y x G' H' gr ry h⟩
def Zm(p q:PV)(P:PV->Prop):Prop:=∃i ps x,q=.int i/\p=.tup ps/\atI ps i=some x/\P x
def AkH(ua ub:UE):UE:=λρ P=>ua ρ λp=>ub ρ λq=>Zm p q P
theorem Du{ta tb:TE}{ua ub:UE}(ha:EB K C ω ta ua)(hb:EB K C ω tb ub):EU K C ω (tOp (Wh K) ta tb) (AkH ua ub) :=
 λB G0 H0 own G σ H ρ P Q S hu k=>two ha hb S hu λv w p q G' H' gr r1 r2 ⟨i,ps,x,e1,e2,e3,h⟩=>by
  subst e1 e2
  obtain⟨a,vs,rfl,ea,l⟩:=r1.tup gr.i
  obtain⟨y,hy,ry⟩:=l.atI e3
  exact⟨a,vs,i,y,rfl,r2.int,SqT.of ea,hy,k y x G' H' gr ry h⟩
abbrev UO:=Bh->(Option Int->Prop)->Prop
def OU(K:Frag)(C:Addr)(ω:Om)(t:TO)(u:UO):Prop:=∀(B G0 H0:Hp) (own:Nat->Option Addr) (G:Hp) (σ:St) (H:Hp) (ρ:Bh) (P:Option Int->Prop) (Q:Option Int->Hp->Prop),Sat K C ω B G0 H0 own G σ H ρ->u ρ P->(∀o G' H',Grow G H G' H'->P o->Q o H')->t σ H Q
def Abw:UO:=λ_ P=>P none
def AcG(p:PV)(P:Option Int->Prop):Prop:=∃i,p=.int i/\P (some i)
def Aio(ua:UE):UO:=λρ P=>ua ρ λp=>AcG p P
theorem Nj:OU K C ω Abh Abw:=λB G0 H0 own G σ H ρ P Q S hu k=>k none G H (Grow.refl S.gr.i) hu
theorem Dx{ta:TE}{ua:UE}(ha:EB K C ω ta ua):OU K C ω (AhJ ta) (Aio ua) :=
 λB G0 H0 own G σ H ρ P Q S hu k=>ha B G0 H0 own G σ H ρ _ _ S hu λv p G' H' w r ⟨i,e,h⟩=>by subst e;exact⟨i,r.int,k _ G' H' w h⟩
def Je{α:Type}(xs:List α)(lo hi:Option Int):List α:=(xs.drop (HT.sIx xs.length 0 lo)).take (HT.sIx xs.length xs.length hi - HT.sIx xs.length 0 lo)
theorem Jf{α β:Type}(f:α->β)(xs:List α)(lo hi:Option Int):Je (xs.map f) lo hi=(Je xs lo hi).map f:=by
 unfold Je;rw[length_map,map_take,List.map_drop]
theorem Reps.cut{G:Hp}{vs:List V}{ps:List PV}(h:Reps K C G vs ps)(lo hi:Option Int):Reps K C G (Uu vs lo hi) (Je ps lo hi):=by
 unfold Uu Je
 rw[h.1]
 exact (LAt.drop h _).take _
def AfL(p:PV)(lo hi:Option Int)(P:PV->Prop):Prop:=∃ps,(p=.lst ps\/∃ns,p=.scr ns/\ps=ns.map .int)/\P (.lst (Je ps lo hi))
def Akg(ua:UE)(ul uh:UO):UE:=λρ P=>ua ρ λp=>ul ρ λlo=>uh ρ λhi=>AfL p lo hi P
theorem Jo{ta:TE}{tl th:TO}{ua:UE}{ul uh:UO}(ha:EB K C ω ta ua)(hl:OU K C ω tl ul)(hh:OU K C ω th uh):EF K C ω (tSl (Ah8 K) ta tl th) (Akg ua ul uh) :=
 λB G0 H0 own G σ H ρ P Q S hu k=>ha B G0 H0 own G σ H ρ _ _ S hu λv p G1 H1 w1 r1 h1=>hl B G0 H0 own G1 σ H1 ρ _ _ (S.grow w1) h1 λlo G2 H2 w2 h2=>hh B G0 H0 own G2 σ H2 ρ _ _ ((S.grow w1).grow w2) h2 λhi G3 H3 w3 h3=>by
  have w:=(w1.trans w2).trans w3
  have r:=(r1.grow w2).grow w3
  obtain⟨ps,e,h⟩:=h3
  rcases e with e | ⟨ns,e,e4⟩
  ·subst e
   obtain⟨a,vs,rfl,ea,l⟩:=r.lst w3.i
   exact⟨a,vs,rfl,SqL.of ea,λb H4 hb s4 e4=>k b _ G3 H4 (w.trans (Grow.own w3.i s4)) (w.h.free hb) (w3.i.free hb) (OwnA.ofL e4 (l.cut lo hi)) h⟩
  ·subst e e4
   obtain⟨a,rfl,ea⟩:=r.scr w3.i
   exact⟨a,_,rfl,ea,λb H4 hb s4 e4=>k b _ G3 H4 (w.trans (Grow.own w3.i s4)) (w.h.free hb) (w3.i.free hb) (OwnA.ofL e4 ((Fj ns).cut lo hi)) h⟩
theorem Age{G:Hp}{vs ws:List V}{ps qs:List PV}(h:Reps K C G vs ps)(h':Reps K C G ws qs):Reps K C G (vs++ws) (ps++qs):=LAt.append h h'
def Afm(p q:PV)(P:PV->Prop):Prop:=∃ps qs,p=.lst ps/\q=.lst qs/\ps.length+qs.length<=100000/\P (.lst (ps++qs))
def AmB(ua ub:UE):UE:=λρ P=>ua ρ λp=>ub ρ λq=>Afm p q P
theorem Ss{n:Nat}(h:n<=100000):n<sizeLine:=Nat.lt_of_le_of_lt h (by decide)
theorem Rg{ta tb:TE}{ua ub:UE}(ha:EB K C ω ta ua)(hb:EB K C ω tb ub):EF K C ω (tOp Aho ta tb) (AmB ua ub) :=
 λB G0 H0 own G σ H ρ P Q S hu k=>two ha hb S hu λv w p q G' H' gr r1 r2 ⟨ps,qs,e1,e2,hl,h⟩=>by
  subst e1 e2
  obtain⟨a,vs,rfl,ea,l⟩:=r1.lst gr.i
  obtain⟨b,ws,rfl,eb,l2⟩:=r2.lst gr.i
  exact⟨a,b,vs,ws,rfl,rfl,ea,eb,Nat.le_of_lt (Ss (by rw[l.1,l2.1];exact hl)),λc H4 hc s4 e4=>k c _ G' H4 (gr.trans (Grow.own gr.i s4)) (gr.h.free hc) (gr.i.free hc) (OwnA.ofL e4 (Age l l2)) h⟩
def uCB(ur:List PV->(PV->Prop)->Prop)(u:UA):UE:=λρ P=>u ρ λps=>ur ps P
theorem Ac0{ms:List Bool}{r:List V->Hp->VK->Prop}{ur:List PV->(PV->Prop)->Prop}{t:TA}{u:UA}
  (hr:∀G H vs ps P Q,Same G H->ArgsOk K C G H ms vs ps->ur ps P->(∀v p,Rep K C G v p->P p->Q v H)->r vs H Q) (ha:AU K C ω ms t u):EU K C ω (tCB r t) (uCB ur u) :=
 λB G0 H0 own G σ H ρ P Q S hu k=>ha B G0 H0 own G σ H ρ _ _ S hu λvs ps G1 H1 w1 r1 h1=>hr G1 H1 vs ps P Q w1.i r1 h1 λv p rv hp=>k v p G1 H1 w1 rv hp
theorem Tt{G H:Hp}{m:Bool}{vs:List V}{ps:List PV}(h:ArgsOk K C G H [m] vs ps):∃v p,vs=[v]/\ps=[p]/\RepB K C G H v p:=by
 match vs,ps,m,h with
 | [v],[p],true,h=>exact⟨v,p,rfl,rfl,.inl h.1⟩
 | [v],[p],false,h=>exact⟨v,p,rfl,rfl,h.1⟩
 | [],_,true,h=>cases h
 | [],_,false,h=>cases h
 | _::_,[],true,h=>cases h
 | _::_,[],false,h=>cases h
 | _::_::_,[_],true,h=>cases h.2
 | _::_::_,[_],false,h=>cases h.2
 | [_],_::_::_,true,h=>cases h.2
 | [_],_::_::_,false,h=>cases h.2
 | _::_::_,_::_::_,true,h=>cases h.2
 | _::_::_,_::_::_,false,h=>cases h.2
theorem Sa{G H:Hp}{m n:Bool}{vs:List V}{ps:List PV}(h:ArgsOk K C G H [m,n] vs ps):∃v w p q,vs=[v,w]/\ps=[p,q]/\RepB K C G H v p/\RepB K C G H w q:=by
 match vs,ps,m,h with
 | v::vs,p::ps,true,h=>obtain⟨w,q,rfl,rfl,r⟩:=Tt h.2;exact⟨v,w,p,q,rfl,rfl,.inl h.1,r⟩
 | v::vs,p::ps,false,h=>obtain⟨w,q,rfl,rfl,r⟩:=Tt h.2;exact⟨v,w,p,q,rfl,rfl,h.1,r⟩
 | [],_,true,h=>cases h
 | [],_,false,h=>cases h
 | _::_,[],true,h=>cases h
 | _::_,[],false,h=>cases h
def Acm(ps:List PV)(P:PV->Prop):Prop:=∃n:Nat,(ps=[.scr []]/\n=0\/(∃xs,ps=[.lst xs]/\n=xs.length)\/(∃xs,ps=[.tup xs]/\n=xs.length)\/∃ns,ps=[.scr ns]/\n=ns.length)/\P (.int n)
theorem Dy{m:Bool}{t:TA}{u:UA}(ha:AU K C ω [m] t u):EU K C ω (tCB (λxs H Q=>∃p ys,xs=[.ref p]/\(SqL K H p ys\/SqT K H p ys)/\Q (.int ys.length) H) t) (uCB Acm u) :=
 Ac0 (λG H vs ps P Q i ok h k=>by
  obtain⟨v,p,rfl,rfl,r⟩:=Tt ok
  obtain⟨n,h1,h2⟩:=h
  rcases h1 with ⟨e,rfl⟩ | ⟨xs,e,rfl⟩ | ⟨xs,e,rfl⟩ | ⟨ns,e,rfl⟩
  ·cases e
   obtain⟨a,rfl,ea⟩:=r.scr i
   exact⟨a,_,rfl,.inl ea,k _ _ (.int _) h2⟩
  ·cases e
   obtain⟨a,vs,rfl,ea,l⟩:=r.lst i
   exact⟨a,vs,rfl,.inl (SqL.of ea),by rw[l.1];exact k _ _ (.int _) h2⟩
  ·cases e
   obtain⟨a,vs,rfl,ea,l⟩:=r.tup i
   exact⟨a,vs,rfl,.inr (SqT.of ea),by rw[l.1];exact k _ _ (.int _) h2⟩
  ·cases e
   obtain⟨a,rfl,ea⟩:=r.scr i
   exact⟨a,_,rfl,.inl ea,by rw[length_map];exact k _ _ (.int _) h2⟩) ha
def Ag0(ps:List PV)(P:PV->Prop):Prop:=∃i j:Int,ps=[.int i,.int j]/\P (.int (if j<i then j else i))
def AhZ(ps:List PV)(P:PV->Prop):Prop:=∃i j:Int,ps=[.int i,.int j]/\P (.int (if j>i then j else i))
theorem Aki{m n:Bool}{t:TA}{u:UA}(ha:AU K C ω [m,n] t u):EU K C ω (tCB (λxs H Q=>∃i j,xs=[.int i,.int j]/\Q (.int (if j<i then j else i)) H) t) (uCB Ag0 u) :=
 Ac0 (λG H vs ps P Q i ok h k=>by
  obtain⟨v,w,p,q,rfl,rfl,r1,r2⟩:=Sa ok
  obtain⟨x,y,e,h⟩:=h
  cases e
  exact⟨x,y,by rw[r1.int,r2.int],k _ _ (.int _) h⟩) ha
theorem AdT{m n:Bool}{t:TA}{u:UA}(ha:AU K C ω [m,n] t u):EU K C ω (tCB (λxs H Q=>∃i j,xs=[.int i,.int j]/\Q (.int (if j>i then j else i)) H) t) (uCB AhZ u) :=
 Ac0 (λG H vs ps P Q i ok h k=>by
  obtain⟨v,w,p,q,rfl,rfl,r1,r2⟩:=Sa ok
  obtain⟨x,y,e,h⟩:=h
  cases e
  exact⟨x,y,by rw[r1.int,r2.int],k _ _ (.int _) h⟩) ha
def Adu(ps:List PV)(P:PV->Prop):Prop:=∃xs,(ps=[.lst xs]\/ps=[.tup xs]\/∃ns,ps=[.scr ns]/\xs=ns.map .int)/\P (.lst xs)
theorem Od{m:Bool}{t:TA}{u:UA}(ha:AU K C ω [m] t u):EF K C ω (tCB (λxs H Q=>∃p ys,xs=[.ref p]/\(SqL K H p ys\/SqT K H p ys)/\∀l H',H l=none->Same H H'->H' l=some (.lst ys)->Q (.ref l) H') t) (uCB Adu u) :=
 λB G0 H0 own G σ H ρ P Q S hu k=>ha B G0 H0 own G σ H ρ _ _ S hu λvs ps G1 H1 w1 r1 h1=>by
  obtain⟨v,p,rfl,rfl,r⟩:=Tt r1
  obtain⟨xs,h1,h2⟩:=h1
  rcases h1 with e | e | ⟨ns,e,rfl⟩
  ·cases e
   obtain⟨a,vs,rfl,ea,l⟩:=r.lst w1.i
   exact⟨a,vs,rfl,.inl (SqL.of ea),λb H4 hb s4 e4=>k b _ G1 H4 (w1.trans (Grow.own w1.i s4)) (w1.h.free hb) (w1.i.free hb) (OwnA.ofL e4 l) h2⟩
  ·cases e
   obtain⟨a,vs,rfl,ea,l⟩:=r.tup w1.i
   exact⟨a,vs,rfl,.inr (SqT.of ea),λb H4 hb s4 e4=>k b _ G1 H4 (w1.trans (Grow.own w1.i s4)) (w1.h.free hb) (w1.i.free hb) (OwnA.ofL e4 l) h2⟩
  ·cases e
   obtain⟨a,rfl,ea⟩:=r.scr w1.i
   exact⟨a,_,rfl,.inl ea,λb H4 hb s4 e4=>k b _ G1 H4 (w1.trans (Grow.own w1.i s4)) (w1.h.free hb) (w1.i.free hb) (OwnA.ofL e4 (Fj ns)) h2⟩
end
section
variable {K:Frag}{C:Addr}{ω:Om}{rm:Rm}
def AhA:US:=λd ρ=>d.nx ρ
def AfB(u w:US):US:=λd ρ=>u { d with nx:=w d } ρ
theorem Dg:SU K C ω rm Acs AhA:=λB G0 H0 own G σ H ρ D d S F h=>F.nx own G σ H ρ S h
theorem Bl{t t':TS}{u u':US}(h:SU K C ω rm t u)(h':SU K C ω rm t' u'):SU K C ω rm (Wl t t') (AfB u u'):=λB G0 H0 own G σ H ρ D d S F hu =>
 h B G0 H0 own G σ H ρ { D with nx:=t' D } { d with nx:=u' d } S ⟨λown' G' σ' H' ρ' S' q=>h' B G0 H0 own' G' σ' H' ρ' D d S' F q,F.rt,F.bk,F.ct⟩ hu
def AaL(i:Nat)(u:US):US:=λd ρ=>u d (Lf i ρ)
theorem Va(i:Nat){t:TS}{u:US}(h:SU K C ω rm t u):SU K C ω rm t (AaL i u):=λB G0 H0 own G σ H ρ D d S F hu =>
 let ⟨own',G',S'⟩:=S.share i
 h B G0 H0 own' G' σ H _ D d S' F hu
def Agp(ua:UE):US:=λd ρ=>ua ρ d.rt
theorem Dz{ta:TE}{ua:UE}(ha:EU K C ω ta ua):SU K C ω .sh (Uw ta) (Agp ua):=λB G0 H0 own G σ H ρ D d S F hu =>
 ha B G0 H0 own G σ H ρ _ _ S hu λv p G' H' w r h=>F.rt G' H' v p (S.gr.trans w) r h
theorem On{ta:TE}{ua:UE}(ha:EF K C ω ta ua):SU K C ω .fr (Uw ta) (Agp ua):=λB G0 H0 own G σ H ρ D d S F hu =>
 ha B G0 H0 own G σ H ρ _ _ S hu λa p G' H' w n g r h=>F.rt G' H' _ p (S.gr.trans w) ⟨a,rfl,S.gr.h.free n,g,r⟩ h
def Ahk(i:Nat):US:=λd ρ=>∃p,ρ[i]? = some (.ow p)/\d.rt p
theorem Gu{i:Nat}:SU K C ω .fr (Uw (Fn i)) (Ahk i):=λB G0 H0 own G σ H ρ D d S F ⟨p,e,h⟩=>by
 obtain⟨a,e1,o,r⟩:=S.sl i _ e
 obtain⟨f0,fg,_⟩:=S.fr i a o
 exact⟨_,e1,F.rt G H _ p S.gr ⟨a,rfl,f0,fg,r⟩ h⟩
def AmK(uc:UT)(u w:US):US:=λd ρ=>uc ρ λb=>if b=true then u d ρ else w d ρ
theorem Dr{tc:TT}{t t':TS}{uc:UT}{u u':US}(hc:TU K C ω tc uc)(h:SU K C ω rm t u)(h':SU K C ω rm t' u'):SU K C ω rm (Agb tc t t') (AmK uc u u'):=λB G0 H0 own G σ H ρ D d S F hu =>
 hc B G0 H0 own G σ H ρ _ _ S hu λb G' H' w q=>by
  cases b with
  | true=>exact Lo (h B G0 H0 own G' σ H' ρ D d (S.grow w) F (by simpa using q))
  | false=>exact Lw (h' B G0 H0 own G' σ H' ρ D d (S.grow w) F (by simpa using q))
def AlY(i:Nat)(ua:UE):US:=λd ρ=>ua ρ λp=>d.nx (ρ.set i (.sh p))
theorem Bx{i:Nat}{ta:TE}{ua:UE}(ha:EU K C ω ta ua):SU K C ω rm (Lj ta (Go i)) (AlY i ua):=λB G0 H0 own G σ H ρ D d S F hu =>
 ha B G0 H0 own G σ H ρ _ _ S hu λv p G' H' w r h=>F.nx _ G' _ H' _ ((S.grow w).setS r) h
def Ah5(i:Nat)(ua:UE):US:=λd ρ=>ua ρ λp=>d.nx (ρ.set i (.ow p))
theorem Dp{i:Nat}{ta:TE}{ua:UE}(ha:EF K C ω ta ua):SU K C ω rm (Lj ta (Go i)) (Ah5 i ua):=λB G0 H0 own G σ H ρ D d S F hu =>
 ha B G0 H0 own G σ H ρ _ _ S hu λa p G' H' w n g r h=>F.nx _ G' _ H' _ ((S.grow w).setO r (S.gr.h.free n) g λj z=>(let ⟨_,_,o,ho,_⟩:=S.fr j a z;by rw[n] at ho;cases ho)) h
def AdW(i:Nat):PV->Bh->(Bh->Prop)->Prop:=λp ρ P=>P (ρ.set i (.sh p))
theorem AaI{α:Type}:∀{l:List α} {i top:Nat} {x:α},i<top->(l.set i x).drop top=l.drop top
 | [],_,_,_,_=>rfl
 | _::_,_,0,_,h=>by omega
 | _::_,0,_+1,_,_=>rfl
 | _::l,i+1,t+1,x,h=>AaI (l:=l) (i:=i) (top:=t) (by omega)
theorem Ca{top i:Nat}(hi:i<top:=by decide):GU K C ω top (Go i) (AdW i):=λB G0 H0 own G σ H ρ v p P R S r h k=>k _ _ _ (S.setS r) (AaI hi) h
def Aeq:List PV->Bh->(Bh->Prop)->Prop:=λps ρ P=>ps=[]/\P ρ
def Abo(u:PV->Bh->(Bh->Prop)->Prop)(us:List PV->Bh->(Bh->Prop)->Prop):List PV->Bh->(Bh->Prop)->Prop:=λps ρ P=>∃p r,ps=p::r/\u p ρ λρ'=>us r ρ' P
theorem Gb{top:Nat}:GsU K C ω top Ab8 Aeq:=λB G0 H0 own G σ H ρ vs ps P R S r ⟨e,h⟩ k=>by
 subst e
 exact⟨List.eq_nil_of_length_eq_zero r.1,k _ _ _ S rfl h⟩
theorem Cr{top:Nat}{g:TG}{gs:TGs}{u:PV->Bh->(Bh->Prop)->Prop}{us:List PV->Bh->(Bh->Prop)->Prop}(hg:GU K C ω top g u)(hs:GsU K C ω top gs us):GsU K C ω top (Vu g gs) (Abo u us):=λB G0 H0 own G σ H ρ vs ps P R S r ⟨p,q,e,h⟩ k=>by
 subst e
 match vs,r with
 | [],r=>have:=r.1;simp at this
 | v::vs,r =>
  obtain⟨r1,r2⟩:=r.uncons
  exact⟨v,vs,rfl,hg B G0 H0 own G σ H ρ v p _ _ S r1 h λown' σ' ρ' S' dr h'=>hs B G0 H0 own' G σ' H ρ' vs q P R S' r2 h' λown2 σ2 ρ2 S2 dr2 h2=>k own2 σ2 ρ2 S2 (dr2.trans dr) h2⟩
def Yx(n:Nat)(us:List PV->Bh->(Bh->Prop)->Prop):PV->Bh->(Bh->Prop)->Prop:=λp ρ P=>∃ps,p=.tup ps/\ps.length=n/\us ps ρ P
theorem Jb{top n:Nat}{gs:TGs}{us:List PV->Bh->(Bh->Prop)->Prop}(hs:GsU K C ω top gs us):GU K C ω top (Xa K n gs) (Yx n us):=λB G0 H0 own G σ H ρ v p P R S r ⟨ps,e,hl,h⟩ k=>by
 subst e
 cases r with
 | tup e l q=>exact⟨_,_,rfl,SqT.of (S.gr.i _ _ e),by rw[l];exact hl,hs B G0 H0 own G σ H ρ _ ps P R S ⟨l,q⟩ h k⟩
def Aj4(ua:UE)(ug:PV->Bh->(Bh->Prop)->Prop):US:=λd ρ=>ua ρ λp=>ug p ρ d.nx
theorem Ae0{top:Nat}{ta:TE}{ua:UE}{g:TG}{ug:PV->Bh->(Bh->Prop)->Prop}(ha:EU K C ω ta ua)(hg:GU K C ω top g ug):SU K C ω rm (Lj ta g) (Aj4 ua ug):=λB G0 H0 own G σ H ρ D d S F hu =>
 ha B G0 H0 own G σ H ρ _ _ S hu λv p G' H' w r h=>hg B G0 H0 own G' σ H' ρ v p _ _ (S.grow w) r h λown' σ' ρ' S' _ q=>F.nx own' G' σ' H' ρ' S' q
theorem Le{G:Hp}{vs:List V}{ps:List PV}{v:V}{p:PV}(h:Reps K C G vs ps)(r:Rep K C G v p):Reps K C G (vs++[v]) (ps++[p]):=LAt.snoc h r
theorem Sat.list{B G0 H0 G H:Hp}{own:Nat->Option Addr}{σ:St}{ρ:Bh}{i:Nat}{ps:List PV}(S:Sat K C ω B G0 H0 own G σ H ρ)(e:ρ[i]? = some (.ow (.lst ps))):∃a vs,σ[i]? = some (some (.ref a))/\own i=some a/\H a=some (.lst vs)/\Reps K C G vs ps:=by
 obtain⟨a,e1,o,vs,h1,h2⟩:=S.sl i _ e
 exact⟨a,vs,e1,o,h1,h2⟩
theorem Abx{B G0 H0 G H:Hp}{own:Nat->Option Addr}{σ:St}{ρ:Bh}{i:Nat}{r:V->List V->Hp->VK->Prop}{t:TA}{Q:VK}{ps:List PV}(S:Sat K C ω B G0 H0 own G σ H ρ)(e:ρ[i]? = some (.ow (.lst ps)))
  (k:∀a vs,σ[i]? = some (some (.ref a))->own i=some a->H a=some (.lst vs)->Reps K C G vs ps->t σ H λxs H2=>r (.ref a) xs H2 Q):tBM K "list" r (Fn i) t σ H Q:=by
 obtain⟨a,vs,e1,o,h1,h2⟩:=S.list e
 exact⟨_,e1,.inl ⟨rfl,_,SqL.of h1⟩,k a vs e1 o h1 h2⟩
def Afr(i:Nat)(ρ:Bh)(N:Bh->Prop)(qs:List PV):Prop:=∃q ps,qs=[q]/\ρ[i]? = some (.ow (.lst ps))/\ps.length<100000/\N (ρ.set i (.ow (.lst (ps++[q]))))
def Aii(i:Nat)(u:UA):US:=λd ρ=>(∃ps,ρ[i]? = some (.ow (.lst ps)))/\u ρ λqs=>Afr i ρ d.nx qs
theorem Gf{i:Nat}{t:TA}{u:UA}(ha:AU K C ω [true] t u):SU K C ω rm (Vg (tBM K "list" Qe (Fn i) t)) (Aii i u):=λB G0 H0 own G σ H ρ D d S F ⟨⟨ps0,e0⟩,hu⟩ =>
 Abx S e0 λa vs0 e1 o _ _=>ha B G0 H0 own G σ H ρ _ _ S hu λxs qs G' H' w ok ⟨q,ps,eq,ep,hl,h⟩=>by
  have S':=S.grow w
  obtain⟨a',vs,e1',o',h1,h2⟩:=S'.list ep
  rw[o] at o';cases o'
  subst eq
  match xs,ok with
  | [x],ok =>
   have rx:Rep K C G' x q:=ok.1
   exact⟨a,vs,x,rfl,rfl,h1,Ss (by rw[h2.1];omega),λH2 c e2=>F.nx own G' σ H2 _ (S'.chg o e1 c (OwnA.ofL e2 (Le h2 rx))) h⟩
  | [],ok=>cases ok
  | _::_::_,ok=>cases ok.2
theorem AbB:EF K C ω Aak (λ_ P=>P (.dk [])):=λB G0 H0 own G σ H ρ P Q S hu k p hp =>
 k p _ G _ (Grow.own S.gr.i (Same.new hp)) hp (S.gr.i.free hp) (by first | exact OwnA.ofD Bn LAt.nil | exact OwnA.ofDt Bn LAt.nil) hu
def kP:Key->PV
 | .inl i=>.int i
 | .inr x=>.str x
def Gg{κ:Type} [DecidableEq κ] (kvs:List (κ×PV)) (k:κ):Option PV:=(kvs.find? λkv=>decide (kv.1=k)).map (·.2)
def Nc{κ:Type} [DecidableEq κ] (kvs:List (κ×PV)) (k:κ) (v:PV):List (κ×PV) :=
 if kvs.any (λkv=>decide (kv.1=k)) then kvs.map (λkv=>if kv.1=k then (kv.1,v) else kv) else kvs++[(k,v)]
theorem Vq{κ:Type} [DecidableEq κ] {G:Hp}:∀{kvs:List (κ×V)} {ps:List (κ×PV)} (k:κ),LAt (KRep K C) G kvs ps->(Cs kvs k=none/\Gg ps k=none)\/∃v p,Cs kvs k=some v/\Gg ps k=some p/\Rep K C G v p
 | [],[],_,_=>.inl ⟨rfl,rfl⟩
 | [],_::_,_,h=>by have:=h.1;simp at this
 | _::_,[],_,h=>by have:=h.1;simp at this
 | x::xs,y::ys,k,h=>by
  obtain⟨⟨e,r⟩,h2⟩:=h.uncons
  unfold Cs Gg
  rw[find?_cons,find?_cons,<- e]
  by_cases z:x.1=k
  ·rw[decide_eq_true z];exact .inr ⟨_,_,rfl,rfl,r⟩
  ·rw[decide_eq_false z];exact Vq k h2
theorem AcR{G H:Hp}{v:V}{k:Key}(h:RepB K C G H v (kP k)):v=kV k:=by
 cases k with
 | inl i=>exact h.int
 | inr x=>exact h.str
end
section
variable {K:Frag}{C:Addr}{ω:Om}{rm:Rm}
theorem AkM{κ:Type} [DecidableEq κ] {G:Hp} {kvs:List (κ×V)} {ps:List (κ×PV)} {k:κ} {v:V} {p:PV} (h:LAt (KRep K C) G kvs ps) (r:Rep K C G v p):LAt (KRep K C) G (Jk kvs k v) (Nc ps k p):=by
 have hany:(kvs.any λkv=>decide (kv.1=k))=(ps.any λkv=>decide (kv.1=k)):=by
  clear r
  induction kvs generalizing ps with
  | nil=>cases ps with
   | nil=>rfl
   | cons y ys=>have:=h.1;simp at this
  | cons x xs ih=>cases ps with
   | nil=>have:=h.1;simp at this
   | cons y ys =>
    obtain⟨⟨e,_⟩,h2⟩:=h.uncons
    rw[any_cons,any_cons,e,ih h2]
 unfold Jk Nc
 rw[hany]
 split
 ·refine⟨by rw[length_map,length_map,h.1],λi x y e1 e2=>?_⟩
  rw[getElem?_map] at e1 e2
  obtain⟨x',hx,rfl⟩:=map_eq_some_iff.mp e1
  obtain⟨y',hy,rfl⟩:=map_eq_some_iff.mp e2
  obtain⟨q1,q2⟩:=h.2 i x' y' hx hy
  by_cases z:x'.1=k
  ·rw[if_pos z,if_pos (by rw[<- q1];exact z)];exact⟨q1,r⟩
  ·rw[if_neg z,if_neg (by rw[<- q1];exact z)];exact⟨q1,q2⟩
 ·exact LAt.snoc h ⟨rfl,r⟩
def AgG(neg:Bool)(q p:PV)(P:PV->Prop):Prop:=∃kvs k,p=.dk kvs/\q=kP k/\P (.bl (if neg then !(Gg kvs k).isSome else (Gg kvs k).isSome))
def Amx(neg:Bool)(ua ub:UE):UE:=λρ P=>ua ρ λq=>ub ρ λp=>AgG neg q p P
theorem Wp{G H:Hp}{v w:V}{kvs:List (Key×PV)}{k:Key}(i:Same G H)(r1:RepB K C G H w (.dk kvs))(r2:RepB K C G H v (kP k)):∃a o,w=.ref a/\IsD H a/\DGet H a v o/\((o=none/\Gg kvs k=none)\/∃x p,o=some x/\Gg kvs k=some p/\Rep K C G x p):=by
 obtain⟨a,vs,rfl,ea,l⟩:=r1.dk i
 rw[AcR r2]
 refine⟨a,Cs vs k,rfl,.inl ⟨_,.inl ea⟩,DGet.k ea,?_⟩
 rcases Vq k l with ⟨h1,h2⟩ | ⟨x,p,h1,h2,h3⟩
 ·exact .inl ⟨h1,h2⟩
 ·exact .inr ⟨x,p,h1,h2,h3⟩
theorem AlU{ta tb:TE}{ua ub:UE}(ha:EB K C ω ta ua)(hb:EB K C ω tb ub):EU K C ω (Agu ta tb) (Amx false ua ub):=λB G0 H0 own G σ H ρ P Q S hu k =>
 ha B G0 H0 own G σ H ρ _ _ S hu λv q G1 H1 w1 r1 h1=>hb B G0 H0 own G1 σ H1 ρ _ _ (S.grow w1) h1 λw p G2 H2 w2 r2 ⟨kvs,key,e1,e2,h⟩=>by
  subst e1 e2
  obtain⟨a,o,rfl,_,hg,ho⟩:=Wp w2.i r2 (r1.grow w2)
  refine⟨a,o,rfl,hg,?_⟩
  have:o.isSome=(Gg kvs key).isSome:=by
   rcases ho with ⟨h1,h2⟩ | ⟨x,p,h1,h2,h3⟩
   ·rw[h1,h2];rfl
   ·rw[h1,h2];rfl
  rw[this]
  exact k _ _ G2 H2 (w1.trans w2) (.bl _) h
def We(p q:PV)(P:PV->Prop):Prop:=∃kvs k x,p=.dk kvs/\q=kP k/\Gg kvs k=some x/\P x
def Ahf(ua ub:UE):UE:=λρ P=>ua ρ λp=>ub ρ λq=>We p q P
theorem AbC{ta tb:TE}{ua ub:UE}(ha:EB K C ω ta ua)(hb:EB K C ω tb ub):EU K C ω (Yz ta tb) (Ahf ua ub):=λB G0 H0 own G σ H ρ P Q S hu k =>
 ha B G0 H0 own G σ H ρ _ _ S hu λv q G1 H1 w1 r1 h1=>hb B G0 H0 own G1 σ H1 ρ _ _ (S.grow w1) h1 λw p G2 H2 w2 r2 ⟨kvs,key,x,e1,e2,e3,h⟩=>by
  subst e1 e2
  obtain⟨a,o,rfl,_,hg,ho⟩:=Wp w2.i (r1.grow w2) r2
  rcases ho with ⟨h1,h2⟩ | ⟨y,p,h1,h2,h3⟩
  ·rw[e3] at h2;cases h2
  ·rw[e3] at h2;cases h2
   subst h1
   exact⟨a,y,rfl,hg,k _ _ G2 H2 (w1.trans w2) h3 h⟩
def Aae(kvs:List (Key×PV))(q z:PV)(P:PV->Prop):Prop:=∃k,q=kP k/\P ((Gg kvs k).getD z)
def Ac9(i:Nat)(ub uc:UE):UE:=λρ P=>∃s kvs,ρ[i]? = some s/\s.val=some (.dk kvs)/\ub ρ λq=>uc ρ λz=>Aae kvs q z P
theorem Uj{i:Nat}{tb tc:TE}{ub uc:UE}(hb:EB K C ω tb ub)(hc:EU K C ω tc uc):EU K C ω (Zp (Fn i) tb tc) (Ac9 i ub uc):=λB G0 H0 own G σ H ρ P Q S ⟨s,kvs,e,ev,hu⟩ k =>
 Bc B G0 H0 own G σ H ρ (λp=>p=.dk kvs) _ S ⟨s,_,e,ev,rfl⟩ λv q G1 H1 w1 r1 e0=>by
  subst e0
  obtain⟨a,vs,rfl,ea,l⟩:=r1.dk w1.i
  refine⟨a,rfl,.inl ⟨_,.inl ea⟩,hb B G0 H0 own G1 σ H1 ρ _ _ (S.grow w1) hu λw p G2 H2 w2 r2 h2=>hc B G0 H0 own G2 σ H2 ρ _ _ ((S.grow w1).grow w2) h2 λz pz G3 H3 w3 r3 ⟨key,e2,h⟩=>?_⟩
  subst e2
  obtain⟨a',o,e,_,hg,ho⟩:=Wp w3.i ((r1.grow w2).grow w3) (r2.grow w3)
  cases e
  refine⟨o,hg,?_⟩
  have w:=(w1.trans w2).trans w3
  rcases ho with ⟨h1,h2⟩ | ⟨y,p,h1,h2,h3⟩
  ·rw[h2] at h;subst h1;exact k _ _ G3 H3 w r3 h
  ·rw[h2] at h;subst h1;exact k _ _ G3 H3 w h3 h
def Acj(i:Nat)(ρ:Bh)(N:Bh->Prop)(p q:PV):Prop:=∃kvs k,ρ[i]? = some (.ow (.dk kvs))/\q=kP k/\kvs.length<100000/\N (ρ.set i (.ow (.dk (Nc kvs k p))))
def Ah9(i:Nat)(ub uv:UE):US:=λd ρ=>(∃kvs,ρ[i]? = some (.ow (.dk kvs)))/\uv ρ λp=>ub ρ λq=>Acj i ρ d.nx p q
theorem Rh{i:Nat}{tb tv:TE}{ub uv:UE}(hb:EB K C ω tb ub)(hv:EU K C ω tv uv):SU K C ω rm (Acc (Fn i) tb tv) (Ah9 i ub uv):=λB G0 H0 own G σ H ρ D d S F ⟨⟨kvs0,e0⟩,hu⟩ =>
 hv B G0 H0 own G σ H ρ _ _ S hu λv p G1 H1 w1 r1 h1=>by
  have S1:=S.grow w1
  obtain⟨a,ea,o,_⟩:=S.sl i _ e0
  refine⟨_,ea,hb B G0 H0 own G1 σ H1 ρ _ _ S1 h1 λw q G2 H2 w2 r2 ⟨kvs,k,e,e2,hl,h⟩=>?_⟩
  subst e2
  have S2:=S1.grow w2
  obtain⟨a',ea',o',vs,ha,l⟩:=S2.sl i _ e
  rw[o] at o';cases o'
  rw[AcR r2]
  exact⟨a,_,rfl,DPut.k ha (Ss (by rw[l.1];omega)),F.nx own G2 σ _ _ (S2.chg o ea Chg.put (OwnA.ofD Bn (AkM l (r1.mono w2.g)))) h⟩
end
section
variable {K:Frag}{C:Addr}{ω:Om}{rm:Rm}
abbrev UI:=Bh->(List PV->Prop)->Prop
def Tq(ps:List PV)(ug:PV->Bh->(Bh->Prop)->Prop)(ub:US):US:=λd ρ=>∃I:Nat->Bh->Prop,I 0 ρ/\(∀k p ρ,ps[k]? = some p->I k ρ->ug p ρ λρ'=>ub { d with nx:=I (k+1),ct:=I (k+1),bk:=d.nx } ρ')/\∀ρ,I ps.length ρ->d.nx ρ
def Afz(ui:UI)(ug:PV->Bh->(Bh->Prop)->Prop)(ub:US):US:=λd ρ=>ui ρ λps=>Tq ps ug ub d ρ
def bL(p:PV)(R:List PV->Prop):Prop:=∃ps,(p=.lst ps\/∃ns,p=.scr ns/\ps=ns.map .int)/\R ps
def uiL(ua:UE):UI:=λρ R=>ua ρ λp=>bL p R
theorem Ld{B B1 G0 H0:Hp}{D:Ends}{d:Fv}{N:Bh->Prop}{M:St->Hp->Prop}(F:AcC K C ω rm B G0 H0 D d)(hb:Same B B1)(hM:∀own G σ H ρ,Sat K C ω B1 G0 H0 own G σ H ρ->N ρ->M σ H) :
  AcC K C ω rm B1 G0 H0 { D with nx:=M,ct:=M,bk:=D.nx } { d with nx:=N,ct:=N,bk:=d.nx } :=
 ⟨hM,F.rt,λown G σ H ρ S h=>F.nx own G σ H ρ (S.base (hb.trans S.kb)) h,hM⟩
theorem Qs{top:Nat}{ta:TE}{ua:UE}{g:TG}{ug:PV->Bh->(Bh->Prop)->Prop}{tb:TS}{ub:US}(ha:EU K C ω ta ua)(hg:GU K C ω top g ug)(hb:SU K C ω rm tb ub):SU K C ω rm (Na (Qp K ta) g tb) (Afz (uiL ua) ug ub) :=
 λB G0 H0 own G σ H ρ D d S F hu=>ha B G0 H0 own G σ H ρ _ _ S hu λv p G1 H1 w1 r1 ⟨ps,e,I,i0,ist,iend⟩=>by
  have S1:=S.grow w1
  obtain⟨a,vs,rfl,sq,rp⟩:∃a vs,v=.ref a/\SqL K G1 a vs/\Reps K C G1 vs ps:=by
   rcases e with e | ⟨ns,e,e2⟩
   ·subst e
    cases r1 with
    | lst e l q=>exact⟨_,_,rfl,SqL.of e,l,q⟩
   ·subst e e2
    cases r1 with
    | scr e=>exact⟨_,_,rfl,e,Fj ns⟩
  refine⟨a,rfl,⟨vs,w1.i.seq sq⟩,Rx (xs:=vs) (λk σ' H'=>∃own' G' ρ',Sat K C ω G1 G0 H0 own' G' σ' H' ρ'/\I k ρ') ⟨own,G1,ρ,S1.base (Same.refl _),i0⟩ (λk σ' H' _ ⟨own',G',ρ',S',_⟩=>(S'.kb.trans S'.gr.i).seq sq) (λk x σ' H' hx ⟨own',G',ρ',S',hi⟩=>?_) λσ' H' ⟨own',G',ρ',S',hi⟩=>?_⟩
  ·obtain⟨q,hq,rq⟩:=rp.get hx
   exact hg G1 G0 H0 own' G' σ' H' ρ' x q _ _ S' (rq.mono S'.kb) (ist k q ρ' hq hi) λown2 σ2 ρ2 S2 _ h2=>hb G1 G0 H0 own2 G' σ2 H' ρ2 _ _ S2 (Ld F S1.kb λown3 G3 σ3 H3 ρ3 S3 h3=>⟨own3,G3,ρ3,S3,h3⟩) h2
  ·rw[rp.1] at hi
   exact F.nx own' G' σ' H' ρ' (S'.base (S1.kb.trans S'.kb)) (iend ρ' hi)
def uiB(i:Nat):UI:=λρ R=>∃s p ps,ρ[i]? = some s/\(s=.bo p\/s=.sh p)/\(p=.lst ps\/∃ns,p=.scr ns/\ps=ns.map .int)/\R ps
theorem Nh{top:Nat}{i:Nat}{g:TG}{ug:PV->Bh->(Bh->Prop)->Prop}{tb:TS}{ub:US}(hg:GU K C ω top g ug)(hb:SU K C ω rm tb ub):SU K C ω rm (Na (Qp K (Fn i)) g tb) (Afz (uiB i) ug ub) :=
 λB G0 H0 own G σ H ρ D d S F ⟨s,p,ps,es,ek,e,I,i0,ist,iend⟩=>by
  have key:∃a vs,σ[i]? = some (some (.ref a))/\(∀G' H',Same G G'->Same H0 H'->Same G' H'->SqL K H' a vs)/\Reps K C G vs ps:=by
   rcases ek with ek | ek
   ·subst ek
    obtain⟨v,ev,rb⟩:=S.sl i _ es
    rcases e with e | ⟨ns,e,e2⟩
    ·subst e
     rcases rb with rb | ⟨a,e2,vs,h1,h2⟩
     ·cases rb with
      | lst e l q=>exact⟨_,_,ev,λG' H' s1 s2 s3=>SqL.of (s3 _ _ (s1 _ _ (S.gr.g _ _ e))),l,λj x y h1 h2=>(q j x y h1 h2).mono S.gr.g⟩
     ·subst e2
      exact⟨a,vs,ev,λG' H' s1 s2 s3=>SqL.of (s2 _ _ h1),h2.mono S.gr.g⟩
    ·subst e e2
     rcases rb with rb | ⟨a,e2,h⟩
     ·cases rb with
      | scr e=>exact⟨_,_,ev,λG' H' s1 s2 s3=>s3.seq (s1.seq (S.gr.g.seq e)),Fj ns⟩
     ·exact h.elim
   ·subst ek
    obtain⟨v,ev,rb⟩:=S.sl i _ es
    rcases e with e | ⟨ns,e,e2⟩
    ·subst e
     cases rb with
     | lst e l q=>exact⟨_,_,ev,λG' H' s1 s2 s3=>SqL.of (s3 _ _ (s1 _ _ e)),l,q⟩
    ·subst e e2
     cases rb with
     | scr e=>exact⟨_,_,ev,λG' H' s1 s2 s3=>s3.seq (s1.seq e),Fj ns⟩
  obtain⟨a,vs,ev,sq,rp⟩:=key
  refine⟨_,ev,a,rfl,⟨vs,sq G H (Same.refl _) S.gr.h S.gr.i⟩,Rx (xs:=vs) (λk σ' H'=>∃own' G' ρ',Sat K C ω G G0 H0 own' G' σ' H' ρ'/\I k ρ') ⟨own,G,ρ,S.base (Same.refl _),i0⟩ (λk σ' H' _ ⟨own',G',ρ',S',_⟩=>sq G' H' S'.kb S'.gr.h S'.gr.i) (λk x σ' H' hx ⟨own',G',ρ',S',hi⟩=>?_) λσ' H' ⟨own',G',ρ',S',hi⟩=>?_⟩
  ·obtain⟨q,hq,rq⟩:=rp.get hx
   exact hg G G0 H0 own' G' σ' H' ρ' x q _ _ S' (rq.mono S'.kb) (ist k q ρ' hq hi) λown2 σ2 ρ2 S2 _ h2=>hb G G0 H0 own2 G' σ2 H' ρ2 _ _ S2 (Ld F S.kb λown3 G3 σ3 H3 ρ3 S3 h3=>⟨own3,G3,ρ3,S3,h3⟩) h2
  ·rw[rp.1] at hi
   exact F.nx own' G' σ' H' ρ' (S'.base (S.kb.trans S'.kb)) (iend ρ' hi)
def Ve(lo:Int)(n:Nat)(ug:PV->Bh->(Bh->Prop)->Prop)(ub:US):US:=λd ρ=>∃I:Nat->Bh->Prop,I 0 ρ/\(∀k ρ,k<n->I k ρ->ug (.int (lo+k)) ρ λρ'=>ub { d with nx:=I (k+1),ct:=I (k+1),bk:=d.nx } ρ')/\∀ρ,I n ρ->d.nx ρ
def bR1(R:Nat->Prop)(ps:List PV):Prop:=∃j:Int,ps=[.int j]/\-(2^62)<=j/\j<2^62/\R j.toNat
def Ahz(u:UA)(ug:PV->Bh->(Bh->Prop)->Prop)(ub:US):US:=λd ρ=>u ρ λps=>bR1 (λn=>Ve 0 n ug ub d ρ) ps
def bR2(R:Int->Nat->Prop)(ps:List PV):Prop:=∃i j:Int,ps=[.int i,.int j]/\(-(2^62)<=i/\i<2^62/\-(2^62)<=j/\j<2^62)/\R i (j - i).toNat
def Ahh(u:UA)(ug:PV->Bh->(Bh->Prop)->Prop)(ub:US):US:=λd ρ=>u ρ λps=>bR2 (λi n=>Ve i n ug ub d ρ) ps
theorem AhW{top:Nat}{B G0 H0 G H:Hp}{own:Nat->Option Addr}{σ:St}{ρ:Bh}{D:Ends}{d:Fv}{lo:Int}{n:Nat}{g:TG}{ug:PV->Bh->(Bh->Prop)->Prop}{tb:TS}{ub:US}(hg:GU K C ω top g ug)(hb:SU K C ω rm tb ub)(S:Sat K C ω B G0 H0 own G σ H ρ)(F:AcC K C ω rm B G0 H0 D d)(h:Ve lo n ug ub d ρ) :
  ∃W:Nat->Nat->St->Hp->Prop,(∃m,W 0 m σ H)/\∀i m σ H,W i m σ H->((Itr lo n).stop i H/\D.nx σ H)\/((Itr lo n).go i H/\∃N:St->Hp->Prop,(∀σ' H',N σ' H'->∃m',m'<m/\W (i+1) m' σ' H')/\∀x H',(Itr lo n).yld i H x H'->g x σ H' λσ2 H2=>tb { D with nx:=N,ct:=N,bk:=D.nx } σ2 H2):=by
 obtain⟨I,i0,ist,iend⟩:=h
 refine Xm (λk σ' H'=>∃own' G' ρ',Sat K C ω B G0 H0 own' G' σ' H' ρ'/\I k ρ') ⟨own,G,ρ,S,i0⟩ (λk σ' H' hk ⟨own',G',ρ',S',hi⟩=>?_) λσ' H' ⟨own',G',ρ',S',hi⟩=>F.nx own' G' σ' H' ρ' S' (iend ρ' hi)
 exact hg B G0 H0 own' G' σ' H' ρ' _ _ _ _ S' (.int _) (ist k ρ' hk hi) λown2 σ2 ρ2 S2 _ h2=>hb B G0 H0 own2 G' σ2 H' ρ2 _ _ S2 (Ld F (Same.refl _) λown3 G3 σ3 H3 ρ3 S3 h3=>⟨own3,G3,ρ3,S3,h3⟩) h2
theorem Ajg{top:Nat}{m:Bool}{t:TA}{u:UA}{g:TG}{ug:PV->Bh->(Bh->Prop)->Prop}{tb:TS}{ub:US}(ha:AU K C ω [m] t u)(hg:GU K C ω top g ug)(hb:SU K C ω rm tb ub):SU K C ω rm (Na (Vw t) g tb) (Ahz u ug ub) :=
 λB G0 H0 own G σ H ρ D d S F hu=>ha B G0 H0 own G σ H ρ _ _ S hu λvs ps G1 H1 w1 ok ⟨j,e,h1,h2,h⟩=>by
  obtain⟨v,p,rfl,e2,r⟩:=Tt ok
  rw[e] at e2;cases e2
  exact⟨j,by rw[r.int],h1,h2,AhW hg hb (S.grow w1) F h⟩
theorem Aa7{top:Nat}{m n:Bool}{t:TA}{u:UA}{g:TG}{ug:PV->Bh->(Bh->Prop)->Prop}{tb:TS}{ub:US}(ha:AU K C ω [m,n] t u)(hg:GU K C ω top g ug)(hb:SU K C ω rm tb ub):SU K C ω rm (Na (Ag7 t) g tb) (Ahh u ug ub) :=
 λB G0 H0 own G σ H ρ D d S F hu=>ha B G0 H0 own G σ H ρ _ _ S hu λvs ps G1 H1 w1 ok ⟨i,j,e,h1,h⟩=>by
  obtain⟨v,w,p,q,rfl,e2,r1,r2⟩:=Sa ok
  rw[e] at e2;cases e2
  exact⟨i,j,by rw[r1.int,r2.int],h1,AhW hg hb (S.grow w1) F h⟩
end
section
variable {K:Frag}{C:Addr}{ω:Om}
def boS:Sl->Sl
 | .ow p=>.bo p
 | .fz _ kvs=>.bz kvs
 | .fl _ ps=>.bo (.lst ps)
 | .om _ p=>.bo p
 | s=>s
def compρ(k:Nat)(fr:List Nat)(ρ:Bh):Bh:=replicate k .un++fr.map λi=>boS ((ρ[i]?).getD .un)
theorem Sat.comp{B G0 H0 G1 H1:Hp}{own:Nat->Option Addr}{σ:St}{ρ:Bh}(S:Sat K C ω B G0 H0 own G1 σ H1 ρ)(k:Nat)(fr:List Nat){G H:Hp}(w:Grow G1 H1 G H):Sat K C Om.no G1 G1 H1 (λ_=>none) G (compσ k fr σ) H (compρ k fr ρ):=by
 refine⟨w.g,w,?_,λi j a h=>(by cases h),λi a h=>(by cases h),λi s h=>?_,λ_ _ _ z=>z.elim⟩
 ·unfold compσ compρ;simp
 ·by_cases hk:i<k
  ·unfold compρ at h
   rw[getElem?_append_left (by rw[length_replicate];exact hk),getElem?_replicate,if_pos hk] at h
   cases h;trivial
  ·unfold compρ at h
   rw[getElem?_append_right (by rw[length_replicate];omega),length_replicate,getElem?_map] at h
   obtain⟨j,hj,e⟩:=map_eq_some_iff.mp h
   have hσ:(compσ k fr σ)[i]? = some (σ[j]?).join:=by
    unfold compσ
    rw[getElem?_append_right (by rw[length_replicate];omega),length_replicate,getElem?_map,hj];rfl
   cases e2:ρ[j]? with
   | none=>rw[e2] at e;cases e;trivial
   | some s0 =>
    rw[e2] at e
    have q:=S.sl j s0 e2
    cases s0 with
    | un=>cases e;trivial
    | sh p=>cases e;obtain⟨v,ev,r⟩:=q;exact⟨v,by rw[hσ,ev];rfl,r.mono w.g⟩
    | bo p=>cases e;obtain⟨v,ev,r⟩:=q;exact⟨v,by rw[hσ,ev];rfl,r.grow S.gr⟩
    | ow p=>cases e;obtain⟨a,ev,_,r⟩:=q;exact⟨_,by rw[hσ,ev];rfl,.inr ⟨a,rfl,r⟩⟩
    | fz z kvs=>cases e;obtain⟨ev,_,h1,h2⟩:=q;exact⟨z.1,z.2.1,z.2.2,by rw[hσ,ev];rfl,h1,KReps.mono h2 w.g⟩
    | bz kvs=>cases e;obtain⟨a,o,vs,ev,h1,h2⟩:=q;exact⟨a,o,vs,by rw[hσ,ev];rfl,S.gr.h _ _ h1,KReps.mono h2 w.g⟩
    | fl z ps=>cases e;obtain⟨ev,_,h1,h2⟩:=q;exact⟨_,by rw[hσ,ev];rfl,.inr ⟨z.1,rfl,OwnA.ofL h1 h2⟩⟩
    | om a p=>cases e;obtain⟨ev,_,r⟩:=q;exact⟨_,by rw[hσ,ev];rfl,.inr ⟨a,rfl,r⟩⟩
def Ait:UT:=λ_ P=>P true
theorem Ji:TU K C ω AcN Ait:=λB G0 H0 own G σ H ρ P Q S hu k=>k true G H (Grow.refl S.gr.i) hu
def Ln(ps:List PV)(ug:PV->Bh->(Bh->Prop)->Prop)(uc:UT)(ue:UE)(ρ':Bh)(P:PV->Prop):Prop:=∃I:Nat->List PV->Prop,I 0 []/\(∀n p rs,ps[n]? = some p->I n rs->ug p ρ' λρ2=>uc ρ2 λb=>if b=true then ue ρ2 λq=>I (n+1) (rs++[q]) else I (n+1) rs)/\∀rs,I ps.length rs->P (.lst rs)
def CSt(K:Frag)(C:Addr)(G1 H1:Hp)(D:Addr)(I:Nat->List PV->Prop)(n:Nat)(H:Hp):Prop:=∃G ys rs,Grow G1 H1 G H/\G D=none/\H D=some (.lst ys)/\Reps K C G ys rs/\rs.length<=n/\I n rs
theorem Sn{B G0 H0 G1 H1:Hp}{own:Nat->Option Addr}{σ:St}{ρ:Bh}(S:Sat K C ω B G0 H0 own G1 σ H1 ρ){k:Nat}{fr:List Nat}{g:TG}{ug:PV->Bh->(Bh->Prop)->Prop}{tc:TT}{uc:UT}{te:TE}{ue:UE}(hg:GU K C Om.no k g ug)(hc:TU K C Om.no tc uc)(he:EU K C Om.no te ue){D:Addr}(hD:H1 D=none){I:Nat->List PV->Prop}{n:Nat}(hn:n<100000){x:V}{p:PV}{H':Hp}{N:Hp->Prop}
  (rx:∀G,Same G1 G->Rep K C G x p) (st:CSt K C G1 H1 D I n H') (hN:∀H'',CSt K C G1 H1 D I (n+1) H''->N H'') (hs:∀rs,I n rs->ug p (compρ k fr ρ) λρ2=>uc ρ2 λb=>if b=true then ue ρ2 λq=>I (n+1) (rs++[q]) else I (n+1) rs) :
  g x (compσ k fr σ) H' λσ2 H2=>σ2.drop k=(compσ k fr σ).drop k/\tc σ2 H2 λb H3=>if b=true then te σ2 H3 (λy H4=>∃ys,H4 D=some (.lst ys)/\ys.length<sizeLine/\N (upd H4 D (.lst (ys++[y])))) else N H3:=by
 obtain⟨G,ys,rs,w,gD,eD,ry,hl,hi⟩:=st
 refine hg G1 G1 H1 _ G _ H' _ x p _ _ (S.comp k fr w) (rx G w.g) (hs rs hi) λown' σ' ρ' S' dr h=>⟨dr,hc G1 G1 H1 own' G σ' H' ρ' _ _ S' h λb G3 H3 w3 h3=>?_⟩
 cases b with
 | false=>exact Lw (hN _ ⟨G3,ys,rs,w.trans w3,w3.n D _ eD (λ_ z=>nomatch z) gD,w3.h _ _ eD,ry.mono w3.g,by omega,by simpa using h3⟩)
 | true =>
  refine Lo (he G1 G1 H1 own' G3 σ' H3 ρ' _ _ (S'.grow w3) (by simpa using h3) λy q G4 H4 w4 r4 h4=>?_)
  have w34:=w3.trans w4
  have g4:G4 D=none:=w34.n D _ eD (λ_ z=>nomatch z) gD
  have e4:H4 D=some (.lst ys):=w34.h _ _ eD
  refine⟨ys,e4,Ss (by rw[ry.1];omega),hN _ ⟨G4,_,_,⟨(w.trans w34).g,λb u h=>?_,λb u h=>?_,(w.trans w34).n⟩,g4,Bn,Le (ry.mono w34.g) r4,by rw[length_append];simp;omega,h4⟩⟩
  ·rw[Bj (by intro z;subst z;rw[hD] at h;cases h)];exact (w.trans w34).h _ _ h
  ·rw[Bj (by intro z;subst z;rw[g4] at h;cases h)];exact w34.i _ _ h
theorem Nt{G1 H1:Hp}{D:Addr}{I:Nat->List PV->Prop}(i:Same G1 H1)(hD:H1 D=none)(h:I 0 []):CSt K C G1 H1 D I 0 (upd H1 D (.lst [])) :=
 ⟨G1,[],[],Grow.own i (Same.new hD),i.free hD,Bn,LAt.nil,by simp,h⟩
def Ahm(ua:UE)(ug:PV->Bh->(Bh->Prop)->Prop)(uc:UT)(ue:UE)(k:Nat)(fr:List Nat):UE:=λρ P=>ua ρ λp=>bL p λps=>ps.length<=100000/\Ln ps ug uc ue (compρ k fr ρ) P
theorem Gx{ta:TE}{ua:UE}{k:Nat}{fr:List Nat}{g:TG}{ug:PV->Bh->(Bh->Prop)->Prop}{tc:TT}{uc:UT}{te:TE}{ue:UE}(ha:EB K C ω ta ua)(hg:GU K C Om.no k g ug)(hc:TU K C Om.no tc uc)(he:EU K C Om.no te ue):EF K C ω (Jm (Qp K ta) g tc te k fr) (Ahm ua ug uc ue k fr) :=
 λB G0 H0 own G σ H ρ P Q S hu kk=>Of (Aou (ha B G0 H0 own G σ H ρ _ _ S hu λv p G1 H1 w1 r1 ⟨ps,e,hl,I,i0,ist,iend⟩=>by
  have S1:=S.grow w1
  obtain⟨a,vs,rfl,sq,rp⟩:∃a vs,v=.ref a/\SqL K H1 a vs/\Reps K C G1 vs ps:=by
   rcases e with e | ⟨ns,e,e2⟩
   ·subst e
    obtain⟨a,vs,rfl,ea,l⟩:=r1.lst w1.i
    exact⟨a,vs,rfl,SqL.of ea,l⟩
   ·subst e e2
    obtain⟨a,rfl,ea⟩:=r1.scr w1.i
    exact⟨a,_,rfl,ea,Fj ns⟩
  refine⟨a,rfl,⟨vs,sq⟩,λD hD=>CP.list vs (CSt K C G1 H1 D I) (Nt w1.i hD i0) (λn H' _ ⟨G',_,_,w,_⟩=>w.h.seq sq) (λn x H' N hx st hN=>?_) λH' st=>?_⟩
  ·obtain⟨q,hq,rq⟩:=rp.get hx
   have hn:n<ps.length:=(List.getElem?_eq_some_iff.mp hq).1
   exact Sn S1 hg hc he hD (by omega) (λG' s=>rq.mono s) st hN λrs hi=>ist n q rs hq hi
  ·obtain⟨G',ys,rs,w,gD,eD,ry,_,hi⟩:=st
   rw[rp.1] at hi
   exact kk D _ G' H' (w1.trans w) (w1.h.free hD) gD (OwnA.ofL eD ry) (iend rs hi)))
def Zj(ug:PV->Bh->(Bh->Prop)->Prop)(uc:UT)(ue:UE)(ρ':Bh)(P:PV->Prop)(ps:List PV):Prop:=∃j:Int,ps=[.int j]/\-(2^62)<=j/\j<100000/\∃I:Nat->List PV->Prop,I 0 []/\(∀n rs,n<j.toNat->I n rs->ug (.int (0+n)) ρ' λρ2=>uc ρ2 λb=>if b=true then ue ρ2 λq=>I (n+1) (rs++[q]) else I (n+1) rs)/\∀rs,I j.toNat rs->P (.lst rs)
def Ac5(u:UA)(ug:PV->Bh->(Bh->Prop)->Prop)(uc:UT)(ue:UE)(k:Nat)(fr:List Nat):UE:=λρ P=>u ρ λps=>Zj ug uc ue (compρ k fr ρ) P ps
theorem Uq{m:Bool}{t:TA}{u:UA}{k:Nat}{fr:List Nat}{g:TG}{ug:PV->Bh->(Bh->Prop)->Prop}{tc:TT}{uc:UT}{te:TE}{ue:UE}(ha:AU K C ω [m] t u)(hg:GU K C Om.no k g ug)(hc:TU K C Om.no tc uc)(he:EU K C Om.no te ue):EF K C ω (Jm (Vw t) g tc te k fr) (Ac5 u ug uc ue k fr) :=
 λB G0 H0 own G σ H ρ P Q S hu kk=>Of (Aob (ha B G0 H0 own G σ H ρ _ _ S hu λvs ps G1 H1 w1 ok ⟨j,e,h1,h2,I,i0,ist,iend⟩=>by
  have S1:=S.grow w1
  obtain⟨v,p,rfl,e2,r⟩:=Tt ok
  rw[e] at e2;cases e2
  refine⟨j,by rw[r.int],h1,by omega,λD hD=>CP.range (CSt K C G1 H1 D I) (Nt w1.i hD i0) (λn H' N hx st hN=>Sn S1 hg hc he hD (by omega) (λG' s=>.int _) st hN λrs hi=>ist n rs hx hi) λH' st=>?_⟩
  obtain⟨G',ys,rs,w,gD,eD,ry,_,hi⟩:=st
  exact kk D _ G' H' (w1.trans w) (w1.h.free hD) gD (OwnA.ofL eD ry) (iend rs hi)))
end
section
variable {K:Frag}{C:Addr}{ω:Om}
abbrev PSp:=List PV->(PV->Prop)->Prop
def spOf(K:Frag)(C:Addr)(ms:List Bool)(rm:Rm)(psp:PSp):Sp:=λvs H Q _=>∃G ps P,Same G H/\ArgsOk K C G H ms vs ps/\psp ps P/\∀G' H' v p,Grow G H G' H'->ROk K C rm H G' H' v p->P p->Q v H'
def Wa(psp:PSp)(u:UA):UE:=λρ P=>u ρ λps=>psp ps P
theorem Fr{ms:List Bool}{psp:PSp}{E:XK}{t:TA}{u:UA}(ha:AU K C ω ms t u):EU K C ω (Rz (spOf K C ms .sh psp) [] E t) (Wa psp u) :=
 λB G0 H0 own G σ H ρ P Q S hu k=>ha B G0 H0 own G σ H ρ _ _ S hu λvs ps G1 H1 w1 ok h=>by
  rw[append_nil]
  exact⟨G1,ps,P,w1.i,ok,h,λG' H' v p w r hp=>k v p G' H' (w1.trans w) r hp⟩
theorem Dl{ms:List Bool}{psp:PSp}{E:XK}{t:TA}{u:UA}(ha:AU K C ω ms t u):EF K C ω (Rz (spOf K C ms .fr psp) [] E t) (Wa psp u) :=
 λB G0 H0 own G σ H ρ P Q S hu k=>ha B G0 H0 own G σ H ρ _ _ S hu λvs ps G1 H1 w1 ok h=>by
  rw[append_nil]
  exact⟨G1,ps,P,w1.i,ok,h,λG' H' v p w ⟨a,e,n,g,r⟩ hp=>by subst e;exact k a p G' H' (w1.trans w) (w1.h.free n) g r hp⟩
def Vo(n:Nat)(ms:List Bool)(ps:List PV):Bh:=zipWith (λm p=>if m=true then Sl.sh p else Sl.bo p) ms ps++replicate (n - ps.length) .un
def Agf(rm:Rm)(P:PV->Prop):Bh->Prop:=match rm with
 | .sh=>λ_=>P .non
 | .fr=>λ_=>False
 | .mu _=>λ_=>False
theorem ArgsOk.slots{G H:Hp}{own:Nat->Option Addr}:∀{ms:List Bool} {vs:List V} {ps:List PV} {i:Nat} {s:Sl} {σ:St} (k:Nat),ArgsOk K C G H ms vs ps->(∀j v,vs[j]? = some v->σ[k+j]? = some (some v))->(zipWith (λm p=>if m=true then Sl.sh p else Sl.bo p) ms ps)[i]? = some s->SlOk K C G H own G σ H (k+i) s
 | true::ms,v::vs,p::ps,0,s,σ,k,ok,hσ,h=>by cases h;exact⟨v,hσ 0 v rfl,ok.1⟩
 | false::ms,v::vs,p::ps,0,s,σ,k,ok,hσ,h=>by cases h;exact⟨v,hσ 0 v rfl,ok.1⟩
 | true::ms,v::vs,p::ps,i+1,s,σ,k,ok,hσ,h=>by
  have:=ArgsOk.slots (i:=i) (s:=s) (σ:=σ) (own:=own) (k+1) ok.2 (λj w hj=>by rw[show k+1+j=k+(j+1) by omega];exact hσ (j+1) w (by simpa using hj)) (by simpa using h)
  rwa [show k+1+i=k+(i+1) by omega] at this
 | false::ms,v::vs,p::ps,i+1,s,σ,k,ok,hσ,h=>by
  have:=ArgsOk.slots (i:=i) (s:=s) (σ:=σ) (own:=own) (k+1) ok.2 (λj w hj=>by rw[show k+1+j=k+(j+1) by omega];exact hσ (j+1) w (by simpa using hj)) (by simpa using h)
  rwa [show k+1+i=k+(i+1) by omega] at this
 | [],_,_,_,_,_,_,_,_,h=>by simp at h
 | _::_,_,[],_,_,_,_,_,_,h=>by simp at h
 | true::_,[],_::_,_,_,_,_,ok,_,_=>by cases ok
 | false::_,[],_::_,_,_,_,_,ok,_,_=>by cases ok
theorem Cu{ms:List Bool}{rm:Rm}{psp:PSp}{N:List Str}{vs:List V}{H:Hp}{Q:VK}{E:XK}{t:TS}{u:US}(h:spOf K C ms rm psp vs H Q E)(hn:ms.length<=N.length)(hs:SU K C Om.no rm t u)
  (hp:∀ps P,psp ps P->u ⟨Agf rm P,P,λ_=>False,λ_=>False⟩ (Vo N.length ms ps)):t { nx:=λ_ H'=>Q .non H',rt:=Q } (L2.Ob N vs) H:=by
 obtain⟨G,ps,P,i,ok,hq,k⟩:=h
 obtain⟨l1,l2⟩:=ok.len
 have hz:(zipWith (λm p=>if m=true then Sl.sh p else Sl.bo p) ms ps).length=ps.length:=by rw[List.length_zipWith,l2];omega
 refine hs G G H (λ_=>none) G _ H _ _ ⟨Agf rm P,P,λ_=>False,λ_=>False⟩ ⟨Same.refl _,Grow.refl i,?_,λi j a z=>(by cases z),λi a z=>(by cases z),λj s hj=>?_,λ_ _ _ z=>z.elim⟩ ⟨λown' G' σ' H' ρ' S' q=>?_,λG' H' v p w r hp=>k G' H' v p w r hp,λ_ _ _ _ _ _ q=>q.elim,λ_ _ _ _ _ _ q=>q.elim⟩ (hp ps P hq)
 ·unfold L2.Ob Vo
  rw[length_append,length_append,length_map,hz,length_replicate,length_replicate,l1,l2]
 ·unfold Vo at hj
  by_cases z:j<ps.length
  ·rw[getElem?_append_left (by rw[hz];exact z)] at hj
   have q:=ArgsOk.slots (own:=λ_=>none) (σ:=L2.Ob N vs) 0 ok (λj v hv=>by
    unfold L2.Ob
    rw[Nat.zero_add,getElem?_append_left (by rw[length_map];exact (List.getElem?_eq_some_iff.mp hv).1),getElem?_map,hv];rfl) hj
   rwa [Nat.zero_add] at q
  ·rw[getElem?_append_right (by rw[hz];omega),getElem?_replicate] at hj
   split at hj
   ·cases hj;trivial
   ·cases hj
 ·cases rm with
  | sh=>exact k G' H' .non .non S'.gr .non q
  | fr=>exact q.elim
  | mu _=>exact q.elim
theorem spOf.len{ms:List Bool}{rm:Rm}{psp:PSp}{vs:List V}{H:Hp}{Q:VK}{E:XK}(h:spOf K C ms rm psp vs H Q E):vs.length=ms.length:=by
 obtain⟨G,ps,P,i,ok,_⟩:=h
 exact ok.len.1
end
section
variable {K:Frag}{C:Addr}{ω:Om}
def Qm:PV->Bool
 | .non=>true
 | .int _=>true
 | .str _=>true
 | _=>false
theorem Tw{G:Hp}{v:V}{p:PV}(h:Rep K C G v p)(f:Qm p=true):Lm v=true:=by
 cases h <;> first | rfl | (cases f;done)
theorem Xc{G:Hp}{v w:V}{p q:PV}(h1:Rep K C G v p)(h2:Rep K C G w q)(f1:Qm p=true)(f2:Qm q=true):eqV v w=true↔p=q:=by
 cases h1 <;> first | (cases f1;done) | (cases h2 <;> first | (cases f2;done) | (simp [eqV]))
inductive Cmp:Nat->PV->PV->Prop where
 | flat {n:Nat} {p q:PV} (hp:Qm p=true) (hq:Qm q=true):Cmp n p q
 | bl {n:Nat} {x y:Bool}:Cmp n (.bl x) (.bl y)
 | lst {n:Nat} {xs ys:List PV} (h:xs.length=ys.length->∀(i:Nat) (x y:PV),xs[i]? = some x->ys[i]? = some y->Cmp n x y):Cmp (n+1) (.lst xs) (.lst ys)
 | tup {n:Nat} {xs ys:List PV} (h:∀(i:Nat) (x y:PV),xs[i]? = some x->ys[i]? = some y->Cmp n x y):Cmp (n+1) (.tup xs) (.tup ys)
theorem Qf{α:Type}{xs ys:List α}(hl:xs.length=ys.length)(h:∀(i:Nat) (x y:α),xs[i]? = some x->ys[i]? = some y->x=y):xs=ys:=by
 refine ext_getElem? λi=>?_
 cases e1:xs[i]? with
 | none=>rw[getElem?_eq_none (by have:=List.getElem?_eq_none_iff.mp e1;omega)]
 | some x =>
  have hi:i<ys.length:=by have:=(List.getElem?_eq_some_iff.mp e1).1;omega
  rw[getElem?_eq_getElem hi,h i x _ e1 (getElem?_eq_getElem hi)]
theorem Cmp.fn{G:Hp}{n:Nat}{p q:PV}(c:Cmp n p q):∀{v:V},Rep K C G v p->Rep K C G v q->p=q:=by
 induction c with
 | flat hp hq=>intro v h1 h2;cases h1 <;> first | (cases hp;done) | (cases h2 <;> first | (cases hq;done) | rfl)
 | bl=>intro v h1 h2;cases h1;cases h2;rfl
 | @lst n xs ys h ih =>
  intro v h1 h2
  cases h1 with
  | lst e1 l1 q1=>cases h2 with
   | lst e2 l2 q2 =>
    rw[e1] at e2;cases e2
    have hl:xs.length=ys.length:=l1.symm.trans l2
    refine congrArg _ (Qf hl λi x y hx hy=>?_)
    have hi:=(List.getElem?_eq_some_iff.mp hx).1
    obtain⟨w,hw⟩:=(⟨_,getElem?_eq_getElem (by rw[l1];exact hi)⟩:∃w,_=some w)
    exact ih hl i x y hx hy (q1 i w x hw hx) (q2 i w y hw hy)
 | @tup n xs ys h ih =>
  intro v h1 h2
  cases h1 with
  | tup e1 l1 q1=>cases h2 with
   | tup e2 l2 q2 =>
    rw[e1] at e2;cases e2
    have hl:xs.length=ys.length:=l1.symm.trans l2
    refine congrArg _ (Qf hl λi x y hx hy=>?_)
    have hi:=(List.getElem?_eq_some_iff.mp hx).1
    obtain⟨w,hw⟩:=(⟨_,getElem?_eq_getElem (by rw[l1];exact hi)⟩:∃w,_=some w)
    exact ih i x y hx hy (q1 i w x hw hx) (q2 i w y hw hy)
noncomputable def pd(a:Prop):Bool:=@decide a (Classical.propDecidable a)
theorem pd_iff{a:Prop}:pd a=true↔a:=by unfold pd;exact @decide_eq_true_iff a (Classical.propDecidable a)
theorem Qn{n:Nat}{e:Nat->Bool}:(range n).all e=true↔∀i,i<n->e i=true:=by
 rw[List.all_eq_true]
 exact⟨λh i hi=>h i (mem_range.mpr hi),λh i hi=>h i (mem_range.mp hi)⟩
theorem Gy{a b:Bool}(h:a=true↔b=true):a=b:=by
 cases a <;> cases b <;> simp_all
theorem Cmp.eqD{G H:Hp}(s:Same G H){n:Nat}{p q:PV}(c:Cmp n p q):∀{v w:V} {b:Bool},Rep K C G v p->Rep K C G w q->(b=true↔p=q)->EqD K H n v w b:=by
 induction c with
 | flat hp hq =>
  intro v w b h1 h2 hb
  have e:b=eqV v w:=Gy (hb.trans (Xc h1 h2 hp hq).symm)
  rw[e]
  exact EqD.flat (Tw h1 hp) (Tw h2 hq)
 | @bl n x y =>
  intro v w b h1 h2 hb
  cases h1
  cases h2
  have e:b=eqV (.bl x) (.bl y):=Gy (by rw[hb];cases x <;> cases y <;> simp [eqV])
  rw[e]
  exact EqD.flat rfl rfl
 | @lst n xs ys h ih =>
  intro v w b h1 h2 hb
  have cc:Cmp (n+1) (.lst xs) (.lst ys):=.lst h
  have h1':=h1
  have h2':=h2
  cases h1 with
  | @lst a1 vs1 _ e1 l1 q1=>cases h2 with
   | @lst a2 vs2 _ e2 l2 q2 =>
    by_cases z:a1=a2
    ·subst z
     rw[show b=true from hb.mpr (cc.fn h1' h2')]
     exact EqD.same _
    ·by_cases hl:xs.length=ys.length
     ·have e:b=(range vs1.length).all (λi=>pd (xs[i]? = ys[i]?)):=Gy (by
       rw[hb,Qn]
       constructor
       ·intro e i _;rw[pd_iff,PV.lst.inj e]
       ·intro e
        refine congrArg _ (ext_getElem? λi=>?_)
        by_cases hi:i<vs1.length
        ·exact pd_iff.mp (e i hi)
        ·rw[getElem?_eq_none (by omega),getElem?_eq_none (by omega)])
      rw[e]
      refine EqD.lst _ z (SqL.of (s _ _ e1)) (SqL.of (s _ _ e2)) (by omega) λi x y hx hy=>?_
      have hi:=(List.getElem?_eq_some_iff.mp hx).1
      have hx':xs[i]? = some xs[i]:=getElem?_eq_getElem (by omega)
      have hy':ys[i]? = some ys[i]:=getElem?_eq_getElem (by omega)
      refine ih hl i _ _ hx' hy' (q1 i x _ hx hx') (q2 i y _ hy hy') ?_
      rw[pd_iff,hx',hy']
      exact⟨λz=>Option.some.inj z,λz=>congrArg some z⟩
     ·have e:b=false:=by
       cases b with
       | false=>rfl
       | true=>exact absurd (congrArg length (PV.lst.inj (hb.mp rfl))) hl
      rw[e]
      exact EqD.lstN z (SqL.of (s _ _ e1)) (SqL.of (s _ _ e2)) (by omega)
 | @tup n xs ys h ih =>
  intro v w b h1 h2 hb
  have cc:Cmp (n+1) (.tup xs) (.tup ys):=.tup h
  have h1':=h1
  have h2':=h2
  cases h1 with
  | @tup a1 vs1 _ e1 l1 q1=>cases h2 with
   | @tup a2 vs2 _ e2 l2 q2 =>
    by_cases z:a1=a2
    ·subst z
     rw[show b=true from hb.mpr (cc.fn h1' h2')]
     exact EqD.same _
    ·have e:b=((range (min vs1.length vs2.length)).all (λi=>pd (xs[i]? = ys[i]?))&&vs1.length==vs2.length):=Gy (by
      rw[hb,and_eq_true,Qn]
      constructor
      ·intro e
       have e':=PV.tup.inj e
       exact⟨λi _=>by rw[pd_iff,e'],by rw[l1,l2,e'];exact beq_self_eq_true _⟩
      ·rintro ⟨e,el⟩
       have el':vs1.length=vs2.length:=by simpa using el
       refine congrArg _ (ext_getElem? λi=>?_)
       by_cases hi:i<vs1.length
       ·exact pd_iff.mp (e i (by omega))
       ·rw[getElem?_eq_none (by omega),getElem?_eq_none (by omega)])
     rw[e]
     refine EqD.tup _ z (SqT.of (s _ _ e1)) (SqT.of (s _ _ e2)) λi x y hx hy=>?_
     have hi:=(List.getElem?_eq_some_iff.mp hx).1
     have hj:=(List.getElem?_eq_some_iff.mp hy).1
     have hx':xs[i]? = some xs[i]:=getElem?_eq_getElem (by omega)
     have hy':ys[i]? = some ys[i]:=getElem?_eq_getElem (by omega)
     refine ih i _ _ hx' hy' (q1 i x _ hx hx') (q2 i y _ hy hy') ?_
     rw[pd_iff,hx',hy']
     exact⟨λz=>Option.some.inj z,λz=>congrArg some z⟩
def CmpL(xs ys:List PV):Prop:=xs.length=ys.length->∀(i:Nat) (x y:PV),xs[i]? = some x->ys[i]? = some y->Cmp 40 x y
theorem CmpL.leq{G H:Hp}(s:Same G H){vs ws:List V}{xs ys:List PV}(c:CmpL xs ys)(h1:Reps K C G vs xs)(h2:Reps K C G ws ys){b:Bool}(hb:b=true↔xs=ys):LEq K H vs ws b:=by
 by_cases hl:xs.length=ys.length
 ·refine .inr ⟨by rw[h1.1,h2.1,hl],λi=>pd (xs[i]? = ys[i]?),λi x y hx hy=>?_,Gy ?_⟩
  ·obtain⟨p,hp,rp⟩:=h1.get hx
   obtain⟨q,hq,rq⟩:=h2.get hy
   refine (c hl i p q hp hq).eqD s rp rq ?_
   rw[pd_iff,hp,hq]
   exact⟨λz=>Option.some.inj z,λz=>congrArg some z⟩
  ·rw[hb,Qn,h1.1]
   constructor
   ·intro e i _;rw[pd_iff,e]
   ·intro e
    refine ext_getElem? λi=>?_
    by_cases hi:i<xs.length
    ·exact pd_iff.mp (e i hi)
    ·rw[getElem?_eq_none (by omega),getElem?_eq_none (by omega)]
 ·refine .inl ⟨by rw[h1.1,h2.1];exact hl,?_⟩
  cases b with
  | false=>rfl
  | true=>exact absurd (congrArg length (hb.mp rfl)) hl
def Aap(neg:Bool)(p q:PV)(P:PV->Prop):Prop:=∃xs ys,p=.lst xs/\q=.lst ys/\CmpL xs ys/\∀b:Bool,(b=true↔xs=ys)->P (.bl (if neg then !b else b))
def Ak7(neg:Bool)(ua ub:UE):UE:=λρ P=>ua ρ λp=>ub ρ λq=>Aap neg p q P
theorem Td{neg:Bool}{ta tb:TE}{ua ub:UE}(ha:EB K C ω ta ua)(hb:EB K C ω tb ub):EU K C ω (tOp (Aaj K neg) ta tb) (Ak7 neg ua ub) :=
 λB G0 H0 own G σ H ρ P Q S hu k=>two ha hb S hu λv w p q G' H' gr r1 r2 ⟨xs,ys,e1,e2,c,h⟩=>by
  subst e1 e2
  obtain⟨a,vs,rfl,ea,l⟩:=r1.lst gr.i
  obtain⟨b,ws,rfl,eb,l2⟩:=r2.lst gr.i
  exact⟨a,b,vs,ws,pd (xs=ys),rfl,rfl,SqL.of ea,SqL.of eb,c.leq gr.i l l2 pd_iff,k _ _ G' H' gr (.bl _) (h _ pd_iff)⟩
def Ak2:PV->Option (List PV)
 | .lst xs=>some xs
 | .tup xs=>some xs
 | .ctp xs=>some xs
 | _=>none
def bIn(neg:Bool)(p q:PV)(P:PV->Prop):Prop:=∃xs,Ak2 q=some xs/\Qm p=true/\(∀x∈xs,Qm x=true)/\∀b:Bool,(b=true↔p∈xs)->P (.bl (if neg then !b else b))
def uIn(neg:Bool)(ua ub:UE):UE:=λρ P=>ua ρ λp=>ub ρ λq=>bIn neg p q P
theorem RepB.seq{G H:Hp}{v:V}{q:PV}{xs:List PV}(i:Same G H)(h:RepB K C G H v q)(e:Ak2 q=some xs):∃a vs,v=.ref a/\(SqL K H a vs\/SqT K H a vs)/\Reps K C G vs xs:=by
 cases q <;> first | cases e | skip
 ·obtain⟨a,vs,e,ea,l⟩:=h.lst i;exact⟨a,vs,e,.inl (SqL.of ea),l⟩
 ·obtain⟨a,vs,e,ea,l⟩:=h.tup i;exact⟨a,vs,e,.inr (SqT.of ea),l⟩
 ·rcases h with h | ⟨a,_,h⟩
  ·cases h with
   | ctp e l q=>exact⟨_,_,rfl,.inr (e H),l,q⟩
  ·exact h.elim
theorem Tk{neg:Bool}{ta tb:TE}{ua ub:UE}(ha:EU K C ω ta ua)(hb:EB K C ω tb ub):EU K C ω (tOp (rIn K neg) ta tb) (uIn neg ua ub) :=
 λB G0 H0 own G σ H ρ P Q S hu k=>ha B G0 H0 own G σ H ρ _ _ S hu λv p G1 H1 w1 r1 h1=>hb B G0 H0 own G1 σ H1 ρ _ _ (S.grow w1) h1 λw q G2 H2 w2 r2 ⟨xs,e,f1,f2,h⟩=>by
  obtain⟨a,vs,rfl,sq,l⟩:=r2.seq w2.i e
  have r1':=r1.mono w2.g
  have hb:inV v vs=pd (p∈xs):=Gy (by
   rw[pd_iff]
   unfold inV
   rw[any_eq_true]
   constructor
   ·rintro ⟨y,hy,e⟩
    obtain⟨i,hi⟩:=getElem?_of_mem hy
    obtain⟨x,hx,rx⟩:=l.get hi
    rw[<- (Xc rx r1' (f2 x (mem_of_getElem? hx)) f1).mp e]
    exact mem_of_getElem? hx
   ·intro m
    obtain⟨i,hi⟩:=getElem?_of_mem m
    obtain⟨y,hy,ry⟩:=l.get' hi
    exact⟨y,mem_of_getElem? hy,(Xc ry r1' f1 f1).mpr rfl⟩)
  refine⟨a,vs,rfl,sq,Tw r1' f1,?_,?_⟩
  ·rw[List.all_eq_true]
   intro y hy
   obtain⟨i,hi⟩:=getElem?_of_mem hy
   obtain⟨x,hx,rx⟩:=l.get hi
   exact Tw rx (f2 x (mem_of_getElem? hx))
  ·rw[hb];exact k _ _ G2 H2 (w1.trans w2) (.bl _) (h _ pd_iff)
def tyP:PV->Option String
 | .non=>some "NoneType"
 | .bl _=>some "bool"
 | .int _=>some "int"
 | .str _=>some "str"
 | .lst _=>some "list"
 | .tup _=>some "tuple"
 | .dk _=>some "dict"
 | .dt _=>some "dict"
 | _=>none
def kit(T n:String):Bool:=T==n || (T=="bool"&&n=="int")
def Aiu:List String:=["NoneType","bool","int","str","list","tuple","dict"]
def Air:List String:=["bool","int","str","list","tuple","dict"]
theorem AiS:∀T∈Aiu,∀n∈Air,(if (Value.type T==Value.type n)=true then some true else if kitMeta n=true then (fastBuiltinMro T).map (·.contains (Value.type n)) else none)=some (kit T n):=by decide +kernel
theorem AnM{G H:Hp}(i:Same G H){v:V}{p:PV}{T:String}(h:RepB K C G H v p)(e:tyP p=some T):Gm K H v (.type T)/\T∈Aiu:=by
 cases p <;> first | cases e | skip
 ·rcases h with h | ⟨_,_,h⟩
  ·cases h;exact⟨.non,by decide⟩
  ·exact h.elim
 ·rw[h.bl];exact⟨.bl _,by decide⟩
 ·rw[h.int];exact⟨.int _,by decide⟩
 ·rw[h.str];exact⟨.str _,by decide⟩
 ·obtain⟨a,vs,rfl,ea,l⟩:=h.lst i;exact⟨.lst ea,by decide⟩
 ·obtain⟨a,vs,rfl,ea,l⟩:=h.tup i;exact⟨.tup ea,by decide⟩
 ·obtain⟨a,vs,rfl,ea,l⟩:=h.dk i;exact⟨.dK ea,by decide⟩
 ·obtain⟨a,vs,rfl,ea,l⟩:=h.dt i;exact⟨.dT ea,by decide⟩
def AfK(n:String)(p:PV)(P:PV->Prop):Prop:=∃T,tyP p=some T/\P (.bl (kit T n))
def Ami(n:String)(ua:UE):UE:=λρ P=>ua ρ λp=>AfK n p P
theorem Aeb{n:String}{ta:TE}{ua:UE}(ha:EB K C ω ta ua)(hn:n∈Air:=by decide):EU K C ω (tCB (λvs H Q=>∃x n t b,vs=[x,.ty n]/\Gm K H x t/\kitOne K t (.type n)=some b/\Q (.bl b) H) (Ga ta (Ga (tC (.ty n)) Nb))) (Ami n ua) :=
 λB G0 H0 own G σ H ρ P Q S hu k=>ha B G0 H0 own G σ H ρ _ _ S hu λv p G1 H1 w1 r1 ⟨T,e,h⟩=>by
  obtain⟨ty,hT⟩:=AnM w1.i r1 e
  exact⟨v,n,_,_,rfl,ty,Ra (AiS T hT n hn),k _ _ G1 H1 w1 (.bl _) h⟩
end
section
variable {K:Frag}{C:Addr}{ω:Om}
def vP:V->PV
 | .int i=>.int i
 | .str x=>.str x
 | .bl b=>.bl b
 | _=>.non
def scV:V->Bool
 | .int _=>true
 | .str _=>true
 | .bl _=>true
 | .non=>true
 | _=>false
theorem Akh{G:Hp}{v w:V}(hs:scV w=true)(h:Rep K C G v (vP w)):v=w:=by
 cases w <;> first | (cases hs;done) | (cases h;rfl)
theorem Ad0{G:Hp}{w:V}(hs:scV w=true):Rep K C G w (vP w):=by
 cases w <;> first | (cases hs;done) | constructor
theorem Aew{G:Hp}{vs ws:List V}(hs:∀w∈ws,scV w=true)(h:Reps K C G vs (ws.map vP)):vs=ws:=by
 refine Qf (by rw[h.1,length_map]) λi x y hx hy=>?_
 exact Akh (hs y (mem_of_getElem? hy)) (h.2 i x (vP y) hx (by rw[getElem?_map,hy];rfl))
theorem AdS{G:Hp}{ws:List V}(hs:∀w∈ws,scV w=true):Reps K C G ws (ws.map vP) :=
 ⟨by rw[length_map],λi v p h1 h2=>by
  rw[getElem?_map,h1] at h2
  cases h2
  exact Ad0 (hs v (mem_of_getElem? h1))⟩
theorem Ue{G:Hp}{v:V}{ws:List V}(hs:∀w∈ws,scV w=true)(h:Rep K C G v (.tup (ws.map vP))):∃p,v=.ref p/\G p=some (.tup ws):=by
 cases h with
 | tup e l q=>rw[Aew hs ⟨l,q⟩] at e;exact⟨_,rfl,e⟩
theorem Ut{G:Hp}{p:Addr}{ws:List V}(hs:∀w∈ws,scV w=true)(e:G p=some (.tup ws)):Rep K C G (.ref p) (.tup (ws.map vP)):=Rep.ofT e (AdS hs)
def sgW(s:Sg):List V:=[.int s.1,.str s.2.1,.int s.2.2]
def prW(m:Int×Int):List V:=[.int m.1,.int m.2]
def jnW(j:Jn):List V:=[.int j.1,.int j.2.1,.int j.2.2]
def sgP(s:Sg):PV:=.tup [.int s.1,.str s.2.1,.int s.2.2]
def prP(m:Int×Int):PV:=.tup [.int m.1,.int m.2]
def jnP(j:Jn):PV:=.tup [.int j.1,.int j.2.1,.int j.2.2]
theorem Ae4(s:Sg):∀w∈sgW s,scV w=true:=by intro w hw;simp [sgW] at hw;rcases hw with rfl | rfl | rfl <;> rfl
theorem Aes(s:Int×Int):∀w∈prW s,scV w=true:=by intro w hw;simp [prW] at hw;rcases hw with rfl | rfl <;> rfl
theorem AeE(s:Jn):∀w∈jnW s,scV w=true:=by intro w hw;simp [jnW] at hw;rcases hw with rfl | rfl | rfl <;> rfl
theorem Agv{G:Hp}{v:V}{s:Sg}:Rep K C G v (sgP s)↔TripAt G v s:=⟨λh=>let ⟨p,e,hp⟩:=Ue (Ae4 s) h;⟨p,e,hp⟩,λ⟨p,e,hp⟩=>by subst e;exact Ut (Ae4 s) hp⟩
theorem Agd{G:Hp}{v:V}{s:Int×Int}:Rep K C G v (prP s)↔PairAt G v s:=⟨λh=>let ⟨p,e,hp⟩:=Ue (Aes s) h;⟨p,e,hp⟩,λ⟨p,e,hp⟩=>by subst e;exact Ut (Aes s) hp⟩
theorem AjG{G:Hp}{v:V}{s:Jn}:Rep K C G v (jnP s)↔TrjAt G v s:=⟨λh=>let ⟨p,e,hp⟩:=Ue (AeE s) h;⟨p,e,hp⟩,λ⟨p,e,hp⟩=>by subst e;exact Ut (AeE s) hp⟩
theorem Uo{α:Type}{R:Hp->V->α->Prop}{f:α->PV}(hf:∀{G:Hp} {v:V} {s:α},Rep K C G v (f s)↔R G v s){G:Hp}{vs:List V}{S:List α}:Reps K C G vs (S.map f)↔LAt R G vs S:=by
 constructor
 ·intro h
  refine⟨by rw[h.1,length_map],λi x y hx hy=>hf.mp (h.2 i x (f y) hx (by rw[getElem?_map,hy];rfl))⟩
 ·intro h
  refine⟨by rw[h.1,length_map],λi x y hx hy=>?_⟩
  rw[getElem?_map] at hy
  obtain⟨s,hs,e⟩:=map_eq_some_iff.mp hy
  rw[<- e]
  exact hf.mpr (h.2 i x s hx hs)
def Oa(G H H':Hp):Hp:=λa=>match H' a with
 | some (.tup xs)=>some (.tup xs)
 | o=>match H a with
  | none=>o
  | some _=>G a
theorem Qg{G H H':Hp}{a:Addr}{xs:List V}(e:H' a=some (.tup xs)):Oa G H H' a=some (.tup xs):=by unfold Oa;rw[e]
theorem Fk{G H H':Hp}{a:Addr}{o:HO}(n:H a=none)(e:H' a=some o):Oa G H H' a=some o:=by
 unfold Oa;rw[e,n];cases o <;> rfl
theorem Sv{G H H':Hp}{a:Addr}{o:HO}(h:H a=some o)(s:Same H H')(t:Rr o):Oa G H H' a=G a:=by
 unfold Oa;rw[s _ _ h,h]
 cases o <;> first | rfl | exact absurd rfl (t _)
theorem Nz{G H H':Hp}(i:Same G H)(s:Same H H'):Grow G H (Oa G H H') H':=by
 refine⟨λa o h=>?_,s,λa o h=>?_,λa o h t hg=>by rw[Sv h s t];exact hg⟩
 ·have h1:=i _ _ h
  by_cases t:Rr o
  ·rw[Sv h1 s t];exact h
  ·have:∃xs,o=.tup xs:=Classical.byContradiction λz=>t λxs w=>z ⟨xs,w⟩
   obtain⟨xs,rfl⟩:=this
   exact Qg (s _ _ h1)
 ·cases e:H' a with
  | none =>
   unfold Oa at h;rw[e] at h
   cases e2:H a with
   | none=>rw[e2] at h;cases h
   | some u=>rw[s _ _ e2] at e;cases e
  | some u =>
   by_cases t:Rr u
   ·cases e2:H a with
    | none=>rw[Fk e2 e] at h;exact h
    | some w =>
     have:=s _ _ e2
     rw[e] at this;cases this
     rw[Sv e2 s t] at h
     rw[i _ _ h] at e2;cases e2;rfl
   ·have:∃xs,u=.tup xs:=Classical.byContradiction λz=>t λxs w=>z ⟨xs,w⟩
    obtain⟨xs,rfl⟩:=this
    rw[Qg e] at h;exact h
theorem AmO{G H:Hp}{l m n:Bool}{vs:List V}{ps:List PV}(h:ArgsOk K C G H [l,m,n] vs ps):∃v w x p q r,vs=[v,w,x]/\ps=[p,q,r]/\RepB K C G H v p/\RepB K C G H w q/\RepB K C G H x r:=by
 match vs,ps,l,h with
 | v::vs,p::ps,true,h=>obtain⟨w,x,q,r,rfl,rfl,h1,h2⟩:=Sa h.2;exact⟨v,w,x,p,q,r,rfl,rfl,.inl h.1,h1,h2⟩
 | v::vs,p::ps,false,h=>obtain⟨w,x,q,r,rfl,rfl,h1,h2⟩:=Sa h.2;exact⟨v,w,x,p,q,r,rfl,rfl,h.1,h1,h2⟩
 | [],_,true,h=>cases h
 | [],_,false,h=>cases h
 | _::_,[],true,h=>cases h
 | _::_,[],false,h=>cases h
def bMk(P:PV->Prop)(ps:List PV):Prop:=∃S M J,ps=[.lst (S.map sgP),.lst (M.map prP),.lst (J.map jnP)]/\(∀s∈S,Yl s)/\(∀m∈M,0<=m.1/\0<=m.2)/\(S.map (·.1)++Fx M).Nodup/\Ab7 (kK S++kM M) J/\S.length+2*M.length<=400/\P (.bk S M J)
def uMk(u:UA):UE:=λρ P=>u ρ λps=>bMk P ps
theorem Anf{E:XK}{t:TA}{u:UA}(ha:AU K C ω [false,false,false] t u):EU K C ω (Aiv C (Abt C) [] E t) (uMk u) :=
 λB G0 H0 own G σ H ρ P Q St hu k=>ha B G0 H0 own G σ H ρ _ _ St hu λvs ps G1 H1 w1 ok ⟨S,M,J,e,so,mo,nd,jo,hl,h⟩=>by
  obtain⟨v,w,y,p,q,r,rfl,e2,r1,r2,r3⟩:=AmO ok
  rw[e] at e2;cases e2
  obtain⟨a1,xs,rfl,ea1,l1⟩:=r1.lst w1.i
  obtain⟨a2,ys,rfl,ea2,l2⟩:=r2.lst w1.i
  obtain⟨a3,zs,rfl,ea3,l3⟩:=r3.lst w1.i
  intro x dx hx hdx ndx
  have sB:Same H1 (upd (upd H1 dx (.own x)) x (.ins C dx [])):=λq' o e=>by rw[Bj (Bz e hx),Bj (Bz e hdx)];exact e
  have sG:=w1.i.trans sB
  refine⟨x,dx,a1,a2,a3,xs,ys,zs,S,M,J,rfl,Bn,sB _ _ ea1,sB _ _ ea2,sB _ _ ea3,((Uo Agv).mp l1).tripS sG,((Uo Agd).mp l2).pairS sG,((Uo AjG).mp l3).trjS sG,so,mo,nd,jo,hl,λH2 kvs dx' dk dr dm dp dw kp fk fr fm fp fw e1 e2 e3 e4 e5 e6 lkv=>⟨rfl,?_⟩⟩
  have s2:Same H1 H2:=λq' o e=>kp q' o (sB q' o e) (Bz e hx)
  have g:=Nz w1.i s2
  refine k _ _ _ H2 (w1.trans g) (.bk (kvs:=kvs) ⟨dx',dk,dr,dm,dp,dw,Fk hx e1,Fk (sB.free fk) e2,Fk (sB.free fr) e3,Fk (sB.free fm) e4,Fk (sB.free fp) e5,Fk (sB.free fw) e6⟩ ?_) h
  exact lkv.mono λ_ _ ⟨z1,p,z2,z3⟩=>⟨z1,p,z2,Qg z3⟩
def AoG:V->Str
 | .str x=>x
 | _=>"plain"
def De(S:List Sg)(M:List (Int×Int))(n:Int):Str:=AoG ((Cs (kK S++kM M) (Sum.inl n)).getD (.str "plain"))
def Th(M:List (Int×Int))(n:Int):PV:=vP ((Cs (kB M) (Sum.inl n)).getD .non)
theorem AaZ{κ:Type} [DecidableEq κ] {kvs:List (κ×V)} {k:κ} {v:V} (h:Cs kvs k=some v):∃x,(x,v)∈kvs:=by
 unfold Cs at h
 obtain⟨kv,h1,h2⟩:=map_eq_some_iff.mp h
 exact⟨kv.1,by rw[<- h2];exact List.mem_of_find?_eq_some h1⟩
theorem AjF{M:List (Int×Int)}{x:Key}{v:V}(h:(x,v)∈kM M):∃s,v=.str s:=by
 induction M with
 | nil=>cases h
 | cons m r ih =>
  rcases mem_cons.mp h with e | h
  ·cases e;exact⟨_,rfl⟩
  ·rcases mem_cons.mp h with e | h
   ·cases e;exact⟨_,rfl⟩
   ·exact ih h
theorem Ajb{M:List (Int×Int)}{x:Key}{v:V}(h:(x,v)∈kB M):∃s,v=.int s:=by
 induction M with
 | nil=>cases h
 | cons m r ih =>
  rcases mem_cons.mp h with e | h
  ·cases e;exact⟨_,rfl⟩
  ·rcases mem_cons.mp h with e | h
   ·cases e;exact⟨_,rfl⟩
   ·exact ih h
theorem AkJ(S:List Sg)(M:List (Int×Int))(n:Int):(Cs (kK S++kM M) (Sum.inl n)).getD (.str "plain")=.str (De S M n):=by
 unfold De
 cases e:Cs (kK S++kM M) (Sum.inl n) with
 | none=>rfl
 | some v =>
  obtain⟨x,hx⟩:=AaZ e
  rcases mem_append.mp hx with h | h
  ·obtain⟨s,_,e2⟩:=mem_map.mp h;cases e2;rfl
  ·obtain⟨s,rfl⟩:=AjF h;rfl
theorem Aj2{G:Hp}(M:List (Int×Int))(n:Int):Rep K C G ((Cs (kB M) (Sum.inl n)).getD .non) (Th M n):=by
 unfold Th
 refine Ad0 ?_
 cases e:Cs (kB M) (Sum.inl n) with
 | none=>rfl
 | some v=>obtain⟨x,hx⟩:=AaZ e;obtain⟨s,rfl⟩:=Ajb hx;rfl
def bBk(p:PV)(R:List Sg->List (Int×Int)->List Jn->Prop):Prop:=∃S M J,p=.bk S M J/\R S M J
def uM1(f:List Sg->List (Int×Int)->List Jn->Int->PV)(ua ub:UE):UE:=λρ P=>ua ρ λp=>bBk p λS M J=>ub ρ λq=>bU (λn=>f S M J n) q P
theorem RepB.bk{G H:Hp}{v:V}{S:List Sg}{M:List (Int×Int)}{J:List Jn}(h:RepB K C G H v (.bk S M J)):∃b kvs,v=.ref b/\BookAt C G b (kK S++kM M) (kR S) (kB M) kvs (kW J)/\LAt KvAt G kvs J:=by
 rcases h with h | ⟨a,_,h⟩
 ·cases h with
  | bk h l=>exact⟨_,_,rfl,h,l⟩
 ·exact h.elim
theorem AhI{nm:Str}{E:XK}{sp:Sp}{f:List Sg->List (Int×Int)->List Jn->Int->PV}{ta tb:TE}{ua ub:UE}(hm:∀{dk dr dm dp dw:Addr},(bkF dk dr dm dp dw).lookup nm=none)
  (hs:∀G H b S M J kvs n Q,Same G H->BookAt C G b (kK S++kM M) (kR S) (kB M) kvs (kW J)->LAt KvAt G kvs J->(∀v,Rep K C G v (f S M J n)->Q v H)->sp [.ref b,.int n] H Q E)
  (ha:EB K C ω ta ua) (hb:EB K C ω tb ub):EU K C ω (Vh C nm sp [] E ta (Ga tb Nb)) (uM1 f ua ub) :=
 λB G0 H0 own G σ H ρ P Q St hu k=>ha B G0 H0 own G σ H ρ _ _ St hu λv p G1 H1 w1 r1 ⟨S,M,J,e,h1⟩=>by
  subst e
  obtain⟨b,kvs,rfl,bk,l⟩:=r1.bk
  refine Zq (bk.mono λ_ _ e _=>w1.i _ _ e) hm (hb B G0 H0 own G1 σ H1 ρ _ _ (St.grow w1) h1 λw q G2 H2 w2 r2 ⟨n,e,h⟩=>?_)
  subst e
  rw[r2.int]
  exact hs G2 H2 b S M J kvs n Q w2.i (bk.mono λ_ _ e _=>w2.g _ _ e) (l.kvS w2.g) λv rv=>k v _ G2 H2 (w1.trans w2) rv h
theorem AiY{E:XK}{ta tb:TE}{ua ub:UE}(ha:EB K C ω ta ua)(hb:EB K C ω tb ub):EU K C ω (Vh C "kind" (Wt C) [] E ta (Ga tb Nb)) (uM1 (λS M _ n=>.str (De S M n)) ua ub) :=
 AhI Zz (λG H b S M J kvs n Q i bk l k=>⟨b,n,_,_,_,_,_,rfl,bk.mono λ_ _ e _=>i _ _ e,by rw[AkJ];exact k _ (.str _)⟩) ha hb
theorem AiE{E:XK}{ta tb:TE}{ua ub:UE}(ha:EB K C ω ta ua)(hb:EB K C ω tb ub):EU K C ω (Vh C "mate" (AbE C) [] E ta (Ga tb Nb)) (uM1 (λ_ M _ n=>Th M n) ua ub) :=
 AhI Aaq (λG H b S M J kvs n Q i bk l k=>⟨b,n,_,_,_,_,_,rfl,bk.mono λ_ _ e _=>i _ _ e,k _ (Aj2 M n)⟩) ha hb
end
section
variable {ρ:Bh}{P:PV->Prop}{B:Bool->Prop}{R:Bh->Prop}{d:Fv}{ua ub uc:UE}{ta tb:UT}{u w:US}{x y:PV}
theorem Jg(q:u { d with nx:=w d } ρ):AfB u w d ρ:=q
theorem Aez(q:d.nx ρ):AhA d ρ:=q
theorem Aa9{i:Nat}{s:Sl}(h:ρ[i]? = some s)(q:u d (ρ.set i (Qy s))):AaL i u d ρ:=by unfold AaL Lf;rw[h];exact q
theorem AhQ(q:ua ρ d.rt):Agp ua d ρ:=q
theorem Ady{i:Nat}(h:ρ[i]? = some (.ow x))(q:d.rt x):Ahk i d ρ:=⟨x,h,q⟩
theorem Alh(q:ta ρ λb=>if b=true then u d ρ else w d ρ):AmK ta u w d ρ:=q
theorem Ahw{i:Nat}(q:ua ρ λp=>d.nx (ρ.set i (.sh p))):AlY i ua d ρ:=q
theorem Adf{i:Nat}(q:ua ρ λp=>d.nx (ρ.set i (.ow p))):Ah5 i ua d ρ:=q
theorem AhL{ug:PV->Bh->(Bh->Prop)->Prop}(q:ua ρ λp=>ug p ρ d.nx):Aj4 ua ug d ρ:=q
theorem Abu{i:Nat}(q:R (ρ.set i (.sh x))):AdW i x ρ R:=q
theorem AdC{n:Nat}{ps:List PV}{us:List PV->Bh->(Bh->Prop)->Prop}(hl:ps.length=n)(q:us ps ρ R):Yx n us (.tup ps) ρ R:=⟨ps,rfl,hl,q⟩
theorem AaV{r:List PV}{ug:PV->Bh->(Bh->Prop)->Prop}{us:List PV->Bh->(Bh->Prop)->Prop}(q:ug x ρ λρ'=>us r ρ' R):Abo ug us (x::r) ρ R:=⟨x,r,rfl,q⟩
theorem Adx(q:R ρ):Aeq [] ρ R:=⟨rfl,q⟩
theorem AbG{us:List PV->Bh->(Bh->Prop)->Prop}{s:Sg}(q:us [.int s.1,.str s.2.1,.int s.2.2] ρ R):Yx 3 us (sgP s) ρ R:=⟨_,rfl,rfl,q⟩
theorem Abc{us:List PV->Bh->(Bh->Prop)->Prop}{s:Int×Int}(q:us [.int s.1,.int s.2] ρ R):Yx 2 us (prP s) ρ R:=⟨_,rfl,rfl,q⟩
theorem Ahv{i:Nat}{s:Sl}(h1:ρ[i]? = some s)(h2:s.val=some x)(q:P x):Amc i ρ P:=⟨s,x,h1,h2,q⟩
theorem Ad4{i:Nat}(h1:ρ[i]? = some (.sh x))(q:P x):AhG i ρ P:=⟨x,h1,q⟩
theorem p_c(q:P x):uC x ρ P:=q
theorem Alo{g:Int->Int->PV}(q:ua ρ λp=>ub ρ λq=>bI0 g p q P):uI0 g ua ub ρ P:=q
theorem AkK{g:Int->Int->PV}{i j:Int}(q:P (g i j)):bI0 g (.int i) (.int j) P:=⟨i,j,rfl,rfl,q⟩
theorem p_i{c:Int->Int->Prop}{g:Int->Int->PV}(q:ua ρ λp=>ub ρ λq=>bI c g p q P):uI c g ua ub ρ P:=q
theorem Ahq{g:Int->Int->PV}{i j:Int}(q:P (g i j))(hc:0<j):bI (λ_ j=>0<j) g (.int i) (.int j) P:=⟨i,j,rfl,rfl,hc,q⟩
theorem Ag5{g:Int->Int->PV}{i j:Int}(q:P (g i j))(hc:AbY i j):bI AbY g (.int i) (.int j) P:=⟨i,j,rfl,rfl,hc,q⟩
theorem Ais{g:Int->Int->PV}{i j:Int}(q:P (g i j))(hc:CMul i j):bI CMul g (.int i) (.int j) P:=⟨i,j,rfl,rfl,hc,q⟩
theorem Ah7{g:Int->Int->PV}{i j:Int}(q:P (g i j))(hc:AbN i j):bI AbN g (.int i) (.int j) P:=⟨i,j,rfl,rfl,hc,q⟩
theorem p_u{g:Int->PV}(q:ua ρ λp=>bU g p P):uU g ua ρ P:=q
theorem b_u{g:Int->PV}{i:Int}(q:P (g i)):bU g (.int i) P:=⟨i,rfl,q⟩
theorem Ain{neg:Bool}(q:ua ρ λp=>ub ρ λq=>Wy neg p q P):Af7 neg ua ub ρ P:=q
theorem Ahl{i j:Int}(q:P (.bl (decide (i=j)))):Wy false (.int i) (.int j) P:=.inl ⟨i,j,rfl,rfl,q⟩
theorem AhH{i j:Int}(q:P (.bl (!decide (i=j)))):Wy true (.int i) (.int j) P:=.inl ⟨i,j,rfl,rfl,q⟩
theorem Aib{i j:Str}(q:P (.bl (decide (i=j)))):Wy false (.str i) (.str j) P:=.inr ⟨i,j,rfl,rfl,q⟩
theorem Ah4{i j:Str}(q:P (.bl (!decide (i=j)))):Wy true (.str i) (.str j) P:=.inr ⟨i,j,rfl,rfl,q⟩
theorem Aij(q:ua ρ λp=>P (.bl (isN p))):Ach false ua ρ P:=q
theorem AeD(q:ua ρ λp=>P (.bl (!isN p))):Ach true ua ρ P:=q
theorem p_b(q:ua ρ λp=>bB p B):uB ua ρ B:=q
theorem b_b{b:Bool}(q:B b):bB (.bl b) B:=⟨b,rfl,q⟩
theorem AhB(q:ta ρ λb=>if b=true then tb ρ B else B false):AmE ta tb ρ B:=q
theorem AjU(q:ta ρ λb=>if b=true then B true else tb ρ B):uOr ta tb ρ B:=q
theorem Ah3(q:ta ρ λb=>B (!b)):AjY ta ρ B:=q
theorem Aip(q:ua ρ λp=>bB p λb=>if b=true then P (.bl true) else ub ρ P):AlF ua ub ρ P:=q
theorem Ah2(q:ta ρ λb=>if b=true then ua ρ P else ub ρ P):uIf ta ua ub ρ P:=q
theorem Ahy{L:List PV->Prop}(q:L []):AkR ρ L:=q
theorem Aej{L:List PV->Prop}{ur:UA}(q:ua ρ λp=>ur ρ λps=>L (p::ps)):AcP ua ur ρ L:=q
theorem AhU{ur:UA}(q:ur ρ λps=>P (.lst ps)):AlQ ur ρ P:=q
theorem Aht{ur:UA}(q:ur ρ λps=>P (.tup ps)):Akk ur ρ P:=q
theorem Ahd(q:ua ρ λp=>ub ρ λq=>Zl p q P):Amg ua ub ρ P:=q
theorem Rq{ps:List PV}{i:Int}(h:atI ps i=some x)(q:P x):Zl (.lst ps) (.int i) P:=⟨i,ps,x,rfl,.inl rfl,h,q⟩
theorem Ani{ns:List Int}{i n:Int}(h:atI ns i=some n)(q:P (.int n)):Zl (.scr ns) (.int i) P:=⟨i,_,_,rfl,.inr ⟨ns,rfl,rfl⟩,by
 unfold L2.atI at h ⊢
 rw[length_map]
 cases e:ixN ns.length i with
 | none=>rw[e] at h;cases h
 | some j=>rw[e] at h;show (ns.map PV.int)[j]? = _;rw[getElem?_map,show ns[j]? = some n from h];rfl,q⟩
theorem AhE(q:ua ρ λp=>ub ρ λq=>Zm p q P):AkH ua ub ρ P:=q
theorem AeO{a:PV}{r:List PV}(q:P a):Zm (.tup (a::r)) (.int 0) P:=⟨0,_,_,rfl,rfl,Gs (j:=0) rfl,q⟩
theorem AeV{a b:PV}{r:List PV}(q:P b):Zm (.tup (a::b::r)) (.int 1) P:=⟨1,_,_,rfl,rfl,Gs (j:=1) rfl,q⟩
theorem AdK{a b c:PV}{r:List PV}(q:P c):Zm (.tup (a::b::c::r)) (.int 2) P:=⟨2,_,_,rfl,rfl,Gs (j:=2) rfl,q⟩
theorem Aac{O:Option Int->Prop}(q:O none):Abw ρ O:=q
theorem Adb{O:Option Int->Prop}(q:ua ρ λp=>AcG p O):Aio ua ρ O:=q
theorem Adc{O:Option Int->Prop}{i:Int}(q:O (some i)):AcG (.int i) O:=⟨i,rfl,q⟩
theorem Ahe{ul uh:UO}(q:ua ρ λp=>ul ρ λlo=>uh ρ λhi=>AfL p lo hi P):Akg ua ul uh ρ P:=q
theorem AhK{ps:List PV}{lo hi:Option Int}(q:P (.lst (Je ps lo hi))):AfL (.lst ps) lo hi P:=⟨ps,.inl rfl,q⟩
theorem AgV(q:ua ρ λp=>ub ρ λq=>Afm p q P):AmB ua ub ρ P:=q
theorem Aie{xs ys:List PV}(q:P (.lst (xs++ys)))(hl:xs.length+ys.length<=100000):Afm (.lst xs) (.lst ys) P:=⟨xs,ys,rfl,rfl,hl,q⟩
theorem AlV{ur:List PV->(PV->Prop)->Prop}{us:UA}(q:us ρ λps=>ur ps P):uCB ur us ρ P:=q
theorem Ac7{xs:List PV}(q:P (.int (xs.length:Nat))):Acm [.lst xs] P:=⟨_,.inr (.inl ⟨xs,rfl,rfl⟩),q⟩
theorem Ad7{ns:List Int}(q:P (.int (ns.length:Nat))):Acm [.scr ns] P:=⟨_,.inr (.inr (.inr ⟨ns,rfl,rfl⟩)),q⟩
theorem AhP{i j:Int}(q:P (.int (if j<i then j else i))):Ag0 [.int i,.int j] P:=⟨i,j,rfl,q⟩
theorem AhM{i j:Int}(q:P (.int (if j>i then j else i))):AhZ [.int i,.int j] P:=⟨i,j,rfl,q⟩
theorem AaW{xs:List PV}(q:P (.lst xs)):Adu [.lst xs] P:=⟨xs,.inl rfl,q⟩
theorem Aia{i:Nat}{us:UA}{ps:List PV}(h:ρ[i]? = some (.ow (.lst ps)))(q:us ρ λqs=>Afr i ρ d.nx qs):Aii i us d ρ:=⟨⟨ps,h⟩,q⟩
theorem Ah1{i:Nat}{N:Bh->Prop}{ps:List PV}(h:ρ[i]? = some (.ow (.lst ps)))(q:N (ρ.set i (.ow (.lst (ps++[x])))))(hl:ps.length<100000):Afr i ρ N [x]:=⟨x,ps,rfl,h,hl,q⟩
theorem Ahx{neg:Bool}(q:ua ρ λp=>ub ρ λq=>AgG neg p q P):Amx neg ua ub ρ P:=q
theorem Ahn{kvs:List (Key×PV)}{n:Int}(q:P (.bl (Gg kvs (.inl n)).isSome)):AgG false (.int n) (.dk kvs) P:=⟨kvs,.inl n,rfl,rfl,q⟩
theorem Adp(q:ua ρ λp=>ub ρ λq=>We p q P):Ahf ua ub ρ P:=q
theorem Vt{kvs:List (Key×PV)}{n:Int}(h:Gg kvs (.inl n)=some x)(q:P x):We (.dk kvs) (.int n) P:=⟨kvs,.inl n,x,rfl,rfl,h,q⟩
theorem Abk{i:Nat}{s:Sl}{kvs:List (Key×PV)}(h1:ρ[i]? = some s)(h2:s.val=some (.dk kvs))(q:ub ρ λq=>uc ρ λz=>Aae kvs q z P):Ac9 i ub uc ρ P:=⟨s,kvs,h1,h2,q⟩
theorem Aa0{kvs:List (Key×PV)}{n:Int}(q:P ((Gg kvs (.inl n)).getD x)):Aae kvs (.int n) x P:=⟨.inl n,rfl,q⟩
theorem AdF{i:Nat}{kvs:List (Key×PV)}(h:ρ[i]? = some (.ow (.dk kvs)))(q:ub ρ λp=>ua ρ λq=>Acj i ρ d.nx p q):Ah9 i ua ub d ρ:=⟨⟨kvs,h⟩,q⟩
theorem Ae6{i:Nat}{kvs:List (Key×PV)}{n:Int}{N:Bh->Prop}(h:ρ[i]? = some (.ow (.dk kvs)))(q:N (ρ.set i (.ow (.dk (Nc kvs (.inl n) x)))))(hl:kvs.length<100000):Acj i ρ N x (.int n):=⟨kvs,.inl n,h,rfl,hl,q⟩
theorem Aif{ui:UI}{ug:PV->Bh->(Bh->Prop)->Prop}(q:ui ρ λps=>Tq ps ug u d ρ):Afz ui ug u d ρ:=q
theorem AhO{L:List PV->Prop}(q:ua ρ λp=>bL p L):uiL ua ρ L:=q
theorem b_L{L:List PV->Prop}{ps:List PV}(q:L ps):bL (.lst ps) L:=⟨ps,.inl rfl,q⟩
theorem Adq{L:List PV->Prop}{i:Nat}(h:ρ[i]? = some (.bo x))(q:bL x L):uiB i ρ L:=let ⟨ps,e,q⟩:=q;⟨_,x,ps,h,.inl rfl,e,q⟩
theorem Adm{L:List PV->Prop}{i:Nat}(h:ρ[i]? = some (.sh x))(q:bL x L):uiB i ρ L:=let ⟨ps,e,q⟩:=q;⟨_,x,ps,h,.inr rfl,e,q⟩
theorem AdA{us:UA}{ug:PV->Bh->(Bh->Prop)->Prop}(q:us ρ λps=>bR1 (λn=>Ve 0 n ug u d ρ) ps):Ahz us ug u d ρ:=q
theorem Aeh{us:UA}{ug:PV->Bh->(Bh->Prop)->Prop}(q:us ρ λps=>bR2 (λi n=>Ve i n ug u d ρ) ps):Ahh us ug u d ρ:=q
theorem AdV{ug:PV->Bh->(Bh->Prop)->Prop}{k:Nat}{fr:List Nat}(q:ua ρ λp=>bL p λps=>ps.length<=100000/\Ln ps ug ta ue (compρ k fr ρ) P):Ahm ua ug ta ue k fr ρ P:=q
theorem AbF{us:UA}{ug:PV->Bh->(Bh->Prop)->Prop}{ue:UE}{k:Nat}{fr:List Nat}(q:us ρ λps=>Zj ug ta ue (compρ k fr ρ) P ps):Ac5 us ug ta ue k fr ρ P:=q
theorem AdQ(q:B true):Ait ρ B:=q
theorem Ae3{psp:PSp}{us:UA}(q:us ρ λps=>psp ps P):Wa psp us ρ P:=q
theorem Ag8{neg:Bool}(q:ua ρ λp=>ub ρ λq=>Aap neg p q P):Ak7 neg ua ub ρ P:=q
theorem AkW{neg:Bool}(q:ua ρ λp=>ub ρ λq=>bIn neg p q P):uIn neg ua ub ρ P:=q
theorem AhX{n:String}(q:ua ρ λp=>AfK n p P):Ami n ua ρ P:=q
theorem AdL{xs:List PV}(q:P (.bl true)):AfK "list" (.lst xs) P:=⟨_,rfl,q⟩
theorem Ak9{L:Nat->Prop}{j:Int}(q:L j.toNat)(h:-(2^62)<=j/\j<2^62):bR1 L [.int j]:=⟨j,rfl,h.1,h.2,q⟩
theorem Al1{L:Int->Nat->Prop}{i j:Int}(q:L i (j - i).toNat)(h:-(2^62)<=i/\i<2^62/\-(2^62)<=j/\j<2^62):bR2 L [.int i,.int j]:=⟨i,j,rfl,h,q⟩
theorem Fh{α:Type}{f:α->PV}{l:List α}{j:Nat}{a:α}{i:Int}(h:l[j]? = some a)(e:i=(j:Int))(q:P (f a)):Zl (.lst (l.map f)) (.int i) P:=by
 subst e
 exact⟨_,_,_,rfl,.inl rfl,Gs (by rw[getElem?_map,h];rfl),q⟩
theorem AlI{us:UA}(q:us ρ λps=>bMk P ps):uMk us ρ P:=q
theorem AlN{f:List Sg->List (Int×Int)->List Jn->Int->PV}(q:ua ρ λp=>bBk p λS M J=>ub ρ λq=>bU (λn=>f S M J n) q P):uM1 f ua ub ρ P:=q
theorem AkD{S:List Sg}{M:List (Int×Int)}{J:List Jn}{L:List Sg->List (Int×Int)->List Jn->Prop}(q:L S M J):bBk (.bk S M J) L:=⟨S,M,J,rfl,q⟩
theorem Aeg{xs:List PV}(c:CmpL xs xs)(q:P (.bl true)):Aap false (.lst xs) (.lst xs) P:=⟨xs,xs,rfl,rfl,c,λb hb=>by rw[hb.mpr rfl];exact q⟩
theorem AdZ{xs:List PV}(c:CmpL xs xs)(q:P (.bl false)):Aap true (.lst xs) (.lst xs) P:=⟨xs,xs,rfl,rfl,c,λb hb=>by rw[hb.mpr rfl];exact q⟩
theorem Uy{xs ys:List Int}:CmpL (xs.map .int) (ys.map .int):=λ_ i x y hx hy=>by
 rw[getElem?_map] at hx hy
 obtain⟨a,_,rfl⟩:=map_eq_some_iff.mp hx
 obtain⟨b,_,rfl⟩:=map_eq_some_iff.mp hy
 exact .flat rfl rfl
theorem Fq{α:Type}{S:List α}{enc:α->PV}{f:α->Option PV}{ug:PV->Bh->(Bh->Prop)->Prop}{ue:UE}{ρ':Bh}(q:P (.lst (S.filterMap f)))(h:∀s∈S,∀Z:Option PV->Prop,Z (f s)->ug (enc s) ρ' λρ2=>ta ρ2 λb=>if b=true then ue ρ2 λq=>Z (some q) else Z none):Ln (S.map enc) ug ta ue ρ' P:=by
 refine⟨λn rs=>rs=(S.take n).filterMap f,rfl,λn p rs hp hr=>?_,λrs hr=>?_⟩
 ·rw[getElem?_map] at hp
  obtain⟨s,hs,rfl⟩:=map_eq_some_iff.mp hp
  subst hr
  refine h s (mem_of_getElem? hs) (λo=>(match o with | some q=>(S.take n).filterMap f++[q] | none=>(S.take n).filterMap f)=(S.take (n+1)).filterMap f) ?_
  rw[Dj hs,List.filterMap_append]
  cases e:f s with
  | none=>simp [filterMap_cons,e]
  | some x=>simp [filterMap_cons,e]
 ·rw[length_map,take_length] at hr
  rw[hr];exact q
end
section
variable {K:Frag}{C:Addr}{ω:Om}{rm:Rm}
theorem Ta{G:Hp}{vs:List V}{ns:List Int}(h:Reps K C G vs (ns.map .int)):vs=ns.map V.int:=by
 refine Qf (by rw[h.1,length_map,length_map]) λi x y hx hy=>?_
 rw[getElem?_map] at hy
 obtain⟨n,hn,rfl⟩:=map_eq_some_iff.mp hy
 have r:=h.2 i x (.int n) hx (by rw[getElem?_map,hn];rfl)
 cases r;rfl
end
def Aa3:PSp:=λps P=>∃ns,ps=[.scr ns]/\ns.length<=63/\P (.bl true)
def Vl(K:Frag):Sp:=λvs H Q _=>∃(a:Addr) (ns:List Int),vs=[.ref a]/\SqL K H a (ns.map V.int)/\ns.length<=63/\∀H',Q (.bl true) H'
theorem Ai4{K:Frag}{C:Addr}:∀vs H Q E,Vl K vs H Q E->spOf K C [false] .sh Aa3 vs H Q E:=λvs H Q E ⟨a,ns,e,hS,hl,q⟩=>by
 subst e
 refine⟨H,[.scr ns],λp=>p=.bl true,Same.refl _,⟨.inl (.scr hS),trivial⟩,⟨ns,rfl,hl,rfl⟩,λG' H' v p w r hp=>?_⟩
 subst hp
 have r':Rep K C G' v (.bl true):=r
 cases r'
 exact q H'
section
variable {K:Frag}{C:Addr}
end
section
variable {K:Frag}{C:Addr}{ω:Om}
end
section
variable {K:Frag}{C:Addr}{ω:Om}{rm:Rm}
end
section
variable {K:Frag}{C:Addr}{ω:Om}{rm:Rm}
end
section
variable {K:Frag}{C:Addr}{ω:Om}{rm:Rm}
theorem Reps.pick{G:Hp}{vs:List V}{ps:List PV}(h:Reps K C G vs ps):∀is:List Nat,Reps K C G (pick is vs) (pick is ps)
 | []=>LAt.nil
 | i::is=>by
  have ih:=Reps.pick h is
  unfold L2.pick at ih ⊢
  rw[filterMap_cons,filterMap_cons]
  cases e:vs[i]? with
  | none =>
   have:ps[i]? = none:=by
    rw[List.getElem?_eq_none_iff] at e ⊢
    rw[<- h.1];exact e
   rw[this];exact ih
  | some v =>
   have hi:i<ps.length:=by rw[<- h.1];exact (List.getElem?_eq_some_iff.mp e).1
   have e2:=getElem?_eq_getElem hi
   rw[e2]
   exact LAt.append (LAt.snoc LAt.nil (h.2 i v _ e e2)) ih
def Af9(p:PV)(lo hi st:Option Int)(P:PV->Prop):Prop:=∃ps,(p=.lst ps\/∃ns,p=.scr ns/\ps=ns.map .int)/\st≠some 0/\P (.lst (pick (Oy ps.length lo hi st) ps))
def Alr(ua:UE)(ul uh us:UO):UE:=λρ P=>ua ρ λp=>ul ρ λlo=>uh ρ λhi=>us ρ λst=>Af9 p lo hi st P
theorem Am8{ρ:Bh}{ua:UE}{ul uh us:UO}{P:PV->Prop}(q:ua ρ λp=>ul ρ λlo=>uh ρ λhi=>us ρ λst=>Af9 p lo hi st P):Alr ua ul uh us ρ P:=q
theorem AlD{ns:List Int}{lo hi st:Option Int}{P:PV->Prop}(q:P (.lst ((pick (Oy ns.length lo hi st) ns).map .int)))(h:st≠some 0):Af9 (.scr ns) lo hi st P:=⟨ns.map .int,.inr ⟨ns,rfl,rfl⟩,h,by rw[length_map,AfG];exact q⟩
theorem Ae8{ta:TE}{tl th ts:TO}{ua:UE}{ul uh us:UO}(ha:EB K C ω ta ua)(hl:OU K C ω tl ul)(hh:OU K C ω th uh)(hs:OU K C ω ts us):EF K C ω (AfT K ta tl th ts) (Alr ua ul uh us) :=
 λB G0 H0 own G σ H ρ P Q S hu k=>ha B G0 H0 own G σ H ρ _ _ S hu λv p G1 H1 w1 r1 h1=>hl B G0 H0 own G1 σ H1 ρ _ _ (S.grow w1) h1 λlo G2 H2 w2 h2=>hh B G0 H0 own G2 σ H2 ρ _ _ ((S.grow w1).grow w2) h2 λhi G3 H3 w3 h3=>hs B G0 H0 own G3 σ H3 ρ _ _ (((S.grow w1).grow w2).grow w3) h3 λst G4 H4 w4 h4=>by
  have w:=((w1.trans w2).trans w3).trans w4
  have r:=((r1.grow w2).grow w3).grow w4
  obtain⟨ps,e,h0,h⟩:=h4
  rcases e with e | ⟨ns,e,e4⟩
  ·subst e
   obtain⟨a,vs,rfl,ea,l⟩:=r.lst w4.i
   exact⟨a,vs,rfl,SqL.of ea,h0,λb H5 hb s5 e5=>k b _ G4 H5 (w.trans (Grow.own w4.i s5)) (w.h.free hb) (w4.i.free hb) (OwnA.ofL e5 (l.1▸Reps.pick l _)) h⟩
  ·subst e e4
   obtain⟨a,rfl,ea⟩:=r.scr w4.i
   exact⟨a,_,rfl,ea,h0,λb H5 hb s5 e5=>k b _ G4 H5 (w.trans (Grow.own w4.i s5)) (w.h.free hb) (w4.i.free hb) (OwnA.ofL e5 (by
    have e6:=Reps.pick (Fj (K:=K) (C:=C) (G:=G4) ns) (Oy (ns.map V.int).length lo hi st)
    rwa [show (ns.map V.int).length=(ns.map PV.int).length by rw[length_map,length_map]] at e6 ⊢)) h⟩
end
section
variable {K:Frag}{C:Addr}{ω:Om}{rm:Rm}
def enP(ps:List PV):List PV:=ps.mapIdx λi p=>.tup [.int (i:Int),p]
theorem Op{ps:List PV}{k:Nat}:(enP ps)[k]? = ps[k]?.map λp=>.tup [.int (k:Int),p]:=by unfold enP;rw[getElem?_mapIdx]
theorem Qu(ps:List PV):(enP ps).length=ps.length:=by unfold enP;rw[length_mapIdx]
def Ail(ua:UE)(ug:PV->Bh->(Bh->Prop)->Prop)(ub:US):US:=λd ρ=>ua ρ λp=>bL p λps=>Tq (enP ps) ug ub d ρ
theorem Wi{top:Nat}{ta:TE}{ua:UE}{g:TG}{ug:PV->Bh->(Bh->Prop)->Prop}{tb:TS}{ub:US}(ha:EU K C ω ta ua)(hg:GU K C ω top g ug)(hb:SU K C ω rm tb ub):SU K C ω rm (Na (Zb K ta) g tb) (Ail ua ug ub) :=
 λB G0 H0 own G σ H ρ D d S F hu=>ha B G0 H0 own G σ H ρ _ _ S hu λv p G1 H1 w1 r1 ⟨ps,e,I,i0,ist,iend⟩=>by
  have S1:=S.grow w1
  obtain⟨a,vs,rfl,sq,rp⟩:∃a vs,v=.ref a/\SqL K G1 a vs/\Reps K C G1 vs ps:=by
   rcases e with e | ⟨ns,e,e2⟩
   ·subst e
    cases r1 with
    | lst e l q=>exact⟨_,_,rfl,SqL.of e,l,q⟩
   ·subst e e2
    cases r1 with
    | scr e=>exact⟨_,_,rfl,e,Fj ns⟩
  refine⟨a,rfl,⟨vs,w1.i.seq sq⟩,Zg (xs:=vs) (λk σ' H'=>∃own' G' ρ',Sat K C ω G1 G0 H0 own' G' σ' H' ρ'/\I k ρ') ⟨own,G1,ρ,S1.base (Same.refl _),i0⟩ (λk σ' H' _ ⟨own',G',ρ',S',_⟩=>(S'.kb.trans S'.gr.i).seq sq) (λk x t σ' H' hx ht ⟨own',G',ρ',S',hi⟩=>?_) λσ' H' ⟨own',G',ρ',S',hi⟩=>?_⟩
  ·obtain⟨q,hq,rq⟩:=rp.get hx
   have w2:Grow G' H' (upd G' t (.tup [.int (k:Int),x])) (upd H' t (.tup [.int (k:Int),x])):=Grow.put S'.gr.i ht (Same.new ht) Bn
   have S2:=S'.grow w2
   have rt:Rep K C (upd G' t (.tup [.int (k:Int),x])) (.ref t) (.tup [.int (k:Int),q]):=Rep.ofT Bn (LAt.snoc (LAt.snoc LAt.nil (.int _)) ((rq.mono S'.kb).mono w2.g))
   exact hg G1 G0 H0 own' _ σ' _ ρ' (.ref t) _ _ _ S2 rt (ist k _ ρ' (by rw[Op,hq];rfl) hi) λown2 σ2 ρ2 S3 _ h2=>hb G1 G0 H0 own2 _ σ2 _ ρ2 _ _ S3 (Ld F S1.kb λown3 G3 σ3 H3 ρ3 S4 h3=>⟨own3,G3,ρ3,S4,h3⟩) h2
  ·rw[rp.1,<- Qu] at hi
   exact F.nx own' G' σ' H' ρ' (S'.base (S1.kb.trans S'.kb)) (iend ρ' hi)
def Aea(ua:UE)(ug:PV->Bh->(Bh->Prop)->Prop)(uc:UT)(ue:UE)(k:Nat)(fr:List Nat):UE:=λρ P=>ua ρ λp=>bL p λps=>ps.length<=100000/\Ln (enP ps) ug uc ue (compρ k fr ρ) P
theorem Ab2{B G0 H0 G1 H1:Hp}{own:Nat->Option Addr}{σ:St}{ρ:Bh}(S:Sat K C ω B G0 H0 own G1 σ H1 ρ){k:Nat}{fr:List Nat}{g:TG}{ug:PV->Bh->(Bh->Prop)->Prop}{tc:TT}{uc:UT}{te:TE}{ue:UE}(hg:GU K C Om.no k g ug)(hc:TU K C Om.no tc uc)(he:EU K C Om.no te ue){D t:Addr}(hD:H1 D=none){I:Nat->List PV->Prop}{n:Nat}(hn:n<100000){x:V}{q:PV}{H':Hp}{N:Hp->Prop}
  (rq:Rep K C G1 x q) (ht:H' t=none) (st:CSt K C G1 H1 D I n H') (hN:∀H'',CSt K C G1 H1 D I (n+1) H''->N H'') (hs:∀rs,I n rs->ug (.tup [.int (n:Int),q]) (compρ k fr ρ) λρ2=>uc ρ2 λb=>if b=true then ue ρ2 λq=>I (n+1) (rs++[q]) else I (n+1) rs) :
  g (.ref t) (compσ k fr σ) (upd H' t (.tup [.int (n:Int),x])) λσ2 H2=>σ2.drop k=(compσ k fr σ).drop k/\tc σ2 H2 λb H3=>if b=true then te σ2 H3 (λy H4=>∃ys,H4 D=some (.lst ys)/\ys.length<sizeLine/\N (upd H4 D (.lst (ys++[y])))) else N H3:=by
 obtain⟨G,ys,rs,w,gD,eD,ry,hl,hi⟩:=st
 have w2:Grow G H' (upd G t (.tup [.int (n:Int),x])) (upd H' t (.tup [.int (n:Int),x])):=Grow.put w.i ht (Same.new ht) Bn
 have nD:D≠t:=λz=>by rw[z,ht] at eD;cases eD
 have gD2:upd G t (.tup [.int (n:Int),x]) D=none:=by rw[Bj nD];exact gD
 have eD2:upd H' t (.tup [.int (n:Int),x]) D=some (.lst ys):=by rw[Bj nD];exact eD
 have w':=w.trans w2
 have ry2:=ry.mono w2.g
 have rt:Rep K C (upd G t (.tup [.int (n:Int),x])) (.ref t) (.tup [.int (n:Int),q]):=Rep.ofT Bn (LAt.snoc (LAt.snoc LAt.nil (.int _)) (rq.mono w'.g))
 refine hg G1 G1 H1 _ _ _ _ _ (.ref t) _ _ _ (S.comp k fr w') rt (hs rs hi) λown' σ' ρ' S' dr h=>⟨dr,hc G1 G1 H1 own' _ σ' _ ρ' _ _ S' h λb G3 H3 w3 h3=>?_⟩
 cases b with
 | false=>exact Lw (hN _ ⟨G3,ys,rs,w'.trans w3,w3.n D _ eD2 (λ_ z=>nomatch z) gD2,w3.h _ _ eD2,ry2.mono w3.g,by omega,by simpa using h3⟩)
 | true =>
  refine Lo (he G1 G1 H1 own' G3 σ' H3 ρ' _ _ (S'.grow w3) (by simpa using h3) λy q G4 H4 w4 r4 h4=>?_)
  have w34:=w3.trans w4
  have g4:G4 D=none:=w34.n D _ eD2 (λ_ z=>nomatch z) gD2
  have e4:H4 D=some (.lst ys):=w34.h _ _ eD2
  refine⟨ys,e4,Ss (by rw[ry.1];omega),hN _ ⟨G4,_,_,⟨(w'.trans w34).g,λb u h=>?_,λb u h=>?_,(w'.trans w34).n⟩,g4,Bn,Le (ry2.mono w34.g) r4,by rw[length_append];simp;omega,h4⟩⟩
  ·rw[Bj (by intro z;subst z;rw[hD] at h;cases h)];exact (w'.trans w34).h _ _ h
  ·rw[Bj (by intro z;subst z;rw[g4] at h;cases h)];exact w34.i _ _ h
theorem Afq{ta:TE}{ua:UE}{k:Nat}{fr:List Nat}{g:TG}{ug:PV->Bh->(Bh->Prop)->Prop}{tc:TT}{uc:UT}{te:TE}{ue:UE}(ha:EB K C ω ta ua)(hg:GU K C Om.no k g ug)(hc:TU K C Om.no tc uc)(he:EU K C Om.no te ue):EF K C ω (Jm (Zb K ta) g tc te k fr) (Aea ua ug uc ue k fr) :=
 λB G0 H0 own G σ H ρ P Q S hu kk=>Of (ha B G0 H0 own G σ H ρ _ _ S hu λv p G1 H1 w1 r1 ⟨ps,e,hl,I,i0,ist,iend⟩=>by
  have S1:=S.grow w1
  obtain⟨a,vs,rfl,sq,rp⟩:∃a vs,v=.ref a/\SqL K H1 a vs/\Reps K C G1 vs ps:=by
   rcases e with e | ⟨ns,e,e2⟩
   ·subst e
    obtain⟨a,vs,rfl,ea,l⟩:=r1.lst w1.i
    exact⟨a,vs,rfl,SqL.of ea,l⟩
   ·subst e e2
    obtain⟨a,rfl,ea⟩:=r1.scr w1.i
    exact⟨a,_,rfl,ea,Fj ns⟩
  refine⟨a,rfl,⟨vs,sq⟩,λD hD=>CP.enum vs (CSt K C G1 H1 D I) (Nt w1.i hD i0) (λn H' _ ⟨G',_,_,w,_⟩=>w.h.seq sq) (λn x t H' N hx ht st hN=>?_) λH' st=>?_⟩
  ·obtain⟨q,hq,rq⟩:=rp.get hx
   have hn:n<ps.length:=(List.getElem?_eq_some_iff.mp hq).1
   exact Ab2 S1 hg hc he hD (by omega) rq ht st hN λrs hi=>ist n _ rs (by rw[Op,hq];rfl) hi
  ·obtain⟨G',ys,rs,w,gD,eD,ry,_,hi⟩:=st
   rw[rp.1,<- Qu] at hi
   exact kk D _ G' H' (w1.trans w) (w1.h.free hD) gD (OwnA.ofL eD ry) (iend rs hi))
theorem AlM{ρ:Bh}{d:Fv}{ua:UE}{ug:PV->Bh->(Bh->Prop)->Prop}{ub:US}(q:ua ρ λp=>bL p λps=>Tq (enP ps) ug ub d ρ):Ail ua ug ub d ρ:=q
theorem AiC{ρ:Bh}{P:PV->Prop}{ua:UE}{ug:PV->Bh->(Bh->Prop)->Prop}{uc:UT}{ue:UE}{k:Nat}{fr:List Nat}(q:ua ρ λp=>bL p λps=>ps.length<=100000/\Ln (enP ps) ug uc ue (compρ k fr ρ) P):Aea ua ug uc ue k fr ρ P:=q
end
section
variable {K:Frag}{C:Addr}{ω:Om}
end
theorem Og{u w:US}{d:Fv}{ρ:Bh}(N:Bh->Prop)(h1:∀ρ',N ρ'->w d ρ')(h2:u { d with nx:=λρ'=>N ρ'\/w d ρ' } ρ):AfB u w d ρ:=by
 have e:(λρ'=>N ρ'\/w d ρ')=w d:=funext λρ'=>propext ⟨λz=>z.elim (h1 ρ') id,.inr⟩
 rw[e] at h2
 exact h2
section
variable {K:Frag}{C:Addr}{ω:Om}{rm:Rm}
theorem Agr{G:Hp}{vs:List V}{ps:List PV}(h:Reps K C G vs ps):Reps K C G vs.reverse ps.reverse:=by
 refine⟨by rw[length_reverse,length_reverse,h.1],λi v p h1 h2=>?_⟩
 have hi:i<vs.length:=by simpa using (List.getElem?_eq_some_iff.mp h1).1
 have hj:i<ps.length:=by simpa using (List.getElem?_eq_some_iff.mp h2).1
 rw[List.getElem?_reverse hi] at h1
 rw[List.getElem?_reverse hj] at h2
 exact h.2 _ v p h1 (by rw[h.1];exact h2)
def AgQ(p:PV)(P:PV->Prop):Prop:=∃ps,p=.lst ps/\P (.lst ps.reverse)
def Alw(ua:UE):UE:=λρ P=>ua ρ λp=>AgQ p P
theorem Ann{ρ:Bh}{ua:UE}{P:PV->Prop}(q:ua ρ λp=>AgQ p P):Alw ua ρ P:=q
theorem Aoc{ps:List PV}{P:PV->Prop}(q:P (.lst ps.reverse)):AgQ (.lst ps) P:=⟨ps,rfl,q⟩
theorem Adh{ta:TE}{ua:UE}(ha:EB K C ω ta ua):EF K C ω (Aj1 K ta) (Alw ua) :=
 λB G0 H0 own G σ H ρ P Q S hu k=>ha B G0 H0 own G σ H ρ _ _ S hu λv p G1 H1 w1 r1 ⟨ps,e,h⟩=>by
  subst e
  obtain⟨a,vs,rfl,ea,l⟩:=r1.lst w1.i
  exact⟨a,vs,rfl,SqL.of ea,λb H2 hb s2 e2=>k b _ G1 H2 (w1.trans (Grow.own w1.i s2)) (w1.h.free hb) (w1.i.free hb) (OwnA.ofL e2 (Agr l)) h⟩
def Agm(i:Nat)(ρ:Bh)(N:Bh->Prop)(p q:PV):Prop:=∃ps n j,ρ[i]? = some (.ow (.lst ps))/\q=.int n/\ixN ps.length n=some j/\N (ρ.set i (.ow (.lst (ps.set j p))))
def Akb(i:Nat)(ub uv:UE):US:=λd ρ=>(∃ps,ρ[i]? = some (.ow (.lst ps)))/\uv ρ λp=>ub ρ λq=>Agm i ρ d.nx p q
theorem Anu{i:Nat}{ρ:Bh}{ub uv:UE}{d:Fv}{ps:List PV}(h:ρ[i]? = some (.ow (.lst ps)))(q:uv ρ λp=>ub ρ λq=>Agm i ρ d.nx p q):Akb i ub uv d ρ:=⟨⟨ps,h⟩,q⟩
theorem Wd{i:Nat}{ρ:Bh}{N:Bh->Prop}{p:PV}{n:Int}{j:Nat}{ps:List PV}(h:ρ[i]? = some (.ow (.lst ps)))(hj:ixN ps.length n=some j)(q:N (ρ.set i (.ow (.lst (ps.set j p))))):Agm i ρ N p (.int n):=⟨ps,n,j,h,rfl,hj,q⟩
theorem Afy{G:Hp}{vs:List V}{ps:List PV}{j:Nat}{v:V}{p:PV}(h:Reps K C G vs ps)(r:Rep K C G v p):Reps K C G (vs.set j v) (ps.set j p):=by
 refine⟨by rw[length_set,length_set,h.1],λi x y h1 h2=>?_⟩
 by_cases z:i=j
 ·subst z
  have hi:i<vs.length:=by simpa using (List.getElem?_eq_some_iff.mp h1).1
  rw[getElem?_set_self hi] at h1
  rw[getElem?_set_self (by rw[<- h.1];exact hi)] at h2
  cases h1;cases h2;exact r
 ·rw[getElem?_set_ne (Ne.symm z)] at h1 h2
  exact h.2 i x y h1 h2
theorem Sh{i:Nat}{tb tv:TE}{ub uv:UE}(hb:EB K C ω tb ub)(hv:EU K C ω tv uv):SU K C ω rm (Lj tv (AkY (Fn i) tb Adl)) (Akb i ub uv):=λB G0 H0 own G σ H ρ D d S F ⟨⟨ps0,e0⟩,hu⟩ =>
 hv B G0 H0 own G σ H ρ _ _ S hu λv p G1 H1 w1 r1 h1=>by
  have S1:=S.grow w1
  obtain⟨a,ea,o,_⟩:=S.sl i _ e0
  refine⟨_,ea,hb B G0 H0 own G1 σ H1 ρ _ _ S1 h1 λw q G2 H2 w2 r2 ⟨ps,n,j,e,e2,hj,h⟩=>?_⟩
  subst e2
  have S2:=S1.grow w2
  obtain⟨a',ea',o',vs,ha,l⟩:=S2.sl i _ e
  rw[o] at o';cases o'
  exact⟨a,vs,n,j,rfl,r2.int,ha,by rw[l.1];exact hj,λH3 c e3=>F.nx own G2 σ H3 _ (S2.chg o ea c (OwnA.ofL e3 (Afy l (r1.mono w2.g)))) h⟩
def Af1(p q:PV)(P:PV->Prop):Prop:=∃x n,p=.lst [x]/\q=.int n/\n<=100000/\-(2^63)<=n/\P (.lst (replicate n.toNat x))
def Amp(ua ub:UE):UE:=λρ P=>ua ρ λp=>ub ρ λq=>Af1 p q P
theorem AnH{ρ:Bh}{ua ub:UE}{P:PV->Prop}(q:ua ρ λp=>ub ρ λq=>Af1 p q P):Amp ua ub ρ P:=q
theorem AnP{x:PV}{n:Int}{P:PV->Prop}(q:P (.lst (replicate n.toNat x)))(h:n<=100000/\-(2^63)<=n):Af1 (.lst [x]) (.int n) P:=⟨x,n,rfl,rfl,h.1,h.2,q⟩
theorem AeL{ta tb:TE}{ua ub:UE}(ha:EB K C ω ta ua)(hb:EB K C ω tb ub):EF K C ω (tOp Ahi ta tb) (Amp ua ub) :=
 λB G0 H0 own G σ H ρ P Q S hu k=>two ha hb S hu λv w p q G' H' gr r1 r2 ⟨x,n,e1,e2,hl,hm,h⟩=>by
  subst e1 e2
  obtain⟨a,vs,rfl,ea,l⟩:=r1.lst gr.i
  rw[r2.int]
  obtain⟨y,rfl⟩:∃y,vs=[y]:=by
   have hlen:vs.length=1:=l.1
   match vs,hlen with
   | [y],_=>exact⟨y,rfl⟩
  refine⟨a,n,[y],rfl,rfl,ea,hm,by omega,Nat.le_of_lt (Ss (by simp;omega)),λc H4 hc s4 e4=>k c _ G' H4 (gr.trans (Grow.own gr.i s4)) (gr.h.free hc) (gr.i.free hc) (OwnA.ofL e4 ?_) h⟩
  have hf:∀m:Nat,(replicate m [y]).flatten=replicate m y:=λm=>by
   induction m with
   | zero=>rfl
   | succ m ih=>rw[replicate_succ,flatten_cons,ih,replicate_succ];rfl
  rw[hf]
  refine⟨by simp,λi v p h1 h2=>?_⟩
  have hi:i<n.toNat:=by simpa using (List.getElem?_eq_some_iff.mp h1).1
  rw[getElem?_replicate,if_pos hi] at h1 h2
  cases h1;cases h2
  exact l.2 0 _ _ rfl rfl
inductive EqO:PV->PV->Bool->Prop where
 | nn:EqO .non .non true
 | ns {z:Str}:EqO .non (.str z) false
 | ni {z:Int}:EqO .non (.int z) false
 | ii {x y:Int}:EqO (.int x) (.int y) (decide (x=y))
 | nt {ys:List PV}:EqO .non (.tup ys) false
 | tn {xs:List PV}:EqO (.tup xs) .non false
 | ts {xs:List PV} {z:Str}:EqO (.tup xs) (.str z) false
 | ss {x y:Str}:EqO (.str x) (.str y) (decide (x=y))
 | tt {xs ys:List PV} {b:Bool} (c:∀(i:Nat) (x y:PV),xs[i]? = some x->ys[i]? = some y->Cmp 40 x y) (h:b=true↔xs=ys):EqO (.tup xs) (.tup ys) b
def Afh(neg:Bool)(p q:PV)(P:PV->Prop):Prop:=∃b,EqO p q b/\P (.bl (if neg then !b else b))
def Ala(neg:Bool)(ua ub:UE):UE:=λρ P=>ua ρ λp=>ub ρ λq=>Afh neg p q P
theorem Anr{neg:Bool}{ρ:Bh}{ua ub:UE}{P:PV->Prop}(q:ua ρ λp=>ub ρ λq=>Afh neg p q P):Ala neg ua ub ρ P:=q
theorem AlC{neg bb:Bool}{G' H':Hp}{a b:Addr}{vs ws:List V}{xs ys:List PV}{Q:VK}(i0:Same G' H')(c:∀(i:Nat) (x y:PV),xs[i]? = some x->ys[i]? = some y->Cmp 40 x y)(ea:H' a=some (.tup vs))(eb:H' b=some (.tup ws))(l1:Reps K C G' vs xs)(l2:Reps K C G' ws ys)(hbb:bb=true↔xs=ys)(fin:Q (.bl (if neg then !bb else bb)) H'):AfS K neg (.ref a) (.ref b) H' Q:=by
 have key:((range (min vs.length ws.length)).all (λi=>pd (xs[i]? = ys[i]?))&&vs.length==ws.length)=pd (xs=ys):=Gy (by
  rw[pd_iff,and_eq_true,Qn]
  constructor
  ·rintro ⟨e,el⟩
   have el':vs.length=ws.length:=by simpa using el
   refine ext_getElem? λi=>?_
   by_cases hi:i<vs.length
   ·exact pd_iff.mp (e i (by omega))
   ·rw[getElem?_eq_none (by rw[<- l1.1];omega),getElem?_eq_none (by rw[<- l2.1];omega)]
  ·intro e
   exact⟨λi _=>by rw[pd_iff,e],by rw[l1.1,l2.1,e];exact beq_self_eq_true _⟩)
 refine⟨a,b,vs,ws,λi=>pd (xs[i]? = ys[i]?),rfl,rfl,SqT.of ea,SqT.of eb,λi x y hx hy=>?_,?_⟩
 ·obtain⟨p,hp,rp⟩:=l1.get hx
  obtain⟨q,hq,rq⟩:=l2.get hy
  refine (c i p q hp hq).eqD i0 rp rq ?_
  rw[pd_iff,hp,hq]
  exact⟨λz=>Option.some.inj z,λz=>congrArg some z⟩
 ·rw[key,show pd (xs=ys)=bb from Gy (by rw[pd_iff,hbb])];exact fin
theorem Ako{neg:Bool}{ta tb:TE}{ua ub:UE}(ha:EB K C ω ta ua)(hb:EB K C ω tb ub):EU K C ω (tOp (AkI K neg) ta tb) (Ala neg ua ub) :=
 λB G0 H0 own G σ H ρ P Q S hu k=>two ha hb S hu λv w p q G' H' gr r1 r2 ⟨b,e,h⟩=>by
  have fin:Q (.bl (if neg then !b else b)) H':=k _ _ G' H' gr (.bl _) h
  cases e with
  | nn =>
   rw[show v=.non by rcases r1 with r1 | ⟨_,_,z⟩;cases r1;rfl;exact z.elim,show w=.non by rcases r2 with r2 | ⟨_,_,z⟩;cases r2;rfl;exact z.elim]
   exact .inr (.inl ⟨rfl,by simpa using fin⟩)
  | ns =>
   rw[show v=.non by rcases r1 with r1 | ⟨_,_,z⟩;cases r1;rfl;exact z.elim,r2.str]
   exact .inr (.inl ⟨rfl,by simpa using fin⟩)
  | ni =>
   rw[show v=.non by rcases r1 with r1 | ⟨_,_,z⟩;cases r1;rfl;exact z.elim,r2.int]
   exact .inr (.inl ⟨rfl,by simpa using fin⟩)
  | @ii x y =>
   rw[r1.int,r2.int]
   refine .inr (.inl ⟨rfl,?_⟩)
   have e:decide (V.int x=V.int y)=decide (x=y):=decide_eq_decide.mpr ⟨λz=>by injection z,λz=>by rw[z]⟩
   rw[e];exact fin
  | nt =>
   obtain⟨a,vs,rfl,ea,l⟩:=r2.tup gr.i
   rw[show v=.non by rcases r1 with r1 | ⟨_,_,z⟩;cases r1;rfl;exact z.elim]
   exact .inr (.inr ⟨a,vs,SqT.of ea,.inr ⟨rfl,rfl⟩,by cases neg <;> exact fin⟩)
  | tn =>
   obtain⟨a,vs,rfl,ea,l⟩:=r1.tup gr.i
   rw[show w=.non by rcases r2 with r2 | ⟨_,_,z⟩;cases r2;rfl;exact z.elim]
   exact .inr (.inr ⟨a,vs,SqT.of ea,.inl ⟨rfl,.inl rfl⟩,by cases neg <;> exact fin⟩)
  | ts =>
   obtain⟨a,vs,rfl,ea,l⟩:=r1.tup gr.i
   rw[r2.str]
   exact .inr (.inr ⟨a,vs,SqT.of ea,.inl ⟨rfl,.inr ⟨_,rfl⟩⟩,by cases neg <;> exact fin⟩)
  | @ss x y =>
   rw[r1.str,r2.str]
   refine .inr (.inl ⟨rfl,?_⟩)
   have e:decide (V.str x=V.str y)=decide (x=y):=decide_eq_decide.mpr ⟨λz=>by injection z,λz=>by rw[z]⟩
   rw[e];exact fin
  | tt c hb' =>
   left
   obtain⟨a,vs,rfl,ea,l⟩:=r1.tup gr.i
   obtain⟨b2,ws,rfl,eb,l2⟩:=r2.tup gr.i
   exact AlC gr.i c ea eb l l2 hb' fin
end
section
variable {K:Frag}{C:Addr}{ω:Om}{rm:Rm}
def zpP(ps qs:List PV):List PV:=zipWith (λp q=>PV.tup [p,q]) ps qs
theorem Abv{ps qs:List PV}{k:Nat}{p q:PV}(h1:ps[k]? = some p)(h2:qs[k]? = some q):(zpP ps qs)[k]? = some (.tup [p,q]):=by
 unfold zpP;rw[List.getElem?_zipWith,h1,h2]
theorem Aby(ps qs:List PV):(zpP ps qs).length=min ps.length qs.length:=by unfold zpP;exact List.length_zipWith
theorem Xe{α β:Type}(f:α->PV)(g:β->PV)(xs:List α)(ys:List β):zpP (xs.map f) (ys.map g)=(xs.zip ys).map λz=>PV.tup [f z.1,g z.2]:=by
 unfold zpP
 rw[List.zipWith_map,zip,List.map_zipWith]
def bLL(p q:PV)(R:List PV->List PV->Prop):Prop:=∃ps qs,p=.lst ps/\q=.lst qs/\R ps qs
theorem Aoz{ps qs:List PV}{R:List PV->List PV->Prop}(h:R ps qs):bLL (.lst ps) (.lst qs) R:=⟨ps,qs,rfl,rfl,h⟩
def AgU(ua ub:UE)(ug:PV->Bh->(Bh->Prop)->Prop)(u:US):US:=λd ρ=>ua ρ λp=>ub ρ λq=>bLL p q λps qs=>Tq (zpP ps qs) ug u d ρ
theorem Al3{ρ:Bh}{d:Fv}{ua ub:UE}{ug:PV->Bh->(Bh->Prop)->Prop}{u:US}(q:ua ρ λp=>ub ρ λq=>bLL p q λps qs=>Tq (zpP ps qs) ug u d ρ):AgU ua ub ug u d ρ:=q
theorem Rep.lstE{G:Hp}{v:V}{ps:List PV}(h:Rep K C G v (.lst ps)):∃a vs,v=.ref a/\SqL K G a vs/\Reps K C G vs ps:=by
 cases h with
 | lst e l q=>exact⟨_,_,rfl,SqL.of e,l,q⟩
theorem AiX{top:Nat}{ta tb:TE}{ua ub:UE}{g:TG}{ug:PV->Bh->(Bh->Prop)->Prop}{ts:TS}{us:US}(ha:EU K C ω ta ua)(ha2:EU K C ω tb ub)(hg:GU K C ω top g ug)(hb:SU K C ω rm ts us):SU K C ω rm (Na (AcM K ta tb) g ts) (AgU ua ub ug us) :=
 λB G0 H0 own G σ H ρ D d S F hu=>ha B G0 H0 own G σ H ρ _ _ S hu λv p G1 H1 w1 r1 h1=>ha2 B G0 H0 own G1 σ H1 ρ _ _ (S.grow w1) h1 λv2 q G2 H2 w2 r2 ⟨ps,qs,e1,e2,I,i0,ist,iend⟩=>by
  subst e1 e2
  have S2:=(S.grow w1).grow w2
  obtain⟨a,vs,rfl,sq,rp⟩:=(r1.mono w2.g).lstE
  obtain⟨b,ws,rfl,sq2,rp2⟩:=r2.lstE
  refine⟨a,b,rfl,rfl,⟨vs,w2.i.seq sq⟩,⟨ws,w2.i.seq sq2⟩,Ai3 (xs:=vs) (ys:=ws) (λk σ' H'=>∃own' G' ρ',Sat K C ω G2 G0 H0 own' G' σ' H' ρ'/\I k ρ') ⟨own,G2,ρ,S2.base (Same.refl _),i0⟩ (λk σ' H' ⟨own',G',ρ',S',_⟩=>⟨(S'.kb.trans S'.gr.i).seq sq,(S'.kb.trans S'.gr.i).seq sq2⟩) (λk x y t σ' H' hx hy ht ⟨own',G',ρ',S',hi⟩=>?_) λσ' H' ⟨own',G',ρ',S',hi⟩=>?_⟩
  ·obtain⟨q1,hq1,rq1⟩:=rp.get hx
   obtain⟨q2,hq2,rq2⟩:=rp2.get hy
   have w3:Grow G' H' (upd G' t (.tup [x,y])) (upd H' t (.tup [x,y])):=Grow.put S'.gr.i ht (Same.new ht) Bn
   have S3:=S'.grow w3
   have rt:Rep K C (upd G' t (.tup [x,y])) (.ref t) (.tup [q1,q2]):=Rep.ofT Bn (LAt.snoc (LAt.snoc LAt.nil ((rq1.mono S'.kb).mono w3.g)) ((rq2.mono S'.kb).mono w3.g))
   exact hg G2 G0 H0 own' _ σ' _ ρ' (.ref t) _ _ _ S3 rt (ist k _ ρ' (Abv hq1 hq2) hi) λown2 σ2 ρ2 S4 _ h2=>hb G2 G0 H0 own2 _ σ2 _ ρ2 _ _ S4 (Ld F S2.kb λown3 G3 σ3 H3 ρ3 S5 h3=>⟨own3,G3,ρ3,S5,h3⟩) h2
  ·rw[rp.1,rp2.1,<- Aby] at hi
   exact F.nx own' G' σ' H' ρ' (S'.base (S2.kb.trans S'.kb)) (iend ρ' hi)
theorem Ac1{B G0 H0 G1 H1:Hp}{own:Nat->Option Addr}{σ:St}{ρ:Bh}(S:Sat K C ω B G0 H0 own G1 σ H1 ρ){k:Nat}{fr:List Nat}{g:TG}{ug:PV->Bh->(Bh->Prop)->Prop}{tc:TT}{uc:UT}{te:TE}{ue:UE}(hg:GU K C Om.no k g ug)(hc:TU K C Om.no tc uc)(he:EU K C Om.no te ue){D t:Addr}(hD:H1 D=none){I:Nat->List PV->Prop}{n:Nat}(hn:n<100000){x y:V}{q1 q2:PV}{H':Hp}{N:Hp->Prop}
  (rq1:Rep K C G1 x q1) (rq2:Rep K C G1 y q2) (ht:H' t=none) (st:CSt K C G1 H1 D I n H') (hN:∀H'',CSt K C G1 H1 D I (n+1) H''->N H'') (hs:∀rs,I n rs->ug (.tup [q1,q2]) (compρ k fr ρ) λρ2=>uc ρ2 λb=>if b=true then ue ρ2 λq=>I (n+1) (rs++[q]) else I (n+1) rs) :
  g (.ref t) (compσ k fr σ) (upd H' t (.tup [x,y])) λσ2 H2=>σ2.drop k=(compσ k fr σ).drop k/\tc σ2 H2 λb H3=>if b=true then te σ2 H3 (λy H4=>∃ys,H4 D=some (.lst ys)/\ys.length<sizeLine/\N (upd H4 D (.lst (ys++[y])))) else N H3:=by
 obtain⟨G,ys,rs,w,gD,eD,ry,hl,hi⟩:=st
 have w2:Grow G H' (upd G t (.tup [x,y])) (upd H' t (.tup [x,y])):=Grow.put w.i ht (Same.new ht) Bn
 have nD:D≠t:=λz=>by rw[z,ht] at eD;cases eD
 have gD2:upd G t (.tup [x,y]) D=none:=by rw[Bj nD];exact gD
 have eD2:upd H' t (.tup [x,y]) D=some (.lst ys):=by rw[Bj nD];exact eD
 have w':=w.trans w2
 have ry2:=ry.mono w2.g
 have rt:Rep K C (upd G t (.tup [x,y])) (.ref t) (.tup [q1,q2]):=Rep.ofT Bn (LAt.snoc (LAt.snoc LAt.nil (rq1.mono w'.g)) (rq2.mono w'.g))
 refine hg G1 G1 H1 _ _ _ _ _ (.ref t) _ _ _ (S.comp k fr w') rt (hs rs hi) λown' σ' ρ' S' dr h=>⟨dr,hc G1 G1 H1 own' _ σ' _ ρ' _ _ S' h λb G3 H3 w3 h3=>?_⟩
 cases b with
 | false=>exact Lw (hN _ ⟨G3,ys,rs,w'.trans w3,w3.n D _ eD2 (λ_ z=>nomatch z) gD2,w3.h _ _ eD2,ry2.mono w3.g,by omega,by simpa using h3⟩)
 | true =>
  refine Lo (he G1 G1 H1 own' G3 σ' H3 ρ' _ _ (S'.grow w3) (by simpa using h3) λy q G4 H4 w4 r4 h4=>?_)
  have w34:=w3.trans w4
  have g4:G4 D=none:=w34.n D _ eD2 (λ_ z=>nomatch z) gD2
  have e4:H4 D=some (.lst ys):=w34.h _ _ eD2
  refine⟨ys,e4,Ss (by rw[ry.1];omega),hN _ ⟨G4,_,_,⟨(w'.trans w34).g,λb u h=>?_,λb u h=>?_,(w'.trans w34).n⟩,g4,Bn,Le (ry2.mono w34.g) r4,by rw[length_append];simp;omega,h4⟩⟩
  ·rw[Bj (by intro z;subst z;rw[hD] at h;cases h)];exact (w'.trans w34).h _ _ h
  ·rw[Bj (by intro z;subst z;rw[g4] at h;cases h)];exact w34.i _ _ h
def Aee(ua ub:UE)(ug:PV->Bh->(Bh->Prop)->Prop)(uc:UT)(ue:UE)(k:Nat)(fr:List Nat):UE:=λρ P=>ua ρ λp=>ub ρ λq=>bLL p q λps qs=>ps.length<=100000/\Ln (zpP ps qs) ug uc ue (compρ k fr ρ) P
theorem AiA{ρ:Bh}{P:PV->Prop}{ua ub:UE}{ug:PV->Bh->(Bh->Prop)->Prop}{uc:UT}{ue:UE}{k:Nat}{fr:List Nat}(q:ua ρ λp=>ub ρ λq=>bLL p q λps qs=>ps.length<=100000/\Ln (zpP ps qs) ug uc ue (compρ k fr ρ) P):Aee ua ub ug uc ue k fr ρ P:=q
theorem AaF{ta tb:TE}{ua ub:UE}{k:Nat}{fr:List Nat}{g:TG}{ug:PV->Bh->(Bh->Prop)->Prop}{tc:TT}{uc:UT}{te:TE}{ue:UE}(ha:EB K C ω ta ua)(ha2:EB K C ω tb ub)(hg:GU K C Om.no k g ug)(hc:TU K C Om.no tc uc)(he:EU K C Om.no te ue):EF K C ω (Jm (AcM K ta tb) g tc te k fr) (Aee ua ub ug uc ue k fr) :=
 λB G0 H0 own G σ H ρ P Q S hu kk=>Of (ha B G0 H0 own G σ H ρ _ _ S hu λv p G1 H1 w1 r1 h1=>ha2 B G0 H0 own G1 σ H1 ρ _ _ (S.grow w1) h1 λv2 q G2 H2 w2 r2 ⟨ps,qs,e1,e2,hl,I,i0,ist,iend⟩=>by
  subst e1 e2
  have S2:=(S.grow w1).grow w2
  obtain⟨a,vs,rfl,ea,rp⟩:=(r1.grow w2).lst w2.i
  obtain⟨b,ws,rfl,eb,rp2⟩:=r2.lst w2.i
  refine⟨a,b,rfl,rfl,⟨vs,SqL.of ea⟩,⟨ws,SqL.of eb⟩,λD hD=>CP.zip vs ws (CSt K C G2 H2 D I) (Nt w2.i hD i0) (λn H' ⟨G',_,_,w,_⟩=>⟨w.h.seq (SqL.of ea),w.h.seq (SqL.of eb)⟩) (λn x y t H' N hx hy ht st hN=>?_) λH' st=>?_⟩
  ·obtain⟨q1,hq1,rq1⟩:=rp.get hx
   obtain⟨q2,hq2,rq2⟩:=rp2.get hy
   have hn:n<ps.length:=(List.getElem?_eq_some_iff.mp hq1).1
   exact Ac1 S2 hg hc he hD (by omega) rq1 rq2 ht st hN λrs hi=>ist n _ rs (Abv hq1 hq2) hi
  ·obtain⟨G',ys,rs,w,gD,eD,ry,_,hi⟩:=st
   rw[rp.1,rp2.1,<- Aby] at hi
   exact kk D _ G' H' ((w1.trans w2).trans w) ((w1.trans w2).h.free hD) gD (OwnA.ofL eD ry) (iend rs hi))
def AgP(f:Int->Int->Int)(i:Nat)(ρ:Bh)(N:Bh->Prop)(p q:PV):Prop:=∃a b,p=.int a/\q=.int b/\N (ρ.set i (.sh (.int (f a b))))
def Akr(f:Int->Int->Int)(i:Nat)(ue:UE):US:=λd ρ=>∃s p,ρ[i]? = some s/\s.val=some p/\ue ρ λq=>AgP f i ρ d.nx p q
theorem AmQ{f:Int->Int->Int}{i:Nat}{ue:UE}{d:Fv}{ρ:Bh}{s:Sl}{p:PV}(h1:ρ[i]? = some s)(h2:s.val=some p)(q:ue ρ λq=>AgP f i ρ d.nx p q):Akr f i ue d ρ:=⟨s,p,h1,h2,q⟩
theorem AmV{f:Int->Int->Int}{i:Nat}{ρ:Bh}{N:Bh->Prop}{a b:Int}(q:N (ρ.set i (.sh (.int (f a b))))):AgP f i ρ N (.int a) (.int b):=⟨a,b,rfl,rfl,q⟩
theorem Aep{f:Int->Int->Int}{i:Nat}{te:TE}{ue:UE}(he:EB K C ω te ue):SU K C ω rm (AlG i te (ipI f)) (Akr f i ue):=λB G0 H0 own G σ H ρ D d S F ⟨s,p,h1,h2,hu⟩=>by
 have q:=S.sl i s h1
 have key:∃v,σ[i]? = some (some v)/\∀a,p=.int a->v=.int a:=by
  cases s with
  | un=>cases h2
  | sh p'=>cases h2;obtain⟨v,e,r⟩:=q;exact⟨v,e,λa ea=>by subst ea;cases r;rfl⟩
  | bo p'=>cases h2;obtain⟨v,e,r⟩:=q;exact⟨v,e,λa ea=>by subst ea;exact r.int⟩
  | ow p'=>cases h2;obtain⟨a,e,_,r⟩:=q;exact⟨_,e,λa ea=>by subst ea;exact r.elim⟩
  | fz _ _=>cases h2
  | bz _=>cases h2
  | fl z ps=>cases h2;obtain⟨e,_,_,_⟩:=q;exact⟨_,e,λa ea=>nomatch ea⟩
  | om b p'=>cases h2;obtain⟨e,_,r⟩:=q;exact⟨_,e,λa ea=>by subst ea;exact r.elim⟩
 obtain⟨v,ev,hv⟩:=key
 refine⟨v,ev,he B G0 H0 own G σ H ρ _ _ S hu λy qv G1 H1 w1 r1 ⟨a,b,e1,e2,h⟩=>?_⟩
 subst e2
 exact⟨a,b,hv a e1,r1.int,F.nx _ G1 _ H1 _ ((S.grow w1).setS (.int _)) h⟩
def Af5(p q:PV)(P:PV->Prop):Prop:=∃xs,q=.lst xs/\(∀x∈xs,∃ys,x=.tup ys)/\(∀x∈xs,Cmp 40 x p)/\∀b:Bool,(b=true↔p∈xs)->P (.bl (!b))
def Ak1(ua ub:UE):UE:=λρ P=>ua ρ λp=>ub ρ λq=>Af5 p q P
theorem An2{ρ:Bh}{P:PV->Prop}{ua ub:UE}(q:ua ρ λp=>ub ρ λq=>Af5 p q P):Ak1 ua ub ρ P:=q
theorem Ad9{ta tb:TE}{ua ub:UE}(ha:EU K C ω ta ua)(hb:EB K C ω tb ub):EU K C ω (tOp (Ak6 K true) ta tb) (Ak1 ua ub) :=
 λB G0 H0 own G σ H ρ P Q S hu k=>ha B G0 H0 own G σ H ρ _ _ S hu λv p G1 H1 w1 r1 h1=>hb B G0 H0 own G1 σ H1 ρ _ _ (S.grow w1) h1 λw q G2 H2 w2 r2 ⟨xs,e,ht,hc,h⟩=>by
  subst e
  obtain⟨a,vs,rfl,ea,l⟩:=r2.lst w2.i
  have r1':=r1.mono w2.g
  have hr:∀u∈vs,∃r x,u=V.ref r/\x∈xs/\Rep K C G2 (.ref r) x:=λu hu=>by
   obtain⟨i,hi⟩:=getElem?_of_mem hu
   obtain⟨x,hx,rx⟩:=LAt.get l hi
   obtain⟨ys,rfl⟩:=ht x (mem_of_getElem? hx)
   cases rx with
   | tup e l' q'=>exact⟨_,_,rfl,mem_of_getElem? hx,.tup e l' q'⟩
  refine⟨a,vs,λr=>pd (Rep K C G2 (.ref r) p),rfl,SqL.of ea,λu hu=>let ⟨r,_,e,_⟩:=hr u hu;⟨r,e⟩,λr hm=>?_,?_⟩
  ·obtain⟨r',x,e,hx,rx⟩:=hr _ hm
   cases e
   refine (hc x hx).eqD w2.i rx r1' ?_
   rw[pd_iff]
   exact⟨λz=>(hc x hx).fn rx z,λz=>by rw[<- z];exact rx⟩
  ·have key:vs.any (Aar λr=>pd (Rep K C G2 (.ref r) p))=pd (p∈xs):=Gy (by
    rw[pd_iff,any_eq_true]
    constructor
    ·rintro ⟨u,hu,hb⟩
     obtain⟨r,x,rfl,hx,rx⟩:=hr u hu
     have:Rep K C G2 (.ref r) p:=pd_iff.mp hb
     rw[<- (hc x hx).fn rx this];exact hx
    ·intro hp
     obtain⟨i,hi⟩:=getElem?_of_mem hp
     obtain⟨u,hu,ru⟩:=LAt.get' l hi
     obtain⟨ys,rfl⟩:=ht p hp
     refine⟨u,mem_of_getElem? hu,?_⟩
     cases ru with
     | tup e l' q'=>exact pd_iff.mpr (.tup e l' q'))
   show Q (.bl (!(vs.any (Aar λr=>pd (Rep K C G2 (.ref r) p))))) H2
   rw[key]
   exact k _ _ G2 H2 (w1.trans w2) (.bl _) (h _ pd_iff)
abbrev Fz:=Addr×Obj×List (Key×V)
def fzE(i:Nat)(z:Fz)(kvs:List (Key×PV))(N:Bh->Prop)(ρ:Bh):Prop:=ρ[i]? = some (.fz z kvs)/\N (ρ.set i (.ow (.dk kvs)))
def Aag(i:Nat)(z:Fz)(kvs:List (Key×PV))(d:Fv):Fv:=⟨fzE i z kvs d.nx,λ_=>False,fzE i z kvs d.bk,fzE i z kvs d.ct⟩
def Amu(i:Nat)(u:US):US:=λd ρ=>∃kvs,ρ[i]? = some (.ow (.dk kvs))/\∀z,u (Aag i z kvs d) (ρ.set i (.fz z kvs))
theorem Qr{H:Hp}{a b:Addr}{o u:HO}(n:b≠a)(h:H b=some u):upd H a o b=some u:=by rw[Bj n];exact h
theorem Sat.turn{B G0 H0 G H:Hp}{own:Nat->Option Addr}{σ:St}{ρ:Bh}(S:Sat K C ω B G0 H0 own G σ H ρ){i:Nat}{a:Addr}{o:HO}{s':Sl}(e:own i=some a)(ht:Rr o)(hs:SlOk K C G0 H0 own G σ (upd H a o) i s'):Sat K C ω B G0 H0 own G σ (upd H a o) (ρ.set i s'):=by
 obtain⟨f0,fg,_⟩:=S.fr i a e
 have ng:∀b u,G b=some u->b≠a:=λb u h w=>by subst w;rw[fg] at h;cases h
 have n0:∀b u,H0 b=some u->b≠a:=λb u h w=>by subst w;rw[f0] at h;cases h
 refine⟨S.kb,⟨S.gr.g,λb u h=>Qr (n0 b u h) (S.gr.h _ _ h),λb u h=>Qr (ng b u h) (S.gr.i _ _ h),S.gr.n⟩,by rw[length_set,S.len],S.inj,λj b h=>?_,λj s h=>?_,S.ex⟩
 ·obtain⟨q0,qg,u,qh,qt⟩:=S.fr j b h
  by_cases w:b=a
  ·subst w;exact⟨q0,qg,o,Bn,ht⟩
  ·exact⟨q0,qg,u,Qr w qh,qt⟩
 ·rcases Lx h with ⟨rfl,rfl,hl⟩ | ⟨z,h⟩
  ·exact hs
  ·have q:=S.sl j s h
   cases s with
   | un=>trivial
   | sh p=>exact q
   | bo p=>exact q
   | bz kvs=>exact q
   | fz y kvs =>
    obtain⟨e1,o1,h1,h2⟩:=q
    exact⟨e1,o1,Qr (λw=>z (S.inj j i a (by rw[<- w];exact o1) e)) h1,h2⟩
   | fl y ps =>
    obtain⟨e1,o1,h1,h2⟩:=q
    exact⟨e1,o1,Qr (λw=>z (S.inj j i a (by rw[<- w];exact o1) e)) h1,h2⟩
   | om b p' =>
    obtain⟨e1,o1,r1⟩:=q
    exact⟨e1,o1,r1.mono (Same.refl _) (Bj λw=>z (S.inj j i a (by rw[<- w];exact o1) e))⟩
   | ow p' =>
    obtain⟨b,e1,o1,r1⟩:=q
    exact⟨b,e1,o1,r1.mono (Same.refl _) (Bj λw=>z (S.inj j i a (by rw[<- w];exact o1) e))⟩
theorem AeG{i:Nat}{t:TS}{u:US}(h:SU K C ω rm t u):SU K C ω rm (Acy t) (Amu i u):=λB G0 H0 own G σ H ρ D d S F ⟨kvs,e,hu⟩=>by
 obtain⟨a,ea,eo,vs,ha,l⟩:=S.sl i _ e
 refine⟨a,.dK vs,trivial,ha,λo=>?_⟩
 have S1:=S.turn (o:=.frz o (.dK vs)) (s':=.fz (a,o,vs) kvs) eo (λ_ z=>nomatch z) ⟨ea,eo,Bn,l⟩
 have key:∀(N:Bh->Prop) (M:St->Hp->Prop),(∀own G σ H ρ,Sat K C ω B G0 H0 own G σ H ρ->N ρ->M σ H)->∀own' G' σ' H' ρ',Sat K C ω B G0 H0 own' G' σ' H' ρ'->fzE i (a,o,vs) kvs N ρ'->∃o',H' a=some (.frz o' (.dK vs))/\M σ' (upd H' a (.dK vs)):=λN M hM own' G' σ' H' ρ' S' ⟨e',h'⟩=>by
  obtain⟨h1,h2,h3,h4⟩:=S'.sl i _ e'
  exact⟨o,h3,hM own' G' σ' _ _ (S'.turn (o:=.dK vs) (s':=.ow (.dk kvs)) h2 (λ_ z=>nomatch z) ⟨a,h1,h2,OwnA.ofD Bn h4⟩) h'⟩
 exact h B G0 H0 own G σ _ _ _ (Aag i (a,o,vs) kvs d) S1 ⟨key d.nx D.nx F.nx,λ_ _ _ _ _ _ z=>z.elim,key d.bk D.bk F.bk,key d.ct D.ct F.ct⟩ (hu (a,o,vs))
theorem AkG{G:Hp}(k:Key):Rep K C G (kV k) (kP k):=by
 cases k with
 | inl i=>exact .int _
 | inr x=>exact .str _
def Sl.fzv:Sl->Option (List (Key×PV))
 | .fz _ kvs=>some kvs
 | .bz kvs=>some kvs
 | _=>none
def Aen(i:Nat)(ub:UE):UE:=λρ P=>∃s kvs,ρ[i]? = some s/\s.fzv=some kvs/\ub ρ λq=>We (.dk kvs) q P
theorem Aax{i:Nat}{tb:TE}{ub:UE}(hb:EB K C ω tb ub):EU K C ω (Yz (Fn i) tb) (Aen i ub):=λB G0 H0 own G σ H ρ P Q S ⟨s,kvs,e,ev,hu⟩ k=>by
 have key:∃a o vs,σ[i]? = some (some (.ref a))/\H a=some (.frz o (.dK vs))/\LAt (KRep K C) G vs kvs:=by
  have q:=S.sl i s e
  cases s with
  | fz z kvs'=>cases ev;obtain⟨h1,_,h2,h3⟩:=q;exact⟨_,_,_,h1,h2,h3⟩
  | bz kvs'=>cases ev;obtain⟨a,o,vs,h1,h2,h3⟩:=q;exact⟨a,o,vs,h1,S.gr.h _ _ h2,h3⟩
  | _=>cases ev
 obtain⟨a,o,vs,ea,ha,l⟩:=key
 refine⟨_,ea,hb B G0 H0 own G σ H ρ _ _ S hu λw p G1 H1 w1 r1 ⟨kvs',k',x,e1,e2,e3,h⟩=>?_⟩
 cases e1
 subst e2
 rw[AcR r1]
 rcases Vq k' (KReps.mono l w1.g) with ⟨h1,h2⟩ | ⟨y,p,h1,h2,h3⟩
 ·rw[e3] at h2;cases h2
 ·rw[e3] at h2;cases h2
  exact⟨a,y,rfl,.inl ⟨vs,k',.inr ⟨o,w1.h _ _ ha⟩,rfl,h1.symm⟩,k _ _ G1 H1 w1 h3 h⟩
theorem Sat.slot{B G0 H0 G H:Hp}{own:Nat->Option Addr}{σ:St}{ρ:Bh}(S:Sat K C ω B G0 H0 own G σ H ρ){i:Nat}{s':Sl}(hs:SlOk K C G0 H0 own G σ H i s'):Sat K C ω B G0 H0 own G σ H (ρ.set i s') :=
 ⟨S.kb,S.gr,by rw[length_set,S.len],S.inj,S.fr,λj s h=>by
  rcases Lx h with ⟨rfl,rfl,hl⟩ | ⟨z,h⟩
  ·exact hs
  ·exact S.sl j s h,S.ex⟩
abbrev Fl:=Addr×List V
def Adn(i:Nat)(z:Fl)(ps:List PV)(ug:PV->Bh->(Bh->Prop)->Prop)(ub:US)(d:Fv)(ρ:Bh):Prop:=∃I:Nat->Bh->Prop,I 0 ρ/\(∀k ρ,I k ρ->ρ[i]? = some (.fl z ps))/\(∀k p ρ,ps[k]? = some p->I k ρ->ug p ρ λρ'=>ub { d with nx:=I (k+1),ct:=I (k+1),bk:=d.nx } ρ')/\∀ρ,I ps.length ρ->d.nx ρ
def Aim(i:Nat)(ug:PV->Bh->(Bh->Prop)->Prop)(ub:US):US:=λd ρ=>∃z ps,ρ[i]? = some (.fl z ps)/\Adn i z ps ug ub d ρ
theorem AiJ{top:Nat}{i:Nat}{g:TG}{ug:PV->Bh->(Bh->Prop)->Prop}{tb:TS}{ub:US}(hg:GU K C ω top g ug)(hb:SU K C ω rm tb ub):SU K C ω rm (Na (Qp K (Fn i)) g tb) (Aim i ug ub) :=
 λB G0 H0 own G σ H ρ D d S F ⟨z,ps,e,I,i0,iz,ist,iend⟩=>by
  obtain⟨e1,e2,e3,e4⟩:=S.sl i _ e
  refine⟨_,e1,z.1,rfl,⟨z.2,SqL.of e3⟩,Rx (xs:=z.2) (λk σ' H'=>∃own' G' ρ',Sat K C ω G G0 H0 own' G' σ' H' ρ'/\I k ρ') ⟨own,G,ρ,S.base (Same.refl _),i0⟩ (λk σ' H' _ ⟨own',G',ρ',S',hi⟩=>SqL.of (S'.sl i _ (iz k ρ' hi)).2.2.1) (λk x σ' H' hx ⟨own',G',ρ',S',hi⟩=>?_) λσ' H' ⟨own',G',ρ',S',hi⟩=>?_⟩
  ·obtain⟨q,hq,rq⟩:=LAt.get e4 hx
   exact hg G G0 H0 own' G' σ' H' ρ' x q _ _ S' (rq.mono S'.kb) (ist k q ρ' hq hi) λown2 σ2 ρ2 S2 _ h2=>hb G G0 H0 own2 G' σ2 H' ρ2 _ _ S2 (Ld F S.kb λown3 G3 σ3 H3 ρ3 S3 h3=>⟨own3,G3,ρ3,S3,h3⟩) h2
  ·rw[e4.1] at hi
   exact F.nx own' G' σ' H' ρ' (S'.base (S.kb.trans S'.kb)) (iend ρ' hi)
theorem Amz{i:Nat}{z:Fl}{ps:List PV}{ug:PV->Bh->(Bh->Prop)->Prop}{ub:US}{d:Fv}{ρ:Bh}(h1:ρ[i]? = some (.fl z ps))(q:Adn i z ps ug ub d ρ):Aim i ug ub d ρ:=⟨z,ps,h1,q⟩
def Abr(i:Nat)(ug:PV->Bh->(Bh->Prop)->Prop)(uc:UT)(ue:UE)(k:Nat)(fr:List Nat):UE:=λρ P=>∃s kvs,ρ[i]? = some s/\s.fzv=some kvs/\kvs.length<=100000/\Ln (kvs.map λkv=>kP kv.1) ug uc ue (compρ k fr ρ) P
theorem Xl{i:Nat}{k:Nat}{fr:List Nat}{g:TG}{ug:PV->Bh->(Bh->Prop)->Prop}{tc:TT}{uc:UT}{te:TE}{ue:UE}(hg:GU K C Om.no k g ug)(hc:TU K C Om.no tc uc)(he:EU K C Om.no te ue):EF K C ω (Jm (iDk (Fn i)) g tc te k fr) (Abr i ug uc ue k fr) :=
 λB G0 H0 own G σ H ρ P Q S ⟨s,kvs,e,ev,hl,I,i0,ist,iend⟩ kk=>by
  have key:∃a o vs,σ[i]? = some (some (.ref a))/\H a=some (.frz o (.dK vs))/\LAt (KRep K C) G vs kvs:=by
   have q:=S.sl i s e
   cases s with
   | fz z kvs'=>cases ev;obtain⟨h1,_,h2,h3⟩:=q;exact⟨_,_,_,h1,h2,h3⟩
   | bz kvs'=>cases ev;obtain⟨a,o,vs,h1,h2,h3⟩:=q;exact⟨a,o,vs,h1,S.gr.h _ _ h2,h3⟩
   | _=>cases ev
  obtain⟨a,o,vs,ea,ha,l⟩:=key
  refine Of (show iDk (Fn i) σ H _ from ⟨_,ea,a,o,vs,rfl,ha,λD hD=>CP.dkeys (CSt K C G H D I) (Nt S.gr.i hD i0) (λn H' ⟨G',_,_,w,_⟩=>w.h _ _ ha) (λn kv H' N hx st hN=>?_) λH' st=>?_⟩)
  ·have hn:n<kvs.length:=by rw[<- l.1];exact (List.getElem?_eq_some_iff.mp hx).1
   have rq:=l.2 n kv kvs[n] hx (getElem?_eq_getElem hn)
   rw[show kv.1=kvs[n].1 from rq.1]
   exact Sn S hg hc he hD (by omega) (λG' s=>AkG _) st hN λrs hi=>ist n _ rs (by rw[getElem?_map,getElem?_eq_getElem hn];rfl) hi
  ·obtain⟨G',ys,rs,w,gD,eD,ry,_,hi⟩:=st
   rw[l.1] at hi
   exact kk D _ G' H' w hD gD (OwnA.ofL eD ry) (iend rs (by rw[length_map];exact hi))
theorem AgT{i:Nat}{ug:PV->Bh->(Bh->Prop)->Prop}{uc:UT}{ue:UE}{k:Nat}{fr:List Nat}{ρ:Bh}{P:PV->Prop}{s:Sl}{kvs:List (Key×PV)}(h1:ρ[i]? = some s)(h2:s.fzv=some kvs)(q:kvs.length<=100000/\Ln (kvs.map λkv=>kP kv.1) ug uc ue (compρ k fr ρ) P):Abr i ug uc ue k fr ρ P:=⟨s,kvs,h1,h2,q.1,q.2⟩
theorem Anv{i:Nat}{u:US}{d:Fv}{ρ:Bh}{kvs:List (Key×PV)}(h1:ρ[i]? = some (.ow (.dk kvs)))(q:∀z,u (Aag i z kvs d) (ρ.set i (.fz z kvs))):Amu i u d ρ:=⟨kvs,h1,q⟩
theorem AjH{i:Nat}{ub:UE}{ρ:Bh}{P:PV->Prop}{s:Sl}{kvs:List (Key×PV)}(h1:ρ[i]? = some s)(h2:s.fzv=some kvs)(q:ub ρ λq=>We (.dk kvs) q P):Aen i ub ρ P:=⟨s,kvs,h1,h2,q⟩
def era(H:Hp)(a:Addr):Hp:=λb=>if b=a then none else H b
theorem Aab{H:Hp}{a:Addr}:era H a a=none:=by unfold era;rw[if_pos rfl]
theorem Lr{H:Hp}{a b:Addr}(n:b≠a):era H a b=H b:=by unfold era;rw[if_neg n]
theorem Afx{H:Hp}{a:Addr}:Same (era H a) H:=λb o h=>by
 by_cases z:b=a
 ·subst z;rw[Aab] at h;cases h
 ·rw[Lr z] at h;exact h
abbrev Uf:=PV->PV->PV->(PV->PV->Prop)->Prop
def spM(K:Frag)(C:Addr)(psp:Uf):Sp:=λvs H Q _=>∃G x a y p q r P,vs=[x,.ref a,y]/\Same G H/\G a=none/\OwnA K C G H a q/\Rep K C G x p/\Rep K C G y r/\psp p q r P /\
 ∀G' H' c p1 q',Grow G (era H a) G' H'->H c=none->G' c=none->OwnA K C G' H' c p1->G' a=none->OwnA K C G' H' a q'->P p1 q'->Q (.ref c) H'
theorem spM.len{psp:Uf}{vs:List V}{H:Hp}{Q:VK}{E:XK}(h:spM K C psp vs H Q E):vs.length=3:=by
 obtain⟨G,x,a,y,p,q,r,P,rfl,_⟩:=h;rfl
theorem Aed{psp:Uf}{N:List Str}{vs:List V}{H:Hp}{Q:VK}{E:XK}{t:TS}{u:Addr->US}(h:spM K C psp vs H Q E)(hn:3<=N.length)(hs:∀a,SU K C Om.no (.mu a) t (u a))
  (hp:∀a p q r P,psp p q r P->u a ⟨λ_=>False,λx=>∃p1 p2,x=.tup [p1,p2]/\P p1 p2,λ_=>False,λ_=>False⟩ ([.sh p,.om a q,.sh r]++replicate (N.length - 3) .un)):t { nx:=λ_ H'=>Q .non H',rt:=Q } (L2.Ob N vs) H:=by
 obtain⟨G,x,a,y,p,q,r,P,rfl,i,ga,oa,rx,ry,hq,k⟩:=h
 have hσ:∀j v,([x,.ref a,y]:List V)[j]? = some v->(L2.Ob N [x,.ref a,y])[j]? = some (some v):=λj v hv=>by
  unfold L2.Ob
  rw[getElem?_append_left (by rw[length_map];exact (List.getElem?_eq_some_iff.mp hv).1),getElem?_map,hv];rfl
 refine hs a G G (era H a) (λj=>if j=1 then some a else none) G _ H _ _ ⟨λ_=>False,λx=>∃p1 p2,x=.tup [p1,p2]/\P p1 p2,λ_=>False,λ_=>False⟩ ⟨Same.refl _,⟨Same.refl _,Afx,i,λ_ _ _ _ h=>h⟩,?_,λi j b h1 h2=>?_,λj b h=>?_,λj s hj=>?_,λ_ _ _ z=>z.elim⟩ ⟨λ_ _ _ _ _ _ z=>z.elim,λG' H' v pv w ro hd=>?_,λ_ _ _ _ _ _ z=>z.elim,λ_ _ _ _ _ _ z=>z.elim⟩ (hp a p q r P hq)
 ·unfold L2.Ob
  rw[length_append,length_append,length_map,length_replicate,length_replicate];rfl
 ·split at h1 <;> split at h2
  ·rename_i z1 z2;rw[z1,z2]
  ·cases h2
  ·cases h1
  ·cases h1
 ·split at h
  ·cases h;exact⟨Aab,ga,oa.thing⟩
  ·cases h
 ·match j,hj with
  | 0,hj=>cases hj;exact⟨x,hσ 0 x rfl,rx⟩
  | 1,hj=>cases hj;exact⟨hσ 1 _ rfl,rfl,oa⟩
  | 2,hj=>cases hj;exact⟨y,hσ 2 y rfl,ry⟩
  | j+3,hj =>
   have hj':(replicate (N.length - 3) Sl.un)[j]? = some s:=hj
   rw[getElem?_replicate] at hj'
   split at hj'
   ·cases hj';trivial
   ·cases hj'
 ·obtain⟨p1,p2,c,e1,e2,c0,ca,gc,o1,gb,o2⟩:=ro
  subst e1 e2
  obtain⟨q1,q2,e,hP⟩:=hd
  cases e
  rw[Lr ca] at c0
  exact k G' H' c p1 p2 w c0 gc o1 gb o2 hP
def Aiq(i:Nat)(a:Addr)(j:Nat):US:=λd ρ=>∃p1 p2,ρ[j]? = some (.ow p1)/\ρ[i]? = some (.om a p2)/\i≠j/\d.rt (.tup [p1,p2])
theorem Ajk{i j:Nat}{a:Addr}:SU K C ω (.mu a) (Uw (Fn j)) (Aiq i a j):=λB G0 H0 own G σ H ρ D d S F ⟨p1,p2,e1,e2,ne,h⟩=>by
 obtain⟨c,h1,o1,r1⟩:=S.sl j _ e1
 obtain⟨h2,o2,r2⟩:=S.sl i _ e2
 obtain⟨f0,fg,_⟩:=S.fr j c o1
 obtain⟨_,fa,_⟩:=S.fr i a o2
 exact⟨_,h1,F.rt G H _ _ S.gr ⟨p1,p2,c,rfl,rfl,f0,λz=>ne (S.inj i j a o2 (by rw[<- z];exact o1)),fg,r1,fa,r2⟩ h⟩
def AcT(i:Nat)(a:Addr)(ρ:Bh)(N:Bh->Prop)(qs:List PV):Prop:=∃q ps,qs=[q]/\ρ[i]? = some (.om a (.lst ps))/\ps.length<100000/\N (ρ.set i (.om a (.lst (ps++[q]))))
def Ahc(i:Nat)(a:Addr)(u:UA):US:=λd ρ=>(∃ps,ρ[i]? = some (.om a (.lst ps)))/\u ρ λqs=>AcT i a ρ d.nx qs
theorem Sat.own{B G0 H0 G H:Hp}{own:Nat->Option Addr}{σ:St}{ρ:Bh}(S:Sat K C ω B G0 H0 own G σ H ρ){i:Nat}{a:Addr}{p:PV}(e:ρ[i]? = some (.om a p)):Sat K C ω B G0 H0 own G σ H (ρ.set i (.ow p)):=by
 obtain⟨h1,h2,h3⟩:=S.sl i _ e
 exact S.slot ⟨a,h1,h2,h3⟩
theorem Ai5{i:Nat}{a:Addr}{t:TA}{u:UA}(ha:AU K C ω [true] t u):SU K C ω rm (Vg (tBM K "list" Qe (Fn i) t)) (Ahc i a u):=λB G0 H0 own G σ H ρ D d S F ⟨⟨ps0,e0⟩,hu⟩=>by
 have hl:i<ρ.length:=(List.getElem?_eq_some_iff.mp e0).1
 refine Abx (S.own e0) (La hl) λa' vs0 e1 o _ _=>ha B G0 H0 own G σ H ρ _ _ S hu λxs qs G' H' w ok ⟨q,ps,eq,ep,hl2,h⟩=>?_
 have S':=S.grow w
 obtain⟨b1,b2,vs,b3,b4⟩:=S'.sl i _ ep
 rw[o] at b2;cases b2
 subst eq
 match xs,ok with
 | [x],ok =>
  have rx:Rep K C G' x q:=ok.1
  refine⟨a,vs,x,rfl,rfl,b3,Ss (by rw[b4.1];omega),λH2 c e2=>F.nx own G' σ H2 _ ?_ h⟩
  have S2:=S'.chg o e1 c (OwnA.ofL e2 (Le b4 rx))
  have S3:=S2.slot (i:=i) (s':=.om a (.lst (ps++[q]))) ⟨e1,o,OwnA.ofL e2 (Le b4 rx)⟩
  rwa [set_set] at S3
 | [],ok=>cases ok
 | _::_::_,ok=>cases ok.2
def flM(i:Nat)(a:Addr)(z:Fl)(ps:List PV)(N:Bh->Prop)(ρ:Bh):Prop:=ρ[i]? = some (.fl z ps)/\N (ρ.set i (.om a (.lst ps)))
def AhC(i:Nat)(a:Addr)(u:US):US:=λd ρ=>∃ps,ρ[i]? = some (.om a (.lst ps))/\∀z,u ⟨flM i a z ps d.nx,d.rt,flM i a z ps d.bk,flM i a z ps d.ct⟩ (ρ.set i (.fl z ps))
theorem Aiy{i:Nat}{a:Addr}{t:TS}{u:US}(h:SU K C ω rm t u):SU K C ω rm t (AhC i a u):=λB G0 H0 own G σ H ρ D d S F ⟨ps,e,hu⟩=>by
 obtain⟨ea,eo,vs,ha,l⟩:=S.sl i _ e
 have S1:=S.slot (s':=.fl (a,vs) ps) ⟨ea,eo,ha,l⟩
 have key:∀(N:Bh->Prop) (M:St->Hp->Prop),(∀own G σ H ρ,Sat K C ω B G0 H0 own G σ H ρ->N ρ->M σ H)->∀own' G' σ' H' ρ',Sat K C ω B G0 H0 own' G' σ' H' ρ'->flM i a (a,vs) ps N ρ'->M σ' H':=λN M hM own' G' σ' H' ρ' S' ⟨e',h'⟩=>by
  obtain⟨h1,h2,h3,h4⟩:=S'.sl i _ e'
  exact hM own' G' σ' _ _ (S'.slot (s':=.om a (.lst ps)) ⟨h1,h2,OwnA.ofL h3 h4⟩) h'
 exact h B G0 H0 own G σ _ _ _ ⟨flM i a (a,vs) ps d.nx,d.rt,flM i a (a,vs) ps d.bk,flM i a (a,vs) ps d.ct⟩ S1 ⟨key d.nx D.nx F.nx,F.rt,key d.bk D.bk F.bk,key d.ct D.ct F.ct⟩ (hu (a,vs))
def Ahs(psp:Uf)(i j:Nat)(u0 u2:UE):US:=λd ρ=>i≠j/\∃q,ρ[i]? = some (.ow q)/\u0 ρ λp=>u2 ρ λr=>psp p q r λp1 p2=>d.nx ((ρ.set i (.ow p2)).set j (.ow p1))
theorem Ai0{psp:Uf}{i j:Nat}{E:XK}{t0 t2:TE}{u0 u2:UE}(h0:EU K C ω t0 u0)(h2:EU K C ω t2 u2):SU K C ω rm (Lj (Rz (spM K C psp) [] E (Ga t0 (Ga (Fn i) (Ga t2 Nb)))) (Go j)) (Ahs psp i j u0 u2) :=
 λB G0 H0 own G σ H ρ D d S F ⟨ne,q,e,hu⟩=>h0 B G0 H0 own G σ H ρ _ _ S hu λx p G1 H1 w1 r1 hu2=>by
  have S1:=S.grow w1
  obtain⟨a,ea,eo,_⟩:=S.sl i _ e
  refine⟨_,ea,h2 B G0 H0 own G1 σ H1 ρ _ _ S1 hu2 λy r G2 H2 w2 r2 hp=>?_⟩
  have S2:=S1.grow w2
  obtain⟨a',ea',eo',oa⟩:=S2.sl i _ e
  rw[eo] at eo';cases eo'
  obtain⟨f0,fg,o,ho,ht⟩:=S2.fr i a eo
  show spM K C psp ([x,.ref a,y]++[]) H2 (λv H1=>D.nx (σ.set j (some v)) H1) E
  refine⟨G2,x,a,y,p,q,r,_,rfl,w2.i,fg,oa,r1.mono w2.g,r2,hp,λG' H' c p1 q' w hc gc oc gb ob hd=>?_⟩
  have n0:∀b u,H0 b=some u->b≠a:=λb u h z=>by subst z;rw[f0] at h;cases h
  have ng:∀b u,G2 b=some u->b≠a:=λb u h z=>by subst z;rw[fg] at h;cases h
  have hl:i<ρ.length:=(List.getElem?_eq_some_iff.mp e).1
  have Se:Sat K C ω B G0 H0 (Jx own i) G2 σ (era H2 a) (ρ.set i .un):=by
   refine⟨S2.kb,⟨S2.gr.g,λb u h=>by rw[Lr (n0 b u h)];exact S2.gr.h _ _ h,λb u h=>by rw[Lr (ng b u h)];exact S2.gr.i _ _ h,S2.gr.n⟩,by rw[length_set,S2.len],λj k b h1 h2=>S2.inj j k b (Ff h1).2 (Ff h2).2,λj b h=>?_,λj s h=>?_,S2.ex⟩
   ·obtain⟨nj,h⟩:=Ff h
    obtain⟨q0,qg,o,qh,qt⟩:=S2.fr j b h
    exact⟨q0,qg,o,by rw[Lr (λz=>nj (S2.inj j i b h (by rw[z];exact eo)))];exact qh,qt⟩
   ·rcases Lx h with ⟨rfl,rfl,hl⟩ | ⟨z,h⟩
    ·trivial
    ·have k:=S2.sl j s h
     have un:Jx own i j=own j:=by unfold Jx;rw[if_neg z]
     cases s with
     | un=>trivial
     | sh p=>exact k
     | bo p=>exact k
     | bz kvs=>exact k
     | fz y kvs =>
      obtain⟨e1,o1,h1,h2⟩:=k
      exact⟨e1,un.trans o1,by rw[Lr (λw=>z (S2.inj j i a (by rw[<- w];exact o1) eo))];exact h1,h2⟩
     | fl y ps =>
      obtain⟨e1,o1,h1,h2⟩:=k
      exact⟨e1,un.trans o1,by rw[Lr (λw=>z (S2.inj j i a (by rw[<- w];exact o1) eo))];exact h1,h2⟩
     | om b p' =>
      obtain⟨e1,o1,r1⟩:=k
      exact⟨e1,un.trans o1,r1.mono (Same.refl _) (Lr λw=>z (S2.inj j i a (by rw[<- w];exact o1) eo))⟩
     | ow p' =>
      obtain⟨b,e1,o1,r1⟩:=k
      exact⟨b,e1,un.trans o1,r1.mono (Same.refl _) (Lr λw=>z (S2.inj j i a (by rw[<- w];exact o1) eo))⟩
  have S3:=Se.grow w
  have S4:=S3.setO (i:=i) ob f0 gb (λj z=>(Ff z).1 (S2.inj j i a (Ff z).2 eo))
  have es:σ.set i (some (V.ref a))=σ:=by
   refine ext_getElem? λk=>?_
   by_cases z:k=i
   ·subst z;rw[La (by rw[S.len];exact hl),ea]
   ·rw[Ts z]
  rw[es,set_set] at S4
  have nc:c≠a:=λz=>by subst z;rw[hc] at ho;cases ho
  refine F.nx _ G' _ H' _ (S4.setO (i:=j) oc (S2.gr.h.free hc) gc λk z=>?_) hd
  unfold Qx at z
  split at z
  ·cases z;exact nc rfl
  ·obtain⟨_,_,o',ho',_⟩:=S2.fr k c (Ff z).2
   rw[hc] at ho';cases ho'
theorem Amo{i j:Nat}{a:Addr}{d:Fv}{ρ:Bh}{p1 p2:PV}(h1:ρ[j]? = some (.ow p1))(h2:ρ[i]? = some (.om a p2))(ne:i≠j)(q:d.rt (.tup [p1,p2])):Aiq i a j d ρ:=⟨p1,p2,h1,h2,ne,q⟩
theorem Amv{i:Nat}{a:Addr}{u:UA}{d:Fv}{ρ:Bh}{ps:List PV}(h:ρ[i]? = some (.om a (.lst ps)))(q:u ρ λqs=>AcT i a ρ d.nx qs):Ahc i a u d ρ:=⟨⟨ps,h⟩,q⟩
theorem AkF{i:Nat}{a:Addr}{ρ:Bh}{N:Bh->Prop}{q:PV}{ps:List PV}(h:ρ[i]? = some (.om a (.lst ps)))(k:N (ρ.set i (.om a (.lst (ps++[q])))))(hl:ps.length<100000):AcT i a ρ N [q]:=⟨q,ps,rfl,h,hl,k⟩
theorem Alz{psp:Uf}{i j:Nat}{u0 u2:UE}{d:Fv}{ρ:Bh}{q:PV}(ne:i≠j)(h:ρ[i]? = some (.ow q))(k:u0 ρ λp=>u2 ρ λr=>psp p q r λp1 p2=>d.nx ((ρ.set i (.ow p2)).set j (.ow p1))):Ahs psp i j u0 u2 d ρ:=⟨ne,q,h,k⟩
theorem AkX{i:Nat}{a:Addr}{u:US}{d:Fv}{ρ:Bh}{ps:List PV}(h1:ρ[i]? = some (.om a (.lst ps)))(q:∀z,u ⟨flM i a z ps d.nx,d.rt,flM i a z ps d.bk,flM i a z ps d.ct⟩ (ρ.set i (.fl z ps))):AhC i a u d ρ:=⟨ps,h1,q⟩
def AjS(i j:Nat):US:=λd ρ=>∃ps q,ρ[j]? = some (.ow (.lst ps))/\ps[ps.length - 1]? = some q/\d.nx ((ρ.set j (.ow (.lst ps.dropLast))).set i (.sh q))
theorem Anq{i j:Nat}{d:Fv}{ρ:Bh}{ps:List PV}{q:PV}(h:ρ[j]? = some (.ow (.lst (ps++[q]))))(k:d.nx ((ρ.set j (.ow (.lst ps))).set i (.sh q))):AjS i j d ρ:=⟨ps++[q],q,h,by rw[length_append,length_singleton,Nat.add_sub_cancel,getElem?_append_right (Nat.le_refl _),Nat.sub_self];rfl,by rw[List.dropLast_concat];exact k⟩
theorem AlA{i j:Nat}:SU K C ω rm (Lj (Ams K "list" AgZ (Fn j)) (Go i)) (AjS i j):=λB G0 H0 own G σ H ρ D d S F ⟨ps,q,e,hq,h⟩=>by
 obtain⟨a,vs,e1,o,h1,h2⟩:=S.list e
 obtain⟨y,hy⟩:∃y,vs[vs.length - 1]? = some y:=by
  have:=(List.getElem?_eq_some_iff.mp hq).1
  rw[<- h2.1] at this
  exact⟨_,getElem?_eq_getElem this⟩
 have ry:Rep K C G y q:=h2.2 _ _ _ hy (by rw[h2.1];exact hq)
 refine⟨_,e1,.inl ⟨rfl,_,SqL.of h1⟩,a,vs,y,rfl,rfl,h1,hy,λH2 c e2=>F.nx _ G _ H2 _ ((S.chg o e1 c (OwnA.ofL e2 ⟨by rw[List.length_dropLast,List.length_dropLast,h2.1],λk x z hx hz=>?_⟩)).setS ry) h⟩
 rw[List.dropLast_eq_take] at hx hz
 rw[getElem?_take] at hx hz
 split at hx
 ·rw[if_pos (by rw[<- h2.1];assumption)] at hz
  exact h2.2 k x z hx hz
 ·cases hx
end
theorem Lb{α:Type}{R:List α}{x s:α}{i:Nat}(h:(R++[x])[i]? = some s):R[i]? = some s\/(i=R.length/\s=x):=by
 by_cases hi:i<R.length
 ·rw[getElem?_append_left hi] at h;exact .inl h
 ·rw[getElem?_append_right (by omega)] at h
  have hz:i - R.length=0:=by
   have:=(List.getElem?_eq_some_iff.mp h).1
   simp at this;omega
  rw[hz] at h
  simp at h
  exact .inr ⟨by omega,h.symm⟩
inductive JB(S:Nat->Int)(R0 Mk:List Sg):Nat->List Sg->List Jn->Prop
 | nil:JB S R0 Mk 0 R0 []
 | skip {k:Nat} {R:List Sg} {J:List Jn} (h:JB S R0 Mk k R J):JB S R0 Mk (k+1) R J
 | add {k:Nat} {R:List Sg} {J:List Jn} {s m:Sg} (h:JB S R0 Mk k R J) (hs:s∈R) (hm:m∈Mk) (hn:¬(s.1,m.1)∈J.map (·.2)):JB S R0 Mk (k+1) (R++[(S (10+k),s.2.1,0)]) (J++[(S (10+k),s.1,m.1)])
section
variable {S:Nat->Int}{R0 Mk R:List Sg}{J:List Jn}{k:Nat}
theorem JB.len(h:JB S R0 Mk k R J):J.length<=k/\R.length=R0.length+J.length:=by
 induction h with
 | nil=>exact⟨Nat.le_refl _,rfl⟩
 | skip h ih=>exact⟨by omega,ih.2⟩
 | add h hs hm hn ih=>refine⟨by simp;omega,by simp;omega⟩
theorem JB.whole(h:JB S R0 Mk k R J):∀j∈J,∃i,i<k/\j.1=S (10+i):=by
 induction h with
 | nil=>intro j hj;cases hj
 | skip h ih=>intro j hj;obtain⟨i,a,b⟩:=ih j hj;exact⟨i,by omega,b⟩
 | add h hs hm hn ih =>
  rename_i k R J s m
  intro j hj
  rcases mem_append.mp hj with hj | hj
  ·obtain⟨i,a,b⟩:=ih j hj;exact⟨i,by omega,b⟩
  ·rw[mem_singleton.mp hj];exact⟨k,by omega,rfl⟩
theorem JB.join(h:JB S R0 Mk k R J):∀j∈J,(∃s∈R,∃u∈R,s.1=j.1/\u.1=j.2.1/\s.2.1=u.2.1)/\∃m∈Mk,m.1=j.2.2:=by
 induction h with
 | nil=>intro j hj;cases hj
 | skip h ih=>exact ih
 | add h hs hm hn ih =>
  rename_i k R J s m
  intro j hj
  rcases mem_append.mp hj with hj | hj
  ·obtain⟨⟨a,ha,b,hb,e⟩,d⟩:=ih j hj
   exact⟨⟨a,mem_append_left _ ha,b,mem_append_left _ hb,e⟩,d⟩
  ·rw[mem_singleton.mp hj]
   exact⟨⟨_,mem_append_right _ mem_cons_self,s,mem_append_left _ hs,rfl,rfl,rfl⟩,m,hm,rfl⟩
theorem Xy{J:List Jn}{w:Jn}{n:Int}(h:¬w.1=n):Fp (J++[w]) n=Fp J n:=by
 induction J with
 | nil=>show (if w.1=n then some w.2 else none)=none;rw[if_neg h]
 | cons x r ih =>
  show (if x.1=n then some x.2 else Fp (r++[w]) n)=if x.1=n then some x.2 else Fp r n
  rw[ih]
theorem Aas(J:List Jn)(n:Int):∀k,jGo J (k+1) n=jGo J k (Fs J n)
 | 0=>rfl
 | k+1=>by
  show Fs J (jGo J (k+1) n)=Fs J (jGo J k (Fs J n))
  rw[Aas J n k]
theorem AbL{J:List Jn}{w:Jn}(hb:∀j∈J,¬j.2.1=w.1):∀(k:Nat) (n:Int),¬n=w.1->jGo (J++[w]) k n=jGo J k n/\¬jGo J k n=w.1
 | 0,n,h=>⟨rfl,h⟩
 | k+1,n,h=>by
  obtain⟨e,ne⟩:=AbL hb k n h
  show Fs (J++[w]) (jGo (J++[w]) k n)=Fs J (jGo J k n)/\¬Fs J (jGo J k n)=w.1
  rw[e]
  unfold Fs
  rw[Xy λz=>ne z.symm]
  refine⟨rfl,?_⟩
  cases z:Fp J (jGo J k n) with
  | none=>exact ne
  | some m=>exact hb _ (Vf z)
theorem AaK{J:List Jn}{n:Int}{k:Nat}(h:Fp J (jGo J k n)=none):∀d,jGo J (k+d) n=jGo J k n
 | 0=>rfl
 | d+1=>by
  show Fs J (jGo J (k+d) n)=_
  rw[AaK h d]
  unfold Fs
  rw[h]
end
structure Aov(S:List Sg)(M:List (Int×Int))(J:List Jn):Prop where
 so:∀s∈S,Yl s
 mo:∀m∈M,0<=m.1/\0<=m.2
 nd:(S.map (·.1)++Fx M).Nodup
 jo:Ab7 (kK S++kM M) J
 ln:S.length+2*M.length<=60
 jl:J.length<=7
 mr:∃s∈S,s.2.1="mark"
section
variable {S:Nat->Int}{R0 Mk R:List Sg}{J:List Jn}{k x y t:Nat}
end
theorem Ad8{kvs:List (Key×V)}{k:Key}{v:V}(h:Cs kvs k=some v):(k,v)∈kvs:=by
 unfold Cs at h
 obtain⟨p,h1,h2⟩:=map_eq_some_iff.mp h
 have e0:=List.find?_some h1
 have e:p.1=k:=of_decide_eq_true e0
 have:p=(k,v):=Prod.ext e h2
 rw[<- this]
 exact List.mem_of_find?_eq_some h1
theorem Ame{M:List (Int×Int)}{p:Key×V}(h:p∈kM M):p.2=.str "open"\/p.2=.str "shut":=by
 induction M with
 | nil=>cases h
 | cons x r ih =>
  rcases mem_cons.mp h with e | h
  ·rw[e];exact .inl rfl
  ·rcases mem_cons.mp h with e | h
   ·rw[e];exact .inr rfl
   ·exact ih h
theorem Ac2(U:List Sg)(M:List (Int×Int))(n:Int):(Cs (kK U++kM M) (Sum.inl n)).getD (.str "plain")=.str (De U M n):=by
 unfold De
 cases e:Cs (kK U++kM M) (Sum.inl n) with
 | none=>rfl
 | some v =>
  rcases mem_append.mp (Ad8 e) with h | h
  ·obtain⟨s,_,z⟩:=mem_map.mp h
   have:V.str s.2.1=v:=(Prod.mk.inj z).2
   rw[<- this];rfl
  ·rcases Ame h with z | z
   ·have z:v=.str "open":=z
    rw[z];rfl
   ·have z:v=.str "shut":=z
    rw[z];rfl
theorem Tr{U:List Sg}{M:List (Int×Int)}{n:Int}{k:Str}(h:(Cs (kK U++kM M) (Sum.inl n)).getD (.str "plain")=.str k):De U M n=k:=by
 rw[Ac2] at h
 exact V.str.inj h
def Cj(U:List Sg)(M:List (Int×Int))(n:Int):Bool:=decide (De U M n="mark")
def Nm(mk:Int->Bool)(gs:List (List Int))(n:Int):List (List Int):=if gs=[]\/mk n=false then gs++[[n]] else gs.dropLast++[gs.getLast?.getD []++[n]]
def grp(mk:Int->Bool)(ts:List Int):List (List Int):=ts.foldl (Nm mk) []
theorem Aau(mk:Int->Bool)(ts:List Int)(n:Int):grp mk (ts++[n])=Nm mk (grp mk ts) n:=by simp [grp]
theorem Os{mk:Int->Bool}{gs:List (List Int)}{n:Int}(h:gs=[]\/mk n=false):Nm mk gs n=gs++[[n]]:=if_pos h
theorem Rs{mk:Int->Bool}{gs:List (List Int)}{g:List Int}{n:Int}(h:mk n=true):Nm mk (gs++[g]) n=gs++[g++[n]]:=by
 unfold Nm
 rw[if_neg (by rintro (z | z);(simp at z);(rw[h] at z;cases z))]
 simp
theorem AbH{mk:Int->Bool}(P:List (List Int)->List Int->Prop)(h0:P [] [])(hs:∀gs ts n,P gs ts->P (Nm mk gs n) (ts++[n]))(ts:List Int):P (grp mk ts) ts:=by
 have key:∀(ts:List Int) (acc:List (List Int)) (pre:List Int),P acc pre->P (ts.foldl (Nm mk) acc) (pre++ts):=by
  intro ts
  induction ts with
  | nil=>intro acc pre h;rw[append_nil];exact h
  | cons n r ih =>
   intro acc pre h
   have:=ih (Nm mk acc n) (pre++[n]) (hs acc pre n h)
   rw[append_assoc] at this
   exact this
 exact key ts [] [] h0
structure Ahb(mk:Int->Bool)(gs:List (List Int))(ts:List Int):Prop where
 fl:gs.flatten=ts
 ln:gs.length<=ts.length
 ne:∀g∈gs,∃n r,g=n::r/\∀m∈r,mk m=true
 hd:∀(i:Nat) (g:List Int),gs[i]? = some g->0<i->∃n r,g=n::r/\mk n=false
theorem Gj(mk:Int->Bool)(ts:List Int):Ahb mk (grp mk ts) ts:=by
 refine AbH (Ahb mk) ⟨rfl,Nat.le_refl _,(λg h=>by cases h),(λi g h=>by simp at h)⟩ (λgs ts n h=>?_) ts
 by_cases z:gs=[]\/mk n=false
 ·rw[Os z]
  refine⟨by rw[List.flatten_append,h.fl];rfl,by have:=h.ln;simp;omega,λg hg=>?_,λi g e hi=>?_⟩
  ·rcases mem_append.mp hg with hg | hg
   ·exact h.ne g hg
   ·rw[mem_singleton.mp hg];exact⟨n,[],rfl,(λm hm=>by cases hm)⟩
  ·rcases Lb e with e | ⟨e1,e2⟩
   ·exact h.hd i g e hi
   ·rcases z with z | z
    ·rw[z] at e1;rw[e1] at hi;exact absurd hi (Nat.lt_irrefl _)
    ·exact⟨n,[],e2,z⟩
 ·rcases eq_nil_or_concat gs with e | ⟨gs',g',rfl⟩
  ·exact absurd (.inl e) z
  ·have hm:mk n=true:=by
    cases w:mk n with
    | true=>rfl
    | false=>exact absurd (.inr w) z
   rw[concat_eq_append] at h z ⊢
   rw[Rs hm]
   obtain⟨a,r,eg,hr⟩:=h.ne g' (mem_append_right _ mem_cons_self)
   refine⟨by rw[<- h.fl];simp,by have:=h.ln;simp at this ⊢;omega,λg hg=>?_,λi g e hi=>?_⟩
   ·rcases mem_append.mp hg with hg | hg
    ·exact h.ne g (mem_append_left _ hg)
    ·rw[mem_singleton.mp hg,eg]
     refine⟨a,r++[n],rfl,λm hm'=>?_⟩
     rcases mem_append.mp hm' with w | w
     ·exact hr m w
     ·rw[mem_singleton.mp w];exact hm
   ·rcases Lb e with e | ⟨e1,e2⟩
    ·have hlt:=(List.getElem?_eq_some_iff.mp e).1
     exact h.hd i g (by rw[getElem?_append_left hlt];exact e) hi
    ·obtain⟨n',r',q1,q2⟩:=h.hd i g' (by rw[e1];simp) hi
     exact⟨n',r'++[n],by rw[e2,q1];rfl,q2⟩
def Rp(H:Hp)(x:V)(g:List Int):Prop:=∃p,x=.ref p/\H p=some (.lst (g.map V.int))
theorem LAt.monoM{β α:Type}{R R':Hp->β->α->Prop}{H H':Hp}{xs:List β}{ys:List α}(h:LAt R H xs ys)(m:∀x∈xs,∀y,R H x y->R' H' x y):LAt R' H' xs ys:=⟨h.1,λi x y e1 e2=>m x (mem_of_getElem? e1) y (h.2 i x y e1 e2)⟩
theorem LAt.lstS{H H':Hp}{xs:List V}{gs:List (List Int)}(h:LAt Rp H xs gs)(s:Same H H'):LAt Rp H' xs gs:=h.mono λ_ _ ⟨p,e,z⟩=>⟨p,e,s _ _ z⟩
theorem LAt.lstC{H H':Hp}{a:Addr}{xs:List V}{gs:List (List Int)}(h:LAt Rp H xs gs)(c:Chg a H H')(n:¬V.ref a∈xs):LAt Rp H' xs gs :=
 h.monoM λx hx y ⟨p,e,z⟩=>⟨p,e,c _ _ z (by intro w;subst w;rw[e] at hx;exact n hx)⟩
structure LLat(H:Hp)(l:Addr)(xs:List V)(gs:List (List Int)):Prop where
 li:H l=some (.lst xs)
 at':LAt Rp H xs gs
 nd:xs.Nodup
 no:¬V.ref l∈xs
theorem LAt.lstF{H:Hp}{a:Addr}{xs:List V}{gs:List (List Int)}(h:LAt Rp H xs gs)(ha:H a=none):¬V.ref a∈xs:=λz=>by
 obtain⟨i,hi⟩:=getElem?_of_mem z
 obtain⟨g,_,p,e,hp⟩:=h.get hi
 cases e
 rw[ha] at hp;cases hp
theorem LLat.push{H H2 H3 H4:Hp}{l p:Addr}{xs:List V}{gs:List (List Int)}{n:Int}(h:LLat H l xs gs)(hp:H p=none)(s:Same H H2)(c3:Chg l H2 H3)(e3:H3 l=some (.lst (xs++[.ref p])))(c4:Chg p H3 H4)(e4:H4 p=some (.lst ([]++[.int n]))) :
  LLat H4 l (xs++[.ref p]) (gs++[[n]]):=by
 have nlp:l≠p:=Bz h.li hp
 have nf:=h.at'.lstF hp
 refine⟨c4 _ _ e3 nlp,LAt.snoc (((h.at'.lstS s).lstC c3 h.no).lstC c4 nf) ⟨p,rfl,e4⟩,?_,?_⟩
 ·refine nodup_append.mpr ⟨h.nd,by simp,λx hx y hy e=>?_⟩
  rw[e,mem_singleton.mp hy] at hx
  exact nf hx
 ·intro z
  rcases mem_append.mp z with z | z
  ·exact h.no z
  ·exact nlp (V.ref.inj (mem_singleton.mp z))
theorem LLat.add{H H':Hp}{l p:Addr}{xs:List V}{gs:List (List Int)}{g:List Int}{n:Int}(h:LLat H l (xs++[.ref p]) (gs++[g]))(c:Chg p H H')(e:H' p=some (.lst (g.map V.int++[.int n]))):LLat H' l (xs++[.ref p]) (gs++[g++[n]]):=by
 have nlp:l≠p:=λz=>h.no (by rw[z];exact mem_append_right _ mem_cons_self)
 obtain⟨n1,_,n3⟩:=nodup_append.mp h.nd
 have np:¬V.ref p∈xs:=λz=>n3 _ z _ mem_cons_self rfl
 have hl:xs.length=gs.length:=by have:=h.at'.1;simpa using this
 have h':LAt Rp H xs gs:=⟨hl,λi x y e1 e2=>h.at'.2 i x y (by rw[getElem?_append_left (List.getElem?_eq_some_iff.mp e1).1];exact e1) (by rw[getElem?_append_left (List.getElem?_eq_some_iff.mp e2).1];exact e2)⟩
 exact⟨c _ _ h.li nlp,LAt.snoc (h'.lstC c np) ⟨p,rfl,by rw[map_append];exact e⟩,h.nd,h.no⟩
theorem LLat.last{H:Hp}{l:Addr}{xs:List V}{gs:List (List Int)}(h:LLat H l xs gs)(ne:¬gs=[]):∃xs' p gs' g,xs=xs'++[V.ref p]/\gs=gs'++[g]/\H p=some (.lst (g.map V.int)):=by
 rcases eq_nil_or_concat gs with e | ⟨gs',g,rfl⟩
 ·exact absurd e ne
 ·rcases eq_nil_or_concat xs with e | ⟨xs',x,rfl⟩
  ·have:=h.at'.1;rw[e] at this;simp at this
  ·rw[concat_eq_append,concat_eq_append] at h
   have hl:xs'.length=gs'.length:=by have:=h.at'.1;simpa using this
   obtain⟨p,e,hp⟩:=h.at'.2 xs'.length x g (by simp) (by rw[hl];simp)
   exact⟨xs',p,gs',g,by rw[concat_eq_append,e],concat_eq_append,hp⟩
theorem Zv{ts:List Int}{i:Nat}{x:V}(h:(ts.map V.int)[i]? = some x):∃n,ts[i]? = some n/\x=.int n:=by
 rw[getElem?_map] at h
 obtain⟨n,h1,h2⟩:=map_eq_some_iff.mp h
 exact⟨n,h1,h2.symm⟩
theorem Zr{κ:Type} [DecidableEq κ] {kvs:List (κ×PV)} {k:κ} {v:PV} (h:¬k∈kvs.map (·.1)):Nc kvs k v=kvs++[(k,v)]:=by
 unfold Nc
 rw[if_neg]
 intro z
 obtain⟨kv,h1,h2⟩:=any_eq_true.mp z
 exact h (mem_map.mpr ⟨kv,h1,of_decide_eq_true h2⟩)
theorem Tg{κ:Type} [DecidableEq κ] (x:κ×PV) (r:List (κ×PV)) (k:κ):Gg (x::r) k=if x.1=k then some x.2 else Gg r k:=by
 unfold Gg
 rw[find?_cons]
 by_cases z:x.1=k
 ·rw[if_pos z,decide_eq_true z];rfl
 ·rw[if_neg z,decide_eq_false z]
theorem AaP{α:Type}{f:α->Int}{l:List α}{n:Int}{g:α->PV}(h:(Sum.inl n:Key)∈(l.map λs=>((Sum.inl (f s),g s):Key×PV)).map (·.1)):n∈l.map f:=by
 rw[map_map] at h
 obtain⟨s,hs,e⟩:=mem_map.mp h
 exact mem_map.mpr ⟨s,hs,Sum.inl.inj e⟩
structure GW(mk:Int->Bool)(gs:List (List Int)):Prop where
 ne:∀g∈gs,∃n r,g=n::r/\∀m∈r,mk m=true
 hd:∀(i:Nat) (g:List Int),gs[i]? = some g->0<i->∃n r,g=n::r/\mk n=false
theorem Ac8(mk:Int->Bool)(ts:List Int):GW mk (grp mk ts):=⟨(Gj mk ts).ne,(Gj mk ts).hd⟩
theorem Oz{mk:Int->Bool}{gs:List (List Int)}:∀(r:List Int) (g:List Int),(∀m∈r,mk m=true)->r.foldl (Nm mk) (gs++[g])=gs++[g++r]
 | [],g,_=>by simp
 | m::r,g,h=>by
  rw[foldl_cons,Rs (h m mem_cons_self),Oz r _ λx hx=>h x (mem_cons_of_mem _ hx)]
  simp
theorem AdE{mk:Int->Bool}{gs:List (List Int)}(w:GW mk gs):grp mk gs.flatten=gs:=by
 have key:∀n,n<=gs.length->grp mk (gs.take n).flatten=gs.take n:=by
  intro n
  induction n with
  | zero=>intro _;rfl
  | succ n ih =>
   intro hn
   have e:=getElem?_eq_getElem (show n<gs.length by omega)
   obtain⟨h,r,eg,hr⟩:=w.ne _ (mem_of_getElem? e)
   rw[Dj e,List.flatten_append]
   unfold grp at ih ⊢
   rw[List.foldl_append,ih (by omega)]
   show foldl (Nm mk) (gs.take n) ([gs[n]].flatten)=_
   rw[show [gs[n]].flatten=gs[n] by simp,eg,foldl_cons,Os,Oz r [h] hr]
   ·rfl
   ·by_cases z:n=0
    ·left;rw[z];rfl
    ·right
     obtain⟨h',r',eg',q⟩:=w.hd n _ e (by omega)
     rw[eg] at eg';cases eg'
     exact q
 have:=key gs.length (Nat.le_refl _)
 rwa [take_length] at this
section
variable {U:List Sg}{M:List (Int×Int)}{J:List Jn}
end
theorem Jy{α:Type}(l:List α)(x:α):L2.atI (l++[x]) (-1)=some x:=by
 unfold L2.atI ixN
 rw[if_neg (by omega),if_pos (by simp;omega)]
 show (l++[x])[_]? = _
 rw[show (-1+((l++[x]).length:Int)).toNat=l.length by simp;omega]
 simp
section
variable {U:List Sg}{M:List (Int×Int)}{J:List Jn}
def knW(U:List Sg)(M:List (Int×Int)):List Int->Str
 | []=>"plain"
 | n::_=>if Cj U M n=true then "plain" else De U M n
end
theorem Zx{α:Type}(xs:List α)(lo hi:Option Int):(Je xs lo hi).length<=xs.length:=by
 unfold Je;rw[length_take,length_drop];omega
section
variable {U:List Sg}{M:List (Int×Int)}{J:List Jn}
end
section
variable {U:List Sg}{M:List (Int×Int)}{J:List Jn}
end
section
variable {U:List Sg}{M:List (Int×Int)}{J:List Jn}
end
theorem Ym{α:Type}(xs:List α)(p:Nat):Je xs none (some (p:Int))=xs.take p:=by
 unfold Je
 rw[HT.sIx_nat,HT.sIx_none]
 simp
theorem An1{α:Type}(xs:List α)(p:Nat):Je xs (some (p:Int)) none=xs.drop p:=by
 unfold Je
 rw[HT.sIx_nat,HT.sIx_none]
 by_cases h:p<=xs.length
 ·rw[Nat.min_eq_left h]
  exact List.take_of_length_le (by rw[length_drop];omega)
 ·rw[Nat.min_eq_right (by omega),List.drop_eq_nil_of_le (by omega)]
  simp;omega
section
variable {U:List Sg}{M:List (Int×Int)}{J:List Jn}
end
structure T2(sg:List Int)(U:List Sg):Prop where
 at':∀(k:Nat) (s:Sg),U[k]? = some s->sg[k]? = some s.1/\s.2.1∈toldK/\Nr s.2.1 s.2.2
 wd:∀(k:Nat) (s:Sg),U[k]? = some s->k<8->toldK[k]? = some s.2.1
structure K2(S:Nat->Int)(R0:List Sg):Prop where
 inj:∀i j,i<6->j<6->S (10+i)=S (10+j)->i=j
 ne:∀s∈R0,∀i,i<6->¬s.1=S (10+i)
 nd:(R0.map (·.1)).Nodup
 ok:∀s∈R0,s.2.1∈joinedK/\s.2.2=0
section
variable {S:Nat->Int}{R0 Mk R:List Sg}{J:List Jn}{k:Nat}
theorem JB.row2(h:JB S R0 Mk k R J):∀s∈R,s∈R0\/∃i,i<k/\s.1=S (10+i):=by
 induction h with
 | nil=>intro s hs;exact .inl hs
 | skip h ih =>
  intro s hs
  rcases ih s hs with z | ⟨i,a,b⟩
  ·exact .inl z
  ·exact .inr ⟨i,by omega,b⟩
 | add h hs hm hn ih =>
  rename_i k R J s m
  intro u hu
  rcases mem_append.mp hu with hu | hu
  ·rcases ih u hu with z | ⟨i,a,b⟩
   ·exact .inl z
   ·exact .inr ⟨i,by omega,b⟩
  ·rw[mem_singleton.mp hu];exact .inr ⟨k,by omega,rfl⟩
theorem JB.kind2(h:JB S R0 Mk k R J)(hB:K2 S R0):∀s∈R,s.2.1∈joinedK/\s.2.2=0:=by
 induction h with
 | nil=>exact hB.ok
 | skip h ih=>exact ih
 | add h hs hm hn ih =>
  intro u hu
  rcases mem_append.mp hu with hu | hu
  ·exact ih u hu
  ·rw[mem_singleton.mp hu];exact⟨(ih _ hs).1,rfl⟩
theorem JB.old2(h:JB S R0 Mk k R J)(hk:k<6)(hB:K2 S R0):∀u∈R,¬u.1=S (10+k):=λu hu e=>by
 rcases h.row2 u hu with z | ⟨i,a,b⟩
 ·exact hB.ne u z k hk e
 ·rw[b] at e
  have:=hB.inj i k (by omega) hk e
  omega
theorem JB.nodup2(h:JB S R0 Mk k R J)(hk:k<=6)(hB:K2 S R0):(R.map (·.1)).Nodup/\(J.map (·.1)).Nodup/\(J.map (·.2)).Nodup:=by
 induction h with
 | nil=>exact⟨hB.nd,nodup_nil,nodup_nil⟩
 | skip h ih=>exact ih (by omega)
 | add h hs hm hn ih =>
  rename_i k R J s m
  obtain⟨a,b,c⟩:=ih (by omega)
  refine⟨?_,?_,?_⟩
  ·rw[map_append]
   refine nodup_append.mpr ⟨a,by simp,λx hx y hy e=>?_⟩
   obtain⟨u,hu,rfl⟩:=mem_map.mp hx
   have e2:y=S (10+k):=by simpa using hy
   exact h.old2 (by omega) hB u hu (e.trans e2)
  ·rw[map_append]
   refine nodup_append.mpr ⟨b,by simp,λx hx y hy e=>?_⟩
   obtain⟨u,hu,rfl⟩:=mem_map.mp hx
   obtain⟨i,h1,h3⟩:=h.whole u hu
   have e2:y=S (10+k):=by simpa using hy
   rw[h3,e2] at e
   have:=hB.inj i k (by omega) (by omega) e
   omega
  ·rw[map_append]
   refine nodup_append.mpr ⟨c,by simp,λx hx y hy e=>?_⟩
   have e2:y=(s.1,m.1):=by simpa using hy
   rw[<- e2,<- e] at hn
   exact hn hx
theorem JB.ends2(h:JB S R0 Mk k R J)(hk:k<=6)(hB:K2 S R0):∀s∈R,Fp J (jGo J k s.1)=none:=by
 induction h with
 | nil=>intro s hs;rfl
 | skip h ih =>
  intro s hs
  have z:=ih (by omega) s hs
  rename_i k R J
  show Fp J (Fs J (jGo J k s.1))=none
  unfold Fs
  rw[z];exact z
 | add h hs hm hn ih =>
  rename_i k R J s m
  have ih:=ih (by omega)
  have old:=h.old2 (by omega) hB
  have hb:∀j∈J,¬j.2.1=((S (10+k),s.1,m.1):Jn).1:=λj hj=>by
   obtain⟨⟨_,_,u,hu,_,e,_⟩,_⟩:=h.join j hj
   rw[<- e];exact old u hu
  have one:∀u∈R,Fp (J++[(S (10+k),s.1,m.1)]) (jGo (J++[(S (10+k),s.1,m.1)]) k u.1)=none:=λu hu=>by
   obtain⟨e,ne⟩:=AbL hb k u.1 (old u hu)
   rw[e,Xy λz=>ne z.symm]
   exact ih u hu
  intro u hu
  rcases mem_append.mp hu with hu | hu
  ·show Fp _ (Fs _ (jGo _ k u.1))=none
   unfold Fs
   rw[one u hu];exact one u hu
  ·rw[mem_singleton.mp hu]
   rw[Aas]
   have hw:¬S (10+k)∈J.map (·.1):=λz=>by
    obtain⟨j,hj,e⟩:=mem_map.mp z
    obtain⟨⟨v,hv,_,_,e2,_,_⟩,_⟩:=h.join j hj
    exact old v hv (e2.trans e)
   have st:Fs (J++[(S (10+k),s.1,m.1)]) (S (10+k))=s.1:=by
    unfold Fs
    have:∀J':List Jn,¬S (10+k)∈J'.map (·.1)->Fp (J'++[(S (10+k),s.1,m.1)]) (S (10+k))=some (s.1,m.1):=by
     intro J'
     induction J' with
     | nil=>intro _;show (if S (10+k)=S (10+k) then _ else _)=_;rw[if_pos rfl]
     | cons x r ih2 =>
      intro hx
      show (if x.1=S (10+k) then some x.2 else Fp (r++_) _)=_
      rw[if_neg λz=>hx (by rw[<- z];exact mem_cons_self)]
      exact ih2 λz=>hx (mem_cons_of_mem _ z)
    rw[this J hw]
   show Fp _ (jGo _ k (Fs _ (S (10+k))))=none
   rw[st]
   exact one s hs
theorem JB.ends27(h:JB S R0 Mk k R J)(hk:k<=6)(hB:K2 S R0):∀j∈J,Fp J (jGo J 7 j.1)=none:=by
 intro j hj
 obtain⟨⟨s,hs,_,_,e,_,_⟩,_⟩:=h.join j hj
 have z:=h.ends2 hk hB s hs
 rw[e] at z
 have e7:jGo J 7 j.1=jGo J k j.1:=by
  have e:=AaK z (7 - k)
  rw[show k+(7 - k)=7 by omega] at e
  exact e
 rw[e7];exact z
end
structure S28(f:Nat->Int):Prop where
 nn:∀i,0<=f i
 inj:∀i j,i<28->j<28->f i=f j->i=j
def bs4:List Str:=["fore","back","num","blank"]
theorem AaH:∀k∈bs4,k∈joinedK/\k∈toldK/\¬k="mark"/\¬k="plain":=by decide +kernel
theorem AcV:∀k∈joinedK,¬k="plain"->k∈bs4:=by decide +kernel
def r0G(f:Nat->Int)(U:List Sg):List Sg:=(U.filter λ(s:Sg)=>decide (s.2.1∈bs4)).map (λ(s:Sg)=>((s.1,s.2.1,0):Sg))++([(f 24,"plain",0),(f 25,"plain",0)]:List Sg)
def Ly(U:List Sg):List Sg:=U.filter λ(s:Sg)=>decide (s.2.1="mark")
def upG(U R:List Sg)(n:Nat):List Sg:=U++(R.drop n).filter λ(s:Sg)=>decide (¬s.2.1="plain")
def mtG(f:Nat->Int)(y:Nat):List (Int×Int):=[(f 14,f 15),(f 16,f 17)].take y
section
variable {f:Nat->Int}{U R:List Sg}{J:List Jn}{k y:Nat}
theorem T2.ix(h:T2 ((range 28).map f) U)(ul:U.length=14):∀s∈U,(∃i,i<14/\s.1=f i)/\s.2.1∈toldK/\Nr s.2.1 s.2.2:=λs hs=>by
 obtain⟨i,hi⟩:=getElem?_of_mem hs
 have li:=(List.getElem?_eq_some_iff.mp hi).1
 obtain⟨a,b,c⟩:=h.at' i s hi
 rw[getElem?_map,getElem?_range (by omega)] at a
 exact⟨⟨i,by omega,(Option.some.inj a).symm⟩,b,c⟩
theorem T2.nd(h:T2 ((range 28).map f) U)(ul:U.length=14)(hf:S28 f):(U.map (·.1)).Nodup:=by
 refine Lu λi j x h1 h2=>?_
 rw[getElem?_map] at h1 h2
 obtain⟨s1,e1,z1⟩:=map_eq_some_iff.mp h1
 obtain⟨s2,e2,z2⟩:=map_eq_some_iff.mp h2
 have l1:=(List.getElem?_eq_some_iff.mp e1).1
 have l2:=(List.getElem?_eq_some_iff.mp e2).1
 have a1:=(h.at' i s1 e1).1
 have a2:=(h.at' j s2 e2).1
 rw[getElem?_map,getElem?_range (by omega)] at a1 a2
 exact hf.inj i j (by omega) (by omega) (by rw[Option.some.inj a1,Option.some.inj a2,z1,z2])
theorem Ro(h:T2 ((range 28).map f) U)(ul:U.length=14)(hf:S28 f):K2 (λi=>f (i+8)) (r0G f U) where
 inj:=λi j hi hj e=>by have:=hf.inj (10+i+8) (10+j+8) (by omega) (by omega) e;omega
 ne:=λs hs i hi e=>by
  have e':s.1=f (10+i+8):=e
  rcases mem_append.mp hs with hs | hs
  ·obtain⟨u,hu,rfl⟩:=mem_map.mp hs
   obtain⟨⟨a,h1,h2⟩,_⟩:=h.ix ul u (mem_filter.mp hu).1
   have:=hf.inj a (10+i+8) (by omega) (by omega) (by rw[<- h2];exact e')
   omega
  ·simp only [mem_cons,not_mem_nil,or_false] at hs
   rcases hs with rfl | rfl
   ·have:=hf.inj 24 (10+i+8) (by omega) (by omega) e';omega
   ·have:=hf.inj 25 (10+i+8) (by omega) (by omega) e';omega
 nd:=by
  unfold r0G
  rw[map_append,map_map]
  refine nodup_append.mpr ⟨?_,?_,λx hx z hz e=>?_⟩
  ·exact Nodup.sublist (Sublist.map (λs:Sg=>s.1) List.filter_sublist) (h.nd ul hf)
  ·refine nodup_cons.mpr ⟨λz=>?_,nodup_cons.mpr ⟨(λz=>by cases z),nodup_nil⟩⟩
   have:=hf.inj 24 25 (by omega) (by omega) (mem_singleton.mp z)
   omega
  ·obtain⟨u,hu,rfl⟩:=mem_map.mp hx
   obtain⟨⟨a,h1,h2⟩,_⟩:=h.ix ul u (mem_filter.mp hu).1
   have hz':z=f 24\/z=f 25:=by simpa using hz
   have e':f a=z:=by rw[<- h2];exact e
   rcases hz' with rfl | rfl
   ·have:=hf.inj a 24 (by omega) (by omega) e';omega
   ·have:=hf.inj a 25 (by omega) (by omega) e';omega
 ok:=λs hs=>by
  rcases mem_append.mp hs with hs | hs
  ·obtain⟨u,hu,rfl⟩:=mem_map.mp hs
   exact⟨(AaH _ (of_decide_eq_true (mem_filter.mp hu).2)).1,rfl⟩
  ·simp only [mem_cons,not_mem_nil,or_false] at hs
   have:("plain" : Str)∈joinedK:=by decide +kernel
   rcases hs with rfl | rfl <;> exact⟨this,rfl⟩
abbrev JG(f:Nat->Int)(U:List Sg)(k:Nat)(R:List Sg)(J:List Jn):Prop:=JB (λi=>f (i+8)) (r0G f U) (Ly U) k R J
theorem Wz(h:JG f U k R J):∃X,R=r0G f U++X/\∀s∈X,∃i,i<k/\s.1=f (18+i):=by
 induction h with
 | nil=>exact⟨[],by simp,λs h=>by cases h⟩
 | skip h ih=>obtain⟨X,e,hx⟩:=ih;exact⟨X,e,λs hs=>let ⟨i,a,b⟩:=hx s hs;⟨i,by omega,b⟩⟩
 | add h hs hm hn ih =>
  rename_i k R J s m
  obtain⟨X,e,hx⟩:=ih
  refine⟨X++[(f (10+k+8),s.2.1,0)],by rw[e,append_assoc],λu hu=>?_⟩
  rcases mem_append.mp hu with hu | hu
  ·obtain⟨i,a,b⟩:=hx u hu;exact⟨i,by omega,b⟩
  ·rw[mem_singleton.mp hu];exact⟨k,by omega,by show f (10+k+8)=f (18+k);congr 1;omega⟩
theorem AbX{X:List Sg}(e:R=r0G f U++X):upG U R (r0G f U).length=U++X.filter λ(s:Sg)=>decide (¬s.2.1="plain"):=by
 unfold upG;rw[e,List.drop_append,drop_of_length_le (Nat.le_refl _),Nat.sub_self];rfl
theorem AeT(h:JG f U k R J)(hk:k<=6)(ht:T2 ((range 28).map f) U)(ul:U.length=14)(hf:S28 f):∀s∈R,(¬s.2.1="plain"/\∃r,(s.1,s.2.1,r)∈upG U R (r0G f U).length)\/(s.2.1="plain"/\∀u∈upG U R (r0G f U).length,¬u.1=s.1):=by
 intro s hs
 obtain⟨X,e,hx⟩:=Wz h
 have nd:=(h.nodup2 hk (Ro ht ul hf)).1
 rw[AbX e]
 by_cases z:s.2.1="plain"
 ·refine .inr ⟨z,λu hu e2=>?_⟩
  rcases mem_append.mp hu with hu | hu
  ·obtain⟨⟨a,h1,h2⟩,h3,_⟩:=ht.ix ul u hu
   rw[e] at hs
   rcases mem_append.mp hs with hs | hs
   ·rcases mem_append.mp hs with hs | hs
    ·obtain⟨v,hv,rfl⟩:=mem_map.mp hs
     exact (AaH _ (of_decide_eq_true (mem_filter.mp hv).2)).2.2.2 z
    ·have hs':s.1=f 24\/s.1=f 25:=by
      simp only [mem_cons,not_mem_nil,or_false] at hs
      rcases hs with rfl | rfl
      ·exact .inl rfl
      ·exact .inr rfl
     rcases hs' with q | q
     ·have:=hf.inj a 24 (by omega) (by omega) (by rw[<- h2,e2,q]);omega
     ·have:=hf.inj a 25 (by omega) (by omega) (by rw[<- h2,e2,q]);omega
   ·obtain⟨i,a1,a2⟩:=hx s hs
    have:=hf.inj a (18+i) (by omega) (by omega) (by rw[<- h2,e2,a2]);omega
  ·obtain⟨hu1,hu2⟩:=mem_filter.mp hu
   have hu3:u∈R:=by rw[e];exact mem_append_right _ hu1
   have:u=s:=by
    obtain⟨i,hi⟩:=getElem?_of_mem hu3
    obtain⟨j,hj⟩:=getElem?_of_mem hs
    have q1:(R.map (·.1))[i]? = some s.1:=by rw[getElem?_map,hi];exact congrArg some e2
    have q2:(R.map (·.1))[j]? = some s.1:=by rw[getElem?_map,hj];rfl
    have:i=j:=by
     rcases Nat.lt_trichotomy i j with c | c | c
     ·exact absurd (mem_of_getElem? (by rw[getElem?_take,if_pos c];exact q1)) (Ry nd q2)
     ·exact c
     ·exact absurd (mem_of_getElem? (by rw[getElem?_take,if_pos c];exact q2)) (Ry nd q1)
    subst this
    rw[hi] at hj
    exact Option.some.inj hj
   subst this
   exact of_decide_eq_true hu2 z
 ·refine .inl ⟨z,?_⟩
  rw[e] at hs
  rcases mem_append.mp hs with hs | hs
  ·rcases mem_append.mp hs with hs | hs
   ·obtain⟨v,hv,rfl⟩:=mem_map.mp hs
    exact⟨v.2.2,mem_append_left _ (mem_filter.mp hv).1⟩
   ·simp only [mem_cons,not_mem_nil,or_false] at hs
    rcases hs with rfl | rfl <;> exact absurd rfl z
  ·exact⟨s.2.2,mem_append_right _ (mem_filter.mpr ⟨hs,decide_eq_true z⟩)⟩
theorem Ys(h:JG f U k R J)(hk:k<=6)(ht:T2 ((range 28).map f) U)(ul:U.length=14)(hf:S28 f):((upG U R (r0G f U).length).map (·.1)).Nodup/\∀s∈upG U R (r0G f U).length,(∃i,(i<14\/(18<=i/\i<24))/\s.1=f i)/\s.2.1∈toldK/\Nr s.2.1 s.2.2:=by
 obtain⟨X,e,hx⟩:=Wz h
 have nd:=(h.nodup2 hk (Ro ht ul hf)).1
 have kd:=h.kind2 (Ro ht ul hf)
 rw[AbX e]
 refine⟨?_,λs hs=>?_⟩
 ·rw[map_append]
  refine nodup_append.mpr ⟨ht.nd ul hf,?_,λx hx' z hz e2=>?_⟩
  ·rw[e,map_append] at nd
   exact Nodup.sublist (Sublist.map (λs:Sg=>s.1) List.filter_sublist) (nodup_append.mp nd).2.1
  ·obtain⟨u,hu,rfl⟩:=mem_map.mp hx'
   obtain⟨v,hv,rfl⟩:=mem_map.mp hz
   obtain⟨⟨a,h1,h2⟩,_⟩:=ht.ix ul u hu
   obtain⟨i,a1,a2⟩:=hx v (mem_filter.mp hv).1
   have:=hf.inj a (18+i) (by omega) (by omega) (by rw[<- h2,e2,a2])
   omega
 ·rcases mem_append.mp hs with hs | hs
  ·obtain⟨⟨a,h1,h2⟩,h3⟩:=ht.ix ul s hs
   exact⟨⟨a,.inl h1,h2⟩,h3⟩
  ·obtain⟨hs1,hs2⟩:=mem_filter.mp hs
   obtain⟨i,a1,a2⟩:=hx s hs1
   have k1:=kd s (by rw[e];exact mem_append_right _ hs1)
   have k2:=AcV _ k1.1 (of_decide_eq_true hs2)
   have k3:=AaH _ k2
   exact⟨⟨18+i,.inr ⟨by omega,by omega⟩,a2⟩,k3.2.1,.inr ⟨k3.2.2.1,k1.2⟩⟩
theorem AcU(f:Nat->Int)(y:Nat):∀n∈Fx (mtG f y),∃j,14<=j/\j<18/\n=f j:=λn hn=>by
 have:n∈Fx [(f 14,f 15),(f 16,f 17)]:=by
  unfold mtG at hn
  have e:=Tz ([(f 14,f 15),(f 16,f 17)].take y) ([(f 14,f 15),(f 16,f 17)].drop y)
  rw[take_append_drop] at e
  rw[e];exact mem_append_left _ hn
 simp only [Fx,mem_cons,not_mem_nil,or_false] at this
 rcases this with rfl | rfl | rfl | rfl
 ·exact⟨14,by omega,by omega,rfl⟩
 ·exact⟨15,by omega,by omega,rfl⟩
 ·exact⟨16,by omega,by omega,rfl⟩
 ·exact⟨17,by omega,by omega,rfl⟩
theorem Ant(hf:S28 f)(y:Nat):(Fx (mtG f y)).Nodup:=by
 have e:=Tz ([(f 14,f 15),(f 16,f 17)].take y) ([(f 14,f 15),(f 16,f 17)].drop y)
 rw[take_append_drop] at e
 have nd:(Fx [(f 14,f 15),(f 16,f 17)]).Nodup:=by
  show ([14,15,16,17].map f).Nodup
  refine Lu λi j x h1 h2=>?_
  rw[getElem?_map] at h1 h2
  obtain⟨a,e1,z1⟩:=map_eq_some_iff.mp h1
  obtain⟨b,e2,z2⟩:=map_eq_some_iff.mp h2
  have l1:=(List.getElem?_eq_some_iff.mp e1).1
  have l2:=(List.getElem?_eq_some_iff.mp e2).1
  have key:∀i:Nat,i<4->([14,15,16,17]:List Nat)[i]? = some (14+i):=by decide
  rw[key i l1] at e1;rw[key j l2] at e2
  cases e1;cases e2
  have:=hf.inj (14+i) (14+j) (by simp at l1;omega) (by simp at l2;omega) (by rw[z1,z2])
  omega
 rw[e] at nd
 exact (nodup_append.mp nd).1
theorem Yq(h:JG f U k R J)(hk:k<=6)(ht:T2 ((range 28).map f) U)(ul:U.length=14)(hf:S28 f)(y:Nat):Aov (upG U R (r0G f U).length) (mtG f y) J:=by
 obtain⟨und,uix⟩:=Ys h hk ht ul hf
 have nd:((upG U R (r0G f U).length).map (·.1)++Fx (mtG f y)).Nodup:=by
  refine nodup_append.mpr ⟨und,Ant hf y,λa ha b hb e=>?_⟩
  obtain⟨s,hs,rfl⟩:=mem_map.mp ha
  obtain⟨⟨i,h1,h2⟩,_⟩:=uix s hs
  obtain⟨j,h3,h4,h5⟩:=AcU f y b hb
  have:=hf.inj i j (by omega) (by omega) (by rw[<- h2,e,h5])
  omega
 have kn:∀s∈R,knd (kK (upG U R (r0G f U).length)++kM (mtG f y)) s.1=.str s.2.1:=λs hs=>by
  unfold knd
  rcases AeT h hk ht ul hf s hs with ⟨z,r,hr⟩ | ⟨z,hr⟩
  ·exact Xg (s:=(s.1,s.2.1,r)) nd hr
  ·rw[z]
   refine AeY λw=>?_
   rcases mem_append.mp w with w | w
   ·obtain⟨u,hu,e⟩:=mem_map.mp w
    exact hr u hu e
   ·obtain⟨j,h3,h4,h5⟩:=AcU f y _ w
    rcases h.row2 s hs with q | ⟨i,a,b⟩
    ·rcases mem_append.mp q with q | q
     ·obtain⟨v,hv,rfl⟩:=mem_map.mp q
      obtain⟨⟨i,h1,h2⟩,_⟩:=ht.ix ul v (mem_filter.mp hv).1
      have:=hf.inj i j (by omega) (by omega) (by rw[<- h2];exact h5)
      omega
     ·simp only [mem_cons,not_mem_nil,or_false] at q
      rcases q with rfl | rfl
      ·have:=hf.inj 24 j (by omega) (by omega) h5;omega
      ·have:=hf.inj 25 j (by omega) (by omega) h5;omega
    ·have:=hf.inj (10+i+8) j (by omega) (by omega) (by rw[<- h5];exact b.symm)
     omega
 have mkk:∀m∈Ly U,m∈upG U R (r0G f U).length/\m.2.1="mark":=λm hm=>by
  obtain⟨h1,h2⟩:=mem_filter.mp hm
  exact⟨mem_append_left _ h1,of_decide_eq_true h2⟩
 obtain⟨_,n1,n2⟩:=h.nodup2 hk (Ro ht ul hf)
 have ln:=h.len.1
 exact {
  so:=λs hs=>by
   obtain⟨⟨i,h1,h2⟩,h3,h4⟩:=uix s hs
   exact⟨by rw[h2];exact hf.nn i,h3,h4⟩
  mo:=λm hm=>by
   have:m∈[(f 14,f 15),(f 16,f 17)]:=List.mem_of_mem_take hm
   simp only [mem_cons,not_mem_nil,or_false] at this
   rcases this with rfl | rfl <;> exact⟨hf.nn _,hf.nn _⟩
  nd:=nd
  jo:={
   nn:=λj hj=>by
    obtain⟨⟨s,hs,u,hu,e1,e2,_⟩,m,hm,e3⟩:=h.join j hj
    have q:∀s∈R,0<=s.1:=λs hs=>by
     rcases h.row2 s hs with q | ⟨i,a,b⟩
     ·rcases mem_append.mp q with q | q
      ·obtain⟨v,hv,rfl⟩:=mem_map.mp q
       obtain⟨⟨i,h1,h2⟩,_⟩:=ht.ix ul v (mem_filter.mp hv).1
       show 0<=v.1
       rw[h2];exact hf.nn i
      ·simp only [mem_cons,not_mem_nil,or_false] at q
       rcases q with rfl | rfl <;> exact hf.nn _
     ·rw[b];exact hf.nn _
    obtain⟨⟨i,h1,h2⟩,_⟩:=ht.ix ul m (mem_filter.mp hm).1
    exact⟨by rw[<- e1];exact q s hs,by rw[<- e2];exact q u hu,by rw[<- e3,h2];exact hf.nn i⟩
   mr:=λj hj=>by
    obtain⟨_,m,hm,e3⟩:=h.join j hj
    unfold knd
    rw[<- e3,Xg nd (mkk m hm).1,(mkk m hm).2]
   kd:=λj hj=>by
    obtain⟨⟨s,hs,u,hu,e1,e2,e3⟩,_⟩:=h.join j hj
    exact⟨s.2.1,(h.kind2 (Ro ht ul hf) s hs).1,by rw[<- e1];exact kn s hs,by rw[<- e2,kn u hu,e3]⟩
   nw:=n1
   np:=n2
   en:=h.ends27 hk (Ro ht ul hf)
   ln:=by omega }
  ln:=by
   obtain⟨X,e,_⟩:=Wz h
   have l1:=h.len.2
   rw[AbX e,length_append]
   have l2:=length_filter_le (λ(s:Sg)=>decide (¬s.2.1="plain")) X
   have l3:R.length=(r0G f U).length+X.length:=by rw[e,length_append]
   have l4:(mtG f y).length<=2:=by unfold mtG;rw[length_take];exact Nat.min_le_right _ _
   omega
  jl:=by omega
  mr:=by
   have h4:4<U.length:=by omega
   have:=ht.wd 4 _ (getElem?_eq_getElem h4) (by omega)
   exact⟨_,mem_append_left _ (getElem_mem h4),(Option.some.inj this).symm⟩ }
end
theorem Gp{c:Prop} [Decidable c] {A B:Prop} (h:¬c) (q:B):if c then A else B:=by rw[if_neg h];exact q
theorem Jl{c:Prop} [Decidable c] {A B:Prop} (h:c) (q:A):if c then A else B:=by rw[if_pos h];exact q
def knL(U:List Sg)(M:List (Int×Int))(ts:List Int):List Str:=(grp (Cj U M) ts).map (knW U M)
theorem Aal{L:List Str}{x:Str}{P:PV->Prop}(q:P (.bl (decide (x∈L)))):bIn false (.str x) (.ctp (L.map .str)) P:=by
 refine⟨L.map .str,rfl,rfl,λy hy=>by obtain⟨z,_,rfl⟩:=mem_map.mp hy;rfl,λb hb=>?_⟩
 have:b=decide (x∈L):=Gy (by
  rw[hb,decide_eq_true_iff]
  constructor
  ·intro h
   obtain⟨z,hz,e⟩:=mem_map.mp h
   injection e with e'
   rwa [<- e']
  ·intro h
   exact mem_map.mpr ⟨x,h,rfl⟩)
 rw[this];exact q
def bgK:List Str:=["forein","backin"]
theorem Nu{k:Str}(h:k∈bgK):¬k="out":=λe=>by rw[e] at h;revert h;decide +kernel
def stD(d:Int)(k:Str):Int:=(if k∈bgK then d+1 else d) - (if k="out" then 1 else 0)
def enS:Int->List Str->Nat
 | _,[]=>0
 | d,k::r=>if stD d k=0 then 0 else enS (stD d k) r+1
theorem Aa4:∀(d:Int) (l:List Str),enS d l<=l.length
 | _,[]=>Nat.le_refl _
 | d,k::r=>by
  rw[enS,length_cons]
  split
  ·omega
  ·have:=Aa4 (stD d k) r;omega
theorem Oi{d:Nat}{k:Str}{r:List Str}(h:k∈bgK):enS (d:Int) (k::r)=enS ((d+1:Nat):Int) r+1:=by
 have e:stD (d:Int) k=((d+1:Nat):Int):=by unfold stD;rw[if_pos h,if_neg (Nu h)];omega
 rw[enS,e,if_neg (by omega)]
theorem Ww{d:Nat}{r:List Str}(h:2<=d):enS (d:Int) ("out"::r)=enS ((d - 1:Nat):Int) r+1:=by
 have e:stD (d:Int) "out"=((d - 1:Nat):Int):=by unfold stD;rw[if_neg (by decide +kernel),if_pos rfl];omega
 rw[enS,e,if_neg (by omega)]
theorem AaX{r:List Str}:enS ((1:Nat):Int) ("out"::r)=0:=by
 have e:stD ((1:Nat):Int) "out"=0:=by unfold stD;rw[if_neg (by decide +kernel),if_pos rfl];rfl
 rw[enS,e,if_pos rfl]
theorem Wu{d:Nat}{k:Str}{r:List Str}(h1:1<=d)(h2:¬k∈bgK)(h3:¬k="out"):enS (d:Int) (k::r)=enS (d:Int) r+1:=by
 have e:stD (d:Int) k=(d:Int):=by unfold stD;rw[if_neg h2,if_neg h3];omega
 rw[enS,e,if_neg (by omega)]
abbrev Nst:=Nat×Nat×Option Int
def lvF(k:Str)(a m:Int):Option Int:=if (if (a+1)%2=(if k="forein" then 0 else 1) then a+1 else a+2)<=m then some (if (a+1)%2=(if k="forein" then 0 else 1) then a+1 else a+2) else none
theorem Afd{k:Str}{a m l:Int}(h:lvF k a m=some l):a<=l:=by
 unfold lvF at h
 generalize (if k="forein" then (0:Int) else 1)=r at h
 by_cases h1:(a+1)%2=r
 ·rw[if_pos h1] at h
  by_cases h2:a+1<=m
  ·rw[if_pos h2] at h;injection h with h;omega
  ·rw[if_neg h2] at h;cases h
 ·rw[if_neg h1] at h
  by_cases h2:a+2<=m
  ·rw[if_pos h2] at h;injection h with h;omega
  ·rw[if_neg h2] at h;cases h
def arF(b:Int)(D:List Nst):Int:=D.foldl (λa x=>match x.2.2 with | some l=>max a l | none=>a) b
def Bm(kn:List Str)(a:Nat):Nat:=a+enS 0 (kn.drop a)
def dF(kn:List Str)(b m:Int):Nat->List Nst
 | 0=>[]
 | n+1=>match kn[n]? with
  | some k=>if k∈bgK then dF kn b m n++[(n,Bm kn n,lvF k (arF b ((dF kn b m n).filter λx=>decide (n<=x.2.1))) m)] else dF kn b m n
  | none=>dF kn b m n
theorem Ge{kn:List Str}{b m:Int}{n:Nat}{k:Str}(h:kn[n]? = some k)(hb:k∈bgK):dF kn b m (n+1)=dF kn b m n++[(n,Bm kn n,lvF k (arF b ((dF kn b m n).filter λx=>decide (n<=x.2.1))) m)]:=by
 rw[dF,h];exact if_pos hb
theorem Gq{kn:List Str}{b m:Int}{n:Nat}{k:Str}(h:kn[n]? = some k)(hb:¬k∈bgK):dF kn b m (n+1)=dF kn b m n:=by
 rw[dF,h];exact if_neg hb
theorem Vd{kn:List Str}{b m:Int}:∀n,(∀x∈dF kn b m n,x.1<n)/\(dF kn b m n).Pairwise (λx y=>x.1<y.1)
 | 0=>⟨λx h=>(by cases h),Pairwise.nil⟩
 | n+1=>by
  obtain⟨h1,h2⟩:=Vd (kn:=kn) (b:=b) (m:=m) n
  cases e:kn[n]? with
  | none=>rw[dF,e];exact⟨λx h=>lt_succ_of_lt (h1 x h),h2⟩
  | some k =>
   by_cases hb:k∈bgK
   ·rw[Ge e hb]
    refine⟨λx h=>?_,List.pairwise_append.mpr ⟨h2,List.pairwise_singleton _ _,λx hx y hy=>?_⟩⟩
    ·rcases mem_append.mp h with h | h
     ·exact lt_succ_of_lt (h1 x h)
     ·rw[mem_singleton.mp h];exact lt_succ_self _
    ·rw[mem_singleton.mp hy];exact h1 x hx
   ·rw[Gq e hb];exact⟨λx h=>lt_succ_of_lt (h1 x h),h2⟩
theorem Si{kn:List Str}{b m:Int}:∀n,(dF kn b m n).length<=n
 | 0=>Nat.le_refl _
 | n+1=>by
  have h:=Si (kn:=kn) (b:=b) (m:=m) n
  cases e:kn[n]? with
  | none=>rw[dF,e];exact Nat.le_succ_of_le h
  | some k =>
   by_cases hb:k∈bgK
   ·rw[Ge e hb,length_append];exact succ_le_succ h
   ·rw[Gq e hb];exact Nat.le_succ_of_le h
theorem Aks{kn:List Str}{b m:Int}{n i j:Nat}{x y:Nst}(h1:(dF kn b m n)[i]? = some x)(h2:(dF kn b m n)[j]? = some y)(e:x.1=y.1):i=j:=by
 have p:=(Vd (kn:=kn) (b:=b) (m:=m) n).2
 obtain⟨hi,rfl⟩:=List.getElem?_eq_some_iff.mp h1
 obtain⟨hj,rfl⟩:=List.getElem?_eq_some_iff.mp h2
 rcases Nat.lt_trichotomy i j with z | z | z
 ·have:=List.pairwise_iff_getElem.mp p i j hi hj z;omega
 ·exact z
 ·have:=List.pairwise_iff_getElem.mp p j i hj hi z;omega
abbrev Stk:=List (Nat×Nst)
def chF:Int->Stk->Int
 | a,[]=>a
 | a,s::r=>chF (s.2.2.2.getD a) r
def wtF:Int->Stk->List (Nat×Int)
 | _,[]=>[]
 | a,s::r=>(s.1,a)::wtF (s.2.2.2.getD a) r
def upF:Int->Stk->Prop
 | _,[]=>True
 | a,s::r=>(∀l,s.2.2.2=some l->a<=l)/\upF (s.2.2.2.getD a) r
theorem Vc:∀(a:Int) (S:Stk) (s:Nat×Nst),chF a (S++[s])=s.2.2.2.getD (chF a S)
 | _,[],_=>rfl
 | a,x::S,s=>Vc (x.2.2.2.getD a) S s
theorem Us:∀(a:Int) (S:Stk) (s:Nat×Nst),wtF a (S++[s])=wtF a S++[(s.1,chF a S)]
 | _,[],_=>rfl
 | a,x::S,s=>by
  show (x.1,a)::wtF (x.2.2.2.getD a) (S++[s])=_
  rw[Us];rfl
theorem Wq:∀(a:Int) (S:Stk),(wtF a S).length=S.length
 | _,[]=>rfl
 | a,x::S=>by show (wtF _ S).length+1=_;rw[Wq];rfl
theorem Uc:∀(a:Int) (S:Stk) (s:Nat×Nst),upF a (S++[s])↔upF a S/\∀l,s.2.2.2=some l->chF a S<=l
 | _,[],s=>⟨λh=>⟨trivial,h.1⟩,λh=>⟨h.2,trivial⟩⟩
 | a,x::S,s=>by
  have:=Uc (x.2.2.2.getD a) S s
  constructor
  ·intro h;exact⟨⟨h.1,(this.mp h.2).1⟩,(this.mp h.2).2⟩
  ·intro h;exact⟨h.1.1,this.mpr ⟨h.1.2,h.2⟩⟩
theorem AeA:∀(a:Int) (S:Stk),upF a S->arF a (S.map (·.2))=chF a S
 | _,[],_=>rfl
 | a,s::r,h=>by
  have ih:=AeA (s.2.2.2.getD a) r h.2
  unfold arF at ih ⊢
  rw[map_cons,foldl_cons,chF,<- ih]
  congr 1
  cases e:s.2.2.2 with
  | none=>rfl
  | some l=>have:=h.1 l e;show max a l=l;omega
structure NI(kn:List Str)(b m:Int)(n:Nat)(S:Stk):Prop where
 fil:(dF kn b m n).filter (λx=>decide (n<=x.2.1))=S.map (·.2)
 ix:∀s∈S,(dF kn b m n)[s.1]? = some s.2
 dp:∀j s,S[j]? = some s->s.2.2.1=n+enS ((S.length - j:Nat):Int) (kn.drop n)
 up:upF b S
section
variable {kn:List Str}{b m:Int}{n:Nat}{S:Stk}{k:Str}
theorem Lh{l:List Str}(h:l[n]? = some k):l.drop n=k::l.drop (n+1):=by
 obtain⟨hi,rfl⟩:=List.getElem?_eq_some_iff.mp h
 exact drop_eq_getElem_cons hi
theorem NI.zero:NI kn b m 0 []:=⟨rfl,λs h=>(by cases h),λj s h=>(by cases h),trivial⟩
theorem Afb(D:List Nst)(h:∀x∈D.filter (λx=>decide (n<=x.2.1)),n+1<=x.2.1):D.filter (λx=>decide (n+1<=x.2.1))=D.filter (λx=>decide (n<=x.2.1)):=by
 refine List.filter_congr λx hx=>?_
 by_cases z:n<=x.2.1
 ·have:=h x (mem_filter.mpr ⟨hx,decide_eq_true z⟩)
  rw[decide_eq_true z,decide_eq_true this]
 ·rw[decide_eq_false z,decide_eq_false (by omega)]
theorem NI.lev(h:NI kn b m n S):arF b ((dF kn b m n).filter λx=>decide (n<=x.2.1))=chF b S:=by rw[h.fil,AeA _ _ h.up]
theorem NI.later(h:NI kn b m n S)(hk:kn[n]? = some k)(ho:¬k="out"):∀x∈(dF kn b m n).filter (λx=>decide (n<=x.2.1)),n+1<=x.2.1:=λx hx=>by
 rw[h.fil] at hx
 obtain⟨s,hs,rfl⟩:=mem_map.mp hx
 obtain⟨j,hj⟩:=getElem?_of_mem hs
 have hl:=(List.getElem?_eq_some_iff.mp hj).1
 have e:=h.dp j s hj
 rw[Lh hk] at e
 by_cases hb:k∈bgK
 ·rw[Oi hb] at e;omega
 ·rw[Wu (by omega) hb ho] at e;omega
theorem NI.beg(h:NI kn b m n S)(hk:kn[n]? = some k)(hb:k∈bgK):dF kn b m (n+1)=dF kn b m n++[(n,Bm kn n,lvF k (chF b S) m)]/\NI kn b m (n+1) (S++[((dF kn b m n).length,(n,Bm kn n,lvF k (chF b S) m))]):=by
 have e1:=Ge (b:=b) (m:=m) hk hb
 rw[h.lev] at e1
 have en:Bm kn n=n+1+enS ((1:Nat):Int) (kn.drop (n+1)):=by
  unfold Bm
  rw[Lh hk,show (0:Int)=((0:Nat):Int) from rfl,Oi hb,Nat.zero_add];omega
 refine⟨e1,?_,λs hs=>?_,λj s hj=>?_,?_⟩
 ·rw[e1,filter_append,Afb _ (h.later hk (Nu hb)),h.fil,map_append,filter_cons_of_pos (p:=λx:Nst=>decide (n+1<=x.2.1)) (decide_eq_true (show n+1<=Bm kn n by omega))]
  rfl
 ·rw[e1]
  rcases mem_append.mp hs with hs | hs
  ·have:=h.ix s hs
   rw[getElem?_append_left (List.getElem?_eq_some_iff.mp this).1];exact this
  ·rw[mem_singleton.mp hs,getElem?_append_right (Nat.le_refl _),Nat.sub_self];rfl
 ·rw[length_append,length_singleton]
  rcases Nat.lt_or_ge j S.length with z | z
  ·rw[getElem?_append_left z] at hj
   have:=h.dp j s hj
   rw[Lh hk,Oi hb] at this
   rw[this,show S.length+1 - j=S.length - j+1 by omega];omega
  ·rw[getElem?_append_right z] at hj
   have z2:j - S.length=0:=by
    have:=(List.getElem?_eq_some_iff.mp hj).1
    rw[length_singleton] at this;omega
   rw[z2] at hj
   cases hj
   rw[show S.length+1 - j=1 by omega]
   exact en
 ·exact (Uc _ _ _).mpr ⟨h.up,λl hl=>Afd hl⟩
theorem NI.oth(h:NI kn b m n S)(hk:kn[n]? = some k)(hb:¬k∈bgK)(ho:k="out"->S=[]):dF kn b m (n+1)=dF kn b m n/\NI kn b m (n+1) S:=by
 have e1:=Gq (b:=b) (m:=m) hk hb
 refine⟨e1,?_⟩
 by_cases hk2:k="out"
 ·have hS:=ho hk2
  subst hS
  refine⟨?_,λs hs=>(by cases hs),λj s hj=>(by cases hj),trivial⟩
  have hf:=h.fil
  rw[e1]
  refine List.filter_eq_nil_iff.mpr λx hx=>?_
  have:=List.filter_eq_nil_iff.mp hf x hx
  intro z
  exact this (decide_eq_true (by have:=of_decide_eq_true z;omega))
 ·refine⟨by rw[e1,Afb _ (h.later hk hk2),h.fil],λs hs=>by rw[e1];exact h.ix s hs,λj s hj=>?_,h.up⟩
  have:=h.dp j s hj
  have hl:=(List.getElem?_eq_some_iff.mp hj).1
  rw[Lh hk,Wu (by omega) hb hk2] at this
  omega
theorem NI.out{s:Nat×Nst}(h:NI kn b m n (S++[s]))(hk:kn[n]? = some "out"):dF kn b m (n+1)=dF kn b m n/\NI kn b m (n+1) S/\s.2.2.1=n/\∀x∈dF kn b m n,x.2.1=n->x=s.2:=by
 have e1:=Gq (b:=b) (m:=m) hk (by decide +kernel)
 have ls:s.2.2.1=n:=by
  have:=h.dp S.length s (by rw[getElem?_append_right (Nat.le_refl _),Nat.sub_self];rfl)
  rw[length_append,length_singleton,show S.length+1 - S.length=1 by omega,Lh hk,AaX] at this
  exact this
 have others:∀j y,S[j]? = some y->y.2.2.1=n+1+enS ((S.length - j:Nat):Int) (kn.drop (n+1)):=λj y hy=>by
  have hj:=(List.getElem?_eq_some_iff.mp hy).1
  have:=h.dp j y (by rw[getElem?_append_left hj];exact hy)
  rw[length_append,length_singleton,Lh hk,Ww (by omega),show S.length+1 - j - 1=S.length - j by omega] at this
  omega
 have hf:=h.fil
 refine⟨e1,⟨?_,λy hy=>by rw[e1];exact h.ix y (mem_append_left _ hy),others,((Uc _ _ _).mp h.up).1⟩,ls,λx hx e=>?_⟩
 ·rw[e1]
  have e2:(dF kn b m n).filter (λx=>decide (n+1<=x.2.1))=((dF kn b m n).filter (λx=>decide (n<=x.2.1))).filter (λx=>decide (n+1<=x.2.1)):=by
   rw[List.filter_filter]
   refine List.filter_congr λx _=>?_
   by_cases z:n+1<=x.2.1
   ·rw[decide_eq_true z,decide_eq_true (by omega)];rfl
   ·rw[decide_eq_false z];rfl
  rw[e2,hf,map_append,filter_append,map_cons,map_nil,filter_cons_of_neg (by rw[ls];simp),List.filter_nil,append_nil]
  refine List.filter_eq_self.mpr λx hx=>?_
  obtain⟨y,hy,rfl⟩:=mem_map.mp hx
  obtain⟨j,hj⟩:=getElem?_of_mem hy
  have:=others j y hj
  exact decide_eq_true (by omega)
 ·have hm:x∈(S++[s]).map (·.2):=by rw[<- hf];exact mem_filter.mpr ⟨hx,decide_eq_true (by omega)⟩
  obtain⟨y,hy,rfl⟩:=mem_map.mp hm
  rcases mem_append.mp hy with hy | hy
  ·obtain⟨j,hj⟩:=getElem?_of_mem hy
   have:=others j y hj
   omega
  ·rw[mem_singleton.mp hy]
theorem NI.end(h:NI kn b m kn.length S):∀x∈dF kn b m kn.length,x.2.1<=kn.length:=λx hx=>by
 by_cases z:kn.length<=x.2.1
 ·have hm:x∈S.map (·.2):=by rw[<- h.fil];exact mem_filter.mpr ⟨hx,decide_eq_true z⟩
  obtain⟨y,hy,rfl⟩:=mem_map.mp hm
  obtain⟨j,hj⟩:=getElem?_of_mem hy
  have:=h.dp j y hj
  rw[drop_length,enS] at this
  omega
 ·omega
theorem NI.all(h:∀k∈kn,True):∀n,n<=kn.length->∃S,NI kn b m n S
 | 0,_=>⟨[],.zero⟩
 | n+1,hn=>by
  obtain⟨S,hS⟩:=NI.all h n (by omega)
  obtain⟨k,hk⟩:∃k,kn[n]? = some k:=⟨_,getElem?_eq_getElem (by omega)⟩
  by_cases hb:k∈bgK
  ·exact⟨_,(hS.beg hk hb).2⟩
  ·by_cases ho:k="out"
   ·rcases eq_nil_or_concat S with e | ⟨S',s,e⟩
    ·exact⟨_,(hS.oth hk hb λ_=>e).2⟩
    ·rw[concat_eq_append] at e
     subst e;subst ho
     exact⟨_,(hS.out hk).2.1⟩
   ·exact⟨_,(hS.oth hk hb λz=>absurd z ho).2⟩
end
def obF:Nat->List Str->Int
 | _,[]=>0
 | d,k::r=>if k∈bgK then obF (d+1) r else if k="out" then obF (d - 1) r else if d=0/\k="back" then 1 else if d=0/\k="fore" then 0 else obF d r
def Aku:PSp:=λps P=>∃U M J ts,ps=[.bk U M J,.lst (map .int ts)]/\ts.length<=300/\P (.int (obF 0 (knL U M ts)))
theorem Ze{L:List Str}{x:Str}{P:PV->Prop}(q:P (.bl (decide (x∈L)))):bIn false (.str x) (.lst (L.map .str)) P:=by
 refine⟨L.map .str,rfl,rfl,λy hy=>by obtain⟨z,_,rfl⟩:=mem_map.mp hy;rfl,λb hb=>?_⟩
 have:b=decide (x∈L):=Gy (by
  rw[hb,decide_eq_true_iff]
  constructor
  ·intro h
   obtain⟨z,hz,e⟩:=mem_map.mp h
   injection e with e'
   rwa [<- e']
  ·intro h
   exact mem_map.mpr ⟨x,h,rfl⟩)
 rw[this];exact q
def gpF(f:Nat->Int)(W:List Sg)(M:List (Int×Int))(w:Str):List Int:=((range 28).map f).filter λn=>decide (De W M n=w)
def hdF(g:List Int):Int:=g.headD 0
def bsL(U:List Sg)(M:List (Int×Int))(ts:List Int):List Int:=(grp (Cj U M) ts).map hdF
def wyF(v:Int):Str:=if v%2=0 then "fore" else "back"
def ldK:List Str:=["fore","back","num"]
def osP:Option Str->PV
 | none=>.non
 | some s=>.str s
def ldF:Str->List Str->List (Option Str)
 | _,[]=>[]
 | l,k::r=>(if k∈ldK then some (if k="fore"\/k="back" then k else l) else none)::ldF (if k="fore"\/k="back" then k else l) r
def Ug(mt:Int->Option Int)(bs:List Int)(w:List Nat)(b:Int):List Nat:=(w.mapIdx λj a=>(j,a)).filterMap λq=>if (bs[q.2]?).bind mt=some b then some q.1 else none
def prF(mt:Int->Option Int)(ks:List Str)(bs:List Int):Nat->List (Nat×Nat)×List Nat
 | 0=>([],[])
 | n+1 =>
  if ks[n]? = some ("open" : Str) then ((prF mt ks bs n).1,(prF mt ks bs n).2++[n])
  else if ks[n]? = some ("shut" : Str) then
   match (Ug mt bs (prF mt ks bs n).2 ((bs[n]?).getD 0)).getLast? with
   | none=>prF mt ks bs n
   | some j=>((prF mt ks bs n).1++[(((prF mt ks bs n).2[j]?).getD 0,n)],(prF mt ks bs n).2.take j)
  else prF mt ks bs n
theorem Aft(mt:Int->Option Int)(ks:List Str)(bs:List Int)(n:Nat):prF mt ks bs (n+1) =
  if ks[n]? = some ("open" : Str) then ((prF mt ks bs n).1,(prF mt ks bs n).2++[n])
  else if ks[n]? = some ("shut" : Str) then
   match (Ug mt bs (prF mt ks bs n).2 ((bs[n]?).getD 0)).getLast? with
   | none=>prF mt ks bs n
   | some j=>((prF mt ks bs n).1++[(((prF mt ks bs n).2[j]?).getD 0,n)],(prF mt ks bs n).2.take j)
  else prF mt ks bs n:=rfl
def wpF(ws:List (Option Str))(p:Nat×Nat)(own:Str):Option Str :=
 if ((ws.take p.2).drop (p.1+1)).filterMap id=[] then none
 else if own∈((ws.take p.2).drop (p.1+1)).filterMap id then some own
 else some ((((ws.take p.1).filterMap id).getLast?).getD own)
def wwF(ws:List (Option Str))(ps:List (Nat×Nat))(own:Str):List (Option Str):=ps.foldl (λf p=>(f.set p.1 (wpF ws p own)).set p.2 (wpF ws p own)) ws
def laF:Str->List (Option Str)->List Str
 | _,[]=>[]
 | l,w::r=>w.getD l::laF (w.getD l) r
def flF(own:Str)(ws:List (Option Str)):List Str:=((laF own ws).zip (laF own ws.reverse).reverse).map λz=>if z.1=z.2 then z.1 else own
def lwF(k w:Str)(v:Int):Int:=if k="num" then (if v%2=1 then v+1 else if w="fore" then v else v+2) else if w=wyF v then v else v+1
def wrF(mt:Int->Option Int)(ks:List Str)(bs:List Int)(own:Str):List Str:=flF own (wwF (ldF own ks) (prF mt ks bs ks.length).1 own)
def rwF(mt:Int->Option Int)(ks:List Str)(bs:List Int)(v:Int):List Int:=(ks.zip (wrF mt ks bs (wyF v))).map λz=>lwF z.1 z.2 v
abbrev Stc:=Int×Int×Int
def stP(s:Stc):PV:=.tup [.int s.1,.int s.2.1,.int s.2.2]
def stF(N:List Nst)(n:Nat)(b:Int):List Stc:=(-1,(n:Int),b)::N.filterMap λx=>x.2.2.map λl=>((x.1:Int),(x.2.1:Int),l)
def hmS(hs:List Nat)(h:Nat)(a e:Int):List Nat:=hs.mapIdx λk x=>if a<(k:Int)/\(k:Int)<e then h else x
def hmF(St:List Stc)(n:Nat):Nat->List Nat
 | 0=>replicate n 0
 | j+1=>match St[j]? with
  | some s=>hmS (hmF St n j) j s.1 s.2.1
  | none=>hmF St n j
def rsF(St:List Stc)(hs:List Nat):List (Int×List Nat):=St.mapIdx λh s=>(s.2.2,(range hs.length).filter λk=>decide (hs[k]? = some h))
def rsP(r:Int×List Nat):PV:=.tup [.int r.1,.lst (r.2.map λk:Nat=>.int k)]
def lpF(acc:List Int)(ks:List Nat)(vs:List Int):List Int:=(ks.zip vs).foldl (λl p=>l.set p.1 p.2) acc
def pkF{α:Type} [Inhabited α] (l:List α) (ks:List Nat):List α:=ks.map λk=>(l[k]?).getD default
def lvA(mt:Int->Option Int)(ks:List Str)(bs:List Int)(rows:List (Int×List Nat))(acc:List Int):List Int:=rows.foldl (λl r=>lpF l r.2 (rwF mt (pkF ks r.2) (pkF bs r.2) r.1)) acc
def Ny(ks:List Str)(b m:Int):List (Int×List Nat):=rsF (stF (dF ks b m ks.length) ks.length b) (hmF (stF (dF ks b m ks.length) ks.length b) ks.length (stF (dF ks b m ks.length) ks.length b).length)
def Dt(mt:Int->Option Int)(ks:List Str)(bs:List Int)(b m:Int):List Int:=lvA mt ks bs (Ny ks b m) (replicate ks.length b)
theorem Qz:∀(l:Str) (ks:List Str),(ldF l ks).length=ks.length
 | _,[]=>rfl
 | l,k::r=>by rw[ldF,length_cons,Qz,length_cons]
theorem Tj:∀(l:Str) (ws:List (Option Str)),(laF l ws).length=ws.length
 | _,[]=>rfl
 | l,k::r=>by rw[laF,length_cons,Tj,length_cons]
theorem Abp(ws:List (Option Str))(ps:List (Nat×Nat))(own:Str):(wwF ws ps own).length=ws.length:=by
 unfold wwF
 suffices h:∀(ps:List (Nat×Nat)) (f:List (Option Str)),(ps.foldl (λf p=>(f.set p.1 (wpF ws p own)).set p.2 (wpF ws p own)) f).length=f.length from h ps ws
 intro ps
 induction ps with
 | nil=>intro f;rfl
 | cons p r ih=>intro f;rw[foldl_cons,ih,length_set,length_set]
theorem AiR(own:Str)(ws:List (Option Str)):(flF own ws).length=ws.length:=by
 unfold flF
 rw[length_map,List.length_zip,length_reverse,Tj,Tj,length_reverse,Nat.min_self]
theorem Ajz(mt:Int->Option Int)(ks:List Str)(bs:List Int)(own:Str):(wrF mt ks bs own).length=ks.length:=by
 unfold wrF;rw[AiR,Abp,Qz]
theorem Ajw(mt:Int->Option Int)(ks:List Str)(bs:List Int)(v:Int):(rwF mt ks bs v).length=ks.length:=by
 unfold rwF;rw[length_map,List.length_zip,Ajz,Nat.min_self]
theorem Ajs(hs:List Nat)(h:Nat)(a e:Int):(hmS hs h a e).length=hs.length:=length_mapIdx
theorem Oe(St:List Stc)(n:Nat):∀j,(hmF St n j).length=n
 | 0=>length_replicate
 | j+1=>by
  rw[hmF]
  cases St[j]? with
  | none=>exact Oe St n j
  | some s=>exact (Ajs _ _ _ _).trans (Oe St n j)
theorem Zc(St:List Stc)(n:Nat)(h0:0<St.length):∀j,∀x∈hmF St n j,x<St.length
 | 0,x,h=>by rw[List.eq_of_mem_replicate h];exact h0
 | j+1,x,h=>by
  rw[hmF] at h
  cases e:St[j]? with
  | none=>rw[e] at h;exact Zc St n h0 j x h
  | some s =>
   rw[e] at h
   have hj:=(List.getElem?_eq_some_iff.mp e).1
   unfold hmS at h
   obtain⟨k,hk⟩:=getElem?_of_mem h
   rw[getElem?_mapIdx] at hk
   obtain⟨y,hy,rfl⟩:=map_eq_some_iff.mp hk
   split
   ·exact hj
   ·exact Zc St n h0 j y (mem_of_getElem? hy)
theorem AbJ(ks:List Nat)(vs acc:List Int):(lpF acc ks vs).length=acc.length:=by
 unfold lpF
 generalize ks.zip vs=z
 induction z generalizing acc with
 | nil=>rfl
 | cons p r ih=>rw[foldl_cons,ih,length_set]
theorem Aiw{hs:List Nat}{h i:Nat}{a:Int}(h0:-1<=a)(hi:a+1+i<hs.length):(hs.mapIdx λk x=>if a<(k:Int)/\(k:Int)<a+1+i then h else x).set (a+1+i).toNat h=hs.mapIdx λk x=>if a<(k:Int)/\(k:Int)<a+1+((i+1:Nat):Int) then h else x:=by
 refine ext_getElem? λk=>?_
 rw[getElem?_set,length_mapIdx,getElem?_mapIdx,getElem?_mapIdx]
 by_cases e:(a+1+i).toNat=k
 ·rw[if_pos e,if_pos (by omega),getElem?_eq_getElem (show k<hs.length by omega)]
  show some h=some (if a<(k:Int)/\(k:Int)<a+1+((i+1:Nat):Int) then h else _)
  rw[if_pos (by omega)]
 ·rw[if_neg e]
  cases hs[k]? with
  | none=>rfl
  | some x =>
   show some (if a<(k:Int)/\(k:Int)<a+1+i then h else x)=some (if a<(k:Int)/\(k:Int)<a+1+((i+1:Nat):Int) then h else x)
   by_cases z:a<(k:Int)/\(k:Int)<a+1+i
   ·rw[if_pos z,if_pos (by omega)]
   ·rw[if_neg z,if_neg (by omega)]
theorem Ty{α:Type}(l:List α)(f:Nat->α->α)(h:∀k x,l[k]? = some x->f k x=x):l.mapIdx f=l:=by
 refine ext_getElem? λk=>?_
 rw[getElem?_mapIdx]
 cases e:l[k]? with
 | none=>rfl
 | some x=>show some (f k x)=some x;rw[h k x e]
theorem Alj{St:List Stc}{hs:List Nat}:(rsF St hs).length=St.length/\∀r∈rsF St hs,r.2.length<=hs.length/\∀k∈r.2,k<hs.length:=by
 refine⟨length_mapIdx,λr hr=>?_⟩
 unfold rsF at hr
 obtain⟨i,hi⟩:=getElem?_of_mem hr
 rw[getElem?_mapIdx] at hi
 obtain⟨s,_,rfl⟩:=map_eq_some_iff.mp hi
 refine⟨?_,λk hk=>mem_range.mp (mem_filter.mp hk).1⟩
 have:=length_filter_le (λk=>decide (hs[k]? = some i)) (range hs.length)
 rw[length_range] at this
 exact this
theorem Ads{α β:Type} [Inhabited α] [Inhabited β] (g:α->β) (l:List α):∀ks:List Nat,(∀k∈ks,k<l.length)->pkF (l.map g) ks=(pkF l ks).map g:=λks h=>by
 unfold pkF
 rw[map_map]
 refine List.map_congr_left λk hk=>?_
 have:=h k hk
 show ((l.map g)[k]?).getD default=g ((l[k]?).getD default)
 rw[getElem?_map,getElem?_eq_getElem this];rfl
theorem Ai7(N:List Nst)(n:Nat)(b:Int):(stF N n b).length<=N.length+1:=by
 unfold stF
 have:=List.length_filterMap_le (λx:Nst=>x.2.2.map λl=>((x.1:Int),(x.2.1:Int),l)) N
 rw[length_cons];omega
structure RL(H0:Hp)(D:Addr)(lv:List Int)(R:List (List Nat))(tl:List (Addr×Addr))(H:Hp):Prop where
 s:Same H0 H
 nD:H0 D=none
 eD:H D=some (.lst (tl.map λz=>V.ref z.1))
 l1:tl.length=lv.length
 l2:R.length=lv.length
 at':∀(i:Nat) (z:Addr×Addr) (v:Int) (r:List Nat),tl[i]? = some z->lv[i]? = some v->R[i]? = some r->H z.1=some (.tup [.int v,.ref z.2])/\H z.2=some (.lst (r.map λk:Nat=>V.int k))/\H0 z.1=none/\H0 z.2=none/\z.2≠D/\z.1≠D
 ap:∀(i j:Nat) (z y:Addr×Addr),tl[i]? = some z->tl[j]? = some y->i≠j->z.2≠y.2
theorem RL.mono{H0:Hp}{D:Addr}{lv:List Int}{R:List (List Nat)}{tl:List (Addr×Addr)}{H H':Hp}(h:RL H0 D lv R tl H)(s:Same H H'):RL H0 D lv R tl H' :=
 ⟨h.s.trans s,h.nD,s _ _ h.eD,h.l1,h.l2,λi z v r h1 h2 h3=>by
  obtain⟨a,b,c⟩:=h.at' i z v r h1 h2 h3
  exact⟨s _ _ a,s _ _ b,c⟩,h.ap⟩
theorem RL.snoc{H0:Hp}{D:Addr}{lv:List Int}{R:List (List Nat)}{tl:List (Addr×Addr)}{H H1 H2:Hp}{l p:Addr}{v:Int}(h:RL H0 D lv R tl H)(hl:H l=none)(s1:Same H H1)(e1:H1 l=some (.lst []))(hp:H1 p=none)(s2:Same H1 H2)(e2:H2 p=some (.tup [.int v,.ref l])) :
  RL H0 D (lv++[v]) (R++[[]]) (tl++[(p,l)]) (upd H2 D (.lst (tl.map (λz=>V.ref z.1)++[.ref p]))):=by
 have nlD:l≠D:=λz=>by subst z;rw[h.eD] at hl;cases hl
 have npD:p≠D:=λz=>by subst z;rw[s1 _ _ h.eD] at hp;cases hp
 have s12:=s1.trans s2
 refine⟨λb o hb=>?_,h.nD,by rw[Bn,map_append];rfl,by rw[length_append,length_append,h.l1];rfl,by rw[length_append,length_append,h.l2];rfl,λi z w r h1 h2 h3=>?_,λi j z y h1 h2 ne=>?_⟩
 ·rw[Bj (by intro z;subst z;rw[h.nD] at hb;cases hb)]
  exact s12 _ _ (h.s _ _ hb)
 ·rcases Lb h1 with h1 | ⟨rfl,rfl⟩
  ·have hi:=(List.getElem?_eq_some_iff.mp h1).1
   rw[getElem?_append_left (by have:=h.l1;omega)] at h2
   rw[getElem?_append_left (by have:=h.l1;have:=h.l2;omega)] at h3
   obtain⟨a,b,c,d,e,f⟩:=h.at' i z w r h1 h2 h3
   exact⟨by rw[Bj f];exact s12 _ _ a,by rw[Bj e];exact s12 _ _ b,c,d,e,f⟩
  ·rw[getElem?_append_right (by rw[h.l1];exact Nat.le_refl _),h.l1,Nat.sub_self] at h2
   rw[getElem?_append_right (by rw[h.l1,h.l2];exact Nat.le_refl _),h.l1,h.l2,Nat.sub_self] at h3
   cases h2;cases h3
   exact⟨by rw[Bj npD];exact e2,by rw[Bj nlD];exact s2 _ _ e1,h.s.free (s1.free hp),h.s.free hl,nlD,npD⟩
 ·have old:∀(k:Nat) (w:Addr×Addr),tl[k]? = some w->w.2≠l:=λk w hk e=>by
   have hk2:=(List.getElem?_eq_some_iff.mp hk).1
   obtain⟨u,hu⟩:∃u,lv[k]? = some u:=⟨_,getElem?_eq_getElem (by have:=h.l1;omega)⟩
   obtain⟨r,hr⟩:∃r,R[k]? = some r:=⟨_,getElem?_eq_getElem (by have:=h.l1;have:=h.l2;omega)⟩
   obtain⟨_,b,_⟩:=h.at' k w u r hk hu hr
   rw[e,hl] at b;cases b
  rcases Lb h1 with h1 | ⟨rfl,rfl⟩
  ·rcases Lb h2 with h2 | ⟨rfl,rfl⟩
   ·exact h.ap i j z y h1 h2 ne
   ·exact old i z h1
  ·rcases Lb h2 with h2 | ⟨rfl,rfl⟩
   ·exact λe=>old j y h2 e.symm
   ·exact absurd rfl ne
theorem RL.app{H0:Hp}{D:Addr}{lv:List Int}{R:List (List Nat)}{tl:List (Addr×Addr)}{H H1:Hp}{i k:Nat}{z:Addr×Addr}{r:List Nat}(h:RL H0 D lv R tl H)(hz:tl[i]? = some z)(hr:R[i]? = some r)(c:Chg z.2 H H1)(e:H1 z.2=some (.lst (r.map (λk:Nat=>V.int k)++[.int (k:Int)]))) :
  RL H0 D lv (R.set i (r++[k])) tl H1:=by
 have hi:=(List.getElem?_eq_some_iff.mp hz).1
 obtain⟨v,hv⟩:∃v,lv[i]? = some v:=⟨_,getElem?_eq_getElem (by have:=h.l1;omega)⟩
 obtain⟨a,b,c0,d,e0,f⟩:=h.at' i z v r hz hv hr
 refine⟨h.s.chg c d,h.nD,c _ _ h.eD (Ne.symm e0),h.l1,by rw[length_set,h.l2],λj y w q h1 h2 h3=>?_,h.ap⟩
 by_cases ij:i=j
 ·subst ij
  rw[hz] at h1;cases h1
  rw[hv] at h2;cases h2
  rw[getElem?_set,if_pos rfl,if_pos (by have:=h.l1;have:=h.l2;omega)] at h3
  cases h3
  refine⟨c _ _ a (λw=>?_),by rw[e,map_append];rfl,c0,d,e0,f⟩
  rw[w,b] at a;cases a
 ·rw[getElem?_set,if_neg ij] at h3
  obtain⟨a',b',c',d',e',f'⟩:=h.at' j y w q h1 h2 h3
  refine⟨c _ _ a' (λw=>?_),c _ _ b' (Ne.symm (h.ap i j z y hz h1 ij)),c',d',e',f'⟩
  rw[w,b] at a';cases a'
def AhV(K:Frag):TS:=Wl (Lj (Jm (Qp K (Fn 3)) (Go 0) AcN (Act (Ga (tOp (Wh K) (Fn 0) (tC (V.int 2))) (Ga (Yv Nb) Nb))) 1 []) (Go 8))
 (Wl (Na (Zb K (Fn 4)) (Xa K 2 (Vu (Go 7) (Vu (Go 5) Ab8))) (Vg (tBM K "list" Qe (tOp (Wh K) (tOp (Aaw K) (Fn 8) (Fn 5)) (tC (V.int 1))) (Ga (Fn 7) Nb)))) (Uw (Fn 8)))
def AnN:US:=λd ρ=>∃(St:List Stc) (hs:List Nat),ρ[3]? = some (.sh (.lst (St.map stP)))/\ρ[4]? = some (.ow (.lst (hs.map λk:Nat=>.int k)))/\ρ.length=9/\St.length<=1000/\hs.length<=1000/\(∀x∈hs,x<St.length)/\d.rt (.lst ((rsF St hs).map rsP))
def rnF(m n:Nat)(hs:List Nat):List (List Nat):=(range m).map λh=>(range n).filter λk=>decide (hs[k]? = some h)
theorem AfW{m n x:Nat}{hs:List Nat}(hx:hs[n]? = some x)(hm:x<m):(rnF m n hs)[x]? = some ((range n).filter λk=>decide (hs[k]? = some x))/\(rnF m n hs).set x (((range n).filter λk=>decide (hs[k]? = some x))++[n])=rnF m (n+1) hs:=by
 unfold rnF
 refine⟨by rw[getElem?_map,getElem?_range hm];rfl,ext_getElem? λi=>?_⟩
 rw[getElem?_set,length_map,length_range,getElem?_map,getElem?_map,List.range_succ]
 by_cases e:x=i
 ·subst e
  rw[if_pos rfl,if_pos hm,getElem?_range hm]
  show some _=some ((range n++[n]).filter λk=>decide (hs[k]? = some x))
  rw[filter_append,filter_cons_of_pos (p:=λk=>decide (hs[k]? = some x)) (decide_eq_true hx)];rfl
 ·rw[if_neg e]
  by_cases hi:i<m
  ·rw[getElem?_range hi]
   show some ((range n).filter λk=>decide (hs[k]? = some i))=some ((range n++[n]).filter λk=>decide (hs[k]? = some i))
   rw[filter_append,filter_cons_of_neg (p:=λk=>decide (hs[k]? = some i)) (λz=>e (by have:=of_decide_eq_true z;rw[hx] at this;exact Option.some.inj this)),List.filter_nil,append_nil]
  ·rw[getElem?_eq_none (by rw[length_range];omega)];rfl
section
variable {K:Frag}{C:Addr}{ω:Om}
theorem Ai1:SU K C ω .sh (AhV K) AnN:=λB G0 H0 own G σ H ρ D d S F ⟨St,hs,e3,e4,rl,sl,hl,hx,hq⟩=>by
 obtain⟨v3,g3,r3⟩:=S.sl 3 _ e3
 obtain⟨b,xs,g4,_,h4,rp4⟩:=S.list e4
 have sL:σ.length=9:=by rw[S.len,rl]
 have ex:xs=hs.map λk:Nat=>V.int k:=by
  have:=Ta (ns:=hs.map λk:Nat=>(k:Int)) (by rw[map_map];exact rp4)
  rw[this,map_map];rfl
 subst ex
 obtain⟨a,vs,rfl,ea,rp⟩:∃a vs,v3=.ref a/\G a=some (.lst vs)/\Reps K C G vs (St.map stP):=by
  cases r3 with
  | lst e l q=>exact⟨_,_,rfl,e,l,q⟩
 have ha:H a=some (.lst vs):=S.gr.i _ _ ea
 have vl:vs.length=St.length:=by rw[rp.1,length_map]
 delta AhV Wl Lj
 dsimp only
 refine Of ?_
 refine⟨_,g3,a,rfl,⟨vs,SqL.of ha⟩,λA hA=>CP.list vs (λn H'=>∃tl,RL H A ((St.take n).map λs=>s.2.2) (replicate n []) tl H') ?_ ?_ ?_ ?_⟩
 ·exact⟨[],λb' o hb=>by rw[Bj (by intro z;subst z;rw[hA] at hb;cases hb)];exact hb,hA,Bn,rfl,rfl,λi z v r h=>by simp at h,λi j z y h=>by simp at h⟩
 ·rintro n H' _ ⟨tl,h⟩
  exact SqL.of (h.s _ _ ha)
 ·rintro n x H' N hxn ⟨tl,h⟩ hN
  obtain⟨q,hq',rq⟩:=rp.get hxn
  rw[getElem?_map] at hq'
  obtain⟨s,hs',rfl⟩:=map_eq_some_iff.mp hq'
  obtain⟨p,ys,rfl,ep,ry⟩:∃p ys,x=.ref p/\G p=some (.tup ys)/\Reps K C G ys [.int s.1,.int s.2.1,.int s.2.2]:=by
   cases rq with
   | tup e l q=>exact⟨_,_,rfl,e,l,q⟩
  have hp:H' p=some (.tup ys):=h.s _ _ (S.gr.i _ _ ep)
  have y2:ys[2]? = some (.int s.2.2):=by
   have l3:ys.length=3:=ry.1
   obtain⟨y,hy⟩:∃y,ys[2]? = some y:=⟨_,getElem?_eq_getElem (by omega)⟩
   have:=ry.2 2 y _ hy rfl
   cases this;exact hy
  refine⟨rfl,_,rfl,p,ys,2,_,rfl,rfl,SqT.of hp,Gs (j:=2) y2,⟨zero_le _,λl H1 hl1 s1 e1=>⟨(by decide:2<=sizeLine),λt H2 ht s2 e2=>⟨_,s2 _ _ (s1 _ _ h.eD),?_,hN _ ⟨tl++[(t,l)],?_⟩⟩⟩⟩⟩
  ·have:=h.l1
   rw[length_map,length_take] at this
   rw[length_map]
   exact Np (by omega)
  ·rw[Dj hs',map_append,List.replicate_succ']
   exact h.snoc hl1 s1 e1 ht s2 e2
 ·rintro H' ⟨tl,h⟩
  rw[vl,take_length] at h
  refine⟨.ref b,by rw[getElem?_set_ne (by decide)];exact g4,b,rfl,⟨_,SqL.of (h.s _ _ h4)⟩,Zg (xs:=hs.map λk:Nat=>V.int k) (λn σ' H'=>σ'.length=9/\σ'[8]? = some (some (.ref A))/\RL H A (St.map λs=>s.2.2) (rnF St.length n hs) tl H') ⟨by rw[length_set,sL],La (by omega),?_⟩ ?_ ?_ ?_⟩
  ·rw[show rnF St.length 0 hs=replicate St.length [] by unfold rnF;rw[List.eq_replicate_iff];exact⟨by rw[length_map,length_range],λb' hb=>by obtain⟨_,_,rfl⟩:=mem_map.mp hb;rfl⟩]
   exact h
  ·rintro n σ' H' _ ⟨_,_,h'⟩
   exact SqL.of (h'.s _ _ h4)
  ·rintro n x t σ' H' hxn ht ⟨l9,g8,h'⟩
   rw[getElem?_map] at hxn
   obtain⟨k,hk,rfl⟩:=map_eq_some_iff.mp hxn
   have hk1:=hx k (mem_of_getElem? hk)
   obtain⟨r1,r2⟩:=AfW hk hk1
   have h2:=h'.mono (Same.new (o:=.tup [.int (n:Int),.int (k:Int)]) ht)
   obtain⟨z,hz⟩:∃z,tl[k]? = some z:=⟨_,getElem?_eq_getElem (by have:=h'.l1;rw[length_map] at this;omega)⟩
   obtain⟨v,hv⟩:∃v,(St.map λs:Stc=>s.2.2)[k]? = some v:=⟨_,getElem?_eq_getElem (by rw[length_map];exact hk1)⟩
   obtain⟨a1,a2,_⟩:=h2.at' k z v _ hz hv r1
   refine⟨t,_,rfl,SqT.of Bn,rfl,_,_,rfl,_,_,rfl,rfl,?_⟩
   refine⟨.ref A,by rw[getElem?_set_ne (by decide),getElem?_set_ne (by decide)];exact g8,.int (k:Nat),La (by rw[length_set];omega),A,_,k,.ref z.1,rfl,rfl,SqL.of h2.eD,Gs (by rw[getElem?_map,hz];rfl),z.1,_,1,.ref z.2,rfl,rfl,SqT.of a1,Gs (j:=1) rfl,.inl ⟨rfl,_,SqL.of a2⟩,.int (n:Nat),by rw[getElem?_set_ne (by decide)];exact La (by omega),z.2,_,_,rfl,rfl,a2,?_,λH1 c e=>?_⟩
   ·rw[length_map]
    refine Np (Nat.le_trans (length_filter_le _ _) ?_)
    rw[length_range]
    have:=(List.getElem?_eq_some_iff.mp hk).1
    omega
   ·refine⟨by rw[length_set,length_set,l9],by rw[getElem?_set_ne (by decide),getElem?_set_ne (by decide)];exact g8,?_⟩
    rw[<- r2]
    exact h2.app hz r1 c e
  ·rintro σ' H' ⟨_,g8,h'⟩
   rw[length_map] at h'
   refine⟨.ref A,g8,F.rt _ H' _ _ (S.gr.trans (Nz S.gr.i h'.s)) ?_ hq⟩
   refine Rep.ofL (Fk h'.nD h'.eD) ⟨by rw[length_map,length_map,h'.l1,length_map];unfold rsF;rw[length_mapIdx],λi x y hxi hyi=>?_⟩
   rw[getElem?_map] at hxi hyi
   obtain⟨z,hz,rfl⟩:=map_eq_some_iff.mp hxi
   obtain⟨w,hw,rfl⟩:=map_eq_some_iff.mp hyi
   unfold rsF at hw
   rw[getElem?_mapIdx] at hw
   obtain⟨s,hs',rfl⟩:=map_eq_some_iff.mp hw
   have hi:=(List.getElem?_eq_some_iff.mp hs').1
   obtain⟨a1,a2,a3,a4,_⟩:=h'.at' i z s.2.2 ((range hs.length).filter λk=>decide (hs[k]? = some i)) hz (by rw[getElem?_map,hs'];rfl) (by unfold rnF;rw[getElem?_map,getElem?_range hi];rfl)
   refine Rep.ofT (Qg a1) (LAt.snoc (LAt.snoc LAt.nil (.int _)) (Rep.ofL (Fk a4 a2) ?_))
   have:=Fj (K:=K) (C:=C) (G:=Oa G H H') (((range hs.length).filter λk=>decide (hs[k]? = some i)).map λk:Nat=>(k:Int))
   rw[map_map,map_map] at this
   exact this
end
theorem AeW(W:List Sg)(M:List (Int×Int))(ts:List Int):(knL W M ts).length=(bsL W M ts).length/\(knL W M ts).length<=ts.length:=by
 have:=(Gj (Cj W M) ts).ln
 unfold knL bsL
 rw[length_map,length_map];exact⟨rfl,this⟩
local macro_rules | `(tactic| walk_at "rd")=>`(tactic| repeat (first
 | (with_reducible first | refine Ab5 ?_ | refine AnY rfl ?_ | refine i_c ?_ | refine AoC ?_ | refine Aoo ?_ | refine AoO ?_ | refine AmR ?_ | refine AhT ?_ | refine Ah6 ?_ | refine Aha ?_ | refine AhN ?_ | refine AoT ?_ | refine Aj0 ?_ | refine Am0 ?_ | refine AmT ?_ | refine Aoy ?_ | refine Am3 ?_ | refine AkA ?_ | refine Ak3 ?_ | refine i_notN ?_ | refine Aof ?_ | refine Al9 ?_ | refine Ane ?_ | refine Aok ?_ | refine Am2 ?_ | refine Ai9 ?_ | refine Alm (SqT.of (by assumption)) rfl ?_ | refine AiZ ?_ | refine Amq ?_ | refine AlE ?_ | refine Aj6 ?_ | refine i_make ?_ | refine AnT ?_ | refine AmI ?_ | refine AnX ?_ | refine AmW ?_ | refine Aor ?_ | refine AnW ?_ | refine AfD ?_ | refine Ak0 ?_ | refine Ajv ?_ | refine Ai2 ?_ | refine Al0 ?_ | refine AjT ?_ | refine Aoi ?_ | refine Amk ?_ | refine i_int1 ?_ | refine Akz ?_ | refine AlT ?_ | refine Lo ?_ | refine Lw ?_ | refine Aco ?_ | refine AcW ?_ | refine Agq ?_ | refine Aem ?_ | refine AfJ ?_ | refine Alv (by assumption) ?_ | refine AmU (by assumption) ?_ | refine Aet (by assumption) ?_ | refine Aet (SqL.of (by assumption)) ?_ | refine AkN (by assumption) ?_ | refine j_min ?_ | refine An6 (by assumption) ?_ | refine Ada (by assumption) ?_ ?_ | refine Am4 (by assumption) ?_ | refine Aky (by assumption) ?_ | refine AmZ (by assumption) ?_ | refine j_clear (by assumption) ?_)
 | walk_at "u" | dsimp only [List.set,cons_append,nil_append,append_nil]))
local macro_rules | `(tactic| walk_at "cs")=>`(tactic| dsimp only [compσ,replicate,map_cons,map_nil,List.getElem?_cons_succ,List.getElem?_cons_zero,Option.join_some,cons_append,nil_append])
local macro_rules | `(tactic| walk_at "ma")=>`(tactic| (all_goals try (first | decide | exact⟨by decide,by decide⟩)))
local macro_rules | `(tactic| walk_at "mb")=>`(tactic| (all_goals try (first | decide | exact⟨by decide,by decide,by decide⟩)))
local macro_rules | `(tactic| walk_at "mc")=>`(tactic| (all_goals try (first | decide | exact⟨by decide,by decide⟩ | exact⟨by decide,by decide,by decide⟩)))
local macro_rules | `(tactic| walk_at "md")=>`(tactic| (refine⟨by rw[length_map]; omega,?_⟩))
local macro_rules | `(tactic| walk_at "me")=>`(tactic| (rw[length_map,take_length]))
local macro_rules | `(tactic| walk_at "s")=>`(tactic| simp only [Vo,List.zipWith_cons_cons,List.zipWith_nil_left,List.zipWith_nil_right,length_cons,length_nil,Nat.zero_add,Nat.reduceAdd,Nat.reduceSub,replicate_succ,List.replicate_zero,Bool.false_eq_true,if_false,if_true,cons_append,nil_append,Agf])
local macro_rules | `(tactic| ext)=>`(tactic| repeat (first
 | (with_reducible first | refine Jg ?_ | refine Ahv rfl rfl ?_ | refine Ad4 rfl ?_ | refine p_c ?_ | refine Alo ?_ | refine AkK ?_ | refine p_i ?_ | refine p_u ?_ | refine b_u ?_ | refine Ain ?_ | refine Ahl ?_ | refine AhH ?_ | refine Aib ?_ | refine Ah4 ?_ | refine Aij ?_ | refine AeD ?_ | refine p_b ?_ | refine b_b ?_ | refine AhB ?_ | refine AjU ?_ | refine Ah3 ?_ | refine Aip ?_ | refine Ah2 ?_ | refine Aez ?_ | refine AhQ ?_ | refine Ady rfl ?_ | refine Alh ?_ | refine Ahw ?_ | refine Adf ?_ | refine AhL ?_ | refine Abu ?_ | refine AbG ?_ | refine Abc ?_ | refine AdC rfl ?_ | refine AaV ?_ | refine Adx ?_ | refine Ahy ?_ | refine Aej ?_ | refine AhU ?_ | refine Aht ?_ | refine Ahd ?_ | refine AhE ?_ | refine AeO ?_ | refine AeV ?_ | refine AdK ?_ | refine Aac ?_ | refine Adb ?_ | refine Adc ?_ | refine Ahe ?_ | refine AhK ?_ | refine AgV ?_ | refine Aie ?_ ?_ | refine Ahq ?_ ?_ | refine Ag5 ?_ ?_ | refine Ais ?_ ?_ | refine Ah7 ?_ ?_ | refine AlV ?_ | refine Ac7 ?_ | refine Ad7 ?_ | refine AhP ?_ | refine AhM ?_ | refine AaW ?_ | refine b_listS ?_ | refine Aia rfl ?_ | refine Ah1 rfl ?_ ?_ | refine Ahx ?_ | refine Ahn ?_ | refine Adp ?_ | refine Abk rfl rfl ?_ | refine Aa0 ?_ | refine AdF rfl ?_ | refine Ae6 rfl ?_ ?_ | refine Aif ?_ | refine AhO ?_ | refine b_L ?_ | refine Adq rfl ?_ | refine Adm rfl ?_ | refine AdA ?_ | refine Aeh ?_ | refine AdV ?_ | refine AbF ?_ | refine AdQ ?_ | refine Ae3 ?_ | refine Ag8 ?_ | refine AkW ?_ | refine AhX ?_ | refine AdL ?_ | refine Ak9 ?_ ?_ | refine Al1 ?_ ?_ | refine AlI ?_ | refine AlN ?_ | refine AkD ?_ | refine pf_dnew ?_ | refine b_abs ?_ | refine Aa9 rfl ?_ | refine Lo ?_ | refine Lw ?_ | refine Aco ?_ | refine AcW ?_)
 | walk_at "u" | dsimp only [List.set,cons_append,nil_append,append_nil,Qy]))
local macro_rules | `(tactic| walk_at "u")=>`(tactic| first | with_reducible refine b_ins0 rfl ?_ ?_)
local macro_rules | `(tactic| walk_at "u")=>`(tactic| first | (with_reducible first | refine Am8 ?_ | refine AlD ?_ (by decide) | refine AlM ?_ | refine AiC ?_) | with_reducible refine b_dputT rfl ?_ ?_)
local macro_rules | `(tactic| walk_at "c")=>`(tactic| dsimp only [compρ,replicate,map_cons,map_nil,List.getElem?_cons_succ,List.getElem?_cons_zero,Option.getD_some,boS,cons_append,nil_append])
local macro_rules | `(tactic| walk_at "u")=>`(tactic| first | (with_reducible first | refine Ann ?_ | refine Aoc ?_ | refine Anu rfl ?_ | refine AnH ?_ | refine AnP ?_ ?_ | refine Anr ?_) | with_reducible refine b_neB ?_)
local macro_rules | `(tactic| walk_at "d")=>`(tactic| all_goals try first
 | ((with_reducible show (_:Int)<_);first | decide | omega | (simp only [length_map,length_replicate,length_range,length_append,length_reverse];omega))
 | ((with_reducible show AbY _ _);exact⟨by omega,by omega⟩)
 | ((with_reducible show AbN _ _);exact⟨by decide,by decide,by decide⟩)
 | ((with_reducible show CMul _ _);first | exact .inr ⟨by omega,by omega⟩ | exact .inl ⟨by omega,by omega⟩)
 | ((with_reducible show (_:Nat)<_);first | omega | (simp only [length_map,length_replicate,length_range,length_append,length_reverse];omega))
 | ((with_reducible show (_:Nat)<=_);first | omega | (simp only [length_map,length_replicate,length_range,length_append,length_reverse];omega))
 | ((with_reducible show (_:Int)<=_/\_);first | omega | (simp only [length_map,length_replicate,length_range,length_append,length_reverse];omega)))
local macro_rules | `(tactic| walk_at "u")=>`(tactic| first | (with_reducible first | refine Al3 ?_ | refine Aoz ?_ | refine AiA ?_ | refine AmQ rfl rfl ?_ | refine An2 ?_ | refine AgT rfl rfl ?_ | refine Amo rfl rfl (by decide) ?_ | refine Amv rfl ?_ | refine AkF rfl ?_ ?_ | refine Alz (by decide) rfl ?_ | refine Anv rfl (fun z=>?_) | refine AjH rfl rfl ?_) | with_reducible refine AmV ?_)
local macro_rules | `(tactic| ext1)=>`(tactic| repeat (first
 | (with_reducible first | refine Ahv rfl rfl ?_ | refine Ad4 rfl ?_ | refine p_c ?_ | refine Alo ?_ | refine AkK ?_ | refine p_i ?_ | refine p_u ?_ | refine b_u ?_ | refine Ain ?_ | refine Ahl ?_ | refine AhH ?_ | refine Aib ?_ | refine Ah4 ?_ | refine Aij ?_ | refine AeD ?_ | refine p_b ?_ | refine b_b ?_ | refine AhB ?_ | refine AjU ?_ | refine Ah3 ?_ | refine Aip ?_ | refine Ah2 ?_ | refine Aez ?_ | refine AhQ ?_ | refine Ady rfl ?_ | refine Alh ?_ | refine Ahw ?_ | refine Adf ?_ | refine AhL ?_ | refine Abu ?_ | refine AbG ?_ | refine Abc ?_ | refine AdC rfl ?_ | refine AaV ?_ | refine Adx ?_ | refine Ahy ?_ | refine Aej ?_ | refine AhU ?_ | refine Aht ?_ | refine Ahd ?_ | refine AhE ?_ | refine AeO ?_ | refine AeV ?_ | refine AdK ?_ | refine Aac ?_ | refine Adb ?_ | refine Adc ?_ | refine Ahe ?_ | refine AhK ?_ | refine AgV ?_ | refine Aie ?_ ?_ | refine Ahq ?_ ?_ | refine Ag5 ?_ ?_ | refine Ais ?_ ?_ | refine Ah7 ?_ ?_ | refine AlV ?_ | refine Ac7 ?_ | refine Ad7 ?_ | refine AhP ?_ | refine AhM ?_ | refine AaW ?_ | refine b_listS ?_ | refine Aia rfl ?_ | refine Ah1 rfl ?_ ?_ | refine Ahx ?_ | refine Ahn ?_ | refine Adp ?_ | refine Abk rfl rfl ?_ | refine Aa0 ?_ | refine AdF rfl ?_ | refine Ae6 rfl ?_ ?_ | refine Aif ?_ | refine AhO ?_ | refine b_L ?_ | refine Adq rfl ?_ | refine Adm rfl ?_ | refine AdA ?_ | refine Aeh ?_ | refine AdV ?_ | refine AbF ?_ | refine AdQ ?_ | refine Ae3 ?_ | refine Ag8 ?_ | refine AkW ?_ | refine AhX ?_ | refine AdL ?_ | refine Ak9 ?_ ?_ | refine Al1 ?_ ?_ | refine AlI ?_ | refine AlN ?_ | refine AkD ?_ | refine pf_dnew ?_ | refine b_abs ?_ | refine Aa9 rfl ?_ | refine Lo ?_ | refine Lw ?_ | refine Aco ?_ | refine AcW ?_)
 | walk_at "u" | dsimp only [List.set,cons_append,nil_append,append_nil,Qy]))
section
variable {P:Program}{w:World}{K:Frag}{mg:Str->Option Value}{base:Heap}{t:Adr}
def Sc:Sp:=λvs H Q _=>∃b,vs=[.bl true,b]/\Q .non H
theorem Ags{b:Bool}{z:V}{H:Hp}{Q:VK}{E:XK}(q:Q .non H)(h:b=true):Sc [.bl b,z] H Q E:=⟨z,by rw[h],q⟩
theorem AeK{z:V}{H:Hp}{Q:VK}{E:XK}(q:Q .non H):Sc [.bl true,z] H Q E:=⟨z,rfl,q⟩
local macro_rules | `(tactic| walk_at "u")=>`(tactic| with_reducible refine Ags ?_ ?_)
local macro_rules | `(tactic| walk_at "u")=>`(tactic| with_reducible refine AeK ?_)
theorem Lv(T:Txt K mg t):Binds K t.d_qe ["held","words"] []:=T.F_qe.binds (by walk_at "b2")
theorem Jt(T:Txt K mg t):FnOk P w K mg base CX0 1 t.f_qe t.d_qe ["held","words"] (Sc):=by
 refine T.F_qe.ok AmY (λvs H Q E h=>?_) (λcdv A outer s H vs Q E hr h=>?_)
 ·obtain⟨b,rfl,q⟩:=h
  rfl
 ·obtain⟨b,rfl,q⟩:=h
  have hu:=Cq hr
  have hu64:=hr.units
  refine⟨_,(Bi (Dh (Sy (Sd (pv 0)))
    Ae1
    Cv)),?_⟩
  try dsimp only [Cm,Cb]
  walk_at "rd"
  exact q
def Aat:Sp:=λvs H Q _=>∃n,vs=[.int n]/\Q (.bl true) H
theorem Aji{n:Int}{H:Hp}{Q:VK}{E:XK}(q:Q (.bl true) H):Aat [.int n] H Q E:=⟨n,rfl,q⟩
local macro_rules | `(tactic| walk_at "u")=>`(tactic| with_reducible refine Aji ?_)
theorem AmH(T:Txt K mg t):Binds K t.d_qa ["thing"] []:=T.F_qa.binds (by walk_at "b1")
theorem Ag3(T:Txt K mg t):FnOk P w K mg base CX0 1 t.f_qa t.d_qa ["thing"] (Aat):=by
 refine T.F_qa.ok AnR (λvs H Q E h=>?_) (λcdv A outer s H vs Q E hr h=>?_)
 ·obtain⟨n,rfl,q⟩:=h
  rfl
 ·obtain⟨n,rfl,q⟩:=h
  have hu:=Cq hr
  have hu64:=hr.units
  refine⟨_,(Bi (Cg (Rc (Cn (Jj) rfl T.z_isinstance boot_isinstance (Ba (pv 0) (Ba (Lz (v:=.ty "int") rfl T.z_int boot_int rfl) Be))) (Re (AkU (Cn (Jj) rfl T.z_isinstance boot_isinstance (Ba (pv 0) (Ba (Lz (v:=.ty "bool") rfl T.z_bool boot_bool rfl) Be)))))))),?_⟩
  try dsimp only [Cm,Cb]
  walk_at "rd"
  exact q
def Abe:Sp:=λvs H Q _=>∃n,vs=[.int n]/\Q (.bl (decide (0<=n))) H
theorem Alx{n:Int}{H:Hp}{Q:VK}{E:XK}(q:Q (.bl (decide (0<=n))) H):Abe [.int n] H Q E:=⟨n,rfl,q⟩
local macro_rules | `(tactic| walk_at "u")=>`(tactic| with_reducible refine Alx ?_)
theorem Za(T:Txt K mg t):Binds K t.d_qca ["thing"] []:=T.F_qca.binds (by walk_at "b1")
theorem Vy(T:Txt K mg t):FnOk P w K mg base CX0 2 t.f_qca t.d_qca ["thing"] (Abe):=by
 refine T.F_qca.ok Aj8 (λvs H Q E h=>?_) (λcdv A outer s H vs Q E hr h=>?_)
 ·obtain⟨n,rfl,q⟩:=h
  rfl
 ·obtain⟨n,rfl,q⟩:=h
  have hu:=Cq hr
  have hu64:=hr.units
  refine⟨_,(Bi (Cg (Rc (Bp (Ag3 T) (hr.mono (by decide)) rfl T.m_qa T.F_qa.kp (AmH T) .nil Bw (Ba (pv 0) Be)) (Re (Ja Aih (pv 0) Bf (Ch _)))))),?_⟩
  try dsimp only [Cm,Cb]
  walk_at "rd"
  exact q
def AgL:Sp:=λvs H Q _=>∃a xs n,vs=[.ref a,.int n]/\H a=some (.lst xs)/\(∀x∈xs,∃b ys,x=.ref b/\H b=some (.tup ys)/\((ys.length:Nat):Int)=n)/\Q .non H
theorem AgC(T:Txt K mg t):Binds K t.d_qf ["rows","length"] []:=T.F_qf.binds (by walk_at "b2")
theorem Acn(T:Txt K mg t):FnOk P w K mg base CX0 2 t.f_qf t.d_qf ["rows","length"] (AgL):=by
 refine T.F_qf.ok sc_qf (λvs H Q E h=>?_) (λcdv A outer s H vs Q E hr h=>?_)
 ·obtain⟨a,xs,n,rfl,hx,hr',q⟩:=h
  rfl
 ·obtain⟨a,xs,n,rfl,hx,hr',q⟩:=h
  have hu:=Cq hr
  have hu64:=hr.units
  refine⟨_,(Bd (Co (Bp (Jt T) (hr.mono (by decide)) rfl T.m_qe T.F_qe.kp (Lv T) .nil Bw (Ba (Cn (Jj) rfl T.z_isinstance boot_isinstance (Ba (pv 0) (Ba (Lz (v:=.ty "list") rfl T.z_list PyProof.Rows.boot_list rfl) Be))) (Ba By Be))))
   (Bi (Dc PassesOwn.never rfl (Ct (pv 0)) (Bq (i:=2) sc_qf.nd rfl (Or.inl rfl))
    (Bi (Co (Bp (Jt T) (hr.mono (by decide)) rfl T.m_qe T.F_qe.kp (Lv T) .nil Bw (Ba (Rc (Cn (Jj) rfl T.z_isinstance boot_isinstance (Ba (pv 2) (Ba (Lz (v:=.ty "tuple") rfl T.z_tuple boot_tuple rfl) Be))) (Re (Ja Do (Cn (Lp) rfl T.z_len PySem.boot_len (Ba (pv 2) Be)) (pv 1) (Ch _)))) (Ba By Be)))))))),?_⟩
  try dsimp only [Cm,Cb]
  walk_at "rd"
  refine No rfl (SqL.of hx) (λi σ H'=>∃v,σ=[some (.ref a),some (.int n),v]/\H'=H) ⟨none,rfl,rfl⟩ (λi σ H' _ ⟨_,_,e⟩=>by subst e;exact SqL.of hx) ?_ ?_
  ·rintro i x σ H' hi ⟨v,rfl,rfl⟩
   obtain⟨b,ys,rfl,hy,hl⟩:=hr' x (mem_of_getElem? hi)
   walk_at "rd"
   ·exact⟨_,rfl,rfl⟩
   ·exact decide_eq_true hl
  ·rintro σ H' ⟨v,rfl,rfl⟩
   exact q
theorem AiF{k:Str}(h:k∈toldK):inV (V.str k) [V.str "fore",V.str "back",V.str "num",V.str "blank",V.str "mark",V.str "forein",V.str "backin",V.str "out"]=true:=by
 have e:inV (V.str k) (toldK.map V.str)=true:=by
  unfold inV
  rw[any_map]
  exact any_eq_true.mpr ⟨k,h,by show (k==k)=true;exact beq_self_eq_true k⟩
 exact e
def Abz:Sp:=λvs H Q _=>∃k,vs=[.str k]/\k∈toldK/\Q (.bl true) H
theorem AlS{k:Str}{H:Hp}{Q:VK}{E:XK}(q:Q (.bl true) H)(h:k∈toldK):Abz [.str k] H Q E:=⟨k,rfl,h,q⟩
local macro_rules | `(tactic| walk_at "u")=>`(tactic| with_reducible refine AlS ?_ ?_)
theorem AoB(T:Txt K mg t):Binds K t.d_qh ["thing"] []:=T.F_qh.binds (by walk_at "b1")
theorem AnA(T:Txt K mg t):FnOk P w K mg base CX0 1 t.f_qh t.d_qh ["thing"] (Abz):=by
 refine T.F_qh.ok An9 (λvs H Q E h=>?_) (λcdv A outer s H vs Q E hr h=>?_)
 ·obtain⟨k,rfl,hk,q⟩:=h
  rfl
 ·obtain⟨k,rfl,hk,q⟩:=h
  have hu:=Cq hr
  have hu64:=hr.units
  refine⟨_,(Bi (Cg (Rc (Cn (Jj) rfl T.z_isinstance boot_isinstance (Ba (pv 0) (Ba (Lz (v:=.ty "str") rfl T.z_str boot_str rfl) Be))) (Re (Ja (Sz) (pv 0) (Oh (v:=.ref t.a_TOLD_KINDS) rfl T.g_TOLD_KINDS rfl) rfl))))),?_⟩
  try dsimp only [Cm,Cb]
  walk_at "rd"
  refine⟨_,_,rfl,.inr (T.q_TOLD_KINDS _),rfl,rfl,?_⟩
  rw[show (if false=true then !inV (V.str k) _ else inV (V.str k) [V.str "fore",V.str "back",V.str "num",V.str "blank",V.str "mark",V.str "forein",V.str "backin",V.str "out"])=true from AiF hk]
  exact q
def Xv:Sp:=λvs H Q _=>∃k r,vs=[.str k,.int r]/\Nr k r/\Q (.bl true) H
theorem Agj{k:Str}{r:Int}{H:Hp}{Q:VK}{E:XK}(q:Q (.bl true) H)(h:Nr k r):Xv [.str k,.int r] H Q E:=⟨k,r,rfl,h,q⟩
local macro_rules | `(tactic| walk_at "u")=>`(tactic| with_reducible refine Agj ?_ ?_)
theorem AoJ(T:Txt K mg t):Binds K t.d_qw ["kind","thing"] []:=T.F_qw.binds (by walk_at "b2")
theorem Aoa(T:Txt K mg t):FnOk P w K mg base CX0 2 t.f_qw t.d_qw ["kind","thing"] (Xv):=by
 refine T.F_qw.ok Aod (λvs H Q E h=>?_) (λcdv A outer s H vs Q E hr h=>?_)
 ·obtain⟨k,r,rfl,hk,q⟩:=h
  rfl
 ·obtain⟨k,r,rfl,hk,q⟩:=h
  have hu:=Cq hr
  have hu64:=hr.units
  refine⟨_,(Bd (Dh (Sy (Sd (Bp (Ag3 T) (hr.mono (by decide)) rfl T.m_qa T.F_qa.kp (AmH T) .nil Bw (Ba (pv 1) Be))))
    (Bi (Cg Tm))
    Cv)
   (Bd (Dh (Cf Do (pv 0) By (Ch _))
    (Bi (Cg (Ja Aih (pv 1) Bf (Ch _))))
    Cv)
   (Bi (Cg (Ja Do (pv 1) Bf (Ch _)))))),?_⟩
  try dsimp only [Cm,Cb]
  walk_at "rd"
  refine Zh (λh=>?_) (λh=>?_)
  ·have h':k="mark":=of_decide_eq_true h
   walk_at "rd"
   rcases hk with ⟨_,hr1⟩ | ⟨hn,_⟩
   ·rw[decide_eq_true hr1];exact q
   ·exact absurd h' hn
  ·have h':¬k="mark":=λz=>h (decide_eq_true z)
   walk_at "rd"
   rcases hk with ⟨hm,_⟩ | ⟨_,hr0⟩
   ·exact absurd hm h'
   ·rw[decide_eq_true hr0];exact q
def Aay:Sp:=λvs H Q _=>∃d kvs n,vs=[.ref d,.int n]/\H d=some (.dK kvs)/\Q ((Cs kvs (.inl n)).getD (.str "plain")) H
theorem Ajy{d:Addr}{kvs:List (Key×V)}{n:Int}{H:Hp}{Q:VK}{E:XK}(h:H d=some (.dK kvs))(q:Q ((Cs kvs (.inl n)).getD (.str "plain")) H):Aay [.ref d,.int n] H Q E:=⟨d,kvs,n,rfl,h,q⟩
local macro_rules | `(tactic| walk_at "u")=>`(tactic| with_reducible refine Ajy (by assumption) ?_)
theorem AcH(T:Txt K mg t):Binds K t.d_qx ["kinds","sign"] []:=T.F_qx.binds (by walk_at "b2")
theorem Yp(T:Txt K mg t):FnOk P w K mg base CX0 1 t.f_qx t.d_qx ["kinds","sign"] (Aay):=by
 refine T.F_qx.ok AmN (λvs H Q E h=>?_) (λcdv A outer s H vs Q E hr h=>?_)
 ·obtain⟨d,kvs,n,rfl,hd,q⟩:=h
  rfl
 ·obtain⟨d,kvs,n,rfl,hd,q⟩:=h
  have hu:=Cq hr
  have hu64:=hr.units
  refine⟨_,(Bi (Cg (Ot hu (pv 0) (pv 1) By ⟨rfl,rfl,rfl,rfl⟩))),?_⟩
  try dsimp only [Cm,Cb]
  walk_at "rd"
  exact q
def AdD:Sp:=λvs H Q _=>∃d kvs n k,vs=[.ref d,.int n,.str k]/\H d=some (.dK kvs)/\0<=n/\Cs kvs (Sum.inl n)=none/\kvs.length<=1000/\Q .non (upd H d (.dK (Jk kvs (Sum.inl n) (.str k))))
theorem AnS{d:Addr}{kvs:List (Key×V)}{n:Int}{k:Str}{H:Hp}{Q:VK}{E:XK}(h:H d=some (.dK kvs))(q:Q .non (upd H d (.dK (kvs++[(Sum.inl n,.str k)]))))(hn:0<=n)(hv:Cs kvs (Sum.inl n)=none)(hl:kvs.length<=1000) :
  AdD [.ref d,.int n,.str k] H Q E:=⟨d,kvs,n,k,rfl,h,hn,hv,hl,by rw[Nl _ hv];exact q⟩
local macro_rules | `(tactic| walk_at "u")=>`(tactic| with_reducible refine AnS (by assumption) ?_ ?_ ?_ ?_)
theorem Acb(T:Txt K mg t):Binds K t.d_qbt ["kinds","sign","kind"] []:=T.F_qbt.binds (by walk_at "b3")
theorem AaD(T:Txt K mg t):FnOk P w K mg base CX0 3 t.f_qbt t.d_qbt ["kinds","sign","kind"] (AdD):=by
 refine T.F_qbt.ok Akl (λvs H Q E h=>?_) (λcdv A outer s H vs Q E hr h=>?_)
 ·obtain⟨d,kvs,n,k,rfl,hd,hn,hv,hl,q⟩:=h
  rfl
 ·obtain⟨d,kvs,n,k,rfl,hd,hn,hv,hl,q⟩:=h
  have hu:=Cq hr
  have hu64:=hr.units
  refine⟨_,(Bd (Co (Bp (Jt T) (hr.mono (by decide)) rfl T.m_qe T.F_qe.kp (Lv T) .nil Bw (Ba (Bp (Vy T) (hr.mono (by decide)) rfl T.m_qca T.F_qca.kp (Za T) .nil Bw (Ba (pv 1) Be)) (Ba By Be))))
   (Bd (Co (Bp (Jt T) (hr.mono (by decide)) rfl T.m_qe T.F_qe.kp (Lv T) .nil Bw (Ba (Vv (Qi hu (pv 1) (pv 0))) (Ba By Be))))
   (Bi (Gv hu (pv 0) (pv 1) (pv 2) rfl)))),?_⟩
  try dsimp only [Cm,Cb]
  walk_at "rd"
  ·exact q
  ·exact Jh hl
  ·rw[hv];rfl
  ·exact decide_eq_true hn
def AfP:Sp:=λvs H Q _=>∃a b xs ys signs mates,vs=[.ref a,.ref b]/\H a=some (.lst xs)/\H b=some (.lst ys)/\LAt TripAt H xs signs/\LAt PairAt H ys mates/\(∀s∈signs,Yl s)/\(∀m∈mates,0<=m.1/\0<=m.2) /\
 (signs.map (·.1)++Fx mates).Nodup/\signs.length+2*mates.length<=900/\∀d,H d=none->Q (.ref d) (upd H d (.dK (kK signs++kM mates)))
theorem AoK(T:Txt K mg t):Binds K t.d_qy ["signs","mates"] []:=T.F_qy.binds (by walk_at "b2")
theorem Anm(T:Txt K mg t):FnOk P w K mg base CX0 4 t.f_qy t.d_qy ["signs","mates"] (AfP):=by
 refine T.F_qy.ok sc_qy (λvs H Q E h=>?_) (λcdv A outer s H vs Q E hr h=>?_)
 ·obtain⟨a,b,xs,ys,signs,mates,rfl,ha,hb,ls,lm,so,mo,nd,hl,q⟩:=h
  rfl
 ·obtain⟨a,b,xs,ys,signs,mates,rfl,ha,hb,ls,lm,so,mo,nd,hl,q⟩:=h
  have hu:=Cq hr
  have hu64:=hr.units
  refine⟨_,(Bd (Bo (i:=2) sc_qy.nd rfl (Or.inl rfl) Ls)
   (Bd (Dc PassesOwn.never rfl (Ct (pv 0)) (Qb rfl (Ce (Bq (i:=3) sc_qy.nd rfl (Or.inl rfl)) (Ce (Bq (i:=4) sc_qy.nd rfl (Or.inl rfl)) (Ce (Bq (i:=5) sc_qy.nd rfl (Or.inl rfl)) Fa))))
    (Bd (Co (Bp (Jt T) (hr.mono (by decide)) rfl T.m_qe T.F_qe.kp (Lv T) .nil Bw (Ba (Bp (AnA T) (hr.mono (by decide)) rfl T.m_qh T.F_qh.kp (AoB T) .nil Bw (Ba (pv 4) Be)) (Ba By Be))))
   (Bd (Co (Bp (Jt T) (hr.mono (by decide)) rfl T.m_qe T.F_qe.kp (Lv T) .nil Bw (Ba (Bp (Aoa T) (hr.mono (by decide)) rfl T.m_qw T.F_qw.kp (AoJ T) .nil Bw (Ba (pv 4) (Ba (pv 5) Be))) (Ba By Be))))
   (Bi (Co (Bp (AaD T) (hr.mono (by decide)) rfl T.m_qbt T.F_qbt.kp (Acb T) .nil Bw (Ba (pv 2) (Ba (pv 3) (Ba (pv 4) Be)))))))))
   (Bd (Dc PassesOwn.never rfl (Ct (pv 1)) (Qb rfl (Ce (Bq (i:=6) sc_qy.nd rfl (Or.inl rfl)) (Ce (Bq (i:=7) sc_qy.nd rfl (Or.inl rfl)) Fa)))
    (Bd (Co (Bp (AaD T) (hr.mono (by decide)) rfl T.m_qbt T.F_qbt.kp (Acb T) .nil Bw (Ba (pv 2) (Ba (pv 6) (Ba By Be)))))
   (Bi (Co (Bp (AaD T) (hr.mono (by decide)) rfl T.m_qbt T.F_qbt.kp (Acb T) .nil Bw (Ba (pv 2) (Ba (pv 7) (Ba By Be))))))))
   (Bi (Cg (pv 2)))))),?_⟩
  try dsimp only [Cm,Cb]
  walk_at "rd"
  intro d hd
  walk_at "rd"
  have nda:a≠d:=Bz ha hd
  have ndb:b≠d:=Bz hb hd
  have ndk:((kK signs++kM mates).map (·.1)).Nodup:=by rw[map_append,Aba,show (kK signs).map (·.1)=(signs.map (·.1)).map Sum.inl by simp [kK],<- map_append];exact Ql nd
  refine No rfl (SqL.of (xs:=xs) (by rw[Bj nda];exact ha)) (λi σ H'=>∃v3 v4 v5,σ=[some (.ref a),some (.ref b),some (.ref d),v3,v4,v5,none,none]/\H'=upd H d (.dK (kK (signs.take i)))) ⟨none,none,none,rfl,rfl⟩ (λi σ H' _ ⟨_,_,_,_,e⟩=>by subst e;exact SqL.of (by rw[Bj nda];exact ha)) ?_ ?_
  ·rintro i x σ H' hi ⟨v3,v4,v5,rfl,rfl⟩
   obtain⟨s,es,p,rfl,hp⟩:=ls.get hi
   have hp':(upd H d (.dK (kK (signs.take i)))) p=some (.tup [.int s.1,.str s.2.1,.int s.2.2]):=by rw[Bj (Bz hp hd)];exact hp
   have hd':(upd H d (.dK (kK (signs.take i)))) d=some (.dK (kK (signs.take i))):=Bn
   have ok:=so s (mem_of_getElem? es)
   have et:=Dj es
   have hlt:i<signs.length:=(List.getElem?_eq_some_iff.mp es).1
   walk_at "rd"
   ·refine⟨_,_,_,rfl,?_⟩
    rw[Gw,et]
    simp [kK]
   ·exact ok.nn
   ·refine Nk λm=>?_
    have q1:(kK signs++kM mates)=kK (signs.take i)++((Sum.inl s.1,V.str s.2.1)::(kK (signs.drop (i+1))++kM mates)):=by
     rw[<- cons_append,<- append_assoc]
     congr 1
     rw[show ((Sum.inl s.1,V.str s.2.1)::kK (signs.drop (i+1)):List (Key×V))=kK (s::signs.drop (i+1)) from rfl,kK,kK,kK,<- map_append]
     congr 1
     rw[<- take_append_drop i signs]
     congr 1
     ·simp
     ·rw[take_append_drop,drop_eq_getElem_cons hlt]
      have:=getElem?_eq_getElem hlt
      rw[es] at this
      rw[Option.some.inj this]
    rw[q1,map_append,map_cons] at ndk
    exact (nodup_append.mp ndk).2.2 _ m _ mem_cons_self rfl
   ·have:(kK (signs.take i)).length<=signs.length:=by simp [kK];omega
    omega
   ·exact ok.rk
   ·exact ok.kd
  ·rintro σ H' ⟨v3,v4,v5,rfl,rfl⟩
   rw[ls.1,take_length]
   refine Ab5 ?_
   refine No rfl (SqL.of (xs:=ys) (by rw[Bj ndb];exact hb)) (λi σ H'=>∃v3 v4 v5 v6 v7,σ=[some (.ref a),some (.ref b),some (.ref d),v3,v4,v5,v6,v7]/\H'=upd H d (.dK (kK signs++kM (mates.take i)))) ⟨_,_,_,_,_,rfl,by simp [kM]⟩ (λi σ H' _ ⟨_,_,_,_,_,_,e⟩=>by subst e;exact SqL.of (by rw[Bj ndb];exact hb)) ?_ ?_
   ·rintro i x σ H' hi ⟨v3,v4,v5,v6,v7,rfl,rfl⟩
    obtain⟨m,em,p,rfl,hp⟩:=lm.get hi
    have hp':(upd H d (.dK (kK signs++kM (mates.take i)))) p=some (.tup [.int m.1,.int m.2]):=by rw[Bj (Bz hp hd)];exact hp
    have hd':(upd H d (.dK (kK signs++kM (mates.take i)))) d=some (.dK (kK signs++kM (mates.take i))):=Bn
    have ok:=mo m (mem_of_getElem? em)
    have et:=Dj em
    have hlt:i<mates.length:=(List.getElem?_eq_some_iff.mp em).1
    have q1:kK signs++kM mates=kK signs++kM (mates.take i)++((Sum.inl m.1,V.str "open")::(Sum.inl m.2,V.str "shut")::kM (mates.drop (i+1))):=by
     rw[append_assoc]
     congr 1
     rw[show ((Sum.inl m.1,V.str "open")::(Sum.inl m.2,V.str "shut")::kM (mates.drop (i+1)):List (Key×V))=kM (m::mates.drop (i+1)) from rfl,<- Qj]
     congr 1
     have:=getElem?_eq_getElem hlt
     rw[em] at this
     rw[Option.some.inj this,<- drop_eq_getElem_cons hlt,take_append_drop]
    rw[q1,map_append,map_cons,map_cons] at ndk
    have nd1:=(nodup_append.mp ndk).2.2
    have nd2:=(nodup_append.mp ndk).2.1
    have hlen:(kK signs++kM (mates.take i)).length+1<=1000:=by
     rw[length_append,Amm,length_take];simp only [kK,length_map];omega
    walk_at "rd"
    have hd2:(upd (upd H d (.dK (kK signs++kM (mates.take i)))) d (.dK (kK signs++kM (mates.take i)++[(Sum.inl m.1,.str "open")]))) d=some (.dK (kK signs++kM (mates.take i)++[(Sum.inl m.1,.str "open")])):=Bn
    walk_at "rd"
    ·refine⟨_,_,_,_,_,rfl,?_⟩
     rw[Gw,Gw,et,Qj]
     simp [kM]
    ·exact ok.2
    ·refine Nk λz=>?_
     rw[map_append,mem_append] at z
     rcases z with z | z
     ·exact nd1 _ z _ (mem_cons_of_mem _ mem_cons_self) rfl
     ·have e:(Sum.inl m.2:Key)=Sum.inl m.1:=mem_singleton.mp z
      have nd3:=(nodup_cons.mp nd2).1
      exact nd3 (mem_cons.mpr (.inl e.symm))
    ·rw[length_append];exact hlen
    ·exact ok.1
    ·exact Nk λz=>nd1 _ z _ mem_cons_self rfl
    ·omega
   ·rintro σ H' ⟨v3,v4,v5,v6,v7,rfl,rfl⟩
    rw[lm.1,take_length]
    walk_at "rd"
    exact q d hd
def AfX:Sp:=λvs H Q _=>∃a xs signs,vs=[.ref a]/\H a=some (.lst xs)/\LAt TripAt H xs signs/\(signs.map (·.1)).Nodup/\signs.length<=900/\∀d,H d=none->Q (.ref d) (upd H d (.dK (kR signs)))
theorem An4(T:Txt K mg t):Binds K t.d_qbd ["signs"] []:=T.F_qbd.binds (by walk_at "b1")
theorem AlO(T:Txt K mg t):FnOk P w K mg base CX0 1 t.f_qbd t.d_qbd ["signs"] (AfX):=by
 refine T.F_qbd.ok sc_qbd (λvs H Q E h=>?_) (λcdv A outer s H vs Q E hr h=>?_)
 ·obtain⟨a,xs,signs,rfl,ha,ls,nd,hl,q⟩:=h
  rfl
 ·obtain⟨a,xs,signs,rfl,ha,ls,nd,hl,q⟩:=h
  have hu:=Cq hr
  have hu64:=hr.units
  refine⟨_,(Bd (Bo (i:=1) sc_qbd.nd rfl (Or.inl rfl) Ls)
   (Bd (Dc PassesOwn.never rfl (Ct (pv 0)) (Qb rfl (Ce (Bq (i:=2) sc_qbd.nd rfl (Or.inl rfl)) (Ce (Bq (i:=3) sc_qbd.nd rfl (Or.inl rfl)) (Ce (Bq (i:=4) sc_qbd.nd rfl (Or.inl rfl)) Fa))))
    (Bi (Gv hu (pv 1) (pv 2) (pv 4) rfl)))
   (Bi (Cg (pv 1))))),?_⟩
  try dsimp only [Cm,Cb]
  walk_at "rd"
  intro d hd
  walk_at "rd"
  have nda:a≠d:=Bz ha hd
  have ndk:((kR signs).map (·.1)).Nodup:=by rw[show (kR signs).map (·.1)=(signs.map (·.1)).map Sum.inl by simp [kR]];exact Ql nd
  refine No rfl (SqL.of (xs:=xs) (by rw[Bj nda];exact ha)) (λi σ H'=>∃v3 v4 v5,σ=[some (.ref a),some (.ref d),v3,v4,v5]/\H'=upd H d (.dK (kR (signs.take i)))) ⟨none,none,none,rfl,rfl⟩ (λi σ H' _ ⟨_,_,_,_,e⟩=>by subst e;exact SqL.of (by rw[Bj nda];exact ha)) ?_ ?_
  ·rintro i x σ H' hi ⟨v3,v4,v5,rfl,rfl⟩
   obtain⟨s,es,p,rfl,hp⟩:=ls.get hi
   have hp':(upd H d (.dK (kR (signs.take i)))) p=some (.tup [.int s.1,.str s.2.1,.int s.2.2]):=by rw[Bj (Bz hp hd)];exact hp
   have hd':(upd H d (.dK (kR (signs.take i)))) d=some (.dK (kR (signs.take i))):=Bn
   have et:=Dj es
   have hlt:i<signs.length:=(List.getElem?_eq_some_iff.mp es).1
   have hno:Cs (kR (signs.take i)) (Sum.inl s.1)=none:=by
    refine Nk λm=>?_
    have q1:kR signs=kR (signs.take i)++((Sum.inl s.1,V.int s.2.2)::kR (signs.drop (i+1))):=by
     rw[show ((Sum.inl s.1,V.int s.2.2)::kR (signs.drop (i+1)):List (Key×V))=kR (s::signs.drop (i+1)) from rfl,kR,kR,kR,<- map_append]
     congr 1
     have:=getElem?_eq_getElem hlt
     rw[es] at this
     rw[Option.some.inj this,<- drop_eq_getElem_cons hlt,take_append_drop]
    rw[q1,map_append,map_cons] at ndk
    exact (nodup_append.mp ndk).2.2 _ m _ mem_cons_self rfl
   walk_at "rd"
   ·refine⟨_,_,_,rfl,?_⟩
    rw[Gw,et,Nl _ hno]
    simp [kR]
   ·have:(kR (signs.take i)).length<=signs.length:=by simp [kR];omega
    exact Jh (by omega)
  ·rintro σ H' ⟨v3,v4,v5,rfl,rfl⟩
   rw[ls.1,take_length]
   walk_at "rd"
   exact q d hd
def AiN:Sp:=λvs H Q _=>∃b ys mates,vs=[.ref b]/\H b=some (.lst ys)/\LAt PairAt H ys mates/\(Fx mates).Nodup/\mates.length<=400/\∀d,H d=none->Q (.ref d) (upd H d (.dK (kB mates)))
theorem AnV(T:Txt K mg t):Binds K t.d_qbi ["mates"] []:=T.F_qbi.binds (by walk_at "b1")
theorem AkT(T:Txt K mg t):FnOk P w K mg base CX0 1 t.f_qbi t.d_qbi ["mates"] (AiN):=by
 refine T.F_qbi.ok sc_qbi (λvs H Q E h=>?_) (λcdv A outer s H vs Q E hr h=>?_)
 ·obtain⟨b,ys,mates,rfl,hb,lm,nd,hl,q⟩:=h
  rfl
 ·obtain⟨b,ys,mates,rfl,hb,lm,nd,hl,q⟩:=h
  have hu:=Cq hr
  have hu64:=hr.units
  refine⟨_,(Bd (Bo (i:=1) sc_qbi.nd rfl (Or.inl rfl) Ls)
   (Bd (Dc PassesOwn.never rfl (Ct (pv 0)) (Qb rfl (Ce (Bq (i:=2) sc_qbi.nd rfl (Or.inl rfl)) (Ce (Bq (i:=3) sc_qbi.nd rfl (Or.inl rfl)) Fa)))
    (Bd (Gv hu (pv 1) (pv 2) (pv 3) rfl)
   (Bi (Gv hu (pv 1) (pv 3) (pv 2) rfl))))
   (Bi (Cg (pv 1))))),?_⟩
  try dsimp only [Cm,Cb]
  walk_at "rd"
  intro d hd
  walk_at "rd"
  have ndb:b≠d:=Bz hb hd
  have ndk:((kB mates).map (·.1)).Nodup:=by rw[AjM];exact Ql nd
  refine No rfl (SqL.of (xs:=ys) (by rw[Bj ndb];exact hb)) (λi σ H'=>∃v3 v4,σ=[some (.ref b),some (.ref d),v3,v4]/\H'=upd H d (.dK (kB (mates.take i)))) ⟨none,none,rfl,rfl⟩ (λi σ H' _ ⟨_,_,_,e⟩=>by subst e;exact SqL.of (by rw[Bj ndb];exact hb)) ?_ ?_
  ·rintro i x σ H' hi ⟨v3,v4,rfl,rfl⟩
   obtain⟨m,em,p,rfl,hp⟩:=lm.get hi
   have hp':(upd H d (.dK (kB (mates.take i)))) p=some (.tup [.int m.1,.int m.2]):=by rw[Bj (Bz hp hd)];exact hp
   have hd':(upd H d (.dK (kB (mates.take i)))) d=some (.dK (kB (mates.take i))):=Bn
   have et:=Dj em
   have hlt:i<mates.length:=(List.getElem?_eq_some_iff.mp em).1
   have q1:kB mates=kB (mates.take i)++((Sum.inl m.1,V.int m.2)::(Sum.inl m.2,V.int m.1)::kB (mates.drop (i+1))):=by
    rw[show ((Sum.inl m.1,V.int m.2)::(Sum.inl m.2,V.int m.1)::kB (mates.drop (i+1)):List (Key×V))=kB (m::mates.drop (i+1)) from rfl,<- Xj]
    congr 1
    have:=getElem?_eq_getElem hlt
    rw[em] at this
    rw[Option.some.inj this,<- drop_eq_getElem_cons hlt,take_append_drop]
   rw[q1,map_append,map_cons,map_cons] at ndk
   have nd1:=(nodup_append.mp ndk).2.2
   have nd2:=(nodup_append.mp ndk).2.1
   have hlen:(kB (mates.take i)).length+1<=1000:=by
    rw[AlK,length_take];omega
   have n1:Cs (kB (mates.take i)) (Sum.inl m.1)=none:=Nk λz=>nd1 _ z _ mem_cons_self rfl
   have n2:Cs (kB (mates.take i)++[(Sum.inl m.1,V.int m.2)]) (Sum.inl m.2)=none:=by
    refine Nk λz=>?_
    rw[map_append,mem_append] at z
    rcases z with z | z
    ·exact nd1 _ z _ (mem_cons_of_mem _ mem_cons_self) rfl
    ·have e:(Sum.inl m.2:Key)=Sum.inl m.1:=mem_singleton.mp z
     have nd3:=(nodup_cons.mp nd2).1
     exact nd3 (mem_cons.mpr (.inl e.symm))
   walk_at "rd"
   ·rw[Nl _ n1]
    have hd2:(upd (upd H d (.dK (kB (mates.take i)))) d (.dK (kB (mates.take i)++[(Sum.inl m.1,.int m.2)]))) d=some (.dK (kB (mates.take i)++[(Sum.inl m.1,.int m.2)])):=Bn
    walk_at "rd"
    ·refine⟨_,_,rfl,?_⟩
     rw[Gw,Gw,et,Xj,Nl _ n2]
     simp [kB]
    ·rw[length_append];exact Jh hlen
   ·exact Jh (by omega)
  ·rintro σ H' ⟨v3,v4,rfl,rfl⟩
   rw[lm.1,take_length]
   walk_at "rd"
   exact q d hd
theorem Ac4{k:Str}(h:k∈joinedK):inV (V.str k) [V.str "fore",V.str "back",V.str "num",V.str "blank",V.str "plain"]=true:=by
 have e:inV (V.str k) (joinedK.map V.str)=true:=by
  unfold inV
  rw[any_map]
  exact any_eq_true.mpr ⟨k,h,by show (k==k)=true;exact beq_self_eq_true k⟩
 exact e
def AjL:Sp:=λvs H Q _=>∃d kk w b m k,vs=[.ref d,.int w,.int b,.int m]/\H d=some (.dK kk)/\0<=w/\0<=b/\0<=m/\knd kk m=.str "mark"/\k∈joinedK/\knd kk w=.str k/\knd kk b=.str k/\Q .non H
theorem Aom(T:Txt K mg t):Binds K t.d_qv ["kinds","whole","base","mark"] []:=T.F_qv.binds (by walk_at "b4")
theorem AnU(T:Txt K mg t):FnOk P w K mg base CX0 3 t.f_qv t.d_qv ["kinds","whole","base","mark"] (AjL):=by
 refine T.F_qv.ok sc_qv (λvs H Q E h=>?_) (λcdv A outer s H vs Q E hr h=>?_)
 ·obtain⟨d,kk,w,b,m,k,rfl,hd,w0,b0,m0,hm,hk,hw,hb,q⟩:=h
  rfl
 ·obtain⟨d,kk,w,b,m,k,rfl,hd,w0,b0,m0,hm,hk,hw,hb,q⟩:=h
  have hu:=Cq hr
  have hu64:=hr.units
  refine⟨_,(Bd (Co (Bp (Jt T) (hr.mono (by decide)) rfl T.m_qe T.F_qe.kp (Lv T) .nil Bw (Ba (Rc (Bp (Vy T) (hr.mono (by decide)) rfl T.m_qca T.F_qca.kp (Za T) .nil Bw (Ba (pv 1) Be)) (Rc (Bp (Vy T) (hr.mono (by decide)) rfl T.m_qca T.F_qca.kp (Za T) .nil Bw (Ba (pv 2) Be)) (Re (Bp (Vy T) (hr.mono (by decide)) rfl T.m_qca T.F_qca.kp (Za T) .nil Bw (Ba (pv 3) Be))))) (Ba By Be))))
   (Bd (Co (Bp (Jt T) (hr.mono (by decide)) rfl T.m_qe T.F_qe.kp (Lv T) .nil Bw (Ba (Ja Do (Bp (Yp T) (hr.mono (by decide)) rfl T.m_qx T.F_qx.kp (AcH T) .nil Bw (Ba (pv 0) (Ba (pv 3) Be))) By (Ch _)) (Ba By Be))))
   (Bd (Bo (i:=4) sc_qv.nd rfl (Or.inl rfl) (Bp (Yp T) (hr.mono (by decide)) rfl T.m_qx T.F_qx.kp (AcH T) .nil Bw (Ba (pv 0) (Ba (pv 1) Be))))
   (Bd (Co (Bp (Jt T) (hr.mono (by decide)) rfl T.m_qe T.F_qe.kp (Lv T) .nil Bw (Ba (Ja (Sz) (pv 4) (Oh (v:=.ref t.a_JOINED_KINDS) rfl T.g_JOINED_KINDS rfl) rfl) (Ba By Be))))
   (Bi (Co (Bp (Jt T) (hr.mono (by decide)) rfl T.m_qe T.F_qe.kp (Lv T) .nil Bw (Ba (Ja Do (Bp (Yp T) (hr.mono (by decide)) rfl T.m_qx T.F_qx.kp (AcH T) .nil Bw (Ba (pv 0) (Ba (pv 2) Be))) (pv 4) (Ch _)) (Ba By Be))))))))),?_⟩
  try dsimp only [Cm,Cb]
  unfold knd at hm hw hb
  walk_at "rd"
  refine Ak5 w0 ?_
  walk_at "rd"
  refine Ak5 b0 ?_
  walk_at "rd"
  ·rw[hm]
   walk_at "rd"
   ·rw[hw]
    walk_at "rd"
    refine⟨_,_,rfl,.inr (T.q_JOINED_KINDS _),rfl,rfl,?_⟩
    rw[show (if false=true then !inV (V.str k) _ else inV (V.str k) [V.str "fore",V.str "back",V.str "num",V.str "blank",V.str "plain"])=true from Ac4 hk]
    walk_at "rd"
    rw[hb]
    walk_at "rd"
    ·exact q
    ·exact decide_eq_true rfl
   ·exact decide_eq_true rfl
  ·exact decide_eq_true m0
def Ajn:Sp:=λvs H Q _=>∃d kvs J n,vs=[.ref d,.int n]/\Rd H d (.dK kvs)/\LAt KvAt H kvs J/\Q (.bl (!(Fp J (jGo J 7 n)).isSome)) H
theorem AoF(T:Txt K mg t):Binds K t.d_qg ["pairs","whole"] []:=T.F_qg.binds (by walk_at "b2")
theorem An0(T:Txt K mg t):FnOk P w K mg base CX0 1 t.f_qg t.d_qg ["pairs","whole"] (Ajn):=by
 refine T.F_qg.ok sc_qg (λvs H Q E h=>?_) (λcdv A outer s H vs Q E hr h=>?_)
 ·obtain⟨d,kvs,J,n,rfl,hd,lj,q⟩:=h
  rfl
 ·obtain⟨d,kvs,J,n,rfl,hd,lj,q⟩:=h
  have hu:=Cq hr
  have hu64:=hr.units
  refine⟨_,(Bd (Bo (i:=2) sc_qg.nd rfl (Or.inl rfl) (pv 1))
   (Bd (Dc PassesOwn.never rfl (Nv rfl T.z_range (Ba (Oh rfl T.g_MOST_GOINGS.choose_spec.1 T.g_MOST_GOINGS.choose_spec.2) Be)) (Bq (i:=3) sc_qg.nd rfl (Or.inl rfl))
    (Bi (Dh (Li (AeF hu (pv 2) (pv 0)))
    (Bi (Bo (i:=2) sc_qg.nd rfl (Or.inl rfl) (Ci (AeZ) (Qv hu (pv 0) (pv 2) (λ_ _=>rfl)) Bf (λ_ _=>rfl))))
    Cv)))
   (Bi (Cg (Vv (Qi hu (pv 2) (pv 0))))))),?_⟩
  try dsimp only [Cm,Cb]
  walk_at "rd"
  refine AiP (hi:=7) (n:=7) (λR q'=>by walk_at "rd";exact q') ⟨by decide,by decide⟩ rfl (λi σ H'=>∃v3,σ=[some (.ref d),some (.int n),some (.int (jGo J i n)),v3]/\H'=H) ⟨none,rfl,rfl⟩ ?_ ?_
  ·rintro i σ H' hi ⟨v3,rfl,rfl⟩
   walk_at "rd"
   refine⟨d,_,rfl,.inl ⟨kvs,Sum.inl (jGo J i n),hd,rfl,rfl⟩,?_⟩
   walk_at "rd"
   rcases Aaz lj (jGo J i n) with ⟨h1,h2⟩ | ⟨m,p,h1,h2,hp⟩
   ·rw[h2]
    refine Lw ?_
    walk_at "rd"
    exact⟨_,by show _=[_,_,some (V.int (Fs J (jGo J i n))),_];unfold Fs;rw[h1],rfl⟩
   ·rw[h2]
    refine Lo ?_
    walk_at "rd"
    refine⟨d,.ref p,rfl,.inl ⟨kvs,Sum.inl (jGo J i n),hd,rfl,h2.symm⟩,?_⟩
    walk_at "rd"
    refine Am6 hp ?_ rfl
    walk_at "rd"
    exact⟨_,by show _=[_,_,some (V.int (Fs J (jGo J i n))),_];unfold Fs;rw[h1],rfl⟩
  ·rintro σ H' ⟨v3,rfl,rfl⟩
   walk_at "rd"
   refine⟨d,_,rfl,.inl ⟨kvs,Sum.inl (jGo J 7 n),hd,rfl,rfl⟩,?_⟩
   rcases Aaz lj (jGo J 7 n) with ⟨h1,h2⟩ | ⟨m,p,h1,h2,hp⟩
   ·rw[h2];rw[h1] at q;exact q
   ·rw[h2];rw[h1] at q;exact q
def Agh:Sp:=λvs H Q _=>∃d b kk xs J,vs=[.ref d,.ref b]/\H d=some (.dK kk)/\H b=some (.lst xs)/\LAt TrjAt H xs J/\Ab7 kk J/\∀p kvs H',H p=none->Same H H'->H' p=some (.dK kvs)->LAt KvAt H' kvs J->Q (.ref p) H'
theorem Aoe(T:Txt K mg t):Binds K t.d_qbc ["kinds","joins"] []:=T.F_qbc.binds (by walk_at "b2")
theorem Alc(T:Txt K mg t):FnOk P w K mg base CX0 4 t.f_qbc t.d_qbc ["kinds","joins"] (Agh):=by
 refine T.F_qbc.ok sc_qbc (λvs H Q E h=>?_) (λcdv A outer s H vs Q E hr h=>?_)
 ·obtain⟨d,b,kk,xs,J,rfl,hd,hb,lj,jo,q⟩:=h
  rfl
 ·obtain⟨d,b,kk,xs,J,rfl,hd,hb,lj,jo,q⟩:=h
  have hu:=Cq hr
  have hu64:=hr.units
  refine⟨_,(Bd (Bo (i:=2) sc_qbc.nd rfl (Or.inl rfl) Ls)
   (Bd (Dc PassesOwn.never rfl (Ct (pv 1)) (Qb rfl (Ce (Bq (i:=3) sc_qbc.nd rfl (Or.inl rfl)) (Ce (Bq (i:=4) sc_qbc.nd rfl (Or.inl rfl)) (Ce (Bq (i:=5) sc_qbc.nd rfl (Or.inl rfl)) Fa))))
    (Bd (Co (Bp (AnU T) (hr.mono (by decide)) rfl T.m_qv T.F_qv.kp (Aom T) .nil Bw (Ba (pv 0) (Ba (pv 3) (Ba (pv 4) (Ba (pv 5) Be))))))
   (Bd (Co (Bp (Jt T) (hr.mono (by decide)) rfl T.m_qe T.F_qe.kp (Lv T) .nil Bw (Ba (Vv (Qi hu (pv 3) (pv 2))) (Ba By Be))))
   (Bi (Gv hu (pv 2) (pv 3) (AjO (Ba (pv 4) (Ba (pv 5) Be))) rfl)))))
   (Bd (Wg (Dc PassesOwn.never rfl (Vb (pv 2)) (Bq (i:=3) sc_qbc.nd rfl (Or.inl rfl))
    (Bi (Co (Bp (Jt T) (hr.mono (by decide)) rfl T.m_qe T.F_qe.kp (Lv T) .nil Bw (Ba (Bp (An0 T) (hr.mono (by decide)) rfl T.m_qg T.F_qg.kp (AoF T) .nil Bw (Ba (pv 2) (Ba (pv 3) Be))) (Ba By Be)))))))
   (Bi (Cg (pv 2)))))),?_⟩
  try dsimp only [Cm,Cb]
  walk_at "rd"
  intro p hp
  have s0:Same H (upd H p (.dK [])):=Same.new hp
  have e0:(upd H p (.dK [])) p=some (.dK []):=Bn
  generalize upd H p (.dK [])=H0 at s0 e0
  walk_at "rd"
  refine No (i:=1) rfl (SqL.of (s0 _ _ hb)) (λi σ H'=>∃v3 v4 v5 kvs,σ=[some (.ref d),some (.ref b),some (.ref p),v3,v4,v5]/\Same H H'/\H' p=some (.dK kvs)/\LAt KvAt H' kvs (J.take i)) ⟨none,none,none,[],rfl,s0,e0,LAt.nil⟩ (λi σ H' _ ⟨_,_,_,_,_,s,_⟩=>SqL.of (s _ _ hb)) ?_ ?_
  ·rintro i x σ H' hi ⟨v3,v4,v5,kvs,rfl,s,e,lk⟩
   obtain⟨j,ej,a,rfl,ha⟩:=lj.get hi
   have hj:=mem_of_getElem? ej
   have ha':=s _ _ ha
   obtain⟨k,hk,hw,hb'⟩:=jo.kd j hj
   obtain⟨n1,n2,n3⟩:=jo.nn j hj
   have hlen:kvs.length<=400:=by
    rw[lk.1,length_take]
    have:=jo.ln
    omega
   have hno:Cs kvs (Sum.inl j.1)=none:=by
    rcases Aaz lk j.1 with ⟨_,h2⟩ | ⟨m,_,h1,_,_⟩
    ·exact h2
    ·exact absurd (show j.1∈(J.take i).map (·.1) from mem_map.mpr ⟨_,Vf h1,rfl⟩) (Ox (f:=(·.1)) jo.nw ej)
   walk_at "rd"
   refine⟨d,kk,j.1,j.2.1,j.2.2,k,rfl,s _ _ hd,n1,n2,n3,jo.mr j hj,hk,hw,hb',?_⟩
   walk_at "rd"
   ·refine⟨by show 2<=sizeLine;decide,λt ht=>?_⟩
    walk_at "rd"
    refine Ada (Same.new ht _ _ e) ?_ (Jh (by omega))
    rw[Nl _ hno]
    have ntp:t≠p:=(Bz e ht).symm
    have kt:∀q' zs,H' q'=some (.tup zs)->(upd (upd H' t (.tup [.int j.2.1,.int j.2.2])) p (.dK (kvs++[(Sum.inl j.1,V.ref t)]))) q'=some (.tup zs):=λq' zs z=>by
     rw[Bj (Fg z e (by intro w;cases w)),Bj (Bz z ht)];exact z
    refine⟨_,_,_,_,rfl,λq' o z=>?_,Bn,?_⟩
    ·rw[Bj (Bz z hp),Bj (Bz (s _ _ z) ht)];exact s _ _ z
    ·rw[Dj ej]
     exact LAt.snoc (lk.mono λx y h=>h.mono kt) ⟨rfl,t,rfl,by rw[Bj ntp,Bn]⟩
   ·rw[hno];rfl
  ·rintro σ H' ⟨v3,v4,v5,kvs,rfl,s,e,lk⟩
   rw[lj.1,take_length] at lk
   dsimp only
   with_reducible refine Ab5 ?_
   refine AjX (i:=2) (a:=p) (kvs:=kvs) rfl e (λi σ H''=>∃v3 v4 v5,σ=[some (.ref d),some (.ref b),some (.ref p),v3,v4,v5]/\H''=H') ⟨_,_,_,rfl,rfl⟩ (λi σ H' _ ⟨_,_,_,_,z⟩=>by subst z;exact e) ?_ ?_
   ·rintro o i kv σ H'' hi ⟨v3,v4,v5,rfl,rfl⟩
    obtain⟨j,ej,e1,_⟩:=lk.get hi
    have hj:=mem_of_getElem? ej
    obtain⟨key,val⟩:=kv
    dsimp only at e1
    subst e1
    show Go _ (.int j.1) _ _ _
    walk_at "rd"
    refine⟨p,kvs,J,j.1,rfl,AjR,lk.mono λx y h=>h.mono λq' zs z=>?_,?_⟩
    ·rw[Bj (Fg z e (by intro w;cases w))];exact z
    ·walk_at "rd"
     ·exact⟨Bn,_,_,_,rfl,Afk e⟩
     ·rw[jo.en j hj];rfl
   ·rintro σ H'' ⟨v3,v4,v5,rfl,rfl⟩
    walk_at "rd"
    exact q p kvs _ hp s e lk
def Afg:Sp:=λvs H Q _=>∃d kvs J,vs=[.ref d]/\H d=some (.dK kvs)/\LAt KvAt H kvs J/\(J.map (·.2)).Nodup/\J.length<=400/\∀p H',H p=none->Same H H'->H' p=some (.dT (kW J))->Q (.ref p) H'
theorem Aot(T:Txt K mg t):Binds K t.d_qt ["pairs"] []:=T.F_qt.binds (by walk_at "b1")
theorem Anw(T:Txt K mg t):FnOk P w K mg base CX0 2 t.f_qt t.d_qt ["pairs"] (Afg):=by
 refine T.F_qt.ok sc_qt (λvs H Q E h=>?_) (λcdv A outer s H vs Q E hr h=>?_)
 ·obtain⟨d,kvs,J,rfl,hd,lk,np,ln,q⟩:=h
  rfl
 ·obtain⟨d,kvs,J,rfl,hd,lk,np,ln,q⟩:=h
  have hu:=Cq hr
  have hu64:=hr.units
  refine⟨_,(Bd (Bo (i:=1) sc_qt.nd rfl (Or.inl rfl) Afj)
   (Bd (Wg (Dc PassesOwn.never rfl (Ad1 (pv 0)) (Qb rfl (Ce (Bq (i:=2) sc_qt.nd rfl (Or.inl rfl)) (Ce (Bq (i:=3) sc_qt.nd rfl (Or.inl rfl)) Fa)))
    (Bd (Co (Bp (Jt T) (hr.mono (by decide)) rfl T.m_qe T.F_qe.kp (Lv T) .nil Bw (Ba (Vv (Qi hu (pv 3) (pv 1))) (Ba By Be))))
   (Bi (Gv hu (pv 1) (pv 3) (pv 2) rfl)))))
   (Bi (Cg (pv 1))))),?_⟩
  try dsimp only [Cm,Cb]
  walk_at "rd"
  intro p hp
  have s0:Same H (upd H p (.dT [])):=Same.new hp
  have e0:(upd H p (.dT [])) p=some (.dT []):=Bn
  generalize upd H p (.dT [])=H0 at s0 e0
  have ndp:d≠p:=Bz hd hp
  walk_at "rd"
  refine Al6 (i:=0) (a:=d) (kvs:=kvs) rfl (s0 _ _ hd) (λi σ H'=>∃v2 v3,σ=[some (.ref d),some (.ref p),v2,v3]/\Same H H'/\H' p=some (.dT (kW (J.take i)))) ⟨none,none,rfl,s0,e0⟩ ?_ ?_
  ·rintro o i kv t σ H' hi ht ntd ⟨v2,v3,rfl,s,e⟩
   obtain⟨j,ej,e1,a,e2,ha⟩:=lk.get hi
   obtain⟨key,val⟩:=kv
   dsimp only at e1 e2
   subst e1 e2
   have ntp:p≠t:=Bz e ht
   have had:a≠d:=Fg ha hd (by intro w;cases w)
   have hat:a≠t:=Bz (s _ _ ha) ht
   have hap:a≠p:=Bz ha hp
   have ep:(upd (upd H' d (.frz o (.dK kvs))) t (.tup [.int j.1,.ref a])) p=some (.dT (kW (J.take i))):=by rw[Bj ntp,Bj ndp.symm];exact e
   have ea:(upd (upd H' d (.frz o (.dK kvs))) t (.tup [.int j.1,.ref a])) a=some (.tup ([Sum.inl j.2.1,Sum.inl j.2.2].map kV)):=by rw[Bj hat,Bj had];exact s _ _ ha
   have et:(upd (upd H' d (.frz o (.dK kvs))) t (.tup [.int j.1,.ref a])) t=some (.tup [.int j.1,.ref a]):=Bn
   have ed:(upd (upd H' d (.frz o (.dK kvs))) t (.tup [.int j.1,.ref a])) d=some (.frz o (.dK kvs)):=by rw[Bj ntd.symm,Bn]
   have back:∀q' u,H q'=some u->q'≠d->(upd (upd H' d (.frz o (.dK kvs))) t (.tup [.int j.1,.ref a])) q'=some u:=λq' u z nz=>by
    rw[Bj (Bz (s _ _ z) ht),Bj nz];exact s _ _ z
   show Xa _ _ _ _ _ (upd (upd H' d (.frz o (.dK kvs))) t (.tup [.int j.1,.ref a])) _
   generalize upd (upd H' d (.frz o (.dK kvs))) t (.tup [.int j.1,.ref a])=H2 at ep ea et ed back
   have hno:Cs (kW (J.take i)) [Sum.inl j.2.1,Sum.inl j.2.2]=none:=Anb (Ox (f:=(·.2)) np ej)
   have hlen:(kW (J.take i)).length<=400:=by unfold kW;rw[length_map,length_take];omega
   walk_at "rd"
   refine⟨p,_,rfl,DGet.t ep ea,?_⟩
   rw[hno]
   walk_at "rd"
   rotate_left
   ·rfl
   refine⟨p,_,rfl,DPut.t ep ea (Jh (by omega)),?_⟩
   rw[Nl _ hno]
   refine⟨by rw[Bj ndp];exact ed,_,_,rfl,λq' u z=>?_,?_⟩
   ·by_cases hq:q'=d
    ·subst hq
     rw[Bn]
     rw[hd] at z;exact z
    ·rw[Bj hq,Bj (Bz z hp)];exact back _ _ z hq
   ·rw[Bj ndp.symm,Bn,Dj ej]
    simp [kW]
  ·rintro σ H' ⟨v2,v3,rfl,s,e⟩
   rw[lk.1,take_length] at e
   walk_at "rd"
   exact q p _ hp s e
theorem AnZ(T:Txt K mg t):Binds K t.d_qbe ["self","signs","mates","joins"] []:=T.F_qbe.binds (by walk_at "b4")
theorem Aln(T:Txt K mg t):FnOk P w K mg base CX0 5 t.f_qbe t.d_qbe ["self","signs","mates","joins"] (Abt t.C_Book):=by
 refine T.F_qbe.ok Akv (λvs H Q E h=>?_) (λcdv A outer s H vs Q E hr h=>?_)
 ·obtain⟨p,dx,a,b,cc,xs,ys,zs,signs,mates,J,rfl,hp,ha,hb,hc,ls,lm,lj,so,mo,nd,jo,hl,q⟩:=h
  rfl
 ·obtain⟨p,dx,a,b,cc,xs,ys,zs,signs,mates,J,rfl,hp,ha,hb,hc,ls,lm,lj,so,mo,nd,jo,hl,q⟩:=h
  have hu:=Cq hr
  have hu64:=hr.units
  refine⟨_,(Bd (Co (Bp (Acn T) (hr.mono (by decide)) rfl T.m_qf T.F_qf.kp (AgC T) .nil Bw (Ba (pv 1) (Ba Bf Be))))
   (Bd (Co (Bp (Acn T) (hr.mono (by decide)) rfl T.m_qf T.F_qf.kp (AgC T) .nil Bw (Ba (pv 2) (Ba Bf Be))))
   (Bd (Co (Bp (Acn T) (hr.mono (by decide)) rfl T.m_qf T.F_qf.kp (AgC T) .nil Bw (Ba (pv 3) (Ba Bf Be))))
   (Bd (Su (pv 0) (Bp (Anm T) (hr.mono (by decide)) rfl T.m_qy T.F_qy.kp (AoK T) .nil Bw (Ba (pv 1) (Ba (pv 2) Be))) rfl)
   (Bd (Su (pv 0) (Bp (AlO T) (hr.mono (by decide)) rfl T.m_qbd T.F_qbd.kp (An4 T) .nil Bw (Ba (pv 1) Be)) rfl)
   (Bd (Su (pv 0) (Bp (AkT T) (hr.mono (by decide)) rfl T.m_qbi T.F_qbi.kp (AnV T) .nil Bw (Ba (pv 2) Be)) rfl)
   (Bd (Su (pv 0) (Bp (Alc T) (hr.mono (by decide)) rfl T.m_qbc T.F_qbc.kp (Aoe T) .nil Bw (Ba (Vr (pv 0) rfl) (Ba (pv 3) Be))) rfl)
   (Bi (Su (pv 0) (Bp (Anw T) (hr.mono (by decide)) rfl T.m_qt T.F_qt.kp (Aot T) .nil Bw (Ba (Vr (pv 0) rfl) Be)) rfl))))))))),?_⟩
  try dsimp only [Cm,Cb]
  have nt:∀q' zs,H q'=some (.tup zs)->q'≠p:=λq' zs h=>Fg h hp (by intro z;cases z)
  have nap:a≠p:=Fg ha hp (by intro z;cases z)
  have nbp:b≠p:=Fg hb hp (by intro z;cases z)
  have ncp:cc≠p:=Fg hc hp (by intro z;cases z)
  have c3:∀x∈xs,∃b ys,x=V.ref b/\H b=some (.tup ys)/\((ys.length:Nat):Int)=3:=λx hx=>by
   obtain⟨i,hi⟩:=getElem?_of_mem hx
   obtain⟨s,_,q',e,h⟩:=ls.get hi
   exact⟨q',_,e,h,rfl⟩
  have c2:∀x∈ys,∃b ys,x=V.ref b/\H b=some (.tup ys)/\((ys.length:Nat):Int)=2:=λx hx=>by
   obtain⟨i,hi⟩:=getElem?_of_mem hx
   obtain⟨s,_,q',e,h⟩:=lm.get hi
   exact⟨q',_,e,h,rfl⟩
  have c3j:∀x∈zs,∃b ys,x=V.ref b/\H b=some (.tup ys)/\((ys.length:Nat):Int)=3:=λx hx=>by
   obtain⟨i,hi⟩:=getElem?_of_mem hx
   obtain⟨s,_,q',e,h⟩:=lj.get hi
   exact⟨q',_,e,h,rfl⟩
  have mJ:∀{H'},Keep p H H'->LAt TrjAt H' zs J:=λk=>lj.mono λx y h=>h.mono λq' zs e=>k q' _ e (nt q' zs e)
  have mT:∀{H'},Keep p H H'->LAt TripAt H' xs signs:=λk=>ls.mono λx y h=>h.mono λq' zs e=>k q' _ e (nt q' zs e)
  have mP:∀{H'},Keep p H H'->LAt PairAt H' ys mates:=λk=>lm.mono λx y h=>h.mono λq' zs e=>k q' _ e (nt q' zs e)
  have nd1:=(nodup_append.mp nd).1
  have nd2:=(nodup_append.mp nd).2.1
  walk_at "rd"
  refine⟨a,xs,_,rfl,ha,c3,?_⟩
  walk_at "rd"
  refine⟨b,ys,_,rfl,hb,c2,?_⟩
  walk_at "rd"
  refine⟨cc,zs,_,rfl,hc,c3j,?_⟩
  walk_at "rd"
  refine⟨a,b,xs,ys,signs,mates,rfl,ha,hb,ls,lm,so,mo,nd,by omega,λdk hk=>?_⟩
  have fk:H dk=none:=hk
  walk_at "rd"
  have k1:Keep p H (upd H dk (.dK (kK signs++kM mates))):=Keep.new hk
  have p1:(upd H dk (.dK (kK signs++kM mates))) p=some (.ins t.C_Book dx []):=by rw[Bj (Bz hp hk)];exact hp
  have e1:(upd H dk (.dK (kK signs++kM mates))) dk=some (.dK (kK signs++kM mates)):=Bn
  generalize upd H dk (.dK (kK signs++kM mates))=H1 at k1 p1 e1
  refine⟨p,_,_,_,rfl,p1,T.cl_Book,T.n_Book_kinds,by show 0<1000;decide,?_⟩
  have k2:Keep p H (upd H1 p (.ins t.C_Book dx (Cc "kinds" (.ref dk) []))):=k1.trans Keep.put
  have p2:(upd H1 p (.ins t.C_Book dx (Cc "kinds" (.ref dk) []))) p=some (.ins t.C_Book dx (Cc "kinds" (.ref dk) [])):=Bn
  have e2:(upd H1 p (.ins t.C_Book dx (Cc "kinds" (.ref dk) []))) dk=some (.dK (kK signs++kM mates)):=by rw[Bj (Fg e1 p1 (by intro z;cases z))];exact e1
  generalize upd H1 p (.ins t.C_Book dx (Cc "kinds" (.ref dk) []))=H2 at k2 p2 e2
  walk_at "rd"
  refine⟨a,xs,signs,rfl,k2 _ _ ha nap,mT k2,nd1,by omega,λdr hk=>?_⟩
  have fr':H dr=none:=k2.free p2 hk
  walk_at "rd"
  have k3:Keep p H (upd H2 dr (.dK (kR signs))):=k2.trans (Keep.new hk)
  have p3:(upd H2 dr (.dK (kR signs))) p=some (.ins t.C_Book dx (Cc "kinds" (.ref dk) [])):=by rw[Bj (Bz p2 hk)];exact p2
  have e3:(upd H2 dr (.dK (kR signs))) dk=some (.dK (kK signs++kM mates)):=by rw[Bj (Bz e2 hk)];exact e2
  have r3:(upd H2 dr (.dK (kR signs))) dr=some (.dK (kR signs)):=Bn
  generalize upd H2 dr (.dK (kR signs))=H3 at k3 p3 e3 r3
  refine⟨p,_,_,_,rfl,p3,T.cl_Book,T.n_Book_ranks,Nat.lt_of_le_of_lt (Fc _ _ _) (by show 0+1<1000;decide),?_⟩
  have k4:Keep p H (upd H3 p (.ins t.C_Book dx (Cc "ranks" (.ref dr) (Cc "kinds" (.ref dk) [])))):=k3.trans Keep.put
  have p4:(upd H3 p (.ins t.C_Book dx (Cc "ranks" (.ref dr) (Cc "kinds" (.ref dk) [])))) p=some (.ins t.C_Book dx (Cc "ranks" (.ref dr) (Cc "kinds" (.ref dk) []))):=Bn
  have e4:(upd H3 p (.ins t.C_Book dx (Cc "ranks" (.ref dr) (Cc "kinds" (.ref dk) [])))) dk=some (.dK (kK signs++kM mates)):=by rw[Bj (Fg e3 p3 (by intro z;cases z))];exact e3
  have r4:(upd H3 p (.ins t.C_Book dx (Cc "ranks" (.ref dr) (Cc "kinds" (.ref dk) [])))) dr=some (.dK (kR signs)):=by rw[Bj (Fg r3 p3 (by intro z;cases z))];exact r3
  generalize upd H3 p (.ins t.C_Book dx (Cc "ranks" (.ref dr) (Cc "kinds" (.ref dk) [])))=H4 at k4 p4 e4 r4
  walk_at "rd"
  refine⟨b,ys,mates,rfl,k4 _ _ hb nbp,mP k4,nd2,by omega,λdm hk=>?_⟩
  have fm:H dm=none:=k4.free p4 hk
  walk_at "rd"
  have k5:Keep p H (upd H4 dm (.dK (kB mates))):=k4.trans (Keep.new hk)
  have p5:(upd H4 dm (.dK (kB mates))) p=some (.ins t.C_Book dx (Cc "ranks" (.ref dr) (Cc "kinds" (.ref dk) []))):=by rw[Bj (Bz p4 hk)];exact p4
  have e5:(upd H4 dm (.dK (kB mates))) dk=some (.dK (kK signs++kM mates)):=by rw[Bj (Bz e4 hk)];exact e4
  have r5:(upd H4 dm (.dK (kB mates))) dr=some (.dK (kR signs)):=by rw[Bj (Bz r4 hk)];exact r4
  have m5:(upd H4 dm (.dK (kB mates))) dm=some (.dK (kB mates)):=Bn
  generalize upd H4 dm (.dK (kB mates))=H5 at k5 p5 e5 r5 m5
  refine⟨p,_,_,_,rfl,p5,T.cl_Book,T.n_Book_mates,Nat.lt_of_le_of_lt (Fc _ _ _) (Nat.lt_of_le_of_lt (succ_le_succ (Fc _ _ _)) (by show 0+1+1<1000;decide)),?_⟩
  have k6:Keep p H (upd H5 p (.ins t.C_Book dx (Cc "mates" (.ref dm) (Cc "ranks" (.ref dr) (Cc "kinds" (.ref dk) []))))):=k5.trans Keep.put
  have p6:(upd H5 p (.ins t.C_Book dx (Cc "mates" (.ref dm) (Cc "ranks" (.ref dr) (Cc "kinds" (.ref dk) []))))) p=some (.ins t.C_Book dx (Cc "mates" (.ref dm) (Cc "ranks" (.ref dr) (Cc "kinds" (.ref dk) [])))):=Bn
  have e6:(upd H5 p (.ins t.C_Book dx (Cc "mates" (.ref dm) (Cc "ranks" (.ref dr) (Cc "kinds" (.ref dk) []))))) dk=some (.dK (kK signs++kM mates)):=by rw[Bj (Fg e5 p5 (by intro z;cases z))];exact e5
  have r6:(upd H5 p (.ins t.C_Book dx (Cc "mates" (.ref dm) (Cc "ranks" (.ref dr) (Cc "kinds" (.ref dk) []))))) dr=some (.dK (kR signs)):=by rw[Bj (Fg r5 p5 (by intro z;cases z))];exact r5
  have m6:(upd H5 p (.ins t.C_Book dx (Cc "mates" (.ref dm) (Cc "ranks" (.ref dr) (Cc "kinds" (.ref dk) []))))) dm=some (.dK (kB mates)):=by rw[Bj (Fg m5 p5 (by intro z;cases z))];exact m5
  generalize upd H5 p (.ins t.C_Book dx (Cc "mates" (.ref dm) (Cc "ranks" (.ref dr) (Cc "kinds" (.ref dk) []))))=H6 at k6 p6 e6 r6 m6
  walk_at "rd"
  refine⟨p,_,_,_,_,rfl,p6,T.cl_Book,T.n_Book_kinds,by rw[Cz,if_neg (by decide +kernel),Cz,if_neg (by decide +kernel),Cz,if_pos rfl],?_⟩
  walk_at "rd"
  refine⟨dk,cc,_,zs,J,rfl,e6,k6 _ _ hc ncp,mJ k6,jo,λdp kvs H7 hk s7 q7 lk7=>?_⟩
  have fp:H dp=none:=k6.free p6 hk
  walk_at "rd"
  have k7:Keep p H H7:=λq' o e n=>s7 _ _ (k6 _ _ e n)
  have p7:=s7 _ _ p6
  have e7:=s7 _ _ e6
  have r7:=s7 _ _ r6
  have m7:=s7 _ _ m6
  clear k6 p6 e6 r6 m6 s7
  refine⟨p,_,_,_,rfl,p7,T.cl_Book,T.n_Book_pairs,Nat.lt_of_le_of_lt (Fc _ _ _) (Nat.lt_of_le_of_lt (succ_le_succ (Nat.le_trans (Fc _ _ _) (succ_le_succ (Fc _ _ _)))) (by show 0+1+1+1<1000;decide)),?_⟩
  have k8:Keep p H (upd H7 p (.ins t.C_Book dx (Cc "pairs" (.ref dp) (Cc "mates" (.ref dm) (Cc "ranks" (.ref dr) (Cc "kinds" (.ref dk) [])))))):=k7.trans Keep.put
  have p8:(upd H7 p (.ins t.C_Book dx (Cc "pairs" (.ref dp) (Cc "mates" (.ref dm) (Cc "ranks" (.ref dr) (Cc "kinds" (.ref dk) [])))))) p=some (.ins t.C_Book dx (Cc "pairs" (.ref dp) (Cc "mates" (.ref dm) (Cc "ranks" (.ref dr) (Cc "kinds" (.ref dk) []))))):=Bn
  have e8:(upd H7 p (.ins t.C_Book dx (Cc "pairs" (.ref dp) (Cc "mates" (.ref dm) (Cc "ranks" (.ref dr) (Cc "kinds" (.ref dk) [])))))) dk=some (.dK (kK signs++kM mates)):=by rw[Bj (Fg e7 p7 (by intro z;cases z))];exact e7
  have r8:(upd H7 p (.ins t.C_Book dx (Cc "pairs" (.ref dp) (Cc "mates" (.ref dm) (Cc "ranks" (.ref dr) (Cc "kinds" (.ref dk) [])))))) dr=some (.dK (kR signs)):=by rw[Bj (Fg r7 p7 (by intro z;cases z))];exact r7
  have m8:(upd H7 p (.ins t.C_Book dx (Cc "pairs" (.ref dp) (Cc "mates" (.ref dm) (Cc "ranks" (.ref dr) (Cc "kinds" (.ref dk) [])))))) dm=some (.dK (kB mates)):=by rw[Bj (Fg m7 p7 (by intro z;cases z))];exact m7
  have q8:(upd H7 p (.ins t.C_Book dx (Cc "pairs" (.ref dp) (Cc "mates" (.ref dm) (Cc "ranks" (.ref dr) (Cc "kinds" (.ref dk) [])))))) dp=some (.dK kvs):=by rw[Bj (Fg q7 p7 (by intro z;cases z))];exact q7
  have lk8:LAt KvAt (upd H7 p (.ins t.C_Book dx (Cc "pairs" (.ref dp) (Cc "mates" (.ref dm) (Cc "ranks" (.ref dr) (Cc "kinds" (.ref dk) [])))))) kvs J:=lk7.mono λx y h=>h.mono λq' zs z=>by rw[Bj (Fg z p7 (by intro z;cases z))];exact z
  generalize upd H7 p (.ins t.C_Book dx (Cc "pairs" (.ref dp) (Cc "mates" (.ref dm) (Cc "ranks" (.ref dr) (Cc "kinds" (.ref dk) [])))))=H8 at k8 p8 e8 r8 m8 q8 lk8
  clear k7 p7 e7 r7 m7 q7 lk7
  walk_at "rd"
  refine⟨p,_,_,_,_,rfl,p8,T.cl_Book,T.n_Book_pairs,by rw[Cz,if_pos rfl],?_⟩
  walk_at "rd"
  refine⟨dp,kvs,J,rfl,q8,lk8,jo.np,jo.ln,λdw H9 hk s9 w9=>?_⟩
  have fw:H dw=none:=k8.free p8 hk
  walk_at "rd"
  have p9:=s9 _ _ p8
  refine⟨p,_,_,_,rfl,p9,T.cl_Book,T.n_Book_wholes,Nat.lt_of_le_of_lt (Fc _ _ _) (Nat.lt_of_le_of_lt (succ_le_succ (Nat.le_trans (Fc _ _ _) (succ_le_succ (Nat.le_trans (Fc _ _ _) (succ_le_succ (Fc _ _ _)))))) (by show 0+1+1+1+1<1000;decide)),?_⟩
  refine q _ kvs dx dk dr dm dp dw (λq' o e n=>by rw[Bj n];exact s9 _ _ (k8 _ _ e n)) fk fr' fm fp fw Bn ?_ ?_ ?_ ?_ ?_ ?_
  ·rw[Bj (Fg e8 p8 (by intro z;cases z))];exact s9 _ _ e8
  ·rw[Bj (Fg r8 p8 (by intro z;cases z))];exact s9 _ _ r8
  ·rw[Bj (Fg m8 p8 (by intro z;cases z))];exact s9 _ _ m8
  ·rw[Bj (Fg q8 p8 (by intro z;cases z))];exact s9 _ _ q8
  ·rw[Bj (Fg w9 p9 (by intro z;cases z))];exact w9
  ·exact lk8.mono λx y h=>h.mono λq' zs z=>by rw[Bj (Fg z p8 (by intro z;cases z))];exact s9 _ _ z
local macro_rules | `(tactic| walk_at "u")=>`(tactic| with_reducible refine AeP (by assumption) ?_)
local macro_rules | `(tactic| walk_at "u")=>`(tactic| with_reducible refine Zq (by assumption) Zz ?_)
theorem Ag1(T:Txt K mg t):Binds K t.d_qbf ["self","sign"] []:=T.F_qbf.binds (by walk_at "b2")
theorem Ae5(T:Txt K mg t):FnOk P w K mg base CX0 2 t.f_qbf t.d_qbf ["self","sign"] (Wt t.C_Book):=by
 refine T.F_qbf.ok Ak4 (λvs H Q E h=>?_) (λcdv A outer s H vs Q E hr h=>?_)
 ·obtain⟨b,n,k,r,m,p,w,rfl,⟨dx,dk,dr,dm,dp,dw,h1,h2,h3,h4,h5,h6⟩,q⟩:=h
  rfl
 ·obtain⟨b,n,k,r,m,p,w,rfl,⟨dx,dk,dr,dm,dp,dw,h1,h2,h3,h4,h5,h6⟩,q⟩:=h
  have hu:=Cq hr
  have hu64:=hr.units
  refine⟨_,(Bi (Cg (Bp (Yp T) (hr.mono (by decide)) rfl T.m_qx T.F_qx.kp (AcH T) .nil Bw (Ba (Vr (pv 0) rfl) (Ba (pv 1) Be))))),?_⟩
  try dsimp only [Cm,Cb]
  walk_at "rd"
  refine⟨b,_,_,_,_,rfl,h1,T.cl_Book,T.n_Book_kinds,AeB,?_⟩
  walk_at "rd"
  exact q
local macro_rules | `(tactic| walk_at "u")=>`(tactic| with_reducible refine u_sp_mate (by assumption) ?_)
local macro_rules | `(tactic| walk_at "u")=>`(tactic| with_reducible refine Zq (by assumption) Aaq ?_)
theorem Am7(T:Txt K mg t):Binds K t.d_qbg ["self","sign"] []:=T.F_qbg.binds (by walk_at "b2")
theorem Amt(T:Txt K mg t):FnOk P w K mg base CX0 1 t.f_qbg t.d_qbg ["self","sign"] (AbE t.C_Book):=by
 refine T.F_qbg.ok AlR (λvs H Q E h=>?_) (λcdv A outer s H vs Q E hr h=>?_)
 ·obtain⟨b,n,k,r,m,p,w,rfl,⟨dx,dk,dr,dm,dp,dw,h1,h2,h3,h4,h5,h6⟩,q⟩:=h
  rfl
 ·obtain⟨b,n,k,r,m,p,w,rfl,⟨dx,dk,dr,dm,dp,dw,h1,h2,h3,h4,h5,h6⟩,q⟩:=h
  have hu:=Cq hr
  have hu64:=hr.units
  refine⟨_,(Bi (Cg (Afp hu (Vr (pv 0) rfl) (pv 1) ⟨rfl,rfl,rfl,rfl⟩))),?_⟩
  try dsimp only [Cm,Cb]
  walk_at "rd"
  refine⟨b,_,_,_,_,rfl,h1,T.cl_Book,T.n_Book_mates,Afc,?_⟩
  walk_at "rd"
  exact q
def AeH(K:Frag)(C:Addr):Sp:=λvs H Q _=>∃b l U M r m p w ts,vs=[.ref b,.ref l]/\BookAt C H b (kK U++kM M) r m p w/\SqL K H l (map V.int ts)/\ts.length<=300 /\
 ∀(wl:Addr) (xs:List V) (H':Hp),H wl=none->Same H H'->(∀x∈xs,∃p,x=V.ref p/\H p=none)->LLat H' wl xs (grp (Cj U M) ts)->Q (.ref wl) H'
-- EU_WOF
def AjE:PSp:=λps P=>∃U M J ts,ps=[.bk U M J,.lst (map .int ts)]/\ts.length<=300/\P (.lst (map (λg=>PV.lst (map .int g)) (grp (Cj U M) ts)))
theorem Aer{C:Addr}{ω:Om}{E:XK}{m n:Bool}{t:TA}{u:UA}(ha:AU K C ω [m,n] t u):EU K C ω (Rz (AeH K C) [] E t) (Wa AjE u) :=
 λB G0 H0 own G σ H ρ P Q S hu k=>ha B G0 H0 own G σ H ρ _ _ S hu λvs ps G1 H1 w1 ok ⟨U,M,J,ts,e,hl,h⟩=>by
  obtain⟨v,w,p,q,rfl,e2,r1,r2⟩:=Sa ok
  rw[e] at e2;cases e2
  obtain⟨b,kvs,rfl,bk,_⟩:=r1.bk
  obtain⟨a,xs,rfl,ea,l⟩:=r2.lst w1.i
  rw[Ta l] at ea
  refine⟨b,a,U,M,_,_,_,_,ts,rfl,bk.mono λ_ _ e _=>w1.i _ _ e,SqL.of ea,hl,λwl xs H2 hwl s2 fx ll=>?_⟩
  refine k _ _ _ H2 (w1.trans (Nz w1.i s2)) (Rep.ofL (Fk hwl ll.li) ⟨by rw[ll.at'.1,length_map],λi x y hx hy=>?_⟩) h
  rw[getElem?_map] at hy
  obtain⟨g,hg,rfl⟩:=map_eq_some_iff.mp hy
  obtain⟨p,e1,hp⟩:=ll.at'.2 i x g hx hg
  obtain⟨p',e2,hn⟩:=fx x (mem_of_getElem? hx)
  subst e1
  cases e2
  exact Rep.ofL (Fk hn hp) (Fj g)
theorem Ag2(T:Txt K mg t):Binds K t.d_qbs ["book","text"] []:=T.F_qbs.binds (by walk_at "b2")
theorem Ade(T:Txt K mg t):FnOk P w K mg base CX0 3 t.f_qbs t.d_qbs ["book","text"] (AeH K t.C_Book):=by
 refine T.F_qbs.ok sc_qbs (λvs H Q E h=>?_) (λcdv A outer s H vs Q E hr h=>?_)
 ·obtain⟨b,l,U,M,r,m,pp,w,ts,rfl,hB,hT,hl,q⟩:=h
  rfl
 ·obtain⟨b,l,U,M,r,m,pp,w,ts,rfl,hB,hT,hl,q⟩:=h
  have hu:=Cq hr
  have hu64:=hr.units
  refine⟨_,(Bd (Bo (i:=2) sc_qbs.nd rfl (Or.inl rfl) (Db Be))
   (Bd (Dc PassesOwn.never rfl (Ct (pv 1)) (Bq (i:=3) sc_qbs.nd rfl (Or.inl rfl))
    (Bd (Dh (PW.pt (Vn (Cf Do (Cn (Lp) rfl T.z_len PySem.boot_len (Ba (pv 2) Be)) Bf (Ch _)) (Wb (Cf Yj (Xb (pv 0) T.cl_Book T.M_qbf (Ae5 T) (hr.mono (by decide)) (Ag1 T) .nil Bw (Ba (pv 3) Be)) By (Ch _)))))
    (Bi (Co (Fw plainAttrs_list PySem.F.slot_list_append PySem.F.type_list_append Da (pv 2) (Ba (Db Be) Be))))
    Cv)
   (Bi (Co (Fw plainAttrs_list PySem.F.slot_list_append PySem.F.type_list_append Da (Ci (Xd) (pv 2) (Rv Ou Bf) (λ_ _=>rfl)) (Ba (pv 3) Be))))))
   (Bi (Cg (pv 2))))),?_⟩
  try dsimp only [Cm,Cb]
  walk_at "rd"
  refine⟨by decide,λwl H0 hwl s0 e0=>?_⟩
  walk_at "rd"
  refine No (i:=1) rfl (s0.seq hT) (λi σ H'=>∃v3 xs,σ=[some (.ref b),some (.ref l),some (.ref wl),v3]/\Same H H'/\(∀x∈xs,∃p,x=V.ref p/\H p=none)/\LLat H' wl xs (grp (Cj U M) (ts.take i))) ⟨none,[],rfl,s0,(λx h=>by cases h),⟨e0,LAt.nil,nodup_nil,by simp⟩⟩ (λi σ H' _ ⟨_,_,_,s,_⟩=>s.seq hT) ?_ ?_
  ·rintro i x σ H' hi ⟨v3,xs,rfl,s,fx,ll⟩
   obtain⟨n,en,rfl⟩:=Zv hi
   have hlt:=(List.getElem?_eq_some_iff.mp en).1
   have eg:grp (Cj U M) (ts.take (i+1))=Nm (Cj U M) (grp (Cj U M) (ts.take i)) n:=by rw[Dj en,Aau]
   have hli:=ll.li
   have hxl:xs.length<=300:=by
    have:=(Gj (Cj U M) (ts.take i)).ln
    rw[<- ll.at'.1,length_take] at this
    omega
   have hB':=hB.mono (H':=H') λ_ _ e _=>s _ _ e
   walk_at "rd"
   refine Zh (λh=>?_) (λh=>?_)
   ·have hz:grp (Cj U M) (ts.take i)=[]\/Cj U M n=false:=.inl (List.eq_nil_of_length_eq_zero (by
     have h':((xs.length:Nat):Int)=0:=of_decide_eq_true h
     rw[<- ll.at'.1];omega))
    refine Lo ?_
    walk_at "rd"
    refine⟨by decide,λp H2 hp s2 e2=>?_⟩
    walk_at "rd"
    walk_at "rd"
    refine Jc (s2 _ _ hli) (Jh (by omega)) λH3 c3 e3=>?_
    have npw:p≠wl:=(Bz hli hp).symm
    have e2':=c3 _ _ e2 npw
    walk_at "rd"
    refine Yf (SqL.of e3) ?_ (Jy _ _)
    walk_at "rd"
    walk_at "rd"
    refine Jc e2' (by decide) λH4 c4 e4=>?_
    walk_at "rd"
    refine⟨_,_,rfl,((s.trans s2).chg c3 hwl).chg c4 (s.free hp),λx hx=>?_,by rw[eg,Os (by assumption)];exact ll.push hp s2 c3 e3 c4 e4⟩
    rcases mem_append.mp hx with w | w
    ·exact fx x w
    ·exact⟨p,mem_singleton.mp w,s.free hp⟩
   ·have h':¬((xs.length:Nat):Int)=0:=λz=>h (decide_eq_true z)
    walk_at "rd"
    rw[Ac2]
    walk_at "rd"
    refine Zh (λh2=>?_) (λh2=>?_)
    ·have hz:grp (Cj U M) (ts.take i)=[]\/Cj U M n=false:=.inr (by
      unfold Cj
      simpa using h2)
     walk_at "rd"
     refine⟨by decide,λp H2 hp s2 e2=>?_⟩
     walk_at "rd"
     walk_at "rd"
     refine Jc (s2 _ _ hli) (Jh (by omega)) λH3 c3 e3=>?_
     have npw:p≠wl:=(Bz hli hp).symm
     have e2':=c3 _ _ e2 npw
     walk_at "rd"
     refine Yf (SqL.of e3) ?_ (Jy _ _)
     walk_at "rd"
     walk_at "rd"
     refine Jc e2' (by decide) λH4 c4 e4=>?_
     walk_at "rd"
     refine⟨_,_,rfl,((s.trans s2).chg c3 hwl).chg c4 (s.free hp),λx hx=>?_,by rw[eg,Os (by assumption)];exact ll.push hp s2 c3 e3 c4 e4⟩
     rcases mem_append.mp hx with w | w
     ·exact fx x w
     ·exact⟨p,mem_singleton.mp w,s.free hp⟩
    ·have hm:Cj U M n=true:=by
      unfold Cj
      simpa using h2
     obtain⟨xs',p,gs',g,rfl,eg',hp⟩:=ll.last (λz=>h' (by rw[ll.at'.1,z];rfl))
     rw[eg'] at ll eg
     have hgl:g.length<=300:=by
      have z:=(Gj (Cj U M) (ts.take i)).fl
      rw[eg'] at z
      have:=congrArg length z
      simp at this
      omega
     walk_at "rd"
     refine Yf (SqL.of hli) ?_ (Jy _ _)
     walk_at "rd"
     walk_at "rd"
     refine Jc hp (Jh (by rw[length_map];omega)) λH4 c4 e4=>?_
     walk_at "rd"
     have fp:H p=none:=by
      obtain⟨p',e,z⟩:=fx _ (mem_append_right _ mem_cons_self)
      cases e;exact z
     exact⟨_,_,rfl,s.chg c4 fp,fx,by rw[eg,Rs hm];exact ll.add c4 e4⟩
  ·rintro σ H' ⟨v3,xs,rfl,s,fx,ll⟩
   rw[length_map,take_length] at ll
   walk_at "rd"
   exact q wl xs H' hwl s fx ll
def AkC:PSp:=λps P=>∃U M J n r,ps=[.bk U M J,.lst (map .int (n::r))]/\P (.str (knW U M (n::r)))
theorem Akn(T:Txt K mg t):Binds K t.d_qc ["book","whole"] []:=T.F_qc.binds (by walk_at "b2")
theorem Aig(T:Txt K mg t):FnOk P w K mg base CX0 3 t.f_qc t.d_qc ["book","whole"] (spOf K t.C_Book [false,false] .sh AkC):=by
 refine T.F_qc.ok sc_qc (λvs H Q E h=>h.len) (λcdv A outer s H vs Q E hr h=>?_)
 have hu:=Cq hr
 have hu64:=hr.units
 refine⟨_,(Bd (Bo (i:=2) sc_qc.nd rfl (Or.inl rfl) (Xb (pv 0) T.cl_Book T.M_qbf (Ae5 T) (hr.mono (by decide)) (Ag1 T) .nil Bw (Ba (Ci (Cp K) (pv 1) Bf (λ_ _=>rfl)) Be)))
   (Bd (Dh (Cf Do (pv 2) By (Ch _))
    (Bi (Cg By))
    Cv)
   (Bi (Cg (pv 2))))),?_⟩
 try dsimp only [Cm,Cb]
 refine Cu h (by decide) (Bl (Bx (AiY Bc (EU.eb (Dd Bc (EU.eb Bg)))))
   (Bl (Dr (Cy (EU.eb (Fe Bc (EU.eb Cl))))
    (Dz Cl)
    Dg)
   (Dz Br))) (λps P hp=>?_)
 clear h hu hu64 hr
 obtain⟨U,M,J,n,r,rfl,q⟩:=hp
 walk_at "s"
 ext
 refine Fh (l:=n::r) (j:=0) (a:=n) rfl rfl ?_
 ext
 refine Zh (λh=>?_) (λh=>?_)
 ·ext
  have e:knW U M (n::r)="plain":=if_pos h
  rw[e] at q
  exact q
 ·ext
  have e:knW U M (n::r)=De U M n:=if_neg h
  rw[e] at q
  exact q
def Adw:PSp:=λps P=>∃U M J ts,ps=[.bk U M J,.lst (map .int ts)]/\ts.length<=300/\P (.lst (map (λw=>PV.str (knW U M w)) (grp (Cj U M) ts)))
theorem Ahp(T:Txt K mg t):Binds K t.d_qbu ["book","text"] []:=T.F_qbu.binds (by walk_at "b2")
theorem Aei(T:Txt K mg t):FnOk P w K mg base CX0 4 t.f_qbu t.d_qbu ["book","text"] (spOf K t.C_Book [false,false] .fr Adw):=by
 refine T.F_qbu.ok Ak8 (λvs H Q E h=>h.len) (λcdv A outer s H vs Q E hr h=>?_)
 have hu:=Cq hr
 have hu64:=hr.units
 refine⟨_,(Bi (Cg (Jq 1 [0] ["whole","book"] ["book"] rfl (Ct (Bp (Ade T) (hr.mono (by decide)) rfl T.m_qbs T.F_qbs.kp (Ag2 T) .nil Bw (Ba (pv 0) (Ba (pv 1) Be)))) rfl (λj y e1 i e2=>match j,e1,e2 with | 0,e1,e2=>by cases e1;cases e2;exact⟨rfl,rfl,rfl,by decide +kernel⟩ | _+1,_,e2=>by simp at e2) (forall_mem_cons.mpr ⟨rfl,λ_ h=>nomatch h⟩) (by decide +kernel) (λ_ _ _ _=>(Bq (i:=0) (show Nodup (["whole","book"]:List Str) by decide +kernel) rfl (Or.inl rfl))) (λ_ _ _ _=>Gz) (λ_ _ _ _=>(Bp (Aig T) (hr.mono (by decide)) rfl T.m_qc T.F_qc.kp (Akn T) .nil Bw (Ba (pv 1) (Ba (pv 0) Be)))) rfl (by decide +kernel) rfl (by decide +kernel)))),?_⟩
 try dsimp only [Cm,Cb]
 refine Cu h (by decide) (On (Gx (EU.eb (Aer (Bt Bc (Bt Bc Bk)))) (Ca (top:=1)) Ji (Fr (Bt Bc (Bt Bc Bk))))) (λps P hp=>?_)
 clear h hu hu64 hr
 obtain⟨U,M,J,ts,rfl,hl,q⟩:=hp
 walk_at "s"
 have gl:=(Gj (Cj U M) ts).ln
 ext
 refine⟨U,M,J,ts,rfl,hl,?_⟩
 ext
 walk_at "md"
 refine Fq (f:=λw:List Int=>some (.str (knW U M w))) ?_ (λd hd Z hZ=>?_)
 rotate_left
 ·obtain⟨n,r,rfl,hr⟩:=(Gj (Cj U M) ts).ne d hd
  ext
  refine⟨U,M,J,n,r,rfl,?_⟩
  exact hZ
 rw[show (grp (Cj U M) ts).filterMap (λw=>some (PV.str (knW U M w)))=(grp (Cj U M) ts).map λw=>PV.str (knW U M w) from congrFun (List.filterMap_eq_map (f:=λw=>PV.str (knW U M w))) _]
 exact q
theorem Sb{C:Addr}{G:Hp}(T:Txt K mg t):Rep K C G (.ref t.a_BEGINNINGS) (.ctp [.str "forein",.str "backin"]):=.ctp T.q_BEGINNINGS rfl λi v p h1 h2=>by
 match i,h1,h2 with
 | 0,h1,h2=>cases h1;cases h2;exact .str _
 | 1,h1,h2=>cases h1;cases h2;exact .str _
 | _+2,h1,_=>simp at h1
theorem AmX(T:Txt K mg t):Binds K t.d_qby ["book","text"] []:=T.F_qby.binds (by walk_at "b2")
theorem Amr(T:Txt K mg t):FnOk P w K mg base CX0 5 t.f_qby t.d_qby ["book","text"] (spOf K t.C_Book [false,false] .sh Aku):=by
 refine T.F_qby.ok sc_qby (λvs H Q E h=>h.len) (λcdv A outer s H vs Q E hr h=>?_)
 have hu:=Cq hr
 have hu64:=hr.units
 refine⟨_,(Bd (Bo (i:=2) sc_qby.nd rfl (Or.inl rfl) Bf)
   (Bd (Dc PassesOwn.never rfl (Ct (Bp (Aei T) (hr.mono (by decide)) rfl T.m_qbu T.F_qbu.kp (Ahp T) .nil Bw (Ba (pv 0) (Ba (pv 1) Be)))) (Bq (i:=3) sc_qby.nd rfl (Or.inl rfl))
    (Bi (Dh (Cf (Ju K) (pv 3) (Oh (v:=.ref t.a_BEGINNINGS) rfl T.g_BEGINNINGS rfl) rfl)
    (Bi (Aex (i:=2) sc_qby.nd rfl (Or.inl rfl) Bf AeU))
    (Bi (Dh (Cf Do (pv 3) By (Ch _))
    (Bi (Bo (i:=2) sc_qby.nd rfl (Or.inl rfl) (Cn (Xp rfl) rfl T.z_max boot_max (Ba Bf (Ba (Bv Nq (pv 2) Bf) Be)))))
    (Bi (Dh (PW.pt (So (Cf Do (pv 2) Bf (Ch _)) (Rf (Cf Do (pv 3) By (Ch _)))))
    (Bi (Cg Bf))
    (Bi (Dh (PW.pt (So (Cf Do (pv 2) Bf (Ch _)) (Rf (Cf Do (pv 3) By (Ch _)))))
    (Bi (Cg Bf))
    Cv)))))))))
   (Bi (Cg Bf)))),?_⟩
 try dsimp only [Cm,Cb]
 refine Cu h (by decide) (Bl (Bx Bg)
   (Bl (Qs (EF.eu (Dl (Bt Bc (Bt Bc Bk)))) (Ca (top:=4))
    (Dr (Cy (EU.eb (Tk Br (EU.eb (Ul λG=>Sb T)))))
    (Aep (EU.eb Bg))
    (Dr (Cy (EU.eb (Fe Bc (EU.eb Cl))))
    (Bx (AdT (Bt (EU.eb Bg) (Bt (EU.eb (Dk (λ_ _ _=>.int _) Bc (EU.eb Bg))) Bk))))
    (Dr (Vz (Cy (EU.eb (Fe Bc (EU.eb Bg)))) (Cy (EU.eb (Fe Bc (EU.eb Cl)))))
    (Dz Bg)
    (Dr (Vz (Cy (EU.eb (Fe Bc (EU.eb Bg)))) (Cy (EU.eb (Fe Bc (EU.eb Cl)))))
    (Dz Bg)
    Dg)))))
   (Dz Bg))) (λps P hp=>?_)
 clear h hu hu64 hr
 obtain⟨U,M,J,ts,rfl,hl,q⟩:=hp
 walk_at "s"
 ext
 refine⟨U,M,J,ts,rfl,hl,?_⟩
 rw[show (map (λw=>PV.str (knW U M w)) (grp (Cj U M) ts))=(knL U M ts).map .str by unfold knL;rw[map_map];rfl]
 generalize knL U M ts=kn at q
 ext
 refine⟨λk ρ=>∃(d:Nat) (v3:Sl),ρ=[.bo (.bk U M J),.bo (.lst (map .int ts)),.sh (.int d),v3]/\obF d (kn.drop k)=obF 0 kn,⟨0,_,rfl,rfl⟩,?_,?_⟩
 ·rintro k p ρ hp ⟨d,v3,rfl,ho⟩
  rw[getElem?_map] at hp
  obtain⟨w,hk,rfl⟩:=map_eq_some_iff.mp hp
  have hkl:k<kn.length:=(List.getElem?_eq_some_iff.mp hk).1
  have ed:kn.drop k=w::kn.drop (k+1):=by
   rw[drop_eq_getElem_cons hkl]
   rw[getElem?_eq_getElem hkl] at hk
   rw[Option.some.inj hk]
  rw[ed,obF] at ho
  ext
  refine Aal (L:=bgK) (x:=w) ?_
  ext
  by_cases h1:w∈bgK
  ·rw[decide_eq_true h1]
   rw[if_pos h1] at ho
   ext
   exact⟨d+1,_,by rw[Int.natCast_add];rfl,ho⟩
  rw[decide_eq_false h1]
  rw[if_neg h1] at ho
  ext
  by_cases h2:w="out"
  ·rw[decide_eq_true h2]
   rw[if_pos h2] at ho
   ext
   refine⟨d - 1,.sh (.str w),?_,ho⟩
   have ez:(if (d:Int) - 1>0 then (d:Int) - 1 else 0)=((d - 1:Nat):Int):=by split <;> omega
   have ez2:max (0:Int) ((d:Int) - 1)=((d - 1:Nat):Int):=by omega
   first | rw[ez] | rw[ez2] | (rw[show (if (0:Int)<(d:Int) - 1 then (d:Int) - 1 else 0)=((d - 1:Nat):Int) from ez])
  rw[decide_eq_false h2]
  rw[if_neg h2] at ho
  ext
  by_cases hd:d=0
  ·rw[decide_eq_true (by omega)]
   subst hd
   ext
   by_cases hb:w="back"
   ·rw[decide_eq_true hb]
    rw[if_pos ⟨rfl,hb⟩] at ho
    ext
    rw[<- ho] at q
    exact q
   rw[decide_eq_false hb]
   rw[if_neg (λz=>hb z.2)] at ho
   ext
   rw[decide_eq_true (show ((0:Nat):Int)=0 from rfl)]
   ext
   by_cases hb2:w="fore"
   ·rw[decide_eq_true hb2]
    rw[if_pos ⟨rfl,hb2⟩] at ho
    ext
    rw[<- ho] at q
    exact q
   rw[decide_eq_false hb2]
   rw[if_neg (λz=>hb2 z.2)] at ho
   ext
   exact⟨0,_,rfl,ho⟩
  ·rw[decide_eq_false (by omega)]
   rw[if_neg (λz=>hd z.1),if_neg (λz=>hd z.1)] at ho
   ext
   rw[decide_eq_false (by omega)]
   ext
   exact⟨d,_,rfl,ho⟩
 rintro ρ ⟨d,v3,rfl,ho⟩
 rw[length_map,drop_length,obF] at ho
 ext
 rw[<- ho] at q
 exact q
def opP:Option Int->PV
 | none=>.non
 | some l=>.int l
def Al5:PSp:=λps P=>∃k l m,ps=[.str k,.int l,.int m]/\P (opP (lvF k l m))
theorem Aos(T:Txt K mg t):Binds K t.d_qk ["kind","level","most"] []:=T.F_qk.binds (by walk_at "b3")
theorem Anh(T:Txt K mg t):FnOk P w K mg base CX0 1 t.f_qk t.d_qk ["kind","level","most"] (spOf K t.C_Book [false,false,false] .sh Al5):=by
 refine T.F_qk.ok sc_qk (λvs H Q E h=>h.len) (λcdv A outer s H vs Q E hr h=>?_)
 have hu:=Cq hr
 have hu64:=hr.units
 refine⟨_,(Bd (Bo (i:=3) sc_qk.nd rfl (Or.inl rfl) (Jd (Cf Do (pv 0) By (Ch _)) Bf Bf))
   (Bd (Bo (i:=4) sc_qk.nd rfl (Or.inl rfl) (Bv Fm (pv 1) Bf))
   (Bd (Dh (Cf Yj (Bv Dq (pv 4) Bf) (pv 3) (Ch _))
    (Bi (Aex (i:=4) sc_qk.nd rfl (Or.inl rfl) Bf AeU))
    Cv)
   (Bi (Cg (Jd (Cf AnG (pv 4) (pv 2) (Ch _)) (pv 4) Zw)))))),?_⟩
 try dsimp only [Cm,Cb]
 refine Cu h (by decide) (Bl (Bx (Oc (Cy (EU.eb (Fe Bc (EU.eb Cl)))) Bg Bg))
   (Bl (Bx (Dk (λ_ _ _=>.int _) Bc (EU.eb Bg)))
   (Bl (Dr (Cy (EU.eb (Ab1 (EU.eb (Cw (λ_ _ _=>.int _) Bc (EU.eb Bg))) Bc)))
    (Aep (EU.eb Bg))
    Dg)
   (Dz (Oc (Cy (EU.eb (Dk (λ_ _ _=>.bl _) Bc Bc))) Br Zs))))) (λps P hp=>?_)
 clear h hu hu64 hr
 obtain⟨k,l,m,rfl,q⟩:=hp
 walk_at "s"
 ext1
 refine Og (λρ=>ρ=[.bo (.str k),.bo (.int l),.bo (.int m),.sh (.int (if k="forein" then 0 else 1)),.un]) (λρ h=>?_) ?_
 rotate_left
 ·ext
  by_cases h1:k="forein"
  ·rw[decide_eq_true h1,if_pos h1]
   ext
   exact .inl rfl
  ·rw[decide_eq_false h1,if_neg h1]
   ext
   exact .inl rfl
 subst h
 unfold lvF at q
 generalize (if k="forein" then (0:Int) else 1)=r at q
 ext1
 refine Jg ?_
 ext1
 refine Og (λρ=>ρ=[.bo (.str k),.bo (.int l),.bo (.int m),.sh (.int r),.sh (.int (if (l+1)%2=r then l+1 else l+2))]) (λρ h=>?_) ?_
 rotate_left
 ·ext
  all_goals try decide
  by_cases h1:(l+1)%2=r
  ·rw[decide_eq_true h1,if_pos h1]
   ext
   exact .inl rfl
  ·rw[decide_eq_false h1,if_neg h1]
   ext
   exact .inl (by rw[Int.add_assoc];rfl)
 subst h
 generalize (if (l+1)%2=r then l+1 else l+2)=z at q
 ext
 by_cases h1:z<=m
 ·rw[decide_eq_true h1]
  rw[if_pos h1] at q
  ext
  exact q
 ·rw[decide_eq_false h1]
  rw[if_neg h1] at q
  ext
  exact q
def nPn(L n:Nat)(x:Nst):PV:=.tup [.int x.1,.int (if x.2.1<n then x.2.1 else L:Nat),opP x.2.2]
def nP(x:Nst):PV:=.tup [.int x.1,.int x.2.1,opP x.2.2]
theorem Tx{n j:Nat}(h:j<n):ixN n (j:Int)=some j:=by
 unfold ixN
 rw[if_pos (show (0:Int)<=(j:Int) by omega),if_pos (show (j:Int)<(n:Int) by omega),toNat_natCast]
theorem Ae9{L n:Nat}{D:List Nst}(h:∀x∈D,x.2.1=n->False):D.map (nPn L n)=D.map (nPn L (n+1)):=List.map_congr_left λx hx=>by
 unfold nPn
 have:¬x.2.1=n:=h x hx
 by_cases z:x.2.1<n
 ·rw[if_pos z,if_pos (by omega)]
 ·rw[if_neg z,if_neg (by omega)]
theorem Ajp{kn:List Str}{b m:Int}{L n:Nat}{s:Nat×Nst}(hs:(dF kn b m n)[s.1]? = some s.2)(es:s.2.2.1=n)(one:∀x∈dF kn b m n,x.2.1=n->x=s.2) :
  ((dF kn b m n).map λx:Nst=>PV.tup [.int x.1,.int (if x.2.1<n then x.2.1 else L:Nat),opP x.2.2]).set s.1 (.tup [.int s.2.1,.int n,opP s.2.2.2])=(dF kn b m n).map (nPn L (n+1)):=by
 refine ext_getElem? λi=>?_
 rw[getElem?_set,getElem?_map,getElem?_map,length_map]
 by_cases z:s.1=i
 ·subst z
  have:=(List.getElem?_eq_some_iff.mp hs).1
  rw[if_pos rfl,if_pos this,hs]
  show _=some (PV.tup [.int s.2.1,.int ((if s.2.2.1<n+1 then s.2.2.1 else L:Nat):Int),opP s.2.2.2])
  rw[if_pos (show s.2.2.1<n+1 by omega),es]
 ·rw[if_neg z]
  cases e:(dF kn b m n)[i]? with
  | none=>rfl
  | some x =>
   have ne:¬x.2.1=n:=λh=>by
    have:=one x (mem_of_getElem? e) h
    subst this
    exact z (Aks hs e rfl)
   show some (PV.tup [.int x.1,.int ((if x.2.1<n then x.2.1 else L:Nat):Int),opP x.2.2])=some (PV.tup [.int x.1,.int ((if x.2.1<n+1 then x.2.1 else L:Nat):Int),opP x.2.2])
   by_cases w:x.2.1<n
   ·rw[if_pos w,if_pos (by omega)]
   ·rw[if_neg w,if_neg (by omega)]
def wP(w:Nat×Int):PV:=.tup [.int w.1,.int w.2]
def Aja:PSp:=λps P=>∃U M J ts b m,ps=[.bk U M J,.lst (map .int ts),.int b,.int m]/\ts.length<=300/\P (.lst ((dF (knL U M ts) b m (knL U M ts).length).map nP))
theorem AmL(T:Txt K mg t):Binds K t.d_qbx ["book","text","base","most"] [t.v_nests_of_0]:=T.F_qbx.binds 3 rfl λ_ _ _ _ _ _ us hl=>match us,hl with | [_,_,_],_=>⟨_,rfl,rfl⟩
theorem Acl(T:Txt K mg t):Binds K t.d_qbx ["book","text","base","most"] []:=T.F_qbx.binds 4 rfl λ_ _ _ _ _ _ us hl=>match us,hl with | [_,_,_,_],_=>⟨_,rfl,rfl⟩
theorem AaG(T:Txt K mg t):FnOk P w K mg base CX0 5 t.f_qbx t.d_qbx ["book","text","base","most"] (spOf K t.C_Book [false,false,true,false] .fr Aja):=by
 refine T.F_qbx.ok sc_qbx (λvs H Q E h=>h.len) (λcdv A outer s H vs Q E hr h=>?_)
 have hu:=Cq hr
 have hu64:=hr.units
 refine⟨_,(Bd (Bo (i:=4) sc_qbx.nd rfl (Or.inl rfl) (Bp (Aei T) (hr.mono (by decide)) rfl T.m_qbu T.F_qbu.kp (Ahp T) .nil Bw (Ba (pv 0) (Ba (pv 1) Be))))
   (Bd (Bo (i:=5) sc_qbx.nd rfl (Or.inl rfl) (Db Be))
   (Bd (Bo (i:=6) sc_qbx.nd rfl (Or.inl rfl) (Db Be))
   (Bd (Bo (i:=7) sc_qbx.nd rfl (Or.inl rfl) (pv 2))
   (Bd (Dc PassesOwn.never rfl (Ri (pv 4) rfl T.z_enumerate) (Fy (K':=K) (n:=2) rfl rfl (Ce (Bq (i:=8) sc_qbx.nd rfl (Or.inl rfl)) (Ce (Bq (i:=9) sc_qbx.nd rfl (Or.inl rfl)) Fa)))
    (Bi (Dh (Cf (Ju K) (pv 9) (Oh (v:=.ref t.a_BEGINNINGS) rfl T.g_BEGINNINGS rfl) rfl)
    (Bd (Co (Fw plainAttrs_list PySem.F.slot_list_append PySem.F.type_list_append Da (pv 6) (Ba (Ft (Ba (Cn (Ck K) rfl T.z_len PySem.boot_len (Ba (pv 5) Be)) (Ba (pv 7) Be))) Be)))
   (Bd (Bo (i:=10) sc_qbx.nd rfl (Or.inl rfl) (Bp (Anh T) (hr.mono (by decide)) rfl T.m_qk T.F_qk.kp (Aos T) .nil Bw (Ba (pv 9) (Ba (pv 7) (Ba (pv 3) Be)))))
   (Bd (Co (Fw plainAttrs_list PySem.F.slot_list_append PySem.F.type_list_append Da (pv 5) (Ba (Ft (Ba (pv 8) (Ba (Cn (Ck K) rfl T.z_len PySem.boot_len (Ba (pv 4) Be)) (Ba (pv 10) Be)))) Be)))
   (Bi (Dh (Li (Oo (pv 10)))
    (Bi (Bo (i:=7) sc_qbx.nd rfl (Or.inl rfl) (pv 10)))
    Cv)))))
    (Bi (Dh (PW.pt (So (Cf Do (pv 9) By (Ch _)) (Rf (Cf Tl (Cn (Ck K) rfl T.z_len PySem.boot_len (Ba (pv 6) Be)) Bf (Ch _)))))
    (Bd (Bo (i:=11) sc_qbx.nd rfl (Or.inl rfl) (Amh plainAttrs_list PySem.F.slot_list_pop PySem.F.type_list_pop AiV (pv 6)))
   (Bd (Bo (i:=12) sc_qbx.nd rfl (Or.inl rfl) (Ci (Cp K) (pv 5) (Ci (Df K) (pv 11) Bf (λ_ _=>rfl)) (λ_ _=>rfl)))
   (Bd (Qd (Ft (Ba (Ci (Df K) (pv 12) Bf (λ_ _=>rfl)) (Ba (pv 8) (Ba (Ci (Df K) (pv 12) Bf (λ_ _=>rfl)) Be)))) (Tb (pv 5) (Ci (Df K) (pv 11) Bf (λ_ _=>rfl)) Nw))
   (Bi (Bo (i:=7) sc_qbx.nd rfl (Or.inl rfl) (Ci (Df K) (pv 11) Bf (λ_ _=>rfl)))))))
    Cv)))))
   (Bi (Cg (pv 5)))))))),?_⟩
 try dsimp only [Cm,Cb]
 refine Cu h (by decide) (Bl (Bx (EF.eu (Dl (Bt Bc (Bt Bc Bk)))))
   (Bl (Dp (Dv 0 Bk))
   (Bl (Dp (Dv 0 Bk))
   (Bl (Bx Br)
   (Bl (Wi Br (Jb (Cr (Ca (top:=13)) (Cr (Ca (top:=13)) Gb)))
    (Dr (Cy (EU.eb (Tk Br (EU.eb (Ul λG=>Sb T)))))
    (Bl (Gf (Bu (Gk 2 (Bu (Dy (Bt Bc Bk)) (Bu Br Bk))) Bk))
   (Bl (Bx (Fr (Bt Bc (Bt Bc (Bt Bc Bk)))))
   (Bl (Gf (Bu (Gk 3 (Bu Br (Bu (Dy (Bt Bc Bk)) (Bu Br Bk)))) Bk))
   (Dr (Cy (EU.eb (Oj Bc)))
    (Bx Br)
    Dg))))
    (Dr (Vz (Cy (EU.eb (Fe Bc (EU.eb Cl)))) (Cy (EU.eb (Dk (λ_ _ _=>.bl _) (EU.eb (Dy (Bt Bc Bk))) (EU.eb Bg)))))
    (Bl AlA
   (Bl (Bx (Dd Bc (EU.eb (Du Bc (EU.eb Bg)))))
   (Bl (Sh (EU.eb (Du Bc (EU.eb Bg))) (Gk 3 (Bu (Du Bc (EU.eb Bg)) (Bu Br (Bu (Du Bc (EU.eb Bg)) Bk)))))
   (Bx (Du Bc (EU.eb Bg))))))
    Dg)))
   Gu))))) (λps P hp=>?_)
 clear h hu hu64 hr
 obtain⟨U,M,J,ts,b,m,rfl,hl,q⟩:=hp
 walk_at "s"
 have gl:=(Gj (Cj U M) ts).ln
 ext
 refine⟨U,M,J,ts,rfl,hl,?_⟩
 rw[show (map (λw=>PV.str (knW U M w)) (grp (Cj U M) ts))=(knL U M ts).map .str by unfold knL;rw[map_map];rfl]
 have kl:(knL U M ts).length<=300:=by unfold knL;rw[length_map];omega
 generalize knL U M ts=kn at q kl
 ext
 refine⟨λn ρ=>∃(S:Stk) (v8 v9 v10 v11 v12:Sl),NI kn b m n S/\ρ=[.bo (.bk U M J),.bo (.lst (map .int ts)),.sh (.int b),.bo (.int m),.sh (.lst (kn.map .str)),.ow (.lst ((dF kn b m n).map (nPn kn.length n))),.ow (.lst ((wtF b S).map wP)),.sh (.int (chF b S)),v8,v9,v10,v11,v12],⟨[],_,_,_,_,_,.zero,rfl⟩,?_,?_⟩
 ·rintro n p ρ hp ⟨S,v8,v9,v10,v11,v12,hN,rfl⟩
  rw[Op,getElem?_map,Option.map_map] at hp
  obtain⟨k,hk,rfl⟩:=map_eq_some_iff.mp hp
  have hn:n<kn.length:=(List.getElem?_eq_some_iff.mp hk).1
  have dl:=Si (kn:=kn) (b:=b) (m:=m) n
  have sl:S.length<=300:=by
   have:=congrArg length hN.fil
   rw[length_map] at this
   have:=length_filter_le (λx:Nst=>decide (n<=x.2.1)) (dF kn b m n)
   omega
  dsimp only [Function.comp]
  ext
  refine Aal (L:=bgK) (x:=k) ?_
  ext
  by_cases h1:k∈bgK
  ·rw[decide_eq_true h1]
   obtain⟨e1,hN2⟩:=hN.beg hk h1
   have fin:(dF kn b m n).map (nPn kn.length n)++[.tup [.int n,.int (kn.length:Nat),opP (lvF k (chF b S) m)]]=(dF kn b m (n+1)).map (nPn kn.length (n+1)):=by
    rw[e1,map_append,Ae9 λx hx e=>by have:=hN.later hk (Nu h1) x (mem_filter.mpr ⟨hx,decide_eq_true (by omega)⟩);omega]
    have:¬Bm kn n<n+1:=by
     unfold Bm
     rw[Lh hk,show (0:Int)=((0:Nat):Int) from rfl,Oi h1];omega
    show _=_++[PV.tup [.int n,.int ((if Bm kn n<n+1 then Bm kn n else kn.length:Nat):Int),opP (lvF k (chF b S) m)]]
    rw[if_neg this]
   have wt:(wtF b S).map wP++[.tup [.int ((dF kn b m n).length:Nat),.int (chF b S)]]=(wtF b (S++[((dF kn b m n).length,(n,Bm kn n,lvF k (chF b S) m))])).map wP:=by
    rw[Us,map_append];rfl
   have ch:=Vc b S ((dF kn b m n).length,(n,Bm kn n,lvF k (chF b S) m))
   ext
   rotate_left
   ·rw[length_map,Wq];omega
   rw[length_map,wt]
   refine⟨k,chF b S,m,rfl,?_⟩
   ext
   rotate_left
   ·rw[length_map];omega
   rw[length_map,fin]
   cases e:lvF k (chF b S) m with
   | none =>
    rw[e] at ch hN2
    refine Gp (by decide) ?_
    ext
    exact⟨_,_,_,_,_,_,hN2,by rw[ch];rfl⟩
   | some l =>
    rw[e] at ch hN2
    refine Jl rfl ?_
    ext
    exact⟨_,_,_,_,_,_,hN2,by rw[ch];rfl⟩
  rw[decide_eq_false h1]
  ext
  have keep:(∀x∈dF kn b m n,x.2.1=n->False)->dF kn b m (n+1)=dF kn b m n->(dF kn b m n).map (nPn kn.length n)=(dF kn b m (n+1)).map (nPn kn.length (n+1)):=λh e=>by
   rw[e,Ae9 h]
  by_cases h2:k="out"
  ·subst h2
   rw[decide_eq_true rfl]
   ext
   rw[length_map,Wq]
   rcases eq_nil_or_concat S with e | ⟨S',s,e⟩
   ·rw[decide_eq_false (by rw[e];exact Int.lt_irrefl 0)]
    ext
    obtain⟨e1,hN2⟩:=hN.oth hk h1 λ_=>e
    rw[keep (λx hx z=>by
     have:=hN.fil
     rw[e] at this
     exact List.filter_eq_nil_iff.mp this x hx (decide_eq_true (by omega))) e1]
    exact⟨S,_,_,_,_,_,hN2,rfl⟩
   ·rw[concat_eq_append] at e
    subst e
    rw[decide_eq_true (by rw[length_append,length_singleton];omega)]
    obtain⟨e1,hN2,es,one⟩:=hN.out hk
    have hs:=hN.ix s (mem_append_right _ (.head _))
    rw[Us,map_append,Vc]
    ext
    refine Anq (ps:=(wtF b S').map wP) (q:=wP (s.1,chF b S')) rfl ?_
    unfold wP
    ext
    refine Fh (l:=dF kn b m n) (f:=nPn kn.length n) (j:=s.1) (a:=s.2) hs rfl ?_
    unfold nPn
    ext
    refine Wd rfl (Tx (by rw[length_map];exact (List.getElem?_eq_some_iff.mp hs).1)) ?_
    ext
    rw[show ((dF kn b m n).map λx:Nst=>PV.tup [.int x.1,.int (if x.2.1<n then x.2.1 else kn.length:Nat),opP x.2.2]).set s.1 (.tup [.int s.2.1,.int n,opP s.2.2.2])=(dF kn b m (n+1)).map (nPn kn.length (n+1)) by rw[e1];exact Ajp hs es one]
    exact⟨S',_,_,_,_,_,hN2,rfl⟩
  ·rw[decide_eq_false h2]
   ext
   obtain⟨e1,hN2⟩:=hN.oth hk h1 λz=>absurd z h2
   rw[keep (λx hx z=>by have:=hN.later hk h2 x (mem_filter.mpr ⟨hx,decide_eq_true (by omega)⟩);omega) e1]
   exact⟨S,_,_,_,_,_,hN2,rfl⟩
 rintro ρ ⟨S,v8,v9,v10,v11,v12,hN,rfl⟩
 rw[Qu,length_map] at hN ⊢
 ext
 rw[show (dF kn b m kn.length).map (nPn kn.length kn.length)=(dF kn b m kn.length).map nP from List.map_congr_left λx hx=>by
  have:=hN.end x hx
  unfold nPn nP
  by_cases z:x.2.1<kn.length
  ·rw[if_pos z]
  ·rw[if_neg z,show x.2.1=kn.length by omega]]
 exact q
def Akf:PSp:=λps P=>∃U M J ts o,ps=[.bk U M J,.lst (map .int ts),opP o]/\ts.length<=300/\P (.int (o.getD (obF 0 (knL U M ts))))
theorem Aoh(T:Txt K mg t):Binds K t.d_qo ["book","text","base"] []:=T.F_qo.binds (by walk_at "b3")
theorem An7(T:Txt K mg t):FnOk P w K mg base CX0 6 t.f_qo t.d_qo ["book","text","base"] (spOf K t.C_Book [false,false,true] .sh Akf):=by
 refine T.F_qo.ok Anz (λvs H Q E h=>h.len) (λcdv A outer s H vs Q E hr h=>?_)
 have hu:=Cq hr
 have hu64:=hr.units
 refine⟨_,(Bi (Cg (Jd (Li (AkL (pv 2))) (Bp (Amr T) (hr.mono (by decide)) rfl T.m_qby T.F_qby.kp (AmX T) .nil Bw (Ba (pv 0) (Ba (pv 1) Be))) (pv 2)))),?_⟩
 try dsimp only [Cm,Cb]
 refine Cu h (by decide) (Dz (Oc (Cy (EU.eb (AkV Bc))) (Fr (Bt Bc (Bt Bc Bk))) Br)) (λps P hp=>?_)
 clear h hu hu64 hr
 obtain⟨U,M,J,ts,o,rfl,hl,q⟩:=hp
 walk_at "s"
 cases o with
 | none =>
  rw[show opP none=.non from rfl]
  ext
  refine Jl rfl ?_
  ext
  refine⟨U,M,J,ts,rfl,hl,?_⟩
  exact q
 | some b =>
  rw[show opP (some b)=.int b from rfl]
  ext
  refine Gp (λz=>Bool.noConfusion z) ?_
  ext
  exact q
def AmC:PSp:=λps P=>∃v:Int,ps=[.int v]/\P (.str (wyF v))
theorem Akx(T:Txt K mg t):Binds K t.d_qm ["level"] []:=T.F_qm.binds (by walk_at "b1")
theorem Ag9(T:Txt K mg t):FnOk P w K mg base CX0 1 t.f_qm t.d_qm ["level"] (spOf K t.C_Book [false] .sh AmC):=by
 refine T.F_qm.ok AnL (λvs H Q E h=>h.len) (λcdv A outer s H vs Q E hr h=>?_)
 have hu:=Cq hr
 have hu64:=hr.units
 refine⟨_,(Bi (Cg (Jd (Cf Do (Bv Dq (pv 0) Bf) Bf (Ch _)) By By))),?_⟩
 try dsimp only [Cm,Cb]
 refine Cu h (by decide) (Dz (Oc (Cy (EU.eb (Fe (EU.eb (Cw (λ_ _ _=>.int _) Bc (EU.eb Bg))) (EU.eb Bg)))) Cl Cl)) (λps P hp=>?_)
 clear h hu hu64 hr
 obtain⟨v,rfl,q⟩:=hp
 walk_at "s"
 unfold wyF at q
 ext
 all_goals try decide
 by_cases h:v%2=0
 ·rw[decide_eq_true h]
  rw[if_pos h] at q
  ext
  exact q
 ·rw[decide_eq_false h]
  rw[if_neg h] at q
  ext
  exact q
theorem AjI{n:Nat}{z:Int}(h0:0<=z)(h:z<n):ixN n z=some z.toNat:=by
 unfold ixN
 rw[if_pos h0,if_pos h]
def Akc:PSp:=λps P=>∃(N:List Nst) (n:Nat) (b:Int),ps=[.lst (N.map nP),.int n,.int b]/\N.length<=300/\n<=300/\(∀x∈N,x.1<=n/\x.2.1<=n)/\P (.lst ((rsF (stF N n b) (hmF (stF N n b) n (stF N n b).length)).map rsP))
theorem Aog(T:Txt K mg t):Binds K t.d_ql ["nests","number","base"] []:=T.F_ql.binds (by walk_at "b3")
theorem Ang(T:Txt K mg t):FnOk P w K mg base CX0 1 t.f_ql t.d_ql ["nests","number","base"] (spOf K t.C_Book [false,true,true] .sh Akc):=by
 refine T.F_ql.ok sc_ql (λvs H Q E h=>h.len) (λcdv A outer s H vs Q E hr h=>?_)
 have hu:=Cq hr
 have hu64:=hr.units
 refine⟨_,(Bd (Bo (i:=3) sc_ql.nd rfl (Or.inl rfl) (Bv Ol (Db (Ba (Ft (Ba (Rv Ou Bf) (Ba (pv 1) (Ba (pv 2) Be)))) Be)) (Uv 1 ["nest"] rfl rfl (Ct (pv 0)) (λ_ _ _ _=>(Bq (i:=0) (show Nodup (["nest"]:List Str) by decide +kernel) rfl (Or.inl rfl))) (λ_ _ _ _=>(Jr (Li (Oo (Ci (Df K) (pv 0) Bf (λ_ _=>rfl)))))) (λ_ _ _ _=>(pv 0)) (by decide +kernel) (by decide +kernel) rfl (by decide +kernel))))
   (Bd (Bo (i:=4) sc_ql.nd rfl (Or.inl rfl) (Bv Abl (Db (Ba Bf Be)) (pv 1)))
   (Bd (Dc PassesOwn.never rfl (Ri (pv 3) rfl T.z_enumerate) (Fy (K':=K) (n:=2) rfl rfl (Ce (Bq (i:=5) sc_ql.nd rfl (Or.inl rfl)) (Ce (Bq (i:=6) sc_ql.nd rfl (Or.inl rfl)) Fa)))
    (Bi (Dc PassesOwn.never rfl (Xh rfl T.z_range (Ba (Bv Fm (Ci (Df K) (pv 6) Bf (λ_ _=>rfl)) Bf) (Ba (Ci (Df K) (pv 6) Bf (λ_ _=>rfl)) Be))) (Bq (i:=7) sc_ql.nd rfl (Or.inl rfl))
    (Bi (Qd (pv 5) (Tb (pv 4) (pv 7) Nw))))))
   (Bd (Rt 1 ["stretch"] rfl rfl (Ct (pv 3)) (λ_ _ _ _=>(Bq (i:=0) (show Nodup (["stretch"]:List Str) by decide +kernel) rfl (Or.inl rfl))) (λ_ _ _ _=>Gz) (λ_ _ _ _=>(Ft (Ba (Ci (Df K) (pv 0) Bf (λ_ _=>rfl)) (Ba (Db Be) Be)))) (by decide +kernel) (by decide +kernel) rfl (by decide +kernel) (λ_=>rfl) (i:=8) sc_ql.nd rfl (Or.inl rfl) rfl)
   (Bd (Dc PassesOwn.never rfl (Ri (pv 4) rfl T.z_enumerate) (Fy (K':=K) (n:=2) rfl rfl (Ce (Bq (i:=7) sc_ql.nd rfl (Or.inl rfl)) (Ce (Bq (i:=5) sc_ql.nd rfl (Or.inl rfl)) Fa)))
    (Bi (Co (Fw plainAttrs_list PySem.F.slot_list_append PySem.F.type_list_append Da (Ci (Df K) (Ci (Cp K) (pv 8) (pv 5) (λ_ _=>rfl)) Bf (λ_ _=>rfl)) (Ba (pv 7) Be)))))
   (Bi (Cg (pv 8)))))))),?_⟩
 try dsimp only [Cm,Cb]
 refine Cu h (by decide) (Bl (Bx (EF.eu (Rg (EF.eb (Dv 1 (Bu (Gk 3 (Bu (Zd (λ_ _=>.int _) (EU.eb Bg)) (Bu Br (Bu Br Bk)))) Bk))) (EF.eb (Gx Bc (Ca (top:=1)) (Cy (EU.eb (Oj (EU.eb (Du Bc (EU.eb Bg)))))) Br)))))
   (Bl (Dp (AeL (EF.eb (Dv 1 (Bu Bg Bk))) Bc))
   (Bl (Wi Br (Jb (Cr (Ca (top:=9)) (Cr (Ca (top:=9)) Gb)))
    (Aa7 (Bt (EU.eb (Dk (λ_ _ _=>.int _) (EU.eb (Du Bc (EU.eb Bg))) (EU.eb Bg))) (Bt (EU.eb (Du Bc (EU.eb Bg))) Bk)) (Ca (top:=9))
    (Sh Bc Br)))
   Ai1))) (λps P hp=>?_)
 clear h hu hu64 hr
 obtain⟨N,n,b,rfl,hl,hn,hN,q⟩:=hp
 walk_at "s"
 ext
 walk_at "md"
 refine Fq (S:=N) (enc:=nP) (f:=λx=>(x.2.2.map λl=>((x.1:Int),(x.2.1:Int),l)).map stP) ?_ (λd hd Z hZ=>?_)
 rotate_left
 ·walk_at "c"
  rw[show nP d=.tup [.int d.1,.int d.2.1,opP d.2.2] from rfl]
  ext
  cases el:d.2.2 with
  | none =>
   rw[el] at hZ
   refine Gp (by decide) ?_
   exact hZ
  | some l =>
   rw[el] at hZ
   refine Jl rfl ?_
   ext
   exact hZ
 rw[show N.filterMap (λx=>(x.2.2.map λl=>((x.1:Int),(x.2.1:Int),l)).map stP)=(N.filterMap λx=>x.2.2.map λl=>((x.1:Int),(x.2.1:Int),l)).map stP from (List.map_filterMap ..).symm]
 have sl:(stF N n b).length<=301:=by
  unfold stF
  have:=List.length_filterMap_le (λx:Nst=>x.2.2.map λl=>((x.1:Int),(x.2.1:Int),l)) N
  rw[length_cons];omega
 have sb:∀s∈stF N n b,(-1<=s.1/\s.1<=n)/\-1<=s.2.1/\s.2.1<=(n:Int):=λs hs=>by
  unfold stF at hs
  rcases mem_cons.mp hs with rfl | hs
  ·exact⟨⟨Int.le_refl _,by show (-1:Int)<=n;omega⟩,by show (-1:Int)<=n;omega,Int.le_refl _⟩
  ·obtain⟨x,hx,e⟩:=mem_filterMap.mp hs
   obtain⟨l,_,rfl⟩:=map_eq_some_iff.mp e
   have:=hN x hx
   exact⟨⟨by show (-1:Int)<=(x.1:Int);omega,by show (x.1:Int)<=n;omega⟩,by show (-1:Int)<=(x.2.1:Int);omega,by show (x.2.1:Int)<=n;omega⟩
 have sp:0<(stF N n b).length:=Nat.succ_pos _
 ext1
 rotate_left
 ·rw[length_map]
  unfold stF at sl
  rw[length_cons] at sl
  show 1+_<=_
  omega
 rw[show PV.tup [PV.int (-1),PV.int (n:Int),PV.int b]::(N.filterMap λx=>x.2.2.map λl=>((x.1:Int),(x.2.1:Int),l)).map stP=(stF N n b).map stP from rfl]
 generalize stF N n b=St at q sl sb sp
 refine Jg ?_
 ext1
 rotate_left
 ·exact⟨by omega,by omega⟩
 rw[toNat_natCast]
 refine Jg ?_
 ext
 refine⟨λj ρ=>∃v5 v6 v7,ρ=[.bo (.lst (N.map nP)),.sh (.int n),.sh (.int b),.sh (.lst (St.map stP)),.ow (.lst ((hmF St n j).map λk:Nat=>.int k)),v5,v6,v7,.un],⟨_,_,_,by rw[hmF,List.map_replicate];rfl⟩,?_,?_⟩
 ·rintro j p ρ hp ⟨v5,v6,v7,rfl⟩
  rw[Op,getElem?_map,Option.map_map] at hp
  obtain⟨s,hs,rfl⟩:=map_eq_some_iff.mp hp
  obtain⟨⟨s1,s1'⟩,s2',s2⟩:=sb s (mem_of_getElem? hs)
  have hj:=(List.getElem?_eq_some_iff.mp hs).1
  have hm:hmF St n (j+1)=hmS (hmF St n j) j s.1 s.2.1:=by rw[hmF,hs]
  have hlen:=Oe St n j
  dsimp only [Function.comp]
  rw[show stP s=.tup [.int s.1,.int s.2.1,.int s.2.2] from rfl]
  ext
  all_goals try exact⟨by omega,by omega,by omega,by omega⟩
  rw[hm]
  generalize hmF St n j=hh at hlen
  refine⟨λi ρ=>∃v7,ρ=[.bo (.lst (N.map nP)),.sh (.int n),.sh (.int b),.sh (.lst (St.map stP)),.ow (.lst ((hh.mapIdx λk x=>if s.1<(k:Int)/\(k:Int)<s.1+1+i then j else x).map λk:Nat=>.int k)),.sh (.int j),.sh (.tup [.int s.1,.int s.2.1,.int s.2.2]),v7,.un],⟨_,by rw[Ty hh _ (λk x _=>if_neg (by omega))]⟩,?_,?_⟩
  ·rintro i ρ hi ⟨v7,rfl⟩
   ext
   refine Wd rfl (AjI (by omega) (by rw[length_map,length_mapIdx];omega)) ?_
   ext
   rw[<- map_set,Aiw s1 (by omega)]
   exact⟨_,rfl⟩
  ·rintro ρ ⟨v7,rfl⟩
   rw[show (hh.mapIdx λk x=>if s.1<(k:Int)/\(k:Int)<s.1+1+((s.2.1 - (s.1+1)).toNat:Int) then j else x)=hmS hh j s.1 s.2.1 by
    unfold hmS
    congr 1
    funext k x
    by_cases z:s.1<(k:Int)/\(k:Int)<s.2.1
    ·rw[if_pos z,if_pos (by omega)]
    ·rw[if_neg z,if_neg (by omega)]]
   exact⟨_,_,_,rfl⟩
 ·rintro ρ ⟨v5,v6,v7,rfl⟩
  rw[Qu,length_map]
  exact⟨St,_,rfl,rfl,rfl,by omega,by rw[Oe];omega,Zc St n sp _,q⟩
theorem Ud{C:Addr}{G:Hp}(T:Txt K mg t):Rep K C G (.ref t.a_LEADING_KINDS) (.ctp [.str "fore",.str "back",.str "num"]):=.ctp T.q_LEADING_KINDS rfl λi v p h1 h2=>by
 match i,h1,h2 with
 | 0,h1,h2=>cases h1;cases h2;exact .str _
 | 1,h1,h2=>cases h1;cases h2;exact .str _
 | 2,h1,h2=>cases h1;cases h2;exact .str _
 | _+3,h1,_=>simp at h1
def AlW:PSp:=λps P=>∃(ks:List Str) (own:Str),ps=[.lst (ks.map .str),.str own]/\ks.length<=1000/\P (.lst ((ldF own ks).map osP))
theorem Aoq(T:Txt K mg t):Binds K t.d_qi ["kinds","own"] []:=T.F_qi.binds (by walk_at "b2")
theorem Anj(T:Txt K mg t):FnOk P w K mg base CX0 1 t.f_qi t.d_qi ["kinds","own"] (spOf K t.C_Book [false,true] .fr AlW):=by
 refine T.F_qi.ok sc_qi (λvs H Q E h=>h.len) (λcdv A outer s H vs Q E hr h=>?_)
 have hu:=Cq hr
 have hu64:=hr.units
 refine⟨_,(Bd (Bo (i:=2) sc_qi.nd rfl (Or.inl rfl) (Db Be))
   (Bd (Bo (i:=3) sc_qi.nd rfl (Or.inl rfl) (pv 1))
   (Bd (Dc PassesOwn.never rfl (Ct (pv 0)) (Bq (i:=4) sc_qi.nd rfl (Or.inl rfl))
    (Bd (Dh (PW.pt (Vn (Cf Do (pv 4) By (Ch _)) (Wb (Cf Do (pv 4) By (Ch _)))))
    (Bi (Bo (i:=3) sc_qi.nd rfl (Or.inl rfl) (pv 4)))
    Cv)
   (Bi (Co (Fw plainAttrs_list PySem.F.slot_list_append PySem.F.type_list_append Da (pv 2) (Ba (Jd (Cf (Ju K) (pv 4) (Oh (v:=.ref t.a_LEADING_KINDS) rfl T.g_LEADING_KINDS rfl) rfl) (pv 3) Zw) Be))))))
   (Bi (Cg (pv 2)))))),?_⟩
 try dsimp only [Cm,Cb]
 refine Cu h (by decide) (Bl (Dp (Dv 0 Bk))
   (Bl (Bx Br)
   (Bl (Nh (Ca (top:=5))
    (Bl (Dr (Yo (Cy (EU.eb (Fe Bc (EU.eb Cl)))) (Cy (EU.eb (Fe Bc (EU.eb Cl)))))
    (Bx Br)
    Dg)
   (Gf (Bu (Oc (Cy (EU.eb (Tk Br (EU.eb (Ul λG=>Ud T))))) Br Zs) Bk))))
   Gu))) (λps P hp=>?_)
 clear h hu hu64 hr
 obtain⟨ks,own,rfl,hl,q⟩:=hp
 walk_at "s"
 ext
 refine⟨λn ρ=>∃(A:List (Option Str)) (l:Str) (v4:Sl),ρ=[.bo (.lst (ks.map .str)),.sh (.str own),.ow (.lst (A.map osP)),.sh (.str l),v4]/\A.length=n/\A++ldF l (ks.drop n)=ldF own ks,⟨[],own,_,rfl,rfl,rfl⟩,?_,?_⟩
 ·rintro n p ρ hp ⟨A,l,v4,rfl,al,he⟩
  rw[getElem?_map] at hp
  obtain⟨k,hk,rfl⟩:=map_eq_some_iff.mp hp
  have hn:n<ks.length:=(List.getElem?_eq_some_iff.mp hk).1
  rw[Lh hk,ldF] at he
  ext1
  refine Og (λρ=>ρ=[.bo (.lst (ks.map .str)),.sh (.str own),.ow (.lst (A.map osP)),.sh (.str (if k="fore"\/k="back" then k else l)),.sh (.str k)]) (λρ h=>?_) ?_
  rotate_left
  ·ext
   by_cases h1:k="fore"
   ·rw[decide_eq_true h1,show (if k="fore"\/k="back" then k else l)=k from if_pos (.inl h1)]
    ext
    exact .inl rfl
   ·rw[decide_eq_false h1]
    ext
    by_cases h2:k="back"
    ·rw[decide_eq_true h2,show (if k="fore"\/k="back" then k else l)=k from if_pos (.inr h2)]
     ext
     exact .inl rfl
    ·rw[decide_eq_false h2,show (if k="fore"\/k="back" then k else l)=l from if_neg (λz=>z.elim h1 h2)]
     ext
     exact .inl rfl
  subst h
  generalize (if k="fore"\/k="back" then k else l)=l' at he
  ext
  refine Aal (L:=ldK) (x:=k) ?_
  ext
  by_cases h1:k∈ldK
  ·rw[decide_eq_true h1]
   rw[if_pos h1] at he
   ext
   rotate_left
   ·rw[length_map];omega
   exact⟨A++[some l'],l',_,by rw[map_append];rfl,by rw[length_append,al];rfl,by rw[append_assoc];exact he⟩
  ·rw[decide_eq_false h1]
   rw[if_neg h1] at he
   ext
   rotate_left
   ·rw[length_map];omega
   exact⟨A++[none],l',_,by rw[map_append];rfl,by rw[length_append,al];rfl,by rw[append_assoc];exact he⟩
 rintro ρ ⟨A,l,v4,rfl,al,he⟩
 rw[length_map,drop_length,ldF,append_nil] at he
 ext
 rw[he]
 exact q
def mtF(M:List (Int×Int))(n:Int):Option Int:=match Th M n with
 | .int z=>some z
 | _=>none
theorem AeN:∀(M:List (Int×Int)),∀kv∈kB M,∃z:Int,kv.2=.int z
 | [],kv,h=>by cases h
 | m::r,kv,h=>by
  rcases mem_cons.mp h with rfl | h
  ·exact⟨_,rfl⟩
  ·rcases mem_cons.mp h with rfl | h
   ·exact⟨_,rfl⟩
   ·exact AeN r kv h
theorem AjJ(M:List (Int×Int))(n:Int):Th M n=opP (mtF M n):=by
 have:Th M n=.non\/∃z,Th M n=.int z:=by
  unfold Th Cs
  cases e:(kB M).find? (λkv=>decide (kv.1=Sum.inl n)) with
  | none=>exact .inl rfl
  | some kv =>
   obtain⟨z,hz⟩:=AeN M kv (List.mem_of_find?_eq_some e)
   refine .inr ⟨z,?_⟩
   show vP kv.2=_
   rw[hz];rfl
 unfold mtF
 rcases this with h | ⟨z,h⟩ <;> rw[h] <;> rfl
theorem Aj3{o:Option Int}{b:Int}{P:PV->Prop}(q:P (.bl (decide (o=some b)))):Afh false (opP o) (.int b) P:=by
 cases o with
 | none=>exact⟨false,.ni,q⟩
 | some c =>
  refine⟨_,.ii,?_⟩
  rw[show decide (c=b)=decide (some c=some b) from decide_eq_decide.mpr ⟨λz=>by rw[z],λz=>Option.some.inj z⟩]
  exact q
def ppP(p:Nat×Nat):PV:=.tup [.int p.1,.int p.2]
theorem AjB(w:List Nat):enP (w.map λa:Nat=>PV.int a)=(w.mapIdx λj a=>(j,a)).map λq:Nat×Nat=>PV.tup [.int q.1,.int q.2]:=by
 refine ext_getElem? λi=>?_
 rw[Op,getElem?_map,getElem?_map,getElem?_mapIdx,Option.map_map,Option.map_map]
 rfl
theorem AdY{mt:Int->Option Int}{bs:List Int}{w:List Nat}{b:Int}:∀j∈Ug mt bs w b,j<w.length:=λj hj=>by
 unfold Ug at hj
 obtain⟨q,hq,h⟩:=mem_filterMap.mp hj
 obtain⟨i,hi⟩:=getElem?_of_mem hq
 rw[getElem?_mapIdx] at hi
 obtain⟨a,ha,rfl⟩:=map_eq_some_iff.mp hi
 split at h
 ·cases h;exact (List.getElem?_eq_some_iff.mp ha).1
 ·cases h
theorem Zu{mt:Int->Option Int}{ks:List Str}{bs:List Int}:∀n,(∀p∈(prF mt ks bs n).1,p.1<n/\p.2<n)/\(∀a∈(prF mt ks bs n).2,a<n)/\(prF mt ks bs n).2.length<=n/\(prF mt ks bs n).1.length<=n
 | 0=>⟨λp h=>(by cases h),λp h=>(by cases h),Nat.le_refl _,Nat.le_refl _⟩
 | n+1=>by
  obtain⟨h1,h2,h3,h4⟩:=Zu (mt:=mt) (ks:=ks) (bs:=bs) n
  have same:(∀p∈(prF mt ks bs n).1,p.1<n+1/\p.2<n+1)/\(∀a∈(prF mt ks bs n).2,a<n+1)/\(prF mt ks bs n).2.length<=n+1/\(prF mt ks bs n).1.length<=n+1:=⟨λp hp=>by have:=h1 p hp;omega,λa ha=>by have:=h2 a ha;omega,by omega,by omega⟩
  rw[prF]
  split
  ·refine⟨same.1,λa ha=>?_,by rw[length_append,length_singleton];omega,same.2.2.2⟩
   rcases mem_append.mp ha with ha | ha
   ·exact same.2.1 a ha
   ·rw[mem_singleton.mp ha];omega
  ·split
   ·split
    ·exact same
    ·rename_i j hj
     have hj2:=AdY (mt:=mt) (bs:=bs) (w:=(prF mt ks bs n).2) (b:=(bs[n]?).getD 0) j (List.mem_of_getLast? hj)
     refine⟨λp hp=>?_,λa ha=>same.2.1 a (List.mem_of_mem_take ha),by rw[length_take];omega,by rw[length_append,length_singleton];omega⟩
     rcases mem_append.mp hp with hp | hp
     ·exact same.1 p hp
     ·rw[mem_singleton.mp hp,getElem?_eq_getElem hj2]
      have:=h2 _ (getElem_mem hj2)
      exact⟨by show (prF mt ks bs n).2[j]<n+1;omega,lt_succ_self _⟩
   ·exact same
def Amf:PSp:=λps P=>∃U M J ks bs,ps=[.bk U M J,.lst (map .str ks),.lst (map .int bs)]/\ks.length=bs.length/\bs.length<=1000/\P (.lst ((prF (mtF M) ks bs ks.length).1.map ppP))
theorem AmM(T:Txt K mg t):Binds K t.d_qbz ["book","kinds","bases"] []:=T.F_qbz.binds (by walk_at "b3")
theorem AmG(T:Txt K mg t):FnOk P w K mg base CX0 2 t.f_qbz t.d_qbz ["book","kinds","bases"] (spOf K t.C_Book [false,true,false] .fr Amf):=by
 refine T.F_qbz.ok sc_qbz (λvs H Q E h=>h.len) (λcdv A outer s H vs Q E hr h=>?_)
 have hu:=Cq hr
 have hu64:=hr.units
 refine⟨_,(Bd (Bo (i:=3) sc_qbz.nd rfl (Or.inl rfl) (Db Be))
   (Bd (Bo (i:=4) sc_qbz.nd rfl (Or.inl rfl) (Db Be))
   (Bd (Dc PassesOwn.never rfl (Ri (pv 1) rfl T.z_enumerate) (Fy (K':=K) (n:=2) rfl rfl (Ce (Bq (i:=5) sc_qbz.nd rfl (by first | exact Or.inl rfl | exact Or.inr rfl)) (Ce (Bq (i:=6) sc_qbz.nd rfl (Or.inl rfl)) Fa)))
    (Bi (Dh (Cf Do (pv 6) By (Ch _))
    (Bi (Co (Fw plainAttrs_list PySem.F.slot_list_append PySem.F.type_list_append Da (pv 4) (Ba (pv 5) Be))))
    (Bi (Dh (Cf Do (pv 6) By (Ch _))
    (Bd (Ov 2 [0,2,5] ["place","at","book","bases","k"] ["k","book","bases"] rfl (Ri (pv 4) rfl T.z_enumerate) rfl (λj y e1 i e2=>match j,e1,e2 with | 0,e1,e2=>by cases e1;cases e2;exact⟨rfl,rfl,rfl,by decide +kernel⟩ | 1,e1,e2=>by cases e1;cases e2;exact⟨rfl,rfl,rfl,by decide +kernel⟩ | 2,e1,e2=>by cases e1;cases e2;exact⟨rfl,rfl,rfl,by decide +kernel⟩ | _+3,_,e2=>by simp at e2) (forall_mem_cons.mpr ⟨rfl,forall_mem_cons.mpr ⟨rfl,forall_mem_cons.mpr ⟨rfl,λ_ h=>nomatch h⟩⟩⟩) (by decide +kernel) (λ_ _ _ _=>(Fy (K':=K) (n:=2) rfl rfl (Ce (Bq (i:=0) (show Nodup (["place","at","book","bases","k"]:List Str) by decide +kernel) rfl (Or.inl rfl)) (Ce (Bq (i:=1) (show Nodup (["place","at","book","bases","k"]:List Str) by decide +kernel) rfl (Or.inl rfl)) Fa)))) (λ_ _ _ _=>(Jr (Cf (Amb K hu64) (Xb (pv 2) T.cl_Book T.M_qbg (Amt T) (hr.mono (by decide)) (Am7 T) .nil Bw (Ba (Ci (Cp K) (pv 3) (pv 1) (λ_ _=>rfl)) Be)) (Ci (Cp K) (pv 3) (pv 4) (λ_ _=>rfl)) (Ch _)))) (λ_ _ _ _=>(pv 0)) rfl (by decide +kernel) rfl (by decide +kernel) (λ_=>rfl) (i:=7) sc_qbz.nd rfl (Or.inl rfl) rfl)
   (Bi (Dh (Cf Tl (Cn (Ck K) rfl T.z_len PySem.boot_len (Ba (pv 7) Be)) Bf (Ch _))
    (Bd (Co (Fw plainAttrs_list PySem.F.slot_list_append PySem.F.type_list_append Da (pv 3) (Ba (Ft (Ba (Ci (Cp K) (pv 4) (Ci (Cp K) (pv 7) (Rv Ou Bf) (λ_ _=>rfl)) (λ_ _=>rfl)) (Ba (pv 5) Be))) Be)))
   (Bi (Bo (i:=4) sc_qbz.nd rfl (Or.inl rfl) (Gd (Gc K) (pv 4) Ng (Dw (Ci (Cp K) (pv 7) (Rv Ou Bf) (λ_ _=>rfl)))))))
    Cv)))
    Cv)))))
   (Bi (Cg (pv 3)))))),?_⟩
 try dsimp only [Cm,Cb]
 refine Cu h (by decide) (Bl (Dp (Dv 0 Bk))
   (Bl (Dp (Dv 0 Bk))
   (Bl (Wi Br (Jb (Cr (Ca (top:=8)) (Cr (Ca (top:=8)) Gb)))
    (Dr (Cy (EU.eb (Fe Bc (EU.eb Cl))))
    (Gf (Bu Br Bk))
    (Dr (Cy (EU.eb (Fe Bc (EU.eb Cl))))
    (Bl (Bx (EF.eu (Afq Bc (Jb (Cr (Ca (top:=2)) (Cr (Ca (top:=2)) Gb))) (Cy (EU.eb (Ako (EU.eb (AiE Bc (EU.eb (Dd Bc Bc)))) (EU.eb (Dd Bc Bc))))) Br)))
   (Dr (Cy (EU.eb (Dk (λ_ _ _=>.bl _) (EU.eb (Dy (Bt Bc Bk))) (EU.eb Bg))))
    (Bl (Gf (Bu (Gk 2 (Bu (Dd Bc (EU.eb (Dd Bc (EU.eb (Zd (λ_ _=>.int _) (EU.eb Bg)))))) (Bu Br Bk))) Bk))
   (Dp (Jo Bc Nj (Dx (EU.eb (Dd Bc (EU.eb (Zd (λ_ _=>.int _) (EU.eb Bg)))))))))
    Dg))
    Dg)))
   Gu))) (λps P hp=>?_)
 clear h hu hu64 hr
 obtain⟨U,M,J,ks,bs,rfl,hl,hb,q⟩:=hp
 walk_at "s"
 ext
 refine⟨λn ρ=>∃(v5 v6 v7:Sl),ρ=[.bo (.bk U M J),.sh (.lst (ks.map .str)),.bo (.lst (bs.map .int)),.ow (.lst ((prF (mtF M) ks bs n).1.map ppP)),.ow (.lst ((prF (mtF M) ks bs n).2.map λa:Nat=>.int a)),v5,v6,v7],⟨_,_,_,rfl⟩,?_,?_⟩
 ·rintro n p ρ hp ⟨v5,v6,v7,rfl⟩
  rw[Op,getElem?_map,Option.map_map] at hp
  obtain⟨k,hk,rfl⟩:=map_eq_some_iff.mp hp
  have hn:n<ks.length:=(List.getElem?_eq_some_iff.mp hk).1
  obtain⟨b,hbn⟩:∃b,bs[n]? = some b:=⟨_,getElem?_eq_getElem (by omega)⟩
  obtain⟨w1,w2,w3⟩:=Zu (mt:=mtF M) (ks:=ks) (bs:=bs) n
  have e:=Aft (mtF M) ks bs n
  rw[hk] at e
  generalize prF (mtF M) ks bs n=X at w1 w2 w3 e
  obtain⟨pp,w⟩:=X
  dsimp only [Function.comp] at *
  ext
  by_cases h1:k="open"
  ·rw[if_pos (by rw[h1])] at e
   rw[decide_eq_true h1]
   ext
   rotate_left
   ·rw[length_map];omega
   exact⟨_,_,_,by rw[e,map_append];rfl⟩
  rw[if_neg (λz=>h1 (Option.some.inj z))] at e
  rw[decide_eq_false h1]
  ext
  by_cases h2:k="shut"
  ·rw[if_pos (by rw[h2]),hbn] at e
   rw[decide_eq_true h2]
   ext1
   refine Jg ?_
   ext1
   walk_at "md"
   rw[AjB]
   refine Fq (S:=w.mapIdx λj a=>(j,a)) (enc:=λq:Nat×Nat=>PV.tup [.int q.1,.int q.2]) (f:=λq=>if (bs[q.2]?).bind (mtF M)=some b then some (.int q.1) else none) ?_ (λd hd Z hZ=>?_)
   rotate_left
   ·obtain⟨j,hj⟩:=getElem?_of_mem hd
    rw[getElem?_mapIdx] at hj
    obtain⟨a,ha,rfl⟩:=map_eq_some_iff.mp hj
    have han:=w2 a (mem_of_getElem? ha)
    obtain⟨c,hc⟩:∃c,bs[a]? = some c:=⟨_,getElem?_eq_getElem (by omega)⟩
    have hZ2:Z (if mtF M c=some b then some (.int (j:Nat)) else none):=by
     have:((bs[(j,a).2]?).bind (mtF M))=mtF M c:=by show (bs[a]?).bind _=_;rw[hc];rfl
     rw[this] at hZ;exact hZ
    walk_at "c"
    ext
    refine Fh (l:=bs) (f:=PV.int) (j:=a) (a:=c) hc rfl ?_
    ext
    refine Fh (l:=bs) (f:=PV.int) (j:=n) (a:=b) hbn rfl ?_
    rw[AjJ]
    refine Aj3 ?_
    by_cases h3:mtF M c=some b
    ·rw[decide_eq_true h3]
     rw[if_pos h3] at hZ2
     ext
     exact hZ2
    ·rw[decide_eq_false h3]
     rw[if_neg h3] at hZ2
     ext
     exact hZ2
   rw[show (w.mapIdx λj a=>(j,a)).filterMap (λq=>if (bs[q.2]?).bind (mtF M)=some b then some (PV.int (q.1:Nat)) else none)=(Ug (mtF M) bs w b).map λa:Nat=>PV.int a by
    unfold Ug
    rw[List.map_filterMap]
    congr 1
    funext q
    split <;> rfl]
   have ft:=AdY (mt:=mtF M) (bs:=bs) (w:=w) (b:=b)
   rw[show (some b).getD 0=b from rfl] at e
   generalize Ug (mtF M) bs w b=fit at ft e
   ext
   rcases eq_nil_or_concat fit with z | ⟨f',j,z⟩
   ·subst z
    rw[decide_eq_false (by simp)]
    ext
    have e2:prF (mtF M) ks bs (n+1)=(pp,w):=e
    exact⟨_,_,_,by rw[e2]⟩
   ·rw[concat_eq_append] at z
    subst z
    have hj:=ft j (mem_append_right _ (.head _))
    obtain⟨a,ha⟩:∃a,w[j]? = some a:=⟨_,getElem?_eq_getElem hj⟩
    rw[List.getLast?_concat] at e
    dsimp only at e
    rw[ha] at e
    rw[decide_eq_true (by rw[length_map,length_append,length_singleton];omega)]
    ext
    refine Rq (by rw[map_append];exact Jy _ _) ?_
    refine Fh (l:=w) (f:=λa:Nat=>PV.int a) (j:=j) (a:=a) ha rfl ?_
    ext
    rotate_left
    ·rw[length_map];omega
    refine Rq (by rw[map_append];exact Jy _ _) ?_
    ext
    rw[Jf,Ym]
    have e1:(prF (mtF M) ks bs (n+1)).1.map ppP=pp.map ppP++[.tup [.int (a:Nat),.int (n:Nat)]]:=by rw[e,map_append];rfl
    have e2:(prF (mtF M) ks bs (n+1)).2=w.take j:=by rw[e]
    exact⟨_,_,_,by rw[e1,e2]⟩
  ·rw[if_neg (λz=>h2 (Option.some.inj z))] at e
   rw[decide_eq_false h2]
   ext
   exact⟨_,_,_,by rw[e]⟩
 rintro ρ ⟨v5,v6,v7,rfl⟩
 rw[Qu,length_map]
 ext
 exact q
theorem Aam{ks:List Nat}{vs acc:List Int}{k:Nat}(h:¬k∈ks):(lpF acc ks vs)[k]? = acc[k]?:=by
 unfold lpF
 induction ks generalizing vs acc with
 | nil=>rfl
 | cons x r ih =>
  cases vs with
  | nil=>rfl
  | cons v vs =>
   rw[List.zip_cons_cons,foldl_cons,ih (λz=>h (.tail _ z))]
   show (acc.set x v)[k]? = _
   rw[getElem?_set,if_neg (λz=>h (by rw[z];exact .head _))]
theorem AnD{ks:List Nat}{vs acc:List Int}{k p:Nat}(nd:ks.Nodup)(hp:ks[p]? = some k)(hk:k<acc.length)(hv:p<vs.length):(lpF acc ks vs)[k]? = vs[p]?:=by
 induction ks generalizing vs acc p with
 | nil=>simp at hp
 | cons x r ih =>
  cases vs with
  | nil=>simp at hv
  | cons v vs =>
   show (lpF (acc.set x v) r vs)[k]? = _
   cases p with
   | zero =>
    rw[List.getElem?_cons_zero] at hp
    cases hp
    rw[Aam (nodup_cons.mp nd).1,getElem?_set,if_pos rfl,if_pos hk];rfl
   | succ p =>
    rw[List.getElem?_cons_succ] at hp ⊢
    exact ih (nodup_cons.mp nd).2 hp (by rw[length_set];exact hk) (by simpa using hv)
theorem Adk(mt:Int->Option Int)(ks:List Str)(bs:List Int):∀(rows:List (Int×List Nat)) (acc:List Int),(∀r∈rows,r.2.Nodup/\∀k∈r.2,k<acc.length)->rows.Pairwise (λr q=>∀k∈r.2,¬k∈q.2) ->
  ∀r∈rows,pkF (lvA mt ks bs rows acc) r.2=rwF mt (pkF ks r.2) (pkF bs r.2) r.1
 | [],_,_,_,r,h=>by cases h
 | q::l,acc,hk,pw,r,hr=>by
  have ih:=Adk mt ks bs l (lpF acc q.2 (rwF mt (pkF ks q.2) (pkF bs q.2) q.1)) (λr' hr'=>by rw[AbJ];exact hk r' (.tail _ hr')) (List.pairwise_cons.mp pw).2
  rcases mem_cons.mp hr with rfl | hr
  ·have no:∀(l':List (Int×List Nat)) (a:List Int) (k:Nat),(∀r'∈l',¬k∈r'.2)->(lvA mt ks bs l' a)[k]? = a[k]?:=λl'=>by
    induction l' with
    | nil=>intro a k _;rfl
    | cons x y ih2 =>
     intro a k h
     show (lvA mt ks bs y (lpF a x.2 _))[k]? = _
     rw[ih2 _ k (λr' hr'=>h r' (.tail _ hr')),Aam (h x (.head _))]
   have vl:(rwF mt (pkF ks r.2) (pkF bs r.2) r.1).length=r.2.length:=by rw[Ajw];unfold pkF;rw[length_map]
   refine ext_getElem? λp=>?_
   unfold pkF
   rw[getElem?_map]
   cases e:r.2[p]? with
   | none=>rw[getElem?_eq_none (by have:=List.getElem?_eq_none_iff.mp e;show (rwF mt (pkF ks r.2) (pkF bs r.2) r.1).length<=p;omega)];rfl
   | some k =>
    have hp:=(List.getElem?_eq_some_iff.mp e).1
    have hkm:=mem_of_getElem? e
    show some (((lvA mt ks bs l (lpF acc r.2 (rwF mt (pkF ks r.2) (pkF bs r.2) r.1)))[k]?).getD default)=(rwF mt (pkF ks r.2) (pkF bs r.2) r.1)[p]?
    rw[no l _ k (λr' hr'=>(List.pairwise_cons.mp pw).1 r' hr' k hkm),AnD (hk r (.head _)).1 e ((hk r (.head _)).2 k hkm) (by omega),getElem?_eq_getElem (by omega)];rfl
  ·exact ih r hr
def arA(D:List Nst)(n:Nat):Nat->List Int
 | 0=>replicate n (-1)
 | j+1=>match D[j]? with
  | some x=>if x.2.2.isSome then (arA D n j).mapIdx (λk y=>if x.1<k/\k<x.2.1 then (j:Int) else y) else arA D n j
  | none=>arA D n j
def lcF(D:List Nst)(j:Nat):Nat:=((D.take j).filter λx=>x.2.2.isSome).length
def phF(D:List Nst)(z:Int):Nat:=if z<0 then 0 else 1+lcF D z.toNat
theorem Gh(D:List Nst)(n:Nat):∀j,(arA D n j).length=n
 | 0=>length_replicate
 | j+1=>by
  rw[arA]
  cases D[j]? with
  | none=>exact Gh D n j
  | some x =>
   show (if x.2.2.isSome=true then (arA D n j).mapIdx (λk y=>if x.1<k/\k<x.2.1 then (j:Int) else y) else arA D n j:List Int).length=n
   split
   ·rw[length_mapIdx];exact Gh D n j
   ·exact Gh D n j
theorem Rj{D:List Nst}{j:Nat}{x:Nst}(h:D[j]? = some x):lcF D (j+1)=lcF D j+(if x.2.2.isSome=true then 1 else 0):=by
 unfold lcF
 rw[Dj h,filter_append,length_append]
 by_cases z:x.2.2.isSome=true
 ·rw[if_pos z,filter_cons_of_pos (p:=λx:Nst=>x.2.2.isSome) z];rfl
 ·rw[if_neg z,filter_cons_of_neg (p:=λx:Nst=>x.2.2.isSome) z];rfl
theorem Ux{D:List Nst}{i:Nat}:∀j,i<=j->lcF D i<=lcF D j
 | 0,h=>by rw[Nat.le_zero.mp h];exact Nat.le_refl _
 | j+1,h=>by
  rcases Nat.lt_or_ge i (j+1) with z | z
  ·refine Nat.le_trans (Ux j (by omega)) ?_
   cases e:D[j]? with
   | none =>
    unfold lcF
    have:=List.getElem?_eq_none_iff.mp e
    rw[List.take_of_length_le this,List.take_of_length_le (by omega)];exact Nat.le_refl _
   | some x=>rw[Rj e];omega
  ·rw[show i=j+1 by omega];exact Nat.le_refl _
theorem Wr:∀l:List Nst,(l.filterMap λx=>x.2.2.map λv=>((x.1:Int),(x.2.1:Int),v)).length=(l.filter λx=>x.2.2.isSome).length
 | []=>rfl
 | x::r=>by
  cases e:x.2.2 with
  | none=>rw[List.filterMap_cons_none (by rw[e];rfl),filter_cons_of_neg (p:=λx:Nst=>x.2.2.isSome) (by rw[e];decide),Wr r]
  | some v=>rw[List.filterMap_cons_some (by rw[e];rfl),filter_cons_of_pos (p:=λx:Nst=>x.2.2.isSome) (by rw[e];rfl),length_cons,length_cons,Wr r]
theorem AhF{D:List Nst}{n j:Nat}{b l:Int}{x:Nst}(h:D[j]? = some x)(hl:x.2.2=some l):(stF D n b)[1+lcF D j]? = some ((x.1:Int),(x.2.1:Int),l):=by
 unfold stF
 rw[Nat.add_comm,List.getElem?_cons_succ]
 obtain⟨hj,rfl⟩:=List.getElem?_eq_some_iff.mp h
 have e:D=D.take j++D[j]::D.drop (j+1):=by rw[<- drop_eq_getElem_cons hj,take_append_drop]
 have e2:D.filterMap (λx=>x.2.2.map λv=>((x.1:Int),(x.2.1:Int),v))=(D.take j).filterMap (λx=>x.2.2.map λv=>((x.1:Int),(x.2.1:Int),v))++(((D[j].1:Int),(D[j].2.1:Int),l)::(D.drop (j+1)).filterMap (λx=>x.2.2.map λv=>((x.1:Int),(x.2.1:Int),v))):=by
  conv=>lhs;rw[e]
  rw[List.filterMap_append,List.filterMap_cons_some (by rw[hl];rfl)]
 rw[e2,getElem?_append_right (by rw[Wr];exact Nat.le_refl _),Wr]
 show _=some _
 rw[show lcF D j - ((D.take j).filter λx=>x.2.2.isSome).length=0 from Nat.sub_self _];rfl
theorem Ab6(D:List Nst)(n:Nat)(b:Int):∀j,j<=D.length->hmF (stF D n b) n (1+lcF D j)=(arA D n j).map (phF D)
 | 0,_=>by
  show hmF (stF D n b) n 1=(replicate n (-1)).map (phF D)
  rw[List.map_replicate]
  show hmS (replicate n 0) 0 (-1) (n:Int)=replicate n 0
  unfold hmS
  refine Ty _ _ λk x hx=>?_
  rw[List.eq_of_mem_replicate (mem_of_getElem? hx)]
  split <;> rfl
 | j+1,hj=>by
  have ih:=Ab6 D n b j (by omega)
  obtain⟨x,hx⟩:∃x,D[j]? = some x:=⟨_,getElem?_eq_getElem (by omega)⟩
  rw[Rj hx,arA,hx]
  cases e:x.2.2 with
  | none =>
   show hmF _ n (1+(lcF D j+0))=(if (x.2.2).isSome=true then _ else _:List Int).map _
   rw[e,if_neg (by decide)]
   exact ih
  | some l =>
   show hmF _ n (1+(lcF D j+1))=(if (x.2.2).isSome=true then _ else _:List Int).map _
   rw[e,if_pos (show (some l).isSome=true from rfl),<- Nat.add_assoc,hmF,AhF hx e]
   show hmS (hmF (stF D n b) n (1+lcF D j)) (1+lcF D j) (x.1:Int) (x.2.1:Int)=_
   rw[ih]
   unfold hmS
   refine ext_getElem? λk=>?_
   rw[getElem?_mapIdx,getElem?_map,getElem?_map,getElem?_mapIdx]
   cases (arA D n j)[k]? with
   | none=>rfl
   | some z =>
    show some (if (x.1:Int)<(k:Int)/\(k:Int)<(x.2.1:Int) then 1+lcF D j else phF D z)=some (phF D (if x.1<k/\k<x.2.1 then (j:Int) else z))
    by_cases c:x.1<k/\k<x.2.1
    ·rw[if_pos c,if_pos (by omega)]
     unfold phF
     rw[if_neg (by omega),toNat_natCast]
    ·rw[if_neg c,if_neg (by omega)]
theorem Oq(D:List Nst)(n:Nat):∀j,∀z∈arA D n j,z = -1\/∃i:Nat,i<j/\z=(i:Int)/\∃x l,D[i]? = some x/\x.2.2=some l
 | 0,z,h=>.inl (List.eq_of_mem_replicate h)
 | j+1,z,h=>by
  have ih:=Oq D n j
  have up:(z = -1\/∃i:Nat,i<j/\z=(i:Int)/\∃x l,D[i]? = some x/\x.2.2=some l)->z = -1\/∃i:Nat,i<j+1/\z=(i:Int)/\∃x l,D[i]? = some x/\x.2.2=some l:=λh=>h.imp id λ⟨i,h1,h2⟩=>⟨i,by omega,h2⟩
  rw[arA] at h
  cases e:D[j]? with
  | none=>rw[e] at h;exact up (ih z h)
  | some x =>
   rw[e] at h
   cases el:x.2.2 with
   | none =>
    have h:z∈(if x.2.2.isSome=true then _ else arA D n j:List Int):=h
    rw[el,if_neg (by decide)] at h
    exact up (ih z h)
   | some l =>
    have h:z∈(if x.2.2.isSome=true then (arA D n j).mapIdx (λk y=>if x.1<k/\k<x.2.1 then (j:Int) else y) else _:List Int):=h
    rw[el,if_pos (show (some l).isSome=true from rfl)] at h
    obtain⟨k,hk⟩:=getElem?_of_mem h
    rw[getElem?_mapIdx] at hk
    obtain⟨y,hy,e2⟩:=map_eq_some_iff.mp hk
    by_cases c:x.1<k/\k<x.2.1
    ·rw[if_pos c] at e2
     exact .inr ⟨j,lt_succ_self _,e2.symm,x,l,e,el⟩
    ·rw[if_neg c] at e2
     subst e2
     exact up (ih y (mem_of_getElem? hy))
def spF(A:List Int)(n:Nat)(z:Int):List Nat:=(range n).filter λk=>decide (A[k]? = some z)
theorem Rb{D:List Nst}{n i:Nat}{b:Int}{x:Nst}{l:Int}(h:D[i]? = some x)(hl:x.2.2=some l):(rsF (stF D n b) (hmF (stF D n b) n (stF D n b).length))[1+lcF D i]? = some (l,spF (arA D n D.length) n i):=by
 have sl:(stF D n b).length=1+lcF D D.length:=by
  unfold stF lcF
  rw[length_cons,Wr,take_length];omega
 unfold rsF
 rw[getElem?_mapIdx,AhF h hl,sl,Ab6 D n b D.length (Nat.le_refl _),length_map,Gh]
 show some (l,_)=some (l,_)
 unfold spF
 congr 2
 refine List.filter_congr λk hk=>?_
 rw[getElem?_map]
 obtain⟨z,hz⟩:∃z,(arA D n D.length)[k]? = some z:=⟨_,getElem?_eq_getElem (by rw[Gh];exact mem_range.mp hk)⟩
 rw[hz]
 refine decide_eq_decide.mpr ?_
 show some (phF D z)=some (1+lcF D i)↔some z=some (i:Int)
 constructor
 ·intro e
  have e:=Option.some.inj e
  rcases Oq D n _ z (mem_of_getElem? hz) with rfl | ⟨i',_,rfl,x',l',hx',hl'⟩
  ·unfold phF at e;rw[if_pos (by decide)] at e;omega
  ·unfold phF at e
   rw[if_neg (by omega),toNat_natCast] at e
   rcases Nat.lt_trichotomy i i' with c | c | c
   ·have h1:=Rj h
    rw[hl,if_pos (show (some l).isSome=true from rfl)] at h1
    have:=Ux (D:=D) i' (show i+1<=i' from c)
    omega
   ·rw[c]
   ·have h1:=Rj hx'
    rw[hl',if_pos (show (some l').isSome=true from rfl)] at h1
    have:=Ux (D:=D) i (show i'+1<=i from c)
    omega
 ·intro e
  have e:=Option.some.inj e
  rw[e]
  unfold phF
  rw[if_neg (by omega),toNat_natCast]
theorem Wo{D:List Nst}{n:Nat}{b:Int}:(rsF (stF D n b) (hmF (stF D n b) n (stF D n b).length))[0]? = some (b,spF (arA D n D.length) n (-1)):=by
 have sl:(stF D n b).length=1+lcF D D.length:=by
  unfold stF lcF
  rw[length_cons,Wr,take_length];omega
 unfold rsF
 rw[getElem?_mapIdx,sl,Ab6 D n b D.length (Nat.le_refl _),length_map,Gh]
 show some (b,_)=some (b,_)
 unfold spF
 congr 2
 refine List.filter_congr λk hk=>?_
 rw[getElem?_map]
 obtain⟨z,hz⟩:∃z,(arA D n D.length)[k]? = some z:=⟨_,getElem?_eq_getElem (by rw[Gh];exact mem_range.mp hk)⟩
 rw[hz]
 refine decide_eq_decide.mpr ?_
 show some (phF D z)=some 0↔some z=some (-1)
 constructor
 ·intro e
  have e:=Option.some.inj e
  rcases Oq D n _ z (mem_of_getElem? hz) with rfl | ⟨i',_,rfl,_⟩
  ·rfl
  ·unfold phF at e;rw[if_neg (by omega)] at e;omega
 ·intro e
  rw[Option.some.inj e];rfl
theorem Ajt(St:List Stc)(hs:List Nat):(∀r∈rsF St hs,r.2.Nodup/\∀k∈r.2,k<hs.length)/\(rsF St hs).Pairwise (λr q=>∀k∈r.2,¬k∈q.2):=by
 have at':∀i r,(rsF St hs)[i]? = some r->r.2=(range hs.length).filter λk=>decide (hs[k]? = some i):=λi r h=>by
  unfold rsF at h
  rw[getElem?_mapIdx] at h
  obtain⟨s,_,rfl⟩:=map_eq_some_iff.mp h
  rfl
 refine⟨λr hr=>?_,List.pairwise_iff_getElem.mpr λi j hi hj hij k hk hk2=>?_⟩
 ·obtain⟨i,hi⟩:=getElem?_of_mem hr
  rw[at' i r hi]
  exact⟨List.nodup_range.filter _,λk hk=>mem_range.mp (mem_filter.mp hk).1⟩
 ·rw[at' i _ (getElem?_eq_getElem hi)] at hk
  rw[at' j _ (getElem?_eq_getElem hj)] at hk2
  have h1:=of_decide_eq_true (mem_filter.mp hk).2
  have h2:=of_decide_eq_true (mem_filter.mp hk2).2
  rw[h1] at h2
  have:=Option.some.inj h2
  omega
theorem Rk{mt:Int->Option Int}{ks:List Str}{bs:List Int}{b m:Int}{r:Int×List Nat}(hr:r∈Ny ks b m):pkF (Dt mt ks bs b m) r.2=rwF mt (pkF ks r.2) (pkF bs r.2) r.1:=by
 unfold Ny at hr
 obtain⟨h1,h2⟩:=Ajt (stF (dF ks b m ks.length) ks.length b) (hmF (stF (dF ks b m ks.length) ks.length b) ks.length (stF (dF ks b m ks.length) ks.length b).length)
 unfold Dt
 refine Adk mt ks bs _ _ (λr' hr'=>?_) h2 r hr
 have:=h1 r' hr'
 rw[Oe] at this
 rw[length_replicate];exact this
theorem Vx{d:Int}(h:1<=d)(k:Str):0<=stD d k:=by
 unfold stD
 split <;> split <;> omega
theorem Agc{d e:Int}(h:d<=e)(k:Str):stD d k<=stD e k:=by
 unfold stD
 split <;> split <;> omega
theorem Zo:∀(r:List Str) (d e:Int),1<=d->d<=e->enS d (r.take (enS e r))=enS d r
 | [],_,_,_,_=>rfl
 | c::r,d,e,h1,h2=>by
  have n1:=Vx h1 c
  have mo:=Agc h2 c
  rw[enS]
  by_cases z:stD e c=0
  ·rw[if_pos z,List.take_zero,enS,enS,if_pos (by omega)]
  ·rw[if_neg z,List.take_succ_cons,enS,enS]
   by_cases y:stD d c=0
   ·rw[if_pos y,if_pos y]
   ·rw[if_neg y,if_neg y,Zo r _ _ (by omega) mo]
theorem Adz:∀(r:List Str) (d:Int) (y:Nat) (k:Str),1<=d->y<enS d r->r[y]? = some k->k∈bgK->enS 0 ((r.take (enS d r)).drop y)=enS 0 (r.drop y)
 | [],_,_,_,_,h,_,_=>absurd h (Nat.not_lt_zero _)
 | c::r,d,y,k,h1,h,hk,hb=>by
  have n1:=Vx h1 c
  rw[enS] at h ⊢
  by_cases z:stD d c=0
  ·rw[if_pos z] at h;exact absurd h (Nat.not_lt_zero _)
  rw[if_neg z] at h ⊢
  rw[List.take_succ_cons]
  cases y with
  | zero =>
   have e:c=k:=Option.some.inj hk
   subst e
   rw[List.drop_zero,List.drop_zero]
   have e0:stD 0 c=1:=by unfold stD;rw[if_pos hb,if_neg (Nu hb)];rfl
   have e1:stD d c=d+1:=by unfold stD;rw[if_pos hb,if_neg (Nu hb)];omega
   rw[enS,enS,e0,e1,if_neg (by decide),if_neg (by decide),Zo r 1 (d+1) (by decide) (by omega)]
  | succ y =>
   rw[List.drop_succ_cons,List.drop_succ_cons]
   exact Adz r (stD d c) y k (by omega) (by omega) hk hb
def inK{α:Type}(l:List α)(a e:Nat):List α:=(l.take e).drop (a+1)
theorem Jv{ks:List Str}{a:Nat}{k:Str}(h:ks[a]? = some k)(hb:k∈bgK):Bm ks a=a+1+enS 1 (ks.drop (a+1)):=by
 unfold Bm
 have ha:=(List.getElem?_eq_some_iff.mp h)
 obtain⟨h1,h2⟩:=ha
 rw[drop_eq_getElem_cons h1,h2]
 have:=Oi (d:=0) (r:=ks.drop (a+1)) hb
 rw[show ((0:Nat):Int)=0 from rfl,show ((0+1:Nat):Int)=1 from rfl] at this
 rw[this];omega
theorem Lg{ks:List Str}{a:Nat}(h:a<=ks.length):Bm ks a<=ks.length:=by
 unfold Bm
 have:=Aa4 0 (ks.drop a)
 rw[length_drop] at this;omega
theorem Vk{α:Type}{l:List α}{a e x:Nat}(h:a+1+x<e):(inK l a e)[x]? = l[a+1+x]?:=by
 unfold inK
 rw[List.getElem?_drop,getElem?_take,if_pos h]
theorem Nd{α:Type}{l:List α}{a e:Nat}(h:e<=l.length):(inK l a e).length=e - (a+1):=by
 unfold inK
 rw[length_drop,length_take];omega
theorem AjA{ks:List Str}{a x:Nat}{k k':Str}(h:ks[a]? = some k)(hb:k∈bgK)(hx:a+1+x<Bm ks a)(h':ks[a+1+x]? = some k')(hb':k'∈bgK):Bm ks (a+1+x)=Bm (inK ks a (Bm ks a)) x+(a+1):=by
 have ee:=Jv h hb
 have en:inK ks a (Bm ks a)=(ks.drop (a+1)).take (enS 1 (ks.drop (a+1))):=by
  unfold inK
  rw[List.drop_take,ee]
  congr 1;omega
 have:=Adz (ks.drop (a+1)) 1 x k' (by decide) (by omega) (by rw[List.getElem?_drop];exact h') hb'
 rw[en]
 unfold Bm
 rw[this,List.drop_drop];omega
theorem Ajc(b:Int)(A B:List Nst):arF b (A++B)=arF (arF b A) B:=by unfold arF;rw[List.foldl_append]
theorem Agt:∀(A B:List Nst) (b c:Int),A.Sublist B->b<=c->arF b A<=arF c B:=by
 intro A B b c h
 have st:∀(x:Nst) (b c:Int),b<=c->(match x.2.2 with | some l=>max b l | none=>b)<=(match x.2.2 with | some l=>max c l | none=>c):=λx b c hh=>by
  cases x.2.2 with
  | none=>exact hh
  | some l=>show max b l<=max c l;omega
 have gr:∀(x:Nst) (c:Int),c<=(match x.2.2 with | some l=>max c l | none=>c):=λx c=>by
  cases x.2.2 with
  | none=>exact Int.le_refl _
  | some l=>show c<=max c l;omega
 induction h generalizing b c with
 | slnil=>intro h;exact h
 | cons x _ ih =>
  intro h
  exact ih b _ (Int.le_trans h (gr x c))
 | cons_cons x _ ih =>
  intro h
  exact ih _ _ (st x b c h)
def shN(s:Nat)(x:Nst):Nst:=(x.1+s,x.2.1+s,x.2.2)
theorem Adt(s:Nat):∀(D:List Nst) (b:Int),arF b (D.map (shN s))=arF b D
 | [],_=>rfl
 | x::r,b=>by
  have ih:=λc=>Adt s r c
  unfold arF at ih ⊢
  rw[map_cons,foldl_cons,foldl_cons]
  exact ih _
theorem AbT{ks:List Str}{b m l:Int}{a:Nat}{k:Str}(h:ks[a]? = some k)(hb:k∈bgK)(hl:lvF k (arF b ((dF ks b m a).filter λx=>decide (a<=x.2.1))) m=some l):∀x,a+1+x<=Bm ks a->dF ks b m (a+1+x)=dF ks b m a++(a,Bm ks a,some l)::(dF (inK ks a (Bm ks a)) l m x).map (shN (a+1))
 | 0,_=>by
  rw[show a+1+0=a+1 from rfl,Ge h hb,hl];rfl
 | x+1,hx=>by
  have ih:=AbT h hb hl x (by omega)
  have hn:a<ks.length:=(List.getElem?_eq_some_iff.mp h).1
  have el:=Lg (Nat.le_of_lt hn)
  have hx':a+1+x<ks.length:=by omega
  have e1:=getElem?_eq_getElem hx'
  have e2:(inK ks a (Bm ks a))[x]? = some ks[a+1+x]:=by rw[Vk (by omega)];exact e1
  generalize ks[a+1+x]=k' at e1 e2
  rw[show a+1+(x+1)=a+1+x+1 from rfl]
  by_cases hb':k'∈bgK
  ·rw[Ge e1 hb',Ge e2 hb',ih,AjA h hb (by omega) e1 hb']
   have key:arF b ((dF ks b m a++(a,Bm ks a,some l)::(dF (inK ks a (Bm ks a)) l m x).map (shN (a+1))).filter λy=>decide (a+1+x<=y.2.1))=arF l ((dF (inK ks a (Bm ks a)) l m x).filter λy=>decide (x<=y.2.1)):=by
    rw[filter_append,filter_cons_of_pos (p:=λy:Nst=>decide (a+1+x<=y.2.1)) (decide_eq_true (show a+1+x<=Bm ks a by omega)),Ajc]
    have ef:((dF (inK ks a (Bm ks a)) l m x).map (shN (a+1))).filter (λy=>decide (a+1+x<=y.2.1))=((dF (inK ks a (Bm ks a)) l m x).filter λy=>decide (x<=y.2.1)).map (shN (a+1)):=by
     rw[List.filter_map]
     congr 1
     refine List.filter_congr λy _=>?_
     refine decide_eq_decide.mpr ?_
     show a+1+x<=y.2.1+(a+1)↔x<=y.2.1
     omega
    rw[ef,show ∀(c:Int) (Z:List Nst),arF c ((a,Bm ks a,some l)::Z)=arF (max c l) Z from λ_ _=>rfl,Adt]
    have le:arF b ((dF ks b m a).filter λy=>decide (a+1+x<=y.2.1))<=arF b ((dF ks b m a).filter λy=>decide (a<=y.2.1)):=by
     refine Agt _ _ _ _ ?_ (Int.le_refl _)
     have:(dF ks b m a).filter (λy=>decide (a+1+x<=y.2.1))=((dF ks b m a).filter λy=>decide (a<=y.2.1)).filter (λy=>decide (a+1+x<=y.2.1)):=by
      rw[List.filter_filter]
      refine List.filter_congr λy _=>?_
      by_cases z:a+1+x<=y.2.1
      ·rw[decide_eq_true z,decide_eq_true (show a<=y.2.1 by omega)];rfl
      ·rw[decide_eq_false z];rfl
     rw[this]
     exact List.filter_sublist
    have:=Afd hl
    rw[Int.max_eq_right (by omega)]
   rw[key,map_append,append_assoc]
   show _++(_::_++_)=_
   rw[show a+1+x=x+(a+1) by omega]
   rfl
  ·rw[Gq e1 hb',Gq e2 hb',ih]
theorem Abn(ks:List Str)(b m:Int)(p:Nat):∀q,∃R:List Nst,dF ks b m (p+q)=dF ks b m p++R/\∀x∈R,p<=x.1
 | 0=>⟨[],by rw[append_nil];rfl,λx h=>(by cases h)⟩
 | q+1=>by
  obtain⟨R,h1,h2⟩:=Abn ks b m p q
  cases e:ks[p+q]? with
  | none=>exact⟨R,by rw[show p+(q+1)=p+q+1 from rfl,dF,e];exact h1,h2⟩
  | some k =>
   by_cases hb:k∈bgK
   ·refine⟨R++[(p+q,Bm ks (p+q),lvF k (arF b ((dF ks b m (p+q)).filter λx=>decide (p+q<=x.2.1))) m)],?_,?_⟩
    ·rw[show p+(q+1)=p+q+1 from rfl,Ge e hb,<- append_assoc,<- h1]
    ·intro x hx
     rcases mem_append.mp hx with hx | hx
     ·exact h2 x hx
     ·rw[mem_singleton.mp hx];exact le_add_right _ _
   ·exact⟨R,by rw[show p+(q+1)=p+q+1 from rfl,Gq e hb];exact h1,h2⟩
theorem AaA{ks:List Str}{b m l:Int}{a:Nat}{k:Str}(h:ks[a]? = some k)(hb:k∈bgK)(hl:lvF k (arF b ((dF ks b m a).filter λx=>decide (a<=x.2.1))) m=some l):∃R:List Nst,dF ks b m ks.length=dF ks b m a++(a,Bm ks a,some l)::((dF (inK ks a (Bm ks a)) l m (inK ks a (Bm ks a)).length).map (shN (a+1))++R)/\∀x∈R,Bm ks a<=x.1:=by
 have hn:a<ks.length:=(List.getElem?_eq_some_iff.mp h).1
 have el:=Lg (Nat.le_of_lt hn)
 have ee:=Jv h hb
 have il:(inK ks a (Bm ks a)).length=Bm ks a - (a+1):=Nd el
 have e1:=AbT h hb hl (inK ks a (Bm ks a)).length (by omega)
 obtain⟨R,h1,h2⟩:=Abn ks b m (Bm ks a) (ks.length - Bm ks a)
 rw[show Bm ks a+(ks.length - Bm ks a)=ks.length by omega] at h1
 rw[show a+1+(inK ks a (Bm ks a)).length=Bm ks a by omega] at e1
 refine⟨R,?_,h2⟩
 rw[h1,e1,append_assoc];rfl
theorem Jp(mt:Int->Option Int)(ks:List Str)(bs:List Int)(b m:Int):(Dt mt ks bs b m).length=ks.length:=by
 unfold Dt lvA
 suffices h:∀(rows:List (Int×List Nat)) (acc:List Int),(rows.foldl (λl r=>lpF l r.2 (rwF mt (pkF ks r.2) (pkF bs r.2) r.1)) acc).length=acc.length by rw[h,length_replicate]
 intro rows
 induction rows with
 | nil=>intro acc;rfl
 | cons r l ih=>intro acc;rw[foldl_cons,ih,AbJ]
theorem Gn{D:List Nst}{n j:Nat}{x:Nst}(h:D[j]? = some x)(p:Nat):(arA D n (j+1))[p]? = if x.2.2.isSome=true/\x.1<p/\p<x.2.1/\p<n then some (j:Int) else (arA D n j)[p]?:=by
 rw[arA,h]
 show (if x.2.2.isSome=true then (arA D n j).mapIdx (λk y=>if x.1<k/\k<x.2.1 then (j:Int) else y) else arA D n j:List Int)[p]? = _
 by_cases c:x.2.2.isSome=true
 ·rw[if_pos c,getElem?_mapIdx]
  by_cases hp:p<n
  ·have:p<(arA D n j).length:=by rw[Gh];exact hp
   rw[getElem?_eq_getElem this]
   show some (if x.1<p/\p<x.2.1 then (j:Int) else _)=_
   by_cases z:x.1<p/\p<x.2.1
   ·rw[if_pos z,if_pos ⟨c,z.1,z.2,hp⟩]
   ·rw[if_neg z,if_neg (λy=>z ⟨y.2.1,y.2.2.1⟩)]
  ·have:(arA D n j)[p]? = none:=getElem?_eq_none (by rw[Gh];omega)
   rw[this,if_neg (λy=>hp y.2.2.2)];rfl
 ·rw[if_neg c,if_neg (λy=>c y.1)]
theorem Yy(D:List Nst)(n p i:Nat):∀j,j<=D.length->(arA D n j)[p]? = some (i:Int)->∃x,D[i]? = some x/\x.1<p/\p<x.2.1
 | 0,_,h=>by
  rw[arA,getElem?_replicate] at h
  by_cases z:p<n
  ·rw[if_pos z] at h;injection h with h;omega
  ·rw[if_neg z] at h;cases h
 | j+1,hj,h=>by
  have e:=getElem?_eq_getElem (show j<D.length by omega)
  rw[Gn e] at h
  by_cases z:D[j].2.2.isSome=true/\D[j].1<p/\p<D[j].2.1/\p<n
  ·rw[if_pos z] at h
   injection h with h
   have:j=i:=by omega
   subst this
   exact⟨_,e,z.2.1,z.2.2.1⟩
  ·rw[if_neg z] at h
   exact Yy D n p i j (by omega) h
def ouZ(i:Nat)(z:Int):Int:=if z<0 then (i:Int) else (i:Int)+1+z
theorem AeQ{D D0 Di R:List Nst}{a e n s:Nat}{l:Int}(hD:D=D0++(a,e,some l)::(Di.map (shN (a+1))++R))(he:e<=n)(hs:e=a+1+s)(hR:∀x∈R,e<=x.1){k:Nat}(hk:k<s):(arA D n D.length)[a+1+k]? = ((arA Di s Di.length)[k]?).map (ouZ D0.length):=by
 have at0:D[D0.length]? = some (a,e,some l):=by rw[hD,getElem?_append_right (Nat.le_refl _),Nat.sub_self];rfl
 have at1:∀j,j<Di.length->D[D0.length+1+j]? = (Di[j]?).map (shN (a+1)):=λj hj=>by
  rw[hD,getElem?_append_right (by omega),show D0.length+1+j - D0.length=j+1 by omega,List.getElem?_cons_succ,getElem?_append_left (by rw[length_map];exact hj),getElem?_map]
 have at2:∀j,D[D0.length+1+Di.length+j]? = R[j]?:=λj=>by
  rw[hD,getElem?_append_right (by omega),show D0.length+1+Di.length+j - D0.length=Di.length+j+1 by omega,List.getElem?_cons_succ,getElem?_append_right (by rw[length_map];omega),length_map,show Di.length+j - Di.length=j by omega]
 have dl:D.length=D0.length+1+Di.length+R.length:=by rw[hD,length_append,length_cons,length_append,length_map];omega
 have s1:(arA D n (D0.length+1))[a+1+k]? = some ((D0.length:Nat):Int):=by
  rw[Gn at0,if_pos]
  exact⟨rfl,by show a<a+1+k;omega,by show a+1+k<e;omega,by omega⟩
 have s2:∀j,j<=Di.length->(arA D n (D0.length+1+j))[a+1+k]? = ((arA Di s j)[k]?).map (ouZ D0.length):=λj=>by
  induction j with
  | zero =>
   intro _
   rw[show D0.length+1+0=D0.length+1 from rfl,s1,arA,getElem?_replicate,if_pos hk];rfl
  | succ j ih =>
   intro hj
   have e1:=getElem?_eq_getElem (show j<Di.length by omega)
   have e2:=at1 j (by omega)
   rw[e1] at e2
   have e2:D[D0.length+1+j]? = some (shN (a+1) Di[j]):=e2
   rw[show D0.length+1+(j+1)=D0.length+1+j+1 from rfl,Gn e1,Gn e2,ih (by omega)]
   by_cases z:Di[j].2.2.isSome=true/\Di[j].1<k/\k<Di[j].2.1/\k<s
   ·rw[if_pos z,if_pos]
    ·show _=some (ouZ D0.length (j:Int))
     unfold ouZ
     rw[if_neg (by omega)]
     congr 1
    ·refine⟨z.1,?_,?_,by omega⟩
     ·show Di[j].1+(a+1)<a+1+k;have:=z.2.1;omega
     ·show a+1+k<Di[j].2.1+(a+1);have:=z.2.2.1;omega
   ·rw[if_neg z,if_neg]
    intro y
    refine z ⟨y.1,?_,?_,hk⟩
    ·have:Di[j].1+(a+1)<a+1+k:=y.2.1
     omega
    ·have:a+1+k<Di[j].2.1+(a+1):=y.2.2.1
     omega
 have s3:∀j,j<=R.length->(arA D n (D0.length+1+Di.length+j))[a+1+k]? = ((arA Di s Di.length)[k]?).map (ouZ D0.length):=λj=>by
  induction j with
  | zero=>intro _;exact s2 _ (Nat.le_refl _)
  | succ j ih =>
   intro hj
   have e1:=getElem?_eq_getElem (show j<R.length by omega)
   have e2:=at2 j
   rw[e1] at e2
   rw[show D0.length+1+Di.length+(j+1)=D0.length+1+Di.length+j+1 from rfl,Gn e2,if_neg,ih (by omega)]
   intro y
   have:=hR _ (getElem_mem (show j<R.length by omega))
   have:=y.2.1
   omega
 rw[dl]
 exact s3 _ (Nat.le_refl _)
theorem Amy{A A':List Int}{Z z:Int}{a e n s:Nat}(he:e<=n)(hs:e=a+1+s)(h1:∀p,A[p]? = some Z->a<p/\p<e)(h2:∀k,k<s->(A[a+1+k]? = some Z↔A'[k]? = some z)):spF A n Z=(spF A' s z).map (· + (a+1)):=by
 unfold spF
 obtain⟨t,rfl⟩:∃t,n=e+t:=⟨n - e,by omega⟩
 have er:range (e+t)=range (a+1)++(range s).map (λk=>a+1+k)++(range t).map (λk=>e+k):=by
  rw[List.range_add (n:=e),hs,List.range_add (n:=a+1)]
 rw[er,filter_append,filter_append]
 have f1:(range (a+1)).filter (λk=>decide (A[k]? = some Z))=[]:=List.filter_eq_nil_iff.mpr λk hk=>by
  have:=mem_range.mp hk
  intro y
  have:=h1 k (of_decide_eq_true y)
  omega
 have f3:((range t).map (λk=>e+k)).filter (λk=>decide (A[k]? = some Z))=[]:=List.filter_eq_nil_iff.mpr λk hk=>by
  obtain⟨j,_,rfl⟩:=mem_map.mp hk
  intro y
  have:=h1 _ (of_decide_eq_true y)
  omega
 rw[f1,f3,append_nil,nil_append,List.filter_map]
 have f2:(range s).filter ((λk=>decide (A[k]? = some Z))∘λk=>a+1+k)=(range s).filter λk=>decide (A'[k]? = some z):=List.filter_congr λk hk=>decide_eq_decide.mpr (h2 k (mem_range.mp hk))
 rw[f2]
 exact List.map_congr_left λk _=>Nat.add_comm _ _
theorem Am9{D D0 Di R:List Nst}{a e n s:Nat}{l z:Int}(hD:D=D0++(a,e,some l)::(Di.map (shN (a+1))++R))(he:e<=n)(hs:e=a+1+s)(hR:∀x∈R,e<=x.1)(hi:∀x∈Di,x.2.1<=s)(hz:z = -1\/∃j:Nat,j<Di.length/\z=(j:Int)):spF (arA D n D.length) n (ouZ D0.length z)=(spF (arA Di s Di.length) s z).map (· + (a+1)):=by
 have at0:D[D0.length]? = some (a,e,some l):=by rw[hD,getElem?_append_right (Nat.le_refl _),Nat.sub_self];rfl
 have at1:∀j,j<Di.length->D[D0.length+1+j]? = (Di[j]?).map (shN (a+1)):=λj hj=>by
  rw[hD,getElem?_append_right (by omega),show D0.length+1+j - D0.length=j+1 by omega,List.getElem?_cons_succ,getElem?_append_left (by rw[length_map];exact hj),getElem?_map]
 have ins:∀p,(arA D n D.length)[p]? = some (ouZ D0.length z)->a<p/\p<e:=λp hp=>by
  rcases hz with rfl | ⟨j,hj,rfl⟩
  ·obtain⟨x,h1,h2,h3⟩:=Yy D n p D0.length D.length (Nat.le_refl _) hp
   rw[at0] at h1
   have:=Option.some.inj h1
   subst this
   exact⟨h2,h3⟩
  ·have eo:ouZ D0.length (j:Int)=((D0.length+1+j:Nat):Int):=by unfold ouZ;rw[if_neg (by omega)];omega
   rw[eo] at hp
   obtain⟨x,h1,h2,h3⟩:=Yy D n p _ D.length (Nat.le_refl _) hp
   rw[at1 j hj,getElem?_eq_getElem hj] at h1
   have:=Option.some.inj h1
   subst this
   have:=hi _ (getElem_mem hj)
   have h2:Di[j].1+(a+1)<p:=h2
   have h3:p<Di[j].2.1+(a+1):=h3
   exact⟨by omega,by omega⟩
 have zok:∀y∈arA Di s Di.length,ouZ D0.length y=ouZ D0.length z->y=z:=λy hy e=>by
  have h1:y = -1\/0<=y:=by
   rcases Oq Di s Di.length y hy with h | ⟨i,_,h,_⟩
   ·exact .inl h
   ·exact .inr (by omega)
  have h2:z = -1\/0<=z:=hz.imp id λ⟨j,_,h⟩=>by omega
  unfold ouZ at e
  rcases h1 with rfl | h1 <;> rcases h2 with rfl | h2
  ·rfl
  ·rw[if_pos (by decide),if_neg (by omega)] at e;omega
  ·rw[if_neg (by omega),if_pos (by decide)] at e;omega
  ·rw[if_neg (by omega),if_neg (by omega)] at e;omega
 refine Amy he hs ins λk hk=>?_
 rw[AeQ hD he hs hR hk]
 have hk':k<(arA Di s Di.length).length:=by rw[Gh];exact hk
 rw[getElem?_eq_getElem hk']
 have zz:=zok _ (getElem_mem hk')
 constructor
 ·intro y
  rw[zz (Option.some.inj y)]
 ·intro y
  rw[Option.some.inj y];rfl
theorem Sf{ks:List Str}{b m:Int}:∀n,n<=ks.length->∀x∈dF ks b m n,x.2.1<=ks.length
 | 0,_,x,h=>(by cases h)
 | n+1,hn,x,h=>by
  have e:=getElem?_eq_getElem (show n<ks.length by omega)
  by_cases hb:ks[n]∈bgK
  ·rw[Ge e hb] at h
   rcases mem_append.mp h with h | h
   ·exact Sf n (by omega) x h
   ·rw[mem_singleton.mp h];exact Lg (by omega)
  ·rw[Gq e hb] at h
   exact Sf n (by omega) x h
theorem AgX{α:Type} [Inhabited α] {l:List α} {a e s:Nat} (hs:e=a+1+s) {r:List Nat} (h:∀k∈r,k<s):pkF l (r.map (· + (a+1)))=pkF (inK l a e) r:=by
 unfold pkF
 rw[map_map]
 refine List.map_congr_left λk hk=>?_
 have:=h k hk
 show (l[k+(a+1)]?).getD default=_
 rw[Vk (by omega),show k+(a+1)=a+1+k by omega]
theorem AjP{mt:Int->Option Int}{ks:List Str}{bs:List Int}{b m l:Int}{a:Nat}{k:Str}(h:ks[a]? = some k)(hb:k∈bgK)(hl:lvF k (arF b ((dF ks b m a).filter λx=>decide (a<=x.2.1))) m=some l):inK (Dt mt ks bs b m) a (Bm ks a)=Dt mt (inK ks a (Bm ks a)) (inK bs a (Bm ks a)) l m:=by
 have hn:a<ks.length:=(List.getElem?_eq_some_iff.mp h).1
 have el:=Lg (Nat.le_of_lt hn)
 have ee:=Jv h hb
 have il:(inK ks a (Bm ks a)).length=Bm ks a - (a+1):=Nd el
 obtain⟨R,hD,hR⟩:=AaA h hb hl
 have hs:Bm ks a=a+1+(inK ks a (Bm ks a)).length:=by omega
 have hi:=λx=>Sf (ks:=inK ks a (Bm ks a)) (b:=l) (m:=m) _ (Nat.le_refl _) x
 have lw:(Dt mt ks bs b m).length=ks.length:=Jp ..
 have li:(Dt mt (inK ks a (Bm ks a)) (inK bs a (Bm ks a)) l m).length=(inK ks a (Bm ks a)).length:=Jp ..
 refine ext_getElem? λq=>?_
 by_cases hq:q<(inK ks a (Bm ks a)).length
 rotate_left
 ·have lx:(inK (Dt mt ks bs b m) a (Bm ks a)).length=Bm ks a - (a+1):=Nd (by omega)
  rw[getElem?_eq_none (by omega),getElem?_eq_none (by omega)]
 -- the row that q stands in
 have key:∀(z v:Int),(z = -1\/∃j:Nat,j<(dF (inK ks a (Bm ks a)) l m (inK ks a (Bm ks a)).length).length/\z=(j:Int)) ->
   (v,spF (arA (dF (inK ks a (Bm ks a)) l m (inK ks a (Bm ks a)).length) (inK ks a (Bm ks a)).length (dF (inK ks a (Bm ks a)) l m (inK ks a (Bm ks a)).length).length) (inK ks a (Bm ks a)).length z)∈Ny (inK ks a (Bm ks a)) l m ->
   (v,spF (arA (dF ks b m ks.length) ks.length (dF ks b m ks.length).length) ks.length (ouZ (dF ks b m a).length z))∈Ny ks b m ->
   ∀q∈spF (arA (dF (inK ks a (Bm ks a)) l m (inK ks a (Bm ks a)).length) (inK ks a (Bm ks a)).length (dF (inK ks a (Bm ks a)) l m (inK ks a (Bm ks a)).length).length) (inK ks a (Bm ks a)).length z,
   ((Dt mt ks bs b m)[a+1+q]?).getD default=((Dt mt (inK ks a (Bm ks a)) (inK bs a (Bm ks a)) l m)[q]?).getD default:=λz v hz r1 r2 q hq=>by
  have e1:=Rk (mt:=mt) (bs:=inK bs a (Bm ks a)) r1
  have e2:=Rk (mt:=mt) (bs:=bs) r2
  have es:=Am9 (z:=z) hD el hs hR hi hz
  have lt:∀k∈spF (arA (dF (inK ks a (Bm ks a)) l m (inK ks a (Bm ks a)).length) (inK ks a (Bm ks a)).length (dF (inK ks a (Bm ks a)) l m (inK ks a (Bm ks a)).length).length) (inK ks a (Bm ks a)).length z,k<(inK ks a (Bm ks a)).length:=λk hk=>mem_range.mp (mem_filter.mp hk).1
  rw[es] at e2
  generalize spF (arA (dF (inK ks a (Bm ks a)) l m (inK ks a (Bm ks a)).length) (inK ks a (Bm ks a)).length (dF (inK ks a (Bm ks a)) l m (inK ks a (Bm ks a)).length).length) (inK ks a (Bm ks a)).length z=r at e1 e2 hq lt
  have e2:pkF (Dt mt ks bs b m) (r.map (· + (a+1)))=rwF mt (pkF ks (r.map (· + (a+1)))) (pkF bs (r.map (· + (a+1)))) v:=e2
  have e1:pkF (Dt mt (inK ks a (Bm ks a)) (inK bs a (Bm ks a)) l m) r=rwF mt (pkF (inK ks a (Bm ks a)) r) (pkF (inK bs a (Bm ks a)) r) v:=e1
  rw[AgX (l:=ks) hs lt,AgX (l:=bs) hs lt,<- e1] at e2
  unfold pkF at e2
  rw[map_map] at e2
  have:=List.map_inj_left.mp e2 q hq
  have this:((Dt mt ks bs b m)[q+(a+1)]?).getD default=((Dt mt (inK ks a (Bm ks a)) (inK bs a (Bm ks a)) l m)[q]?).getD default:=this
  rw[show q+(a+1)=a+1+q by omega] at this
  exact this
 have got:((Dt mt ks bs b m)[a+1+q]?).getD default=((Dt mt (inK ks a (Bm ks a)) (inK bs a (Bm ks a)) l m)[q]?).getD default:=by
  have ha:q<(arA (dF (inK ks a (Bm ks a)) l m (inK ks a (Bm ks a)).length) (inK ks a (Bm ks a)).length (dF (inK ks a (Bm ks a)) l m (inK ks a (Bm ks a)).length).length).length:=by rw[Gh];exact hq
  have inq:q∈spF (arA (dF (inK ks a (Bm ks a)) l m (inK ks a (Bm ks a)).length) (inK ks a (Bm ks a)).length (dF (inK ks a (Bm ks a)) l m (inK ks a (Bm ks a)).length).length) (inK ks a (Bm ks a)).length _:=mem_filter.mpr ⟨mem_range.mpr hq,decide_eq_true (getElem?_eq_getElem ha)⟩
  have at0:(dF ks b m ks.length)[(dF ks b m a).length]? = some (a,Bm ks a,some l):=by rw[hD,getElem?_append_right (Nat.le_refl _),Nat.sub_self];rfl
  rcases Oq _ _ _ _ (getElem_mem ha) with hz | ⟨i,hi1,hz,x,v,hx,hv⟩
  ·rw[hz] at inq
   refine key (-1) l (.inl rfl) ?_ ?_ q inq
   ·exact mem_of_getElem? Wo
   ·exact mem_of_getElem? (Rb at0 rfl)
  ·rw[hz] at inq
   refine key i v (.inr ⟨i,hi1,rfl⟩) ?_ ?_ q inq
   ·exact mem_of_getElem? (Rb hx hv)
   ·have at1:(dF ks b m ks.length)[(dF ks b m a).length+1+i]? = some (shN (a+1) x):=by
     rw[hD,getElem?_append_right (by omega),show (dF ks b m a).length+1+i - (dF ks b m a).length=i+1 by omega,List.getElem?_cons_succ,getElem?_append_left (by rw[length_map];exact hi1),getElem?_map,hx];rfl
    have eo:ouZ (dF ks b m a).length (i:Int)=(((dF ks b m a).length+1+i:Nat):Int):=by unfold ouZ;rw[if_neg (by omega)];omega
    rw[eo]
    exact mem_of_getElem? (Rb at1 hv)
 rw[Vk (by omega)]
 rw[getElem?_eq_getElem (show a+1+q<(Dt mt ks bs b m).length by omega),getElem?_eq_getElem (show q<(Dt mt (inK ks a (Bm ks a)) (inK bs a (Bm ks a)) l m).length by omega)] at got ⊢
 exact congrArg some got
def Te(I B:List Str):Prop:=∀d:Int,1<=d->enS d (I++B)=I.length+enS d B
theorem AeC{k:Str}(hk:k∈bgK)(d:Int):stD d k=d+1:=by
 unfold stD;rw[if_pos hk,if_neg (Nu hk)];omega
theorem Abm{k:Str}{I B:List Str}(hk:k∈bgK)(hB:Te I B):∀(A:List Str) (d:Int),1<=d->enS d (A++k::(I++B))=if enS d (A++k::B)<=A.length then enS d (A++k::B) else enS d (A++k::B)+I.length
 | [],d,h=>by
  show enS d (k::(I++B))=if enS d (k::B)<=0 then enS d (k::B) else enS d (k::B)+I.length
  have e:=AeC hk d
  have e1:enS d (k::(I++B))=enS (d+1) (I++B)+1:=by rw[enS,e,if_neg (by omega)]
  have e2:enS d (k::B)=enS (d+1) B+1:=by rw[enS,e,if_neg (by omega)]
  rw[e1,e2,hB (d+1) (by omega),if_neg (by omega)]
  omega
 | x::A,d,h=>by
  have nn:=Vx h x
  rw[cons_append,cons_append,enS,enS]
  by_cases z:stD d x=0
  ·rw[if_pos z,if_pos z,if_pos (zero_le _)]
  ·rw[if_neg z,if_neg z,Abm hk hB A (stD d x) (by omega),length_cons]
   by_cases y:enS (stD d x) (A++k::B)<=A.length
   ·rw[if_pos y,if_pos (by omega)]
   ·rw[if_neg y,if_neg (by omega)];omega
def phP(a s q:Nat):Nat:=if q<=a then q else q+s
theorem phP_lt{a s q r:Nat}:phP a s q<phP a s r↔q<r:=by
 unfold phP
 by_cases h1:q<=a <;> by_cases h2:r<=a <;> simp only [h1,h2,if_true,if_false] <;> omega
theorem Tf{α:Type}{A:List α}{x:α}{I B:List α}(q:Nat):(A++x::(I++B))[phP A.length I.length q]? = (A++x::B)[q]?:=by
 unfold phP
 by_cases h:q<=A.length
 ·rw[if_pos h]
  by_cases h2:q<A.length
  ·rw[getElem?_append_left h2,getElem?_append_left h2]
  ·have:q=A.length:=by omega
   subst this
   rw[getElem?_append_right (Nat.le_refl _),getElem?_append_right (Nat.le_refl _),Nat.sub_self];rfl
 ·rw[if_neg h,getElem?_append_right (by omega),getElem?_append_right (by omega)]
  obtain⟨j,hj⟩:∃j,q - A.length=j+1:=⟨q - A.length - 1,by omega⟩
  rw[show q+I.length - A.length=(I.length+j)+1 by omega,hj,List.getElem?_cons_succ,List.getElem?_cons_succ,getElem?_append_right (by omega),Nat.add_sub_cancel_left]
section
variable {A I B:List Str}{k:Str}{b m:Int}
theorem Up(hk:k∈bgK)(hB:Te I B){q:Nat}{x:Str}(hq:(A++k::B)[q]? = some x)(hx:x∈bgK):Bm (A++k::(I++B)) (phP A.length I.length q)=phP A.length I.length (Bm (A++k::B) q):=by
 have hq2:=Tf (I:=I) (A:=A) (x:=k) (B:=B) q
 rw[hq] at hq2
 rw[Jv hq hx,Jv hq2 hx]
 by_cases h:q<=A.length
 ·have hp:phP A.length I.length q=q:=if_pos h
  rw[hp]
  by_cases h2:q<A.length
  ·rw[List.drop_append_of_le_length (by omega),List.drop_append_of_le_length (by omega),Abm hk hB (A.drop (q+1)) 1 (by omega),length_drop]
   unfold phP
   by_cases y:enS 1 (A.drop (q+1)++k::B)<=A.length - (q+1)
   ·rw[if_pos y,if_pos (by omega)]
   ·rw[if_neg y,if_neg (by omega)];omega
  ·have:q=A.length:=by omega
   subst this
   rw[show (A++k::(I++B)).drop (A.length+1)=I++B by rw[List.drop_append];simp,show (A++k::B).drop (A.length+1)=B by rw[List.drop_append];simp,hB 1 (by omega)]
   unfold phP
   rw[if_neg (by omega)];omega
 ·have hp:phP A.length I.length q=q+I.length:=if_neg h
  have e:(A++k::(I++B)).drop (q+I.length+1)=(A++k::B).drop (q+1):=by
   refine ext_getElem? λi=>?_
   rw[List.getElem?_drop,List.getElem?_drop,<- Tf (I:=I) (q+1+i)]
   unfold phP
   rw[if_neg (by omega)]
   congr 1;omega
  rw[hp,e]
  unfold phP
  rw[if_neg (by omega)];omega
def psN(a s:Nat)(x:Nst):Nst:=(phP a s x.1,phP a s x.2.1,x.2.2)
theorem Sw(a s:Nat):∀(D:List Nst) (b:Int),arF b (D.map (psN a s))=arF b D
 | [],_=>rfl
 | x::r,b=>by
  have ih:=Sw a s r
  unfold arF at ih ⊢
  rw[map_cons,foldl_cons,foldl_cons]
  exact ih _
theorem Vi{a s n:Nat}{D:List Nst}:(D.map (psN a s)).filter (λx=>decide (phP a s n<=x.2.1))=(D.filter λx=>decide (n<=x.2.1)).map (psN a s):=by
 rw[List.filter_map]
 congr 1
 refine List.filter_congr λx _=>?_
 show decide (phP a s n<=phP a s x.2.1)=decide (n<=x.2.1)
 refine decide_eq_decide.mpr ?_
 have:=phP_lt (a:=a) (s:=s) (q:=x.2.1) (r:=n)
 omega
theorem Xf(hk:k∈bgK)(hB:Te I B):∀n,n<=A.length+1->dF (A++k::(I++B)) b m n=(dF (A++k::B) b m n).map (psN A.length I.length)
 | 0,_=>rfl
 | n+1,h=>by
  have ih:=Xf hk hB n (by omega)
  have hp:phP A.length I.length n=n:=if_pos (by omega)
  have hq:=Tf (I:=I) (A:=A) (x:=k) (B:=B) n
  rw[hp] at hq
  cases e:(A++k::B)[n]? with
  | none=>rw[dF,dF,hq,e];exact ih
  | some x =>
   rw[e] at hq
   by_cases hx:x∈bgK
   ·have en:=Up (I:=I) hk hB e hx
    have ef:=Vi (a:=A.length) (s:=I.length) (n:=n) (D:=dF (A++k::B) b m n)
    rw[hp] at en ef
    rw[Ge hq hx,Ge e hx,ih,map_append,ef,Sw,en]
    show _++[_]=_++[(phP A.length I.length n,_,_)]
    rw[hp]
   ·rw[Gq hq hx,Gq e hx,ih]
theorem Ajx(hE:enS 1 B=0){x:Str}(h:B[0]? = some x):¬x∈bgK:=λhx=>by
 cases B with
 | nil=>cases h
 | cons y r =>
  have:y=x:=Option.some.inj h
  subst this
  rw[enS,AeC hx,if_neg (by omega)] at hE
  omega
abbrev diN(I:List Str)(l m:Int)(a:Nat):List Nst:=(dF I l m I.length).map (shN (a+1))
theorem AbS(hk:k∈bgK)(hE:enS 1 B=0):Bm (A++k::B) A.length=A.length+1:=by
 have h:(A++k::B)[A.length]? = some k:=by rw[getElem?_append_right (Nat.le_refl _),Nat.sub_self];rfl
 rw[Jv h hk,show (A++k::B).drop (A.length+1)=B by rw[List.drop_append];simp,hE]
theorem AkZ{l:Int}(hk:k∈bgK)(hB:Te I B)(hE:enS 1 B=0)(hl:lvF k (arF b ((dF (A++k::B) b m A.length).filter λx=>decide (A.length<=x.2.1))) m=some l):dF (A++k::(I++B)) b m (A.length+1+I.length)=(dF (A++k::B) b m (A.length+1)).map (psN A.length I.length)++diN I l m A.length:=by
 have h0:(A++k::B)[A.length]? = some k:=by rw[getElem?_append_right (Nat.le_refl _),Nat.sub_self];rfl
 have h:(A++k::(I++B))[A.length]? = some k:=by rw[getElem?_append_right (Nat.le_refl _),Nat.sub_self];rfl
 have pa:phP A.length I.length A.length=A.length:=if_pos (Nat.le_refl _)
 have en:=Up (I:=I) hk hB h0 hk
 rw[pa,AbS hk hE,show phP A.length I.length (A.length+1)=A.length+1+I.length from if_neg (by omega)] at en
 have fo:=Xf (A:=A) (b:=b) (m:=m) hk hB A.length (by omega)
 have ef:=Vi (a:=A.length) (s:=I.length) (n:=A.length) (D:=dF (A++k::B) b m A.length)
 rw[pa] at ef
 have hl2:lvF k (arF b ((dF (A++k::(I++B)) b m A.length).filter λx=>decide (A.length<=x.2.1))) m=some l:=by
  rw[fo,ef,Sw];exact hl
 have di:=AbT h hk hl2 I.length (by rw[en];exact Nat.le_refl _)
 have ik:inK (A++k::(I++B)) A.length (Bm (A++k::(I++B)) A.length)=I:=by
  rw[en]
  refine ext_getElem? λi=>?_
  by_cases hi:i<I.length
  ·rw[Vk (a:=A.length) (e:=A.length+1+I.length) (x:=i) (by omega),getElem?_append_right (by omega),show A.length+1+i - A.length=i+1 by omega,List.getElem?_cons_succ,getElem?_append_left hi]
  ·rw[getElem?_eq_none (by rw[Nd (l:=A++k::(I++B)) (a:=A.length) (e:=A.length+1+I.length) (by rw[length_append,length_cons,length_append];omega)];omega),getElem?_eq_none (by omega)]
 rw[ik,en] at di
 rw[di,Ge h0 hk,hl,map_append,fo,append_assoc]
 show _++_::_=_++([(phP A.length I.length A.length,phP A.length I.length (Bm (A++k::B) A.length),some l)]++_)
 rw[pa,AbS hk hE,show phP A.length I.length (A.length+1)=A.length+1+I.length from if_neg (by omega)];rfl
theorem Aly{l:Int}(a:Nat):∀x∈diN I l m a,a<x.1/\x.2.1<=a+1+I.length:=λx hx=>by
 obtain⟨y,hy,rfl⟩:=mem_map.mp hx
 have:=Sf I.length (Nat.le_refl _) y hy
 show a<y.1+(a+1)/\y.2.1+(a+1)<=a+1+I.length
 omega
theorem AaY{l:Int}(hk:k∈bgK)(hB:Te I B)(hE:enS 1 B=0)(hl:lvF k (arF b ((dF (A++k::B) b m A.length).filter λx=>decide (A.length<=x.2.1))) m=some l):∀j,j<=B.length->∃R:List Nst,dF (A++k::B) b m (A.length+1+j)=dF (A++k::B) b m (A.length+1)++R/\(∀x∈R,A.length<x.1)/\dF (A++k::(I++B)) b m (A.length+1+I.length+j)=(dF (A++k::B) b m (A.length+1)).map (psN A.length I.length)++(diN I l m A.length++R.map (psN A.length I.length))
 | 0,_=>⟨[],by rw[append_nil,Nat.add_zero],λx h=>(by cases h),by rw[map_nil,append_nil];exact AkZ hk hB hE hl⟩
 | j+1,hj=>by
  obtain⟨R,r1,rl,r2⟩:=AaY hk hB hE hl j (by omega)
  have hn:phP A.length I.length (A.length+1+j)=A.length+1+I.length+j:=by unfold phP;rw[if_neg (by omega)];omega
  have hq:=Tf (I:=I) (A:=A) (x:=k) (B:=B) (A.length+1+j)
  rw[hn] at hq
  cases e:(A++k::B)[A.length+1+j]? with
  | none =>
   rw[List.getElem?_eq_none_iff,length_append,length_cons] at e
   omega
  | some x =>
   rw[e] at hq
   by_cases hx:x∈bgK
   ·have j1:1<=j:=by
     refine Classical.byContradiction λz=>?_
     have j0:j=0:=by omega
     subst j0
     refine Ajx hE (x:=x) ?_ hx
     rw[getElem?_append_right (by omega),show A.length+1+0 - A.length=1 by omega,List.getElem?_cons_succ] at e
     exact e
    have en:=Up (I:=I) hk hB e hx
    have ef:=Vi (a:=A.length) (s:=I.length) (n:=A.length+1+j) (D:=dF (A++k::B) b m (A.length+1)++R)
    rw[hn] at en ef
    have f0:(diN I l m A.length).filter (λx=>decide (A.length+1+I.length+j<=x.2.1))=[]:=List.filter_eq_nil_iff.mpr λx hx z=>by
     have:=(Aly (I:=I) (l:=l) (m:=m) A.length x hx).2
     have:=of_decide_eq_true z
     omega
    have fa:arF b ((dF (A++k::(I++B)) b m (A.length+1+I.length+j)).filter λx=>decide (A.length+1+I.length+j<=x.2.1))=arF b ((dF (A++k::B) b m (A.length+1+j)).filter λx=>decide (A.length+1+j<=x.2.1)):=by
     rw[r2,r1,filter_append,filter_append,f0,nil_append,<- filter_append,<- map_append,ef,Sw]
    refine⟨R++[(A.length+1+j,Bm (A++k::B) (A.length+1+j),lvF x (arF b ((dF (A++k::B) b m (A.length+1+j)).filter λx=>decide (A.length+1+j<=x.2.1))) m)],?_,?_,?_⟩
    ·rw[show A.length+1+(j+1)=A.length+1+j+1 from rfl,Ge e hx]
     conv=>lhs;arg 1;rw[r1]
     rw[append_assoc]
    ·intro y hy
     rcases mem_append.mp hy with hy | hy
     ·exact rl y hy
     ·rw[mem_singleton.mp hy]
      show A.length<A.length+1+j
      omega
    ·rw[show A.length+1+I.length+(j+1)=A.length+1+I.length+j+1 from rfl,Ge hq hx,fa,en]
     conv=>lhs;arg 1;rw[r2]
     rw[map_append,append_assoc,append_assoc]
     show _++(_++(_++[_]))=_++(_++(_++[(phP A.length I.length (A.length+1+j),_,_)]))
     rw[hn]
   ·exact⟨R,by rw[show A.length+1+(j+1)=A.length+1+j+1 from rfl,Gq e hx,r1],rl,by rw[show A.length+1+I.length+(j+1)=A.length+1+I.length+j+1 from rfl,Gq hq hx,r2]⟩
theorem AhR{a s q:Nat}{x:Nst}:((psN a s x).1<phP a s q/\phP a s q<(psN a s x).2.1)↔(x.1<q/\q<x.2.1):=by
 show phP a s x.1<phP a s q/\phP a s q<phP a s x.2.1↔_
 rw[phP_lt,phP_lt]
def ioZ(p i:Nat)(z:Int):Int:=if z<(p:Int) then z else z+i
theorem AnF{P0 R DI:List Nst}{a s n n0:Nat}(hn:n=n0+s)(ha:a<n0)(hDI:∀x∈DI,a<x.1/\x.2.1<=a+1+s){q:Nat}(hq:q<n0):(arA (P0.map (psN a s)++(DI++R.map (psN a s))) n (P0.length+(DI.length+R.length)))[phP a s q]? = ((arA (P0++R) n0 (P0.length+R.length))[q]?).map (ioZ P0.length DI.length):=by
 have hpq:phP a s q<n:=by unfold phP;split <;> omega
 have hout:¬(a<phP a s q/\phP a s q<a+1+s):=by unfold phP;split <;> omega
 have ph1:∀j,j<=P0.length->(arA (P0.map (psN a s)++(DI++R.map (psN a s))) n j)[phP a s q]? = (arA (P0++R) n0 j)[q]?/\∀z,(arA (P0++R) n0 j)[q]? = some z->z<(j:Int):=by
  intro j
  induction j with
  | zero =>
   intro _
   rw[arA,arA,getElem?_replicate,getElem?_replicate,if_pos hpq,if_pos hq]
   exact⟨rfl,λz h=>by have:=Option.some.inj h;omega⟩
  | succ j ih =>
   intro hj
   obtain⟨ih1,ih2⟩:=ih (by omega)
   have e0:(P0++R)[j]? = some P0[j]:=by rw[getElem?_append_left (by omega),getElem?_eq_getElem (by omega)]
   have e1:(P0.map (psN a s)++(DI++R.map (psN a s)))[j]? = some (psN a s P0[j]):=by rw[getElem?_append_left (by rw[length_map];omega),getElem?_map,getElem?_eq_getElem (show j<P0.length by omega)];rfl
   rw[Gn e1,Gn e0,ih1]
   have c:((psN a s P0[j]).2.2.isSome=true/\(psN a s P0[j]).1<phP a s q/\phP a s q<(psN a s P0[j]).2.1/\phP a s q<n)↔(P0[j].2.2.isSome=true/\P0[j].1<q/\q<P0[j].2.1/\q<n0):=by
    have:=AhR (a:=a) (s:=s) (q:=q) (x:=P0[j])
    show (P0[j].2.2.isSome=true/\_)↔_
    constructor
    ·rintro ⟨h1,h2,h3,_⟩
     exact⟨h1,(this.mp ⟨h2,h3⟩).1,(this.mp ⟨h2,h3⟩).2,hq⟩
    ·rintro ⟨h1,h2,h3,_⟩
     exact⟨h1,(this.mpr ⟨h2,h3⟩).1,(this.mpr ⟨h2,h3⟩).2,hpq⟩
   by_cases z:P0[j].2.2.isSome=true/\P0[j].1<q/\q<P0[j].2.1/\q<n0
   ·rw[if_pos (c.mpr z),if_pos z]
    exact⟨rfl,λz h=>by have:=Option.some.inj h;omega⟩
   ·rw[if_neg (λy=>z (c.mp y)),if_neg z]
    exact⟨rfl,λz h=>by have:=ih2 z h;omega⟩
 have ph2:∀j,j<=DI.length->(arA (P0.map (psN a s)++(DI++R.map (psN a s))) n (P0.length+j))[phP a s q]? = (arA (P0.map (psN a s)++(DI++R.map (psN a s))) n P0.length)[phP a s q]?:=by
  intro j
  induction j with
  | zero=>intro _;rfl
  | succ j ih =>
   intro hj
   have e1:(P0.map (psN a s)++(DI++R.map (psN a s)))[P0.length+j]? = some DI[j]:=by rw[getElem?_append_right (by rw[length_map];omega),length_map,Nat.add_sub_cancel_left,getElem?_append_left (by omega),getElem?_eq_getElem (by omega)]
   have hd:=hDI DI[j] (getElem_mem _)
   rw[show P0.length+(j+1)=P0.length+j+1 from rfl,Gn e1,if_neg (λz=>hout ⟨by omega,by omega⟩),ih (by omega)]
 have ph3:∀j,j<=R.length->(arA (P0.map (psN a s)++(DI++R.map (psN a s))) n (P0.length+(DI.length+j)))[phP a s q]? = ((arA (P0++R) n0 (P0.length+j))[q]?).map (ioZ P0.length DI.length):=by
  intro j
  induction j with
  | zero =>
   intro _
   obtain⟨h1,h2⟩:=ph1 P0.length (Nat.le_refl _)
   rw[show DI.length+0=DI.length from rfl,ph2 DI.length (Nat.le_refl _),h1]
   cases e:(arA (P0++R) n0 P0.length)[q]? with
   | none=>rfl
   | some z =>
    show some z=some (ioZ _ _ z)
    unfold ioZ
    rw[if_pos (h2 z e)]
  | succ j ih =>
   intro hj
   have e0:(P0++R)[P0.length+j]? = some R[j]:=by rw[getElem?_append_right (by omega),Nat.add_sub_cancel_left,getElem?_eq_getElem (by omega)]
   have e1:(P0.map (psN a s)++(DI++R.map (psN a s)))[P0.length+(DI.length+j)]? = some (psN a s R[j]):=by rw[getElem?_append_right (by rw[length_map];omega),length_map,Nat.add_sub_cancel_left,getElem?_append_right (by omega),Nat.add_sub_cancel_left,getElem?_map,getElem?_eq_getElem (show j<R.length by omega)];rfl
   rw[show P0.length+(DI.length+(j+1))=P0.length+(DI.length+j)+1 from rfl,show P0.length+(j+1)=P0.length+j+1 from rfl,Gn e1,Gn e0]
   have this:=AhR (a:=a) (s:=s) (q:=q) (x:=R[j])
   by_cases z:R[j].2.2.isSome=true/\R[j].1<q/\q<R[j].2.1/\q<n0
   ·rw[if_pos z,if_pos (show (psN a s R[j]).2.2.isSome=true/\_ from ⟨z.1,(this.mpr ⟨z.2.1,z.2.2.1⟩).1,(this.mpr ⟨z.2.1,z.2.2.1⟩).2,hpq⟩)]
    show some _=some (ioZ _ _ _)
    unfold ioZ
    rw[if_neg (by omega)]
    congr 1;omega
   ·rw[if_neg z,if_neg (λy=>z ⟨y.1,(this.mp ⟨y.2.1,y.2.2.1⟩).1,(this.mp ⟨y.2.1,y.2.2.1⟩).2,hq⟩),ih (by omega)]
 exact ph3 R.length (Nat.le_refl _)
end
theorem AiD{l1 l2:List Nat}(h1:l1.Pairwise (· < ·))(h2:l2.Pairwise (· < ·))(h:∀x,x∈l1↔x∈l2):l1=l2:=by
 have n1:l1.Nodup:=h1.imp λh=>ne_of_lt h
 have n2:l2.Nodup:=h2.imp λh=>ne_of_lt h
 exact List.Perm.eq_of_pairwise (le:=(· < ·)) (λa b _ _ h1 h2=>absurd h1 (by omega)) h1 h2 ((List.perm_ext_iff_of_nodup n1 n2).mpr h)
theorem AjK{p i:Nat}{z y:Int}(h:ioZ p i z=ioZ p i y):z=y:=by
 unfold ioZ at h
 split at h <;> split at h <;> omega
section
variable {A I B:List Str}{k:Str}{b m l:Int}
theorem AlL{P0 R Di:List Nst}{a s n n0:Nat}(hn:n=n0+s)(ha:a<n0)(hDi:∀x∈Di,x.2.1<=s)(hR:∀x∈R,a<x.1)(hP:∃Dm,P0=Dm++[(a,a+1,some l)]){z:Int}(hz:z = -1\/∃i:Nat,z=(i:Int)/\i+1≠P0.length) :
  spF (arA (P0.map (psN a s)++(Di.map (shN (a+1))++R.map (psN a s))) n (P0.length+(Di.length+R.length))) n (ioZ P0.length Di.length z)=(spF (arA (P0++R) n0 (P0.length+R.length)) n0 z).map (phP a s):=by
 have hDI:∀x∈Di.map (shN (a+1)),a<x.1/\x.2.1<=a+1+s:=λx hx=>by
  obtain⟨y,hy,rfl⟩:=mem_map.mp hx
  have:=hDi y hy
  show a<y.1+(a+1)/\y.2.1+(a+1)<=a+1+s
  omega
 have ps:∀{q},q<n0->(arA (P0.map (psN a s)++(Di.map (shN (a+1))++R.map (psN a s))) n (P0.length+(Di.length+R.length)))[phP a s q]? = ((arA (P0++R) n0 (P0.length+R.length))[q]?).map (ioZ P0.length Di.length):=λ{q} hq=>by
  have:=AnF (P0:=P0) (R:=R) (DI:=Di.map (shN (a+1))) hn ha hDI hq
  rw[length_map] at this
  exact this
 obtain⟨Dm,hDm⟩:=hP
 have pl:P0.length=Dm.length+1:=by rw[hDm,length_append];rfl
 have hD:P0.map (psN a s)++(Di.map (shN (a+1))++R.map (psN a s))=Dm.map (psN a s)++(a,a+1+s,some l)::(Di.map (shN (a+1))++R.map (psN a s)):=by
  rw[hDm,map_append,append_assoc]
  show _++([(phP a s a,phP a s (a+1),some l)]++_)=_
  rw[show phP a s a=a from if_pos (Nat.le_refl _),show phP a s (a+1)=a+1+s from if_neg (by omega)];rfl
 have lD:(P0.map (psN a s)++(Di.map (shN (a+1))++R.map (psN a s))).length=P0.length+(Di.length+R.length):=by simp only [length_append,length_map]
 have hR2:∀x∈R.map (psN a s),a+1+s<=x.1:=λx hx=>by
  obtain⟨y,hy,rfl⟩:=mem_map.mp hx
  have:=hR y hy
  show a+1+s<=phP a s y.1
  unfold phP
  rw[if_neg (by omega)];omega
 have ins:∀{x:Nat},a<x->x<a+1+s->¬(arA (P0.map (psN a s)++(Di.map (shN (a+1))++R.map (psN a s))) n (P0.length+(Di.length+R.length)))[x]? = some (ioZ P0.length Di.length z):=λ{x} h1 h2 h=>by
  have one:=AeQ (n:=n) (s:=s) hD (by omega) rfl hR2 (k:=x - (a+1)) (by omega)
  rw[lD,show a+1+(x - (a+1))=x by omega,h,length_map] at one
  obtain⟨y,hy,e⟩:=map_eq_some_iff.mp one.symm
  have yv:=Oq Di s Di.length y (mem_of_getElem? hy)
  unfold ouZ ioZ at e
  rcases yv with rfl | ⟨i,hi,rfl,_⟩
  ·rw[if_pos (by omega)] at e
   rcases hz with rfl | ⟨j,rfl,hj⟩
   ·split at e <;> omega
   ·split at e <;> omega
  ·rw[if_neg (by omega)] at e
   rcases hz with rfl | ⟨j,rfl,hj⟩
   ·split at e <;> omega
   ·split at e <;> omega
 refine AiD ?_ ?_ λx=>?_
 ·exact Pairwise.filter _ List.pairwise_lt_range
 ·rw[List.pairwise_map]
  exact (Pairwise.filter _ List.pairwise_lt_range).imp λh=>phP_lt.mpr h
 ·constructor
  ·intro h
   obtain⟨h1,h2⟩:=mem_filter.mp h
   have h1:=mem_range.mp h1
   have h2:=of_decide_eq_true h2
   have go:∀q,q<n0->phP a s q=x->x∈(spF (arA (P0++R) n0 (P0.length+R.length)) n0 z).map (phP a s):=λq hq e=>by
    refine mem_map.mpr ⟨q,mem_filter.mpr ⟨mem_range.mpr hq,decide_eq_true ?_⟩,e⟩
    rw[<- e,ps hq] at h2
    obtain⟨y,hy,e2⟩:=map_eq_some_iff.mp h2
    rw[hy,AjK e2]
   by_cases x1:x<=a
   ·exact go x (by omega) (if_pos x1)
   ·by_cases x2:x<a+1+s
    ·exact absurd h2 (ins (by omega) x2)
    ·exact go (x - s) (by omega) (by unfold phP;rw[if_neg (by omega)];omega)
  ·intro h
   obtain⟨q,hq,rfl⟩:=mem_map.mp h
   obtain⟨h1,h2⟩:=mem_filter.mp hq
   have h1:=mem_range.mp h1
   have h2:=of_decide_eq_true h2
   refine mem_filter.mpr ⟨mem_range.mpr (by unfold phP;split <;> omega),decide_eq_true ?_⟩
   rw[ps h1,h2];rfl
theorem Ag6{α:Type} [Inhabited α] {A:List α} {x:α} {I B:List α} (r:List Nat):pkF (A++x::(I++B)) (r.map (phP A.length I.length))=pkF (A++x::B) r:=by
 unfold pkF
 rw[map_map]
 refine List.map_congr_left λq _=>?_
 show ((A++x::(I++B))[phP A.length I.length q]?).getD default=_
 rw[Tf]
theorem Aa6{mt:Int->Option Int}{x:Int}{Ab Ib Bb:List Int}(la:Ab.length=A.length)(li:Ib.length=I.length)(hk:k∈bgK)(hB:Te I B)(hE:enS 1 B=0)(hl:lvF k (arF b ((dF (A++k::B) b m A.length).filter λx=>decide (A.length<=x.2.1))) m=some l){q:Nat}(hq:q<(A++k::B).length) :
  (Dt mt (A++k::(I++B)) (Ab++x::(Ib++Bb)) b m)[phP A.length I.length q]? = (Dt mt (A++k::B) (Ab++x::Bb) b m)[q]?:=by
 have h0:(A++k::B)[A.length]? = some k:=by rw[getElem?_append_right (Nat.le_refl _),Nat.sub_self];rfl
 have n0:(A++k::B).length=A.length+1+B.length:=by rw[length_append,length_cons];omega
 have n1:(A++k::(I++B)).length=(A++k::B).length+I.length:=by rw[n0,length_append,length_cons,length_append];omega
 obtain⟨R,r1,rl,r2⟩:=AaY hk hB hE hl B.length (Nat.le_refl _)
 rw[<- n0] at r1
 rw[show A.length+1+I.length+B.length=(A++k::(I++B)).length by rw[n1,n0];omega] at r2
 have hP:∃Dm,dF (A++k::B) b m (A.length+1)=Dm++[(A.length,A.length+1,some l)]:=⟨_,by rw[Ge h0 hk,hl,AbS hk hE]⟩
 have hDi:=λx=>Sf (ks:=I) (b:=l) (m:=m) _ (Nat.le_refl _) x
 generalize hP0:dF (A++k::B) b m (A.length+1)=P0 at r1 r2 hP
 have l1:(dF (A++k::B) b m (A++k::B).length).length=P0.length+R.length:=by rw[r1,length_append]
 have l2:(dF (A++k::(I++B)) b m (A++k::(I++B)).length).length=P0.length+((dF I l m I.length).length+R.length):=by rw[r2];simp only [length_append,length_map]
 have lw:=Jp mt (A++k::(I++B)) (Ab++x::(Ib++Bb)) b m
 have lv:=Jp mt (A++k::B) (Ab++x::Bb) b m
 have key:∀(z v:Int),(z = -1\/∃i:Nat,z=(i:Int)/\i+1≠P0.length) ->
   (v,spF (arA (dF (A++k::B) b m (A++k::B).length) (A++k::B).length (dF (A++k::B) b m (A++k::B).length).length) (A++k::B).length z)∈Ny (A++k::B) b m ->
   (v,spF (arA (dF (A++k::(I++B)) b m (A++k::(I++B)).length) (A++k::(I++B)).length (dF (A++k::(I++B)) b m (A++k::(I++B)).length).length) (A++k::(I++B)).length (ioZ P0.length (dF I l m I.length).length z))∈Ny (A++k::(I++B)) b m ->
   ∀q∈spF (arA (dF (A++k::B) b m (A++k::B).length) (A++k::B).length (dF (A++k::B) b m (A++k::B).length).length) (A++k::B).length z,
   ((Dt mt (A++k::(I++B)) (Ab++x::(Ib++Bb)) b m)[phP A.length I.length q]?).getD default=((Dt mt (A++k::B) (Ab++x::Bb) b m)[q]?).getD default:=λz v hz m1 m2 q hq=>by
  have e1:=Rk (mt:=mt) (bs:=Ab++x::Bb) m1
  have e2:=Rk (mt:=mt) (bs:=Ab++x::(Ib++Bb)) m2
  have es:=AlL (P0:=P0) (R:=R) (Di:=dF I l m I.length) (z:=z) n1 (by rw[n0];omega) hDi rl hP hz
  rw[l2,r2] at e2
  rw[show (P0.map (psN A.length I.length)++(diN I l m A.length++R.map (psN A.length I.length)))=P0.map (psN A.length I.length)++((dF I l m I.length).map (shN (A.length+1))++R.map (psN A.length I.length)) from rfl,es] at e2
  rw[l1,r1] at e1 hq
  generalize spF (arA (P0++R) (A++k::B).length (P0.length+R.length)) (A++k::B).length z=r at e1 e2 hq
  have e2:pkF (Dt mt (A++k::(I++B)) (Ab++x::(Ib++Bb)) b m) (r.map (phP A.length I.length))=rwF mt (pkF (A++k::(I++B)) (r.map (phP A.length I.length))) (pkF (Ab++x::(Ib++Bb)) (r.map (phP A.length I.length))) v:=e2
  have e1:pkF (Dt mt (A++k::B) (Ab++x::Bb) b m) r=rwF mt (pkF (A++k::B) r) (pkF (Ab++x::Bb) r) v:=e1
  have pb:=Ag6 (A:=Ab) (x:=x) (I:=Ib) (B:=Bb) r
  rw[la,li] at pb
  rw[Ag6,pb,<- e1] at e2
  unfold pkF at e2
  rw[map_map] at e2
  exact List.map_inj_left.mp e2 q hq
 have got:((Dt mt (A++k::(I++B)) (Ab++x::(Ib++Bb)) b m)[phP A.length I.length q]?).getD default=((Dt mt (A++k::B) (Ab++x::Bb) b m)[q]?).getD default:=by
  have ha:q<(arA (dF (A++k::B) b m (A++k::B).length) (A++k::B).length (dF (A++k::B) b m (A++k::B).length).length).length:=by rw[Gh];exact hq
  have inq:q∈spF (arA (dF (A++k::B) b m (A++k::B).length) (A++k::B).length (dF (A++k::B) b m (A++k::B).length).length) (A++k::B).length _:=mem_filter.mpr ⟨mem_range.mpr hq,decide_eq_true (getElem?_eq_getElem ha)⟩
  rcases Oq _ _ _ _ (getElem_mem ha) with hz | ⟨i,hi1,hz,y,v,hy,hv⟩
  ·rw[hz] at inq
   have io:ioZ P0.length (dF I l m I.length).length (-1) = -1:=if_pos (by omega)
   refine key (-1) b (.inl rfl) (mem_of_getElem? Wo) ?_ q inq
   rw[io]
   exact mem_of_getElem? Wo
  ·have ne:i+1≠P0.length:=λe=>by
    have eg:=getElem?_eq_getElem ha
    rw[hz] at eg
    obtain⟨w,hw,w1,w2⟩:=Yy _ _ q i _ (Nat.le_refl _) eg
    obtain⟨Dm,hDm⟩:=hP
    have:i=Dm.length:=by rw[hDm,length_append] at e;have e:i+1=Dm.length+1:=e;omega
    subst this
    rw[r1,hDm,append_assoc,getElem?_append_right (Nat.le_refl _),Nat.sub_self] at hw
    have hw:(A.length,A.length+1,some l)=w:=Option.some.inj hw
    rw[<- hw] at w1 w2
    have w1:A.length<q:=w1
    have w2:q<A.length+1:=w2
    omega
   rw[hz] at inq
   refine key i v (.inr ⟨i,rfl,ne⟩) (mem_of_getElem? (Rb hy hv)) ?_ q inq
   rw[l1] at hi1
   rw[r1] at hy
   by_cases hp:i<P0.length
   ·rw[show ioZ P0.length (dF I l m I.length).length (i:Int)=(i:Int) from if_pos (by omega)]
    rw[getElem?_append_left hp] at hy
    have at1:(dF (A++k::(I++B)) b m (A++k::(I++B)).length)[i]? = some (psN A.length I.length y):=by
     rw[r2,getElem?_append_left (by rw[length_map];exact hp),getElem?_map,hy];rfl
    exact mem_of_getElem? (Rb at1 hv)
   ·rw[show ioZ P0.length (dF I l m I.length).length (i:Int)=((i+(dF I l m I.length).length:Nat):Int) by unfold ioZ;rw[if_neg (by omega)];omega]
    rw[getElem?_append_right (by omega)] at hy
    have at1:(dF (A++k::(I++B)) b m (A++k::(I++B)).length)[i+(dF I l m I.length).length]? = some (psN A.length I.length y):=by
     rw[r2,getElem?_append_right (by rw[length_map];omega),length_map,getElem?_append_right (by rw[length_map];omega),length_map,getElem?_map,show i+(dF I l m I.length).length - P0.length - (dF I l m I.length).length=i - P0.length by omega,hy];rfl
    exact mem_of_getElem? (Rb at1 hv)
 have hp2:phP A.length I.length q<(Dt mt (A++k::(I++B)) (Ab++x::(Ib++Bb)) b m).length:=by rw[lw,n1];unfold phP;split <;> omega
 rw[getElem?_eq_getElem hp2,getElem?_eq_getElem (show q<(Dt mt (A++k::B) (Ab++x::Bb) b m).length by omega)] at got ⊢
 exact congrArg some got
end
theorem Ajm(d c:Int)(x:Str):stD (d+c) x=stD d x+c:=by
 unfold stD
 split <;> split <;> omega
theorem AaB{B:List Str}:∀(I:List Str) (e:Int),1<=e->enS e (I++B)=I.length->∃f:Int,1<=f/\enS f B=0/\∀(B':List Str) (c:Int),0<=c->enS (e+c) (I++B')=I.length+enS (f+c) B'
 | [],e,h,h2=>⟨e,h,h2,λB' c _=>by rw[nil_append,length_nil,Nat.zero_add]⟩
 | x::I,e,h,h2=>by
  have nn:=Vx h x
  rw[cons_append,enS] at h2
  by_cases z:stD e x=0
  ·rw[if_pos z,length_cons] at h2;omega
  ·rw[if_neg z,length_cons] at h2
   obtain⟨f,f1,f2,f3⟩:=AaB (B:=B) I (stD e x) (by omega) (by omega)
   refine⟨f,f1,f2,λB' c hc=>?_⟩
   rw[cons_append,enS,Ajm,if_neg (by omega),f3 B' c hc,length_cons]
   omega
theorem Zk{f:Int}{y:Str}{r:List Str}(h:1<=f)(e:enS f (y::r)=0):f=1:=by
 rw[enS] at e
 by_cases z:stD f y=0
 ·unfold stD at z
  split at z <;> split at z <;> omega
 ·rw[if_neg z] at e;omega
theorem AjV{I B:List Str}(h:enS 1 (I++B)=I.length):Te I B/\enS 1 B=0:=by
 obtain⟨f,f1,f2,f3⟩:=AaB I 1 (by omega) h
 cases B with
 | nil =>
  refine⟨λd hd=>?_,rfl⟩
  have:=f3 [] (d - 1) (by omega)
  rw[show 1+(d - 1)=d by omega] at this
  rw[this];rfl
 | cons y r =>
  have:=Zk f1 f2
  subst this
  refine⟨λd hd=>?_,f2⟩
  have:=f3 (y::r) (d - 1) (by omega)
  rw[show 1+(d - 1)=d by omega] at this
  exact this
theorem AiO{I:List Str}(h:enS 1 (I++[("out" : Str)])=I.length)(B:List Str):Te I B:=by
 obtain⟨f,f1,f2,f3⟩:=AaB I 1 (by omega) h
 have:=Zk f1 f2
 subst this
 intro d hd
 have:=f3 B (d - 1) (by omega)
 rw[show 1+(d - 1)=d by omega] at this
 exact this
theorem Aek{mt:Int->Option Int}{ks:List Str}{bs:List Int}{b m l:Int}{a:Nat}{k:Str}(hbs:bs.length=ks.length)(h:ks[a]? = some k)(hb:k∈bgK)(hl:lvF k (arF b ((dF ks b m a).filter λx=>decide (a<=x.2.1))) m=some l){I':List Str}{Ib':List Int}(li:Ib'.length=I'.length)(hI:enS 1 (I'++[("out" : Str)])=I'.length) :
  (Dt mt (ks.take (a+1)++(I'++ks.drop (Bm ks a))) (bs.take (a+1)++(Ib'++bs.drop (Bm ks a))) b m).take (a+1)=(Dt mt ks bs b m).take (a+1) /\
  (Dt mt (ks.take (a+1)++(I'++ks.drop (Bm ks a))) (bs.take (a+1)++(Ib'++bs.drop (Bm ks a))) b m).drop (a+1+I'.length)=(Dt mt ks bs b m).drop (Bm ks a):=by
 have hn:a<ks.length:=(List.getElem?_eq_some_iff.mp h).1
 have hk:ks[a]=k:=(List.getElem?_eq_some_iff.mp h).2
 have el:=Lg (Nat.le_of_lt hn)
 have ee:=Jv h hb
 have il:(inK ks a (Bm ks a)).length=Bm ks a - (a+1):=Nd el
 have ib:(inK bs a (Bm ks a)).length=Bm ks a - (a+1):=Nd (by omega)
 have cut:∀{α:Type} (l:List α),Bm ks a<=l.length->l.drop (a+1)=inK l a (Bm ks a)++l.drop (Bm ks a):=λl hl=>by
  unfold inK
  conv=>lhs;rw[<- take_append_drop (Bm ks a) l,List.drop_append_of_le_length (by rw[length_take];omega)]
 have hs:ks=ks.take a++k::(inK ks a (Bm ks a)++ks.drop (Bm ks a)):=by
  rw[<- cut ks el,<- hk,<- drop_eq_getElem_cons hn,take_append_drop]
 have han:a<bs.length:=by omega
 have hsb:bs=bs.take a++bs[a]::(inK bs a (Bm ks a)++bs.drop (Bm ks a)):=by
  rw[<- cut bs (by omega),<- drop_eq_getElem_cons han,take_append_drop]
 have tk:ks.take (a+1)++(I'++ks.drop (Bm ks a))=ks.take a++k::(I'++ks.drop (Bm ks a)):=by
  rw[List.take_succ_eq_append_getElem hn,hk,append_assoc];rfl
 have tb:bs.take (a+1)++(Ib'++bs.drop (Bm ks a))=bs.take a++bs[a]::(Ib'++bs.drop (Bm ks a)):=by
  rw[List.take_succ_eq_append_getElem han,append_assoc];rfl
 have l0:(ks.take a).length=a:=by rw[length_take];omega
 have lb0:(bs.take a).length=(ks.take a).length:=by rw[length_take,length_take];omega
 have b1:enS 1 (inK ks a (Bm ks a)++ks.drop (Bm ks a))=(inK ks a (Bm ks a)).length:=by
  rw[<- cut ks el];omega
 obtain⟨bI,hE⟩:=AjV b1
 have bI':=AiO hI (ks.drop (Bm ks a))
 have hl0:lvF k (arF b ((dF (ks.take a++k::ks.drop (Bm ks a)) b m (ks.take a).length).filter λx=>decide ((ks.take a).length<=x.2.1))) m=some l:=by
  have fo:=Xf (A:=ks.take a) (b:=b) (m:=m) hb bI (ks.take a).length (by omega)
  rw[<- hs] at fo
  have ef:=Vi (a:=(ks.take a).length) (s:=(inK ks a (Bm ks a)).length) (n:=(ks.take a).length) (D:=dF (ks.take a++k::ks.drop (Bm ks a)) b m (ks.take a).length)
  rw[show phP (ks.take a).length (inK ks a (Bm ks a)).length (ks.take a).length=(ks.take a).length from if_pos (Nat.le_refl _),<- fo] at ef
  have z:=hl
  rw[show dF ks b m a=dF ks b m (ks.take a).length by rw[l0]] at z
  rw[show (λx:Nst=>decide (a<=x.2.1))=λx=>decide ((ks.take a).length<=x.2.1) by rw[l0],ef,Sw] at z
  exact z
 have n0:(ks.take a++k::ks.drop (Bm ks a)).length=a+1+(ks.length - Bm ks a):=by
  rw[length_append,length_cons,l0,length_drop];omega
 have o1:=λ{q:Nat} (hq:q<(ks.take a++k::ks.drop (Bm ks a)).length)=>Aa6 (mt:=mt) (x:=bs[a]) (Ab:=bs.take a) (Ib:=inK bs a (Bm ks a)) (Bb:=bs.drop (Bm ks a)) lb0 (by omega) hb bI hE hl0 hq
 have o2:=λ{q:Nat} (hq:q<(ks.take a++k::ks.drop (Bm ks a)).length)=>Aa6 (mt:=mt) (x:=bs[a]) (Ab:=bs.take a) (Ib:=Ib') (Bb:=bs.drop (Bm ks a)) lb0 li hb bI' hE hl0 hq
 rw[<- hs,<- hsb,l0] at o1
 rw[l0] at o2
 rw[tk,tb]
 have lw:=Jp mt ks bs b m
 have lv:=Jp mt (ks.take a++k::(I'++ks.drop (Bm ks a))) (bs.take a++bs[a]::(Ib'++bs.drop (Bm ks a))) b m
 have lt:(ks.take a++k::(I'++ks.drop (Bm ks a))).length=a+1+I'.length+(ks.length - Bm ks a):=by
  rw[length_append,length_cons,length_append,l0,length_drop];omega
 constructor
 ·refine ext_getElem? λq=>?_
  rw[getElem?_take,getElem?_take]
  by_cases hq:q<a+1
  ·rw[if_pos hq,if_pos hq]
   have e1:=o1 (q:=q) (by omega)
   have e2:=o2 (q:=q) (by omega)
   rw[show phP a (inK ks a (Bm ks a)).length q=q from if_pos (by omega)] at e1
   rw[show phP a I'.length q=q from if_pos (by omega)] at e2
   rw[e1,e2]
  ·rw[if_neg hq,if_neg hq]
 ·refine ext_getElem? λj=>?_
  rw[List.getElem?_drop,List.getElem?_drop]
  by_cases hj:j<ks.length - Bm ks a
  ·have e1:=o1 (q:=a+1+j) (by omega)
   have e2:=o2 (q:=a+1+j) (by omega)
   rw[show phP a (inK ks a (Bm ks a)).length (a+1+j)=Bm ks a+j by unfold phP;rw[if_neg (by omega)];omega] at e1
   rw[show phP a I'.length (a+1+j)=a+1+I'.length+j by unfold phP;rw[if_neg (by omega)];omega] at e2
   rw[e1,e2]
  ·rw[getElem?_eq_none (by omega),getElem?_eq_none (by omega)]
theorem AaE{α:Type}(xs:List α)(p q:Nat):Je xs (some (p:Int)) (some (q:Int))=(xs.take q).drop p:=by
 unfold Je
 rw[HT.sIx_nat,HT.sIx_nat,List.drop_take]
 by_cases h:p<=xs.length
 ·rw[Nat.min_eq_left h]
  by_cases h2:q<=xs.length
  ·rw[Nat.min_eq_left h2]
  ·rw[Nat.min_eq_right (by omega),List.take_of_length_le (by rw[length_drop];omega),List.take_of_length_le (by rw[length_drop];omega)]
 ·rw[Nat.min_eq_right (show xs.length<=p by omega),drop_of_length_le (Nat.le_refl _),drop_of_length_le (by omega),take_nil,take_nil]
theorem Yt:∀l:List (Option Str),l.filterMap (λo=>o.map PV.str)=(l.filterMap id).map .str
 | []=>rfl
 | none::r=>Yt r
 | some s::r=>by
  show PV.str s::r.filterMap (λo=>o.map PV.str)=_
  rw[Yt r];rfl
def Aka:PSp:=λps P=>∃(ws:List (Option Str)) (p:Nat×Nat) (own:Str),ps=[.lst (ws.map osP),ppP p,.str own]/\ws.length<=1000/\P (osP (wpF ws p own))
theorem AoL(T:Txt K mg t):Binds K t.d_qq ["ways","pair","own"] []:=T.F_qq.binds (by walk_at "b3")
theorem AnJ(T:Txt K mg t):FnOk P w K mg base CX0 1 t.f_qq t.d_qq ["ways","pair","own"] (spOf K t.C_Book [false,false,true] .sh Aka):=by
 refine T.F_qq.ok sc_qq (λvs H Q E h=>h.len) (λcdv A outer s H vs Q E hr h=>?_)
 have hu:=Cq hr
 have hu64:=hr.units
 refine⟨_,(Bd (Rt 1 ["way"] rfl rfl (Ct (Gd (Gc K) (pv 0) (Dw (Bv Fm (Ci (Df K) (pv 1) Bf (λ_ _=>rfl)) Bf)) (Dw (Ci (Df K) (pv 1) Bf (λ_ _=>rfl))))) (λ_ _ _ _=>(Bq (i:=0) (show Nodup (["way"]:List Str) by decide +kernel) rfl (Or.inl rfl))) (λ_ _ _ _=>(Jr (Li (Oo (pv 0))))) (λ_ _ _ _=>(pv 0)) (by decide +kernel) (by decide +kernel) rfl (by decide +kernel) (λ_=>rfl) (i:=3) sc_qq.nd rfl (Or.inl rfl) rfl)
   (Bd (Dh (Cf Do (Cn (Ck K) rfl T.z_len PySem.boot_len (Ba (pv 3) Be)) Bf (Ch _))
    (Bi (Cg Zw))
    Cv)
   (Bd (Dh (Cf (Ju K) (pv 2) (pv 3) rfl)
    (Bi (Cg (pv 2)))
    Cv)
   (Bd (Rt 1 ["way"] rfl rfl (Ct (Gd (Gc K) (pv 0) Ng (Dw (Ci (Df K) (pv 1) Bf (λ_ _=>rfl))))) (λ_ _ _ _=>(Bq (i:=0) (show Nodup (["way"]:List Str) by decide +kernel) rfl (Or.inl rfl))) (λ_ _ _ _=>(Jr (Li (Oo (pv 0))))) (λ_ _ _ _=>(pv 0)) (by decide +kernel) (by decide +kernel) rfl (by decide +kernel) (λ_=>rfl) (i:=4) sc_qq.nd rfl (Or.inl rfl) rfl)
   (Bi (Cg (Jd (Cf Tl (Cn (Ck K) rfl T.z_len PySem.boot_len (Ba (pv 4) Be)) Bf (Ch _)) (Ci (Cp K) (pv 4) (Rv Ou Bf) (λ_ _=>rfl)) (pv 2)))))))),?_⟩
 try dsimp only [Cm,Cb]
 refine Cu h (by decide) (Bl (Bx (EF.eu (Gx (EF.eb (Jo Bc (Dx (EU.eb (Dk (λ_ _ _=>.int _) (EU.eb (Du Bc (EU.eb Bg))) (EU.eb Bg)))) (Dx (EU.eb (Du Bc (EU.eb Bg)))))) (Ca (top:=1)) (Cy (EU.eb (Oj Bc))) Br)))
   (Bl (Dr (Cy (EU.eb (Fe (EU.eb (Dy (Bt Bc Bk))) (EU.eb Bg))))
    (Dz Zs)
    Dg)
   (Bl (Dr (Cy (EU.eb (Tk Br Bc)))
    (Dz Br)
    Dg)
   (Bl (Bx (EF.eu (Gx (EF.eb (Jo Bc Nj (Dx (EU.eb (Du Bc (EU.eb Bg)))))) (Ca (top:=1)) (Cy (EU.eb (Oj Bc))) Br)))
   (Dz (Oc (Cy (EU.eb (Dk (λ_ _ _=>.bl _) (EU.eb (Dy (Bt Bc Bk))) (EU.eb Bg)))) (Dd Bc (EU.eb (Zd (λ_ _=>.int _) (EU.eb Bg)))) Br)))))) (λps P hp=>?_)
 clear h hu hu64 hr
 obtain⟨ws,p,own,rfl,hl,q⟩:=hp
 walk_at "s"
 have cl:=Zx ws (some ((p.1:Int)+1)) (some (p.2:Int))
 have cl2:=Zx ws none (some (p.1:Int))
 unfold wpF at q
 rw[show ppP p=.tup [.int p.1,.int p.2] from rfl]
 ext
 rw[Jf]
 walk_at "md"
 rw[show (some ((p.1:Int)+1))=some (((p.1+1:Nat):Int)) by rw[Int.natCast_add];rfl,AaE]
 generalize (ws.take p.2).drop (p.1+1)=wi at q
 refine Fq (S:=wi) (enc:=osP) (f:=λo=>o.map .str) ?_ (λd hd Z hZ=>?_)
 rotate_left
 ·walk_at "c"
  ext
  cases d with
  | none =>
   refine Gp (by decide) ?_
   exact hZ
  | some s =>
   refine Jl rfl ?_
   ext
   exact hZ
 rw[Yt]
 generalize wi.filterMap id=w2 at q
 ext
 rw[length_map]
 by_cases h1:w2=[]
 ·rw[if_pos h1] at q
  rw[decide_eq_true (by rw[h1];rfl)]
  ext
  exact q
 rw[if_neg h1] at q
 rw[decide_eq_false (by have:=List.length_pos_iff.mpr h1;omega)]
 ext
 refine Ze (L:=w2) (x:=own) ?_
 ext
 by_cases h2:own∈w2
 ·rw[if_pos h2] at q
  rw[decide_eq_true h2]
  ext
  exact q
 rw[if_neg h2] at q
 rw[decide_eq_false h2]
 ext
 rw[Jf,Ym]
 refine⟨by rw[length_map,length_take];omega,?_⟩
 generalize ws.take p.1=wa at q
 refine Fq (S:=wa) (enc:=osP) (f:=λo=>o.map .str) ?_ (λd hd Z hZ=>?_)
 rotate_left
 ·walk_at "c"
  ext
  cases d with
  | none =>
   refine Gp (by decide) ?_
   exact hZ
  | some s =>
   refine Jl rfl ?_
   ext
   exact hZ
 rw[Yt]
 generalize wa.filterMap id=w3 at q
 ext
 rcases eq_nil_or_concat w3 with z | ⟨w4,s,z⟩
 ·subst z
  rw[decide_eq_false (by simp)]
  ext
  exact q
 ·rw[concat_eq_append] at z
  subst z
  rw[List.getLast?_concat] at q
  rw[decide_eq_true (by rw[length_map,length_append,length_singleton];omega)]
  ext
  refine Rq (by rw[map_append];exact Jy _ _) ?_
  exact q
def Ajf:PSp:=λps P=>∃(ws:List (Option Str)) (pp:List (Nat×Nat)) (own:Str),ps=[.lst (ws.map osP),.lst (pp.map ppP),.str own]/\ws.length<=1000/\(∀p∈pp,p.1<ws.length/\p.2<ws.length)/\P (.lst ((wwF ws pp own).map osP))
theorem AoN(T:Txt K mg t):Binds K t.d_qb ["ways","pairs","own"] []:=T.F_qb.binds (by walk_at "b3")
theorem AnB(T:Txt K mg t):FnOk P w K mg base CX0 2 t.f_qb t.d_qb ["ways","pairs","own"] (spOf K t.C_Book [false,false,true] .fr Ajf):=by
 refine T.F_qb.ok sc_qb (λvs H Q E h=>h.len) (λcdv A outer s H vs Q E hr h=>?_)
 have hu:=Cq hr
 have hu64:=hr.units
 refine⟨_,(Bd (Bo (i:=3) sc_qb.nd rfl (Or.inl rfl) (Lc (Gi K) rfl T.z_list PyProof.Rows.boot_list (Ba (pv 0) Be)))
   (Bd (Dc PassesOwn.never rfl (Ct (pv 1)) (Bq (i:=4) sc_qb.nd rfl (Or.inl rfl))
    (Bd (Bo (i:=5) sc_qb.nd rfl (Or.inl rfl) (Bp (AnJ T) (hr.mono (by decide)) rfl T.m_qq T.F_qq.kp (AoL T) .nil Bw (Ba (pv 0) (Ba (pv 4) (Ba (pv 2) Be)))))
   (Bd (Qd (pv 5) (Tb (pv 3) (Ci (Df K) (pv 4) Bf (λ_ _=>rfl)) Nw))
   (Bi (Qd (pv 5) (Tb (pv 3) (Ci (Df K) (pv 4) Bf (λ_ _=>rfl)) Nw))))))
   (Bi (Cg (pv 3))))),?_⟩
 try dsimp only [Cm,Cb]
 refine Cu h (by decide) (Bl (Dp (Od (Bt Bc Bk)))
   (Bl (Nh (Ca (top:=6))
    (Bl (Bx (Fr (Bt Bc (Bt Bc (Bu Br Bk)))))
   (Bl (Sh (EU.eb (Du Bc (EU.eb Bg))) Br)
   (Sh (EU.eb (Du Bc (EU.eb Bg))) Br))))
   Gu)) (λps P hp=>?_)
 clear h hu hu64 hr
 obtain⟨ws,pp,own,rfl,hl,hp,q⟩:=hp
 walk_at "s"
 unfold wwF at q
 ext
 refine⟨λn ρ=>∃(f:List (Option Str)) (v4 v5:Sl),ρ=[.bo (.lst (ws.map osP)),.bo (.lst (pp.map ppP)),.sh (.str own),.ow (.lst (f.map osP)),v4,v5]/\f.length=ws.length/\(pp.drop n).foldl (λf p=>(f.set p.1 (wpF ws p own)).set p.2 (wpF ws p own)) f=pp.foldl (λf p=>(f.set p.1 (wpF ws p own)).set p.2 (wpF ws p own)) ws,⟨ws,_,_,rfl,rfl,rfl⟩,?_,?_⟩
 ·rintro n p ρ hpn ⟨f,v4,v5,rfl,fl,he⟩
  rw[getElem?_map] at hpn
  obtain⟨x,hx,rfl⟩:=map_eq_some_iff.mp hpn
  obtain⟨x1,x2⟩:=hp x (mem_of_getElem? hx)
  obtain⟨hi,rfl⟩:=List.getElem?_eq_some_iff.mp hx
  rw[drop_eq_getElem_cons hi,foldl_cons] at he
  generalize pp[n]=x at *
  ext
  refine⟨ws,x,own,rfl,hl,?_⟩
  rw[show ppP x=.tup [.int x.1,.int x.2] from rfl]
  ext
  refine Wd rfl (Tx (j:=x.1) (by rw[length_map];omega)) ?_
  ext
  refine Wd rfl (Tx (j:=x.2) (by rw[length_set,length_map];omega)) ?_
  ext
  rw[<- map_set,<- map_set]
  exact⟨_,_,_,rfl,by rw[length_set,length_set,fl],he⟩
 rintro ρ ⟨f,v4,v5,rfl,fl,he⟩
 rw[length_map,drop_length,foldl_nil] at he
 ext
 rw[he]
 exact q
def AmF:PSp:=λps P=>∃(ws:List (Option Str)) (own:Str),ps=[.lst (ws.map osP),.str own]/\ws.length<=1000/\P (.lst ((laF own ws).map .str))
theorem Ah0(T:Txt K mg t):Binds K t.d_qbj ["ways","own"] []:=T.F_qbj.binds (by walk_at "b2")
theorem AeX(T:Txt K mg t):FnOk P w K mg base CX0 1 t.f_qbj t.d_qbj ["ways","own"] (spOf K t.C_Book [false,true] .fr AmF):=by
 refine T.F_qbj.ok sc_qbj (λvs H Q E h=>h.len) (λcdv A outer s H vs Q E hr h=>?_)
 have hu:=Cq hr
 have hu64:=hr.units
 refine⟨_,(Bd (Bo (i:=2) sc_qbj.nd rfl (Or.inl rfl) (Db Be))
   (Bd (Bo (i:=3) sc_qbj.nd rfl (Or.inl rfl) (pv 1))
   (Bd (Dc PassesOwn.never rfl (Ct (pv 0)) (Bq (i:=4) sc_qbj.nd rfl (Or.inl rfl))
    (Bd (Dh (Li (Oo (pv 4)))
    (Bi (Bo (i:=3) sc_qbj.nd rfl (Or.inl rfl) (pv 4)))
    Cv)
   (Bi (Co (Fw plainAttrs_list PySem.F.slot_list_append PySem.F.type_list_append Da (pv 2) (Ba (pv 3) Be))))))
   (Bi (Cg (pv 2)))))),?_⟩
 try dsimp only [Cm,Cb]
 refine Cu h (by decide) (Bl (Dp (Dv 0 Bk))
   (Bl (Bx Br)
   (Bl (Nh (Ca (top:=5))
    (Bl (Dr (Cy (EU.eb (Oj Bc)))
    (Bx Br)
    Dg)
   (Gf (Bu Br Bk))))
   Gu))) (λps P hp=>?_)
 clear h hu hu64 hr
 obtain⟨ws,own,rfl,hl,q⟩:=hp
 walk_at "s"
 ext
 refine⟨λn ρ=>∃(A:List Str) (l:Str) (v4:Sl),ρ=[.bo (.lst (ws.map osP)),.sh (.str own),.ow (.lst (A.map .str)),.sh (.str l),v4]/\A.length=n/\A++laF l (ws.drop n)=laF own ws,⟨[],own,_,rfl,rfl,rfl⟩,?_,?_⟩
 ·rintro n p ρ hp ⟨A,l,v4,rfl,al,he⟩
  rw[getElem?_map] at hp
  obtain⟨w,hw,rfl⟩:=map_eq_some_iff.mp hp
  obtain⟨hi,rfl⟩:=List.getElem?_eq_some_iff.mp hw
  rw[drop_eq_getElem_cons hi,laF] at he
  generalize ws[n]=w at *
  ext
  cases w with
  | none =>
   refine Gp (by decide) ?_
   ext
   rotate_left
   ·rw[length_map];omega
   exact⟨A++[l],l,_,by rw[map_append];rfl,by rw[length_append,al];rfl,by rw[append_assoc];exact he⟩
  | some s =>
   refine Jl rfl ?_
   ext
   rotate_left
   ·rw[length_map];omega
   exact⟨A++[s],s,_,by rw[map_append];rfl,by rw[length_append,al];rfl,by rw[append_assoc];exact he⟩
 rintro ρ ⟨A,l,v4,rfl,al,he⟩
 rw[length_map,drop_length,laF,append_nil] at he
 ext
 rw[he]
 exact q
def AlZ:PSp:=λps P=>∃(ws:List (Option Str)) (own:Str),ps=[.lst (ws.map osP),.str own]/\ws.length<=1000/\P (.lst ((flF own ws).map .str))
theorem AoH(T:Txt K mg t):Binds K t.d_qr ["ways","own"] []:=T.F_qr.binds (by walk_at "b2")
theorem AmS(T:Txt K mg t):FnOk P w K mg base CX0 2 t.f_qr t.d_qr ["ways","own"] (spOf K t.C_Book [true,true] .fr AlZ):=by
 refine T.F_qr.ok sc_qr (λvs H Q E h=>h.len) (λcdv A outer s H vs Q E hr h=>?_)
 have hu:=Cq hr
 have hu64:=hr.units
 refine⟨_,(Bd (Bo (i:=2) sc_qr.nd rfl (Or.inl rfl) (Bp (AeX T) (hr.mono (by decide)) rfl T.m_qbj T.F_qbj.kp (Ah0 T) .nil Bw (Ba (pv 0) (Ba (pv 1) Be))))
   (Bd (Bo (i:=3) sc_qr.nd rfl (Or.inl rfl) (AeM (Bp (AeX T) (hr.mono (by decide)) rfl T.m_qbj T.F_qbj.kp (Ah0 T) .nil Bw (Ba (AeM (pv 0) rfl rfl T.z_list rfl T.z_reversed) (Ba (pv 1) Be))) rfl rfl T.z_list rfl T.z_reversed))
   (Bi (Cg (Jq 2 [1] ["one","other","own"] ["own"] rfl (Wm K (pv 2) (pv 3) rfl T.z_zip) rfl (λj y e1 i e2=>match j,e1,e2 with | 0,e1,e2=>by cases e1;cases e2;exact⟨rfl,rfl,rfl,by decide +kernel⟩ | _+1,_,e2=>by simp at e2) (forall_mem_cons.mpr ⟨rfl,λ_ h=>nomatch h⟩) (by decide +kernel) (λ_ _ _ _=>(Fy (K':=K) (n:=2) rfl rfl (Ce (Bq (i:=0) (show Nodup (["one","other","own"]:List Str) by decide +kernel) rfl (Or.inl rfl)) (Ce (Bq (i:=1) (show Nodup (["one","other","own"]:List Str) by decide +kernel) rfl (Or.inl rfl)) Fa)))) (λ_ _ _ _=>Gz) (λ_ _ _ _=>(Jd (Cf Do (pv 0) (pv 1) (Ch _)) (pv 0) (pv 2))) rfl (by decide +kernel) rfl (by decide +kernel)))))),?_⟩
 try dsimp only [Cm,Cb]
 refine Cu h (by decide) (Bl (Bx (EF.eu (Dl (Bt Bc (Bu Br Bk)))))
   (Bl (Bx (EF.eu (Adh (EF.eb (Dl (Bt (EF.eb (Adh Bc)) (Bu Br Bk)))))))
   (On (AaF Bc Bc (Jb (Cr (Ca (top:=2)) (Cr (Ca (top:=2)) Gb))) Ji (Oc (Cy (EU.eb (Fe Bc Bc))) Br Br))))) (λps P hp=>?_)
 clear h hu hu64 hr
 obtain⟨ws,own,rfl,hl,q⟩:=hp
 walk_at "s"
 unfold flF at q
 ext
 refine⟨ws,own,rfl,hl,?_⟩
 ext
 rw[<- List.map_reverse]
 refine⟨ws.reverse,own,rfl,by rw[length_reverse];exact hl,?_⟩
 ext
 rw[<- List.map_reverse]
 refine⟨by rw[length_map,Tj];omega,?_⟩
 rw[Xe]
 refine Fq (S:=(laF own ws).zip (laF own ws.reverse).reverse) (enc:=λz:Str×Str=>PV.tup [.str z.1,.str z.2]) (f:=λz=>some (.str (if z.1=z.2 then z.1 else own))) ?_ (λd hd Z hZ=>?_)
 rotate_left
 ·walk_at "c"
  ext
  by_cases h:d.1=d.2
  ·rw[decide_eq_true h]
   rw[if_pos h] at hZ
   ext
   exact hZ
  ·rw[decide_eq_false h]
   rw[if_neg h] at hZ
   ext
   exact hZ
 generalize (laF own ws).zip (laF own ws.reverse).reverse=Z at q
 rw[show Z.filterMap (λz:Str×Str=>some (PV.str (if z.1=z.2 then z.1 else own)))=(Z.map λz=>if z.1=z.2 then z.1 else own).map .str by rw[map_map];exact congrFun (filterMap_eq_map' (f:=λz:Str×Str=>PV.str (if z.1=z.2 then z.1 else own))) _]
 exact q
def Al7:PSp:=λps P=>∃U M J ks bs own,ps=[.bk U M J,.lst (map .str ks),.lst (map .int bs),.str own]/\ks.length=bs.length/\bs.length<=1000/\P (.lst ((wrF (mtF M) ks bs own).map .str))
theorem AoR(T:Txt K mg t):Binds K t.d_qs ["book","kinds","bases","own"] []:=T.F_qs.binds (by walk_at "b4")
theorem Anc(T:Txt K mg t):FnOk P w K mg base CX0 3 t.f_qs t.d_qs ["book","kinds","bases","own"] (spOf K t.C_Book [false,true,false,true] .fr Al7):=by
 refine T.F_qs.ok sc_qs (λvs H Q E h=>h.len) (λcdv A outer s H vs Q E hr h=>?_)
 have hu:=Cq hr
 have hu64:=hr.units
 refine⟨_,(Bd (Bo (i:=4) sc_qs.nd rfl (Or.inl rfl) (Bp (Anj T) (hr.mono (by decide)) rfl T.m_qi T.F_qi.kp (Aoq T) .nil Bw (Ba (pv 1) (Ba (pv 3) Be))))
   (Bd (Bo (i:=5) sc_qs.nd rfl (Or.inl rfl) (Bp (AmG T) (hr.mono (by decide)) rfl T.m_qbz T.F_qbz.kp (AmM T) .nil Bw (Ba (pv 0) (Ba (pv 1) (Ba (pv 2) Be)))))
   (Bi (Cg (Bp (AmS T) (hr.mono (by decide)) rfl T.m_qr T.F_qr.kp (AoH T) .nil Bw (Ba (Bp (AnB T) (hr.mono (by decide)) rfl T.m_qb T.F_qb.kp (AoN T) .nil Bw (Ba (pv 4) (Ba (pv 5) (Ba (pv 3) Be)))) (Ba (pv 3) Be))))))),?_⟩
 try dsimp only [Cm,Cb]
 refine Cu h (by decide) (Bl (Bx (EF.eu (Dl (Bt Bc (Bu Br Bk)))))
   (Bl (Bx (EF.eu (Dl (Bt Bc (Bu Br (Bt Bc Bk))))))
   (On (Dl (Bu (EF.eu (Dl (Bt Bc (Bt Bc (Bu Br Bk))))) (Bu Br Bk)))))) (λps P hp=>?_)
 clear h hu hu64 hr
 obtain⟨U,M,J,ks,bs,own,rfl,hl,hb,q⟩:=hp
 walk_at "s"
 unfold wrF at q
 ext
 refine⟨ks,own,rfl,by omega,?_⟩
 ext
 refine⟨U,M,J,ks,bs,rfl,hl,hb,?_⟩
 ext
 refine⟨_,_,own,rfl,by rw[Qz];omega,λp hp=>?_,?_⟩
 ·have:=(Zu (mt:=mtF M) (ks:=ks) (bs:=bs) ks.length).1 p hp
  rw[Qz];exact this
 ext
 refine⟨_,own,rfl,by rw[Abp,Qz];omega,?_⟩
 exact q
def AiQ:PSp:=λps P=>∃k w v,ps=[.str k,.str w,.int v]/\P (.int (lwF k w v))
theorem AoE(T:Txt K mg t):Binds K t.d_qj ["kind","way","level"] []:=T.F_qj.binds (by walk_at "b3")
theorem Any(T:Txt K mg t):FnOk P w K mg base CX0 2 t.f_qj t.d_qj ["kind","way","level"] (spOf K t.C_Book [false,false,true] .sh AiQ):=by
 refine T.F_qj.ok AnI (λvs H Q E h=>h.len) (λcdv A outer s H vs Q E hr h=>?_)
 have hu:=Cq hr
 have hu64:=hr.units
 refine⟨_,(Bd (Dh (Cf Do (pv 0) By (Ch _))
    (Bd (Dh (Cf Do (Bv Dq (pv 2) Bf) Bf (Ch _))
    (Bi (Cg (Bv Fm (pv 2) Bf)))
    Cv)
   (Bi (Cg (Jd (Cf Do (pv 1) By (Ch _)) (pv 2) (Bv Fm (pv 2) Bf)))))
    Cv)
   (Bi (Cg (Jd (Cf Do (pv 1) (Bp (Ag9 T) (hr.mono (by decide)) rfl T.m_qm T.F_qm.kp (Akx T) .nil Bw (Ba (pv 2) Be)) (Ch _)) (pv 2) (Bv Fm (pv 2) Bf))))),?_⟩
 try dsimp only [Cm,Cb]
 refine Cu h (by decide) (Bl (Dr (Cy (EU.eb (Fe Bc (EU.eb Cl))))
    (Bl (Dr (Cy (EU.eb (Fe (EU.eb (Cw (λ_ _ _=>.int _) Bc (EU.eb Bg))) (EU.eb Bg))))
    (Dz (Dk (λ_ _ _=>.int _) Bc (EU.eb Bg)))
    Dg)
   (Dz (Oc (Cy (EU.eb (Fe Bc (EU.eb Cl)))) Br (Dk (λ_ _ _=>.int _) Bc (EU.eb Bg)))))
    Dg)
   (Dz (Oc (Cy (EU.eb (Fe Bc (EU.eb (Fr (Bt Bc Bk)))))) Br (Dk (λ_ _ _=>.int _) Bc (EU.eb Bg))))) (λps P hp=>?_)
 clear h hu hu64 hr
 obtain⟨k,w,v,rfl,q⟩:=hp
 walk_at "s"
 unfold lwF at q
 ext
 by_cases h1:k="num"
 ·rw[decide_eq_true h1]
  rw[if_pos h1] at q
  ext
  all_goals try decide
  by_cases h2:v%2=1
  ·rw[decide_eq_true h2]
   rw[if_pos h2] at q
   ext
   exact q
  ·rw[decide_eq_false h2]
   rw[if_neg h2] at q
   ext
   by_cases h3:w="fore"
   ·rw[decide_eq_true h3]
    rw[if_pos h3] at q
    ext
    exact q
   ·rw[decide_eq_false h3]
    rw[if_neg h3] at q
    ext
    exact q
 ·rw[decide_eq_false h1]
  rw[if_neg h1] at q
  ext
  refine⟨v,rfl,?_⟩
  ext
  by_cases h3:w=wyF v
  ·rw[decide_eq_true h3]
   rw[if_pos h3] at q
   ext
   exact q
  ·rw[decide_eq_false h3]
   rw[if_neg h3] at q
   ext
   exact q
def Ajl:PSp:=λps P=>∃(U:List Sg) (M:List (Int×Int)) (J:List Jn) (ws:List (List Int)) (v:Int),ps=[.bk U M J,.lst (ws.map λg:List Int=>PV.lst (g.map .int)),.int v]/\(∀w∈ws,∃n r,w=n::r)/\ws.length<=1000/\P (.lst ((rwF (mtF M) (ws.map (knW U M)) (ws.map hdF) v).map .int))
theorem AoS(T:Txt K mg t):Binds K t.d_qd ["book","row","level"] []:=T.F_qd.binds (by walk_at "b3")
theorem Ank(T:Txt K mg t):FnOk P w K mg base CX0 4 t.f_qd t.d_qd ["book","row","level"] (spOf K t.C_Book [false,false,true] .fr Ajl):=by
 refine T.F_qd.ok sc_qd (λvs H Q E h=>h.len) (λcdv A outer s H vs Q E hr h=>?_)
 have hu:=Cq hr
 have hu64:=hr.units
 refine⟨_,(Bd (Ov 1 [0] ["whole","book"] ["book"] rfl (Ct (pv 1)) rfl (λj y e1 i e2=>match j,e1,e2 with | 0,e1,e2=>by cases e1;cases e2;exact⟨rfl,rfl,rfl,by decide +kernel⟩ | _+1,_,e2=>by simp at e2) (forall_mem_cons.mpr ⟨rfl,λ_ h=>nomatch h⟩) (by decide +kernel) (λ_ _ _ _=>(Bq (i:=0) (show Nodup (["whole","book"]:List Str) by decide +kernel) rfl (Or.inl rfl))) (λ_ _ _ _=>Gz) (λ_ _ _ _=>(Bp (Aig T) (hr.mono (by decide)) rfl T.m_qc T.F_qc.kp (Akn T) .nil Bw (Ba (pv 1) (Ba (pv 0) Be)))) rfl (by decide +kernel) rfl (by decide +kernel) (λ_=>rfl) (i:=3) sc_qd.nd rfl (Or.inl rfl) rfl)
   (Bd (Rt 1 ["whole"] rfl rfl (Ct (pv 1)) (λ_ _ _ _=>(Bq (i:=0) (show Nodup (["whole"]:List Str) by decide +kernel) rfl (Or.inl rfl))) (λ_ _ _ _=>Gz) (λ_ _ _ _=>(Ci (Cp K) (pv 0) Bf (λ_ _=>rfl))) (by decide +kernel) (by decide +kernel) rfl (by decide +kernel) (λ_=>rfl) (i:=4) sc_qd.nd rfl (Or.inl rfl) rfl)
   (Bd (Bo (i:=5) sc_qd.nd rfl (Or.inl rfl) (Bp (Anc T) (hr.mono (by decide)) rfl T.m_qs T.F_qs.kp (AoR T) .nil Bw (Ba (pv 0) (Ba (pv 3) (Ba (pv 4) (Ba (Bp (Ag9 T) (hr.mono (by decide)) rfl T.m_qm T.F_qm.kp (Akx T) .nil Bw (Ba (pv 2) Be)) Be))))))
   (Bi (Cg (Jq 2 [2] ["kind","way","level"] ["level"] rfl (Wm K (pv 3) (pv 5) rfl T.z_zip) rfl (λj y e1 i e2=>match j,e1,e2 with | 0,e1,e2=>by cases e1;cases e2;exact⟨rfl,rfl,rfl,by decide +kernel⟩ | _+1,_,e2=>by simp at e2) (forall_mem_cons.mpr ⟨rfl,λ_ h=>nomatch h⟩) (by decide +kernel) (λ_ _ _ _=>(Fy (K':=K) (n:=2) rfl rfl (Ce (Bq (i:=0) (show Nodup (["kind","way","level"]:List Str) by decide +kernel) rfl (Or.inl rfl)) (Ce (Bq (i:=1) (show Nodup (["kind","way","level"]:List Str) by decide +kernel) rfl (Or.inl rfl)) Fa)))) (λ_ _ _ _=>Gz) (λ_ _ _ _=>(Bp (Any T) (hr.mono (by decide)) rfl T.m_qj T.F_qj.kp (AoE T) .nil Bw (Ba (pv 0) (Ba (pv 1) (Ba (pv 2) Be))))) rfl (by decide +kernel) rfl (by decide +kernel))))))),?_⟩
 try dsimp only [Cm,Cb]
 refine Cu h (by decide) (Bl (Bx (EF.eu (Gx Bc (Ca (top:=1)) Ji (Fr (Bt Bc (Bt Bc Bk))))))
   (Bl (Bx (EF.eu (Gx Bc (Ca (top:=1)) Ji (Dd Bc (EU.eb Bg)))))
   (Bl (Bx (EF.eu (Dl (Bt Bc (Bu Br (Bt Bc (Bu (Fr (Bt Bc Bk)) Bk)))))))
   (On (AaF Bc Bc (Jb (Cr (Ca (top:=2)) (Cr (Ca (top:=2)) Gb))) Ji (Fr (Bt Bc (Bt Bc (Bu Br Bk))))))))) (λps P hp=>?_)
 clear h hu hu64 hr
 obtain⟨U,M,J,ws,v,rfl,hw,hl,q⟩:=hp
 walk_at "s"
 unfold rwF at q
 ext
 walk_at "md"
 refine Fq (S:=ws) (enc:=λg:List Int=>PV.lst (g.map .int)) (f:=λg=>some (.str (knW U M g))) ?_ (λd hd Z hZ=>?_)
 rotate_left
 ·obtain⟨n,r,rfl⟩:=hw d hd
  walk_at "c"
  ext
  refine⟨U,M,J,n,r,rfl,?_⟩
  exact hZ
 rw[show ws.filterMap (λg=>some (PV.str (knW U M g)))=(ws.map (knW U M)).map .str by rw[map_map];exact congrFun (filterMap_eq_map' (f:=λg=>PV.str (knW U M g))) _]
 ext
 walk_at "md"
 refine Fq (S:=ws) (enc:=λg:List Int=>PV.lst (g.map .int)) (f:=λg=>some (.int (hdF g))) ?_ (λd hd Z hZ=>?_)
 rotate_left
 ·obtain⟨n,r,rfl⟩:=hw d hd
  walk_at "c"
  ext
  refine Fh (l:=n::r) (f:=PV.int) (j:=0) (a:=n) rfl rfl ?_
  exact hZ
 rw[show ws.filterMap (λg=>some (PV.int (hdF g)))=(ws.map hdF).map .int by rw[map_map];exact congrFun (filterMap_eq_map' (f:=λg=>PV.int (hdF g))) _]
 ext
 refine⟨v,rfl,?_⟩
 ext
 refine⟨U,M,J,ws.map (knW U M),ws.map hdF,wyF v,rfl,by rw[length_map,length_map],by rw[length_map];omega,?_⟩
 ext
 refine⟨by rw[length_map,length_map];omega,?_⟩
 rw[Xe]
 refine Fq (S:=(ws.map (knW U M)).zip (wrF (mtF M) (ws.map (knW U M)) (ws.map hdF) (wyF v))) (enc:=λz:Str×Str=>PV.tup [.str z.1,.str z.2]) (f:=λz=>some (.int (lwF z.1 z.2 v))) ?_ (λd hd Z hZ=>?_)
 rotate_left
 ·walk_at "c"
  ext
  refine⟨d.1,d.2,v,rfl,?_⟩
  exact hZ
 generalize (ws.map (knW U M)).zip (wrF (mtF M) (ws.map (knW U M)) (ws.map hdF) (wyF v))=Z at q
 rw[show Z.filterMap (λz:Str×Str=>some (PV.int (lwF z.1 z.2 v)))=(Z.map λz=>lwF z.1 z.2 v).map .int by rw[map_map];exact congrFun (filterMap_eq_map' (f:=λz:Str×Str=>PV.int (lwF z.1 z.2 v))) _]
 exact q
def Alf:PSp:=λps P=>∃U M J ts o m,ps=[.bk U M J,.lst (map .int ts),opP o,.int m]/\ts.length<=300/\P (.lst ((Dt (mtF M) (knL U M ts) (bsL U M ts) (o.getD (obF 0 (knL U M ts))) m).map .int))
theorem Akp(T:Txt K mg t):Binds K t.d_qbr ["book","text","base","most"] [t.v_levels_of_0,t.v_levels_of_1]:=T.F_qbr.binds 2 rfl λ_ _ _ _ _ _ us hl=>match us,hl with | [_,_],_=>⟨_,rfl,rfl⟩
theorem Alb(T:Txt K mg t):Binds K t.d_qbr ["book","text","base","most"] [t.v_levels_of_1]:=T.F_qbr.binds 3 rfl λ_ _ _ _ _ _ us hl=>match us,hl with | [_,_,_],_=>⟨_,rfl,rfl⟩
theorem Acv(T:Txt K mg t):Binds K t.d_qbr ["book","text","base","most"] []:=T.F_qbr.binds 4 rfl λ_ _ _ _ _ _ us hl=>match us,hl with | [_,_,_,_],_=>⟨_,rfl,rfl⟩
theorem Aad(T:Txt K mg t):FnOk P w K mg base CX0 7 t.f_qbr t.d_qbr ["book","text","base","most"] (spOf K t.C_Book [false,false,true,false] .fr Alf):=by
 refine T.F_qbr.ok sc_qbr (λvs H Q E h=>h.len) (λcdv A outer s H vs Q E hr h=>?_)
 have hu:=Cq hr
 have hu64:=hr.units
 refine⟨_,(Bd (Bo (i:=4) sc_qbr.nd rfl (by first | exact Or.inl rfl | exact Or.inr rfl) (Bp (Ade T) (hr.mono (by decide)) rfl T.m_qbs T.F_qbs.kp (Ag2 T) .nil Bw (Ba (pv 0) (Ba (pv 1) Be))))
   (Bd (Bo (i:=5) sc_qbr.nd rfl (Or.inl rfl) (Bp (An7 T) (hr.mono (by decide)) rfl T.m_qo T.F_qo.kp (Aoh T) .nil Bw (Ba (pv 0) (Ba (pv 1) (Ba (pv 2) Be)))))
   (Bd (Bo (i:=6) sc_qbr.nd rfl (Or.inl rfl) (Bv Abl (Db (Ba (pv 5) Be)) (Cn (Ck K) rfl T.z_len PySem.boot_len (Ba (pv 4) Be))))
   (Bd (Bo (i:=7) sc_qbr.nd rfl (Or.inl rfl) (Bp (AaG T) (hr.mono (by decide)) rfl T.m_qbx T.F_qbx.kp (Acl T) .nil Bw (Ba (pv 0) (Ba (pv 1) (Ba (pv 5) (Ba (pv 3) Be))))))
   (Bd (Dc PassesOwn.never rfl (Ct (Bp (Ang T) (hr.mono (by decide)) rfl T.m_ql T.F_ql.kp (Aog T) .nil Bw (Ba (pv 7) (Ba (Cn (Ck K) rfl T.z_len PySem.boot_len (Ba (pv 4) Be)) (Ba (pv 5) Be))))) (Fy (K':=K) (n:=2) rfl rfl (Ce (Bq (i:=8) sc_qbr.nd rfl (Or.inl rfl)) (Ce (Bq (i:=9) sc_qbr.nd rfl (Or.inl rfl)) Fa)))
    (Bd (Bo (i:=10) sc_qbr.nd rfl (Or.inl rfl) (Bp (Ank T) (hr.mono (by decide)) rfl T.m_qd T.F_qd.kp (AoS T) .nil Bw (Ba (pv 0) (Ba (Jq 1 [4] ["k","wholes"] ["wholes"] rfl (Ct (pv 9)) rfl (λj y e1 i e2=>match j,e1,e2 with | 0,e1,e2=>by cases e1;cases e2;exact⟨rfl,rfl,rfl,by decide +kernel⟩ | _+1,_,e2=>by simp at e2) (forall_mem_cons.mpr ⟨rfl,λ_ h=>nomatch h⟩) (by decide +kernel) (λ_ _ _ _=>(Bq (i:=0) (show Nodup (["k","wholes"]:List Str) by decide +kernel) rfl (Or.inl rfl))) (λ_ _ _ _=>Gz) (λ_ _ _ _=>(Ci (Cp K) (pv 1) (pv 0) (λ_ _=>rfl))) rfl (by decide +kernel) rfl (by decide +kernel)) (Ba (pv 8) Be)))))
   (Bi (Dc PassesOwn.never rfl (Wm K (pv 9) (pv 10) rfl T.z_zip) (Fy (K':=K) (n:=2) rfl rfl (Ce (Bq (i:=11) sc_qbr.nd rfl (Or.inl rfl)) (Ce (Bq (i:=12) sc_qbr.nd rfl (Or.inl rfl)) Fa)))
    (Bi (Qd (pv 12) (Tb (pv 6) (pv 11) Nw)))))))
   (Bi (Cg (pv 6)))))))),?_⟩
 try dsimp only [Cm,Cb]
 refine Cu h (by decide) (Bl (Bx (Aer (Bt Bc (Bt Bc Bk))))
   (Bl (Bx (Fr (Bt Bc (Bt Bc (Bu Br Bk)))))
   (Bl (Dp (AeL (EF.eb (Dv 1 (Bu Br Bk))) (EU.eb (Dy (Bt Bc Bk)))))
   (Bl (Bx (EF.eu (Dl (Bt Bc (Bt Bc (Bu Br (Bt Bc Bk)))))))
   (Bl (Qs (Fr (Bt Bc (Bu (Dy (Bt Bc Bk)) (Bu Br Bk)))) (Jb (Cr (Ca (top:=13)) (Cr (Ca (top:=13)) Gb)))
    (Bl (Bx (EF.eu (Dl (Bt Bc (Bt (EF.eb (Gx Bc (Ca (top:=1)) Ji (Dd Bc Bc))) (Bu Br Bk))))))
   (AiX Br Br (Jb (Cr (Ca (top:=13)) (Cr (Ca (top:=13)) Gb)))
    (Sh Bc Br))))
   Gu))))) (λps P hp=>?_)
 clear h hu hu64 hr
 obtain⟨U,M,J,ts,o,m,rfl,hl,q⟩:=hp
 walk_at "s"
 have go:=Gj (Cj U M) ts
 have gl:=go.ln
 ext
 refine⟨U,M,J,ts,rfl,hl,?_⟩
 ext
 refine⟨U,M,J,ts,o,rfl,hl,?_⟩
 ext1
 have kl:(knL U M ts).length=(grp (Cj U M) ts).length:=by unfold knL;rw[length_map]
 unfold Dt bsL at q
 have ne:∀w∈grp (Cj U M) ts,∃n r,w=n::r:=λw hw=>by
  obtain⟨n,r,e,_⟩:=go.ne w hw
  exact⟨n,r,e⟩
 have kn:knL U M ts=(grp (Cj U M) ts).map (knW U M):=rfl
 generalize o.getD (obF 0 (knL U M ts))=b at q
 refine Jg ?_
 ext1
 all_goals try (first | exact⟨by rw[length_map];omega,by rw[length_map];omega⟩ | decide)
 refine Jg ?_
 ext1
 refine⟨U,M,J,ts,b,m,rfl,hl,?_⟩
 ext
 rw[length_map,toNat_natCast]
 obtain⟨S,hS⟩:=NI.all (kn:=knL U M ts) (b:=b) (m:=m) (λ_ _=>trivial) (knL U M ts).length (Nat.le_refl _)
 have nend:=hS.end
 have dl:=Si (kn:=knL U M ts) (b:=b) (m:=m) (knL U M ts).length
 refine⟨dF (knL U M ts) b m (knL U M ts).length,(grp (Cj U M) ts).length,b,rfl,by omega,by omega,λx hx=>by rw[<- kl];exact⟨Nat.le_of_lt ((Vd _).1 x hx),nend x hx⟩,?_⟩
 rw[<- kl]
 have rk:rsF (stF (dF (knL U M ts) b m (knL U M ts).length) (knL U M ts).length b) (hmF (stF (dF (knL U M ts) b m (knL U M ts).length) (knL U M ts).length b) (knL U M ts).length (stF (dF (knL U M ts) b m (knL U M ts).length) (knL U M ts).length b).length)=Ny (knL U M ts) b m:=rfl
 have rok:=Alj (St:=stF (dF (knL U M ts) b m (knL U M ts).length) (knL U M ts).length b) (hs:=hmF (stF (dF (knL U M ts) b m (knL U M ts).length) (knL U M ts).length b) (knL U M ts).length (stF (dF (knL U M ts) b m (knL U M ts).length) (knL U M ts).length b).length)
 have stl:=Ai7 (dF (knL U M ts) b m (knL U M ts).length) (knL U M ts).length b
 rw[rk,Oe] at rok
 rw[rk]
 generalize Ny (knL U M ts) b m=rows at q rok
 rw[kl] at rok stl dl q
 generalize dF (knL U M ts) b m (knL U M ts).length=DD at *
 rw[kl]
 rw[kn] at q
 generalize grp (Cj U M) ts=ws at *
 clear rk hS nend
 unfold lvA at q
 ext
 refine⟨λj ρ=>∃(acc:List Int) (v8 v9 v10 v11 v12:Sl),ρ=[.bo (.bk U M J),.bo (.lst (ts.map .int)),.sh (opP o),.bo (.int m),.sh (.lst (ws.map λg:List Int=>PV.lst (g.map .int))),.sh (.int b),.ow (.lst (acc.map .int)),.sh (.lst (DD.map nP)),v8,v9,v10,v11,v12]/\acc.length=ws.length/\(rows.drop j).foldl (λl r=>lpF l r.2 (rwF (mtF M) (pkF (ws.map (knW U M)) r.2) (pkF (ws.map hdF) r.2) r.1)) acc=rows.foldl (λl r=>lpF l r.2 (rwF (mtF M) (pkF (ws.map (knW U M)) r.2) (pkF (ws.map hdF) r.2) r.1)) (replicate ws.length b),⟨replicate ws.length b,_,_,_,_,_,by rw[List.map_replicate],length_replicate,rfl⟩,?_,?_⟩
 ·rintro j p ρ hp ⟨acc,v8,v9,v10,v11,v12,rfl,al,he⟩
  rw[getElem?_map] at hp
  obtain⟨r,hr,rfl⟩:=map_eq_some_iff.mp hp
  obtain⟨hi,rfl⟩:=List.getElem?_eq_some_iff.mp hr
  rw[drop_eq_getElem_cons hi,foldl_cons] at he
  obtain⟨rk1,rk2⟩:=rok.2 _ (getElem_mem hi)
  generalize rows[j]=r at *
  rw[Ads _ ws _ rk2,Ads _ ws _ rk2] at he
  rw[show rsP r=.tup [.int r.1,.lst (r.2.map λk:Nat=>.int k)] from rfl]
  ext
  walk_at "md"
  refine Fq (S:=r.2) (enc:=λk:Nat=>PV.int k) (f:=λk=>some (.lst (((ws[k]?).getD default).map .int))) ?_ (λd hd Z hZ=>?_)
  rotate_left
  ·have hdl:=rk2 d hd
   rw[getElem?_eq_getElem hdl] at hZ
   walk_at "c"
   ext
   refine Fh (l:=ws) (f:=λg:List Int=>PV.lst (g.map .int)) (j:=d) (a:=ws[d]) (getElem?_eq_getElem hdl) rfl ?_
   exact hZ
  rw[show r.2.filterMap (λk=>some (PV.lst (((ws[k]?).getD default).map .int)))=(pkF ws r.2).map (λg:List Int=>PV.lst (g.map .int)) by unfold pkF;rw[map_map];exact congrFun (filterMap_eq_map' (f:=λk:Nat=>PV.lst (((ws[k]?).getD default).map .int))) _]
  ext
  refine⟨U,M,J,pkF ws r.2,r.1,rfl,λw hw=>?_,by unfold pkF;rw[length_map];omega,?_⟩
  ·unfold pkF at hw
   obtain⟨k,hk,rfl⟩:=mem_map.mp hw
   have hkl:=rk2 k hk
   rw[getElem?_eq_getElem hkl]
   exact ne _ (getElem_mem hkl)
  generalize rwF (mtF M) ((pkF ws r.2).map (knW U M)) ((pkF ws r.2).map hdF) r.1=vals at he
  ext
  rw[Xe]
  unfold lpF at he
  have zk:∀z∈r.2.zip vals,z.1<ws.length:=λz hz=>rk2 _ (of_mem_zip hz).1
  generalize r.2.zip vals=zs at he zk
  refine⟨λi ρ=>∃(ac:List Int) (v11 v12:Sl),ρ=[.bo (.bk U M J),.bo (.lst (ts.map .int)),.sh (opP o),.bo (.int m),.sh (.lst (ws.map λg:List Int=>PV.lst (g.map .int))),.sh (.int b),.ow (.lst (ac.map .int)),.sh (.lst (DD.map nP)),.sh (.int r.1),.sh (.lst (r.2.map λk:Nat=>.int k)),.sh (.lst (vals.map .int)),v11,v12]/\ac.length=ws.length/\(zs.drop i).foldl (λl p=>l.set p.1 p.2) ac=zs.foldl (λl p=>l.set p.1 p.2) acc,⟨acc,_,_,rfl,al,rfl⟩,?_,?_⟩
  ·rintro i p ρ hp ⟨ac,v11,v12,rfl,al2,he2⟩
   rw[getElem?_map] at hp
   obtain⟨z,hz,rfl⟩:=map_eq_some_iff.mp hp
   obtain⟨hi2,rfl⟩:=List.getElem?_eq_some_iff.mp hz
   rw[drop_eq_getElem_cons hi2,foldl_cons] at he2
   have zk2:=zk _ (getElem_mem hi2)
   generalize zs[i]=z at *
   ext
   refine Wd rfl (Tx (j:=z.1) (by rw[length_map];omega)) ?_
   ext
   rw[<- map_set]
   exact⟨_,_,_,rfl,by rw[length_set,al2],he2⟩
  ·rintro ρ ⟨ac,v11,v12,rfl,al2,he2⟩
   rw[length_map,drop_length,foldl_nil] at he2
   rw[<- he2] at he
   exact⟨ac,_,_,_,_,_,rfl,al2,he⟩
 ·rintro ρ ⟨acc,v8,v9,v10,v11,v12,rfl,al,he⟩
  rw[length_map,drop_length,foldl_nil] at he
  ext
  rw[he]
  exact q
def cR(ns:List Int)(k:Nat):Int:=(ns[k]?).getD 0
def AjZ:PSp:=λps P=>∃ns k,ps=[.scr ns,.int (k:Nat)]/\ns.length<=63/\P (.int (cR ns k))
theorem Acp(T:Txt K mg t):Binds K t.d_qp ["_law_script","_law_k"] []:=T.F_qp.binds (by walk_at "b2")
theorem Yr(T:Txt K mg t):FnOk P w K mg base CX0 1 t.f_qp t.d_qp ["_law_script","_law_k"] (spOf K t.C_Book [false,false] .sh AjZ):=by
 refine T.F_qp.ok Ans (λvs H Q E h=>h.len) (λcdv A outer s H vs Q E hr h=>?_)
 have hu:=Cq hr
 have hu64:=hr.units
 refine⟨_,(Bd (Dh (Cf AcD (pv 1) (Cn (Ck K) rfl T.z_len PySem.boot_len (Ba (pv 0) Be)) (Ch _))
    (Bi (Cg (Ci (Cp K) (pv 0) (pv 1) (λ_ _=>rfl))))
    Cv)
   (Bi (Cg Bf))),?_⟩
 try dsimp only [Cm,Cb]
 refine Cu h (by decide) (Bl (Dr (Cy (EU.eb (Dk (λ_ _ _=>.bl _) Bc (EU.eb (Dy (Bt Bc Bk))))))
    (Dz (Dd Bc Bc))
    Dg)
   (Dz Bg)) (λps P hp=>?_)
 clear h hu hu64 hr
 obtain⟨ns,k,rfl,hl,q⟩:=hp
 walk_at "s"
 unfold cR at q
 ext
 by_cases hk:k<ns.length
 ·rw[decide_eq_true (by omega:(k:Int)<(ns.length:Int))]
  rw[getElem?_eq_getElem hk] at q
  ext
  refine Ani (n:=ns[k]) (Gs (getElem?_eq_getElem hk)) ?_
  ext
  exact q
 ·rw[decide_eq_false (by omega:¬(k:Int)<(ns.length:Int))]
  rw[getElem?_eq_none (by omega)] at q
  ext
  exact q
theorem Ui{n:Nat}{f:Nat->Option PV}{P:PV->Prop}{ug:PV->Bh->(Bh->Prop)->Prop}{ta:UT}{ue:UE}{ρ':Bh}(hn:n<100000)(q:P (.lst ((range n).filterMap f)))(h:∀k,k<n->∀Z:Option PV->Prop,Z (f k)->ug (.int (k:Int)) ρ' λρ2=>ta ρ2 λb=>if b=true then ue ρ2 λq=>Z (some q) else Z none):Zj ug ta ue ρ' P [.int (n:Int)]:=by
 refine⟨_,rfl,by omega,by omega,λk rs=>rs=(range k).filterMap f,rfl,λk rs hk hr=>?_,λrs hr=>?_⟩
 ·subst hr
  rw[toNat_natCast] at hk
  rw[Int.zero_add]
  refine h k hk (λo=>(match o with | some q=>(range k).filterMap f++[q] | none=>(range k).filterMap f)=(range (k+1)).filterMap f) ?_
  rw[List.range_succ,List.filterMap_append]
  cases e:f k with
  | none=>simp [filterMap_cons,e]
  | some x=>simp [filterMap_cons,e]
 ·rw[toNat_natCast] at hr
  rw[hr];exact q
def byL:List Int:=[1,3,5,9,11,13,15,17]
def byF(c:Int):Int:=(byL[(c%8).toNat]?).getD 1
def s2F(c:Int)(k:Nat):Int:=c / 8%10^28+(1+c / 64%10^26)*(((k:Int)*byF c+c / 512)%28)
def s2L(c:Int):List Int:=(range 28).map (s2F c)
def AlH:PSp:=λps P=>∃c:Int,ps=[.int c]/\0<=c/\P (.lst ((s2L c).map .int))
theorem An3(T:Txt K mg t):Binds K t.d_qbp ["_law_cell"] []:=T.F_qbp.binds (by walk_at "b1")
theorem Alp(T:Txt K mg t):FnOk P w K mg base CX0 1 t.f_qbp t.d_qbp ["_law_cell"] (spOf K t.C_Book [false] .fr AlH):=by
 refine T.F_qbp.ok sc_qbp (λvs H Q E h=>h.len) (λcdv A outer s H vs Q E hr h=>?_)
 have hu:=Cq hr
 have hu64:=hr.units
 refine⟨_,(Bd (Bo (i:=1) sc_qbp.nd rfl (by first | exact Or.inl rfl | exact Or.inr rfl) (Ci (Cp K) (Db (Ba Bf (Ba Bf (Ba Bf (Ba Bf (Ba Bf (Ba Bf (Ba Bf (Ba Bf Be))))))))) (Bv Dq (pv 0) Bf) (λ_ _=>rfl)))
   (Bd (Bo (i:=2) sc_qbp.nd rfl (by first | exact Or.inl rfl | exact Or.inr rfl) (Bv Dq (Bv Fu (pv 0) Bf) (Bv Lk Bf Bf)))
   (Bd (Bo (i:=3) sc_qbp.nd rfl (by first | exact Or.inl rfl | exact Or.inr rfl) (Bv Fm Bf (Bv Dq (Bv Fu (pv 0) Bf) (Bv Lk Bf Bf))))
   (Bi (Cg (Jq 1 [2,3,1,0] ["_law_k","_law_low","_law_step","_law_by","_law_cell"] ["_law_step","_law_low","_law_cell","_law_by"] rfl (Nv rfl T.z_range (Ba Bf Be)) rfl (λj y e1 i e2=>match j,e1,e2 with | 0,e1,e2=>by cases e1;cases e2;exact⟨rfl,rfl,rfl,by decide +kernel⟩ | 1,e1,e2=>by cases e1;cases e2;exact⟨rfl,rfl,rfl,by decide +kernel⟩ | 2,e1,e2=>by cases e1;cases e2;exact⟨rfl,rfl,rfl,by decide +kernel⟩ | 3,e1,e2=>by cases e1;cases e2;exact⟨rfl,rfl,rfl,by decide +kernel⟩ | _+4,_,e2=>by simp at e2) (forall_mem_cons.mpr ⟨rfl,forall_mem_cons.mpr ⟨rfl,forall_mem_cons.mpr ⟨rfl,forall_mem_cons.mpr ⟨rfl,λ_ h=>nomatch h⟩⟩⟩⟩) (by decide +kernel) (λ_ _ _ _=>(Bq (i:=0) (show Nodup (["_law_k","_law_low","_law_step","_law_by","_law_cell"]:List Str) by decide +kernel) rfl (Or.inl rfl))) (λ_ _ _ _=>Gz) (λ_ _ _ _=>(Bv Fm (pv 1) (Bv Vs (pv 2) (Bv Dq (Bv Fm (Bv Vs (pv 0) (pv 3)) (Bv Fu (pv 4) Bf)) Bf)))) rfl (by decide +kernel) rfl (by decide +kernel))))))),?_⟩
 try dsimp only [Cm,Cb]
 refine Cu h (by decide) (Bl (Bx (Dd (EF.eb (Dv 8 (Bu Bg (Bu Bg (Bu Bg (Bu Bg (Bu Bg (Bu Bg (Bu Bg (Bu Bg Bk)))))))))) (EU.eb (Cw (λ_ _ _=>.int _) Bc (EU.eb Bg)))))
   (Bl (Bx (Cw (λ_ _ _=>.int _) (EU.eb (Cw (λ_ _ _=>.int _) Bc (EU.eb Bg))) (EU.eb (Cw (λ_ _ _=>.int _) (EU.eb Bg) (EU.eb Bg)))))
   (Bl (Bx (Dk (λ_ _ _=>.int _) (EU.eb Bg) (EU.eb (Cw (λ_ _ _=>.int _) (EU.eb (Cw (λ_ _ _=>.int _) Bc (EU.eb Bg))) (EU.eb (Cw (λ_ _ _=>.int _) (EU.eb Bg) (EU.eb Bg)))))))
   (On (Uq (Bt (EU.eb Bg) Bk) (Ca (top:=1)) Ji (Dk (λ_ _ _=>.int _) Bc (EU.eb (Cw (λ_ _ _=>.int _) Bc (EU.eb (Cw (λ_ _ _=>.int _) (EU.eb (Dk (λ_ _ _=>.int _) (EU.eb (Cw (λ_ _ _=>.int _) Bc Bc)) (EU.eb (Cw (λ_ _ _=>.int _) Bc (EU.eb Bg))))) (EU.eb Bg))))))))))) (λps P hp=>?_)
 clear h hu hu64 hr
 obtain⟨c,rfl,hc,q⟩:=hp
 walk_at "s"
 have h1:=emod_nonneg c (show (8:Int)≠0 by decide)
 have h2:=emod_lt_of_pos c (show (0:Int)<8 by decide)
 have hj:(c%8).toNat<byL.length:=by show _<8;omega
 have eb:byL[(c%8).toNat]? = some (byF c):=by unfold byF;rw[getElem?_eq_getElem hj];rfl
 ext
 walk_at "mc"
 refine Fh (l:=byL) (f:=PV.int) (j:=(c%8).toNat) (a:=byF c) eb (by omega) ?_
 ext
 walk_at "mc"
 have hb:0<=byF c/\byF c<20:=by
  have:∀x∈byL,0<=x/\x<20:=by decide
  exact this _ (mem_of_getElem? eb)
 refine Ui (n:=28) (f:=λk=>some (.int (s2F c k))) (by decide) ?_ (λk hk Z hZ=>?_)
 rotate_left
 ·walk_at "c"
  ext
  walk_at "ma"
  have g1:=emod_nonneg ((k:Int)*byF c+c / 512) (show (28:Int)≠0 by decide)
  have g2:=emod_lt_of_pos ((k:Int)*byF c+c / 512) (show (0:Int)<28 by decide)
  all_goals try (first | exact .inr ⟨by omega,by omega⟩ | exact .inl ⟨by omega,by omega⟩)
  exact hZ
 rw[show (range 28).filterMap (λk=>some (PV.int (s2F c k)))=(s2L c).map .int by unfold s2L;rw[map_map];exact congrFun (filterMap_eq_map' (f:=λk=>PV.int (s2F c k))) _]
 exact q
theorem T2.nil{sg:List Int}:T2 sg []:=⟨λk s h=>by simp at h,λk s h=>by simp at h⟩
theorem T2.snoc{sg:List Int}{U:List Sg}(h:T2 sg U){s:Sg}(h1:sg[U.length]? = some s.1)(h2:s.2.1∈toldK)(h3:Nr s.2.1 s.2.2)(h4:U.length<8->toldK[U.length]? = some s.2.1):T2 sg (U++[s]):=by
 refine⟨λk x e=>?_,λk x e hk=>?_⟩
 ·rcases Lb e with e | ⟨rfl,rfl⟩
  ·exact h.at' k x e
  ·exact⟨h1,h2,h3⟩
 ·rcases Lb e with e | ⟨rfl,rfl⟩
  ·exact h.wd k x e hk
  ·exact h4 hk
def Als:PSp:=λps P=>∃(c m:Int) (sg:List Int),ps=[.int c,.int m,.lst (sg.map .int)]/\0<=m/\sg.length=28/\∀U:List Sg,U.length=14->T2 sg U->P (.lst (U.map sgP))
theorem Anp(T:Txt K mg t):Binds K t.d_qbw ["_law_cell","_law_more","_law_signs_here"] []:=T.F_qbw.binds (by walk_at "b3")
theorem AlB(T:Txt K mg t):FnOk P w K mg base CX0 1 t.f_qbw t.d_qbw ["_law_cell","_law_more","_law_signs_here"] (spOf K t.C_Book [false,true,false] .fr Als):=by
 refine T.F_qbw.ok sc_qbw (λvs H Q E h=>h.len) (λcdv A outer s H vs Q E hr h=>?_)
 have hu:=Cq hr
 have hu64:=hr.units
 refine⟨_,(Bd (Bo (i:=3) sc_qbw.nd rfl (Or.inl rfl) (Db (Ba By (Ba By (Ba By (Ba By (Ba By (Ba By (Ba By (Ba By Be))))))))))
   (Bd (Bo (i:=4) sc_qbw.nd rfl (Or.inl rfl) (Db Be))
   (Bd (Dc PassesOwn.never rfl (Nv rfl T.z_range (Ba Bf Be)) (Bq (i:=5) sc_qbw.nd rfl (Or.inl rfl))
    (Bd (Bo (i:=6) sc_qbw.nd rfl (Or.inl rfl) (Ci (Cp K) (pv 3) (Bv Dq (pv 5) Bf) (λ_ _=>rfl)))
   (Bd (Dh (Cf Tl (pv 5) Bf (Ch _))
    (Bd (Bo (i:=6) sc_qbw.nd rfl (Or.inl rfl) (Ci (Cp K) (pv 3) (Bv Dq (pv 1) Bf) (λ_ _=>rfl)))
   (Bi (Bo (i:=1) sc_qbw.nd rfl (Or.inl rfl) (Bv Fu (pv 1) Bf))))
    Cv)
   (Bd (Bo (i:=7) sc_qbw.nd rfl (Or.inl rfl) Bf)
   (Bd (Dh (Cf Do (pv 6) By (Ch _))
    (Bd (Bo (i:=7) sc_qbw.nd rfl (Or.inl rfl) (Bv Vs (Bv Fm Bf (Bv Dq (pv 1) Bf)) (Ci (Cp K) (Db (Ba Bf (Ba (Bv Lk Bf Bf) Be))) (Bv Dq (Bv Fu (pv 0) Bf) Bf) (λ_ _=>rfl))))
   (Bi (Bo (i:=1) sc_qbw.nd rfl (Or.inl rfl) (Bv Fu (pv 1) Bf))))
    Cv)
   (Bi (Co (Fw plainAttrs_list PySem.F.slot_list_append PySem.F.type_list_append Da (pv 4) (Ba (Ft (Ba (Ci (Cp K) (pv 2) (pv 5) (λ_ _=>rfl)) (Ba (pv 6) (Ba (pv 7) Be)))) Be)))))))))
   (Bi (Cg (pv 4)))))),?_⟩
 try dsimp only [Cm,Cb]
 refine Cu h (by decide) (Bl (Bx (EF.eu (Dv 8 (Bu Cl (Bu Cl (Bu Cl (Bu Cl (Bu Cl (Bu Cl (Bu Cl (Bu Cl Bk)))))))))))
   (Bl (Dp (Dv 0 Bk))
   (Bl (Ajg (Bt (EU.eb Bg) Bk) (Ca (top:=8))
    (Bl (Bx (Dd Bc (EU.eb (Cw (λ_ _ _=>.int _) Bc (EU.eb Bg)))))
   (Bl (Dr (Cy (EU.eb (Dk (λ_ _ _=>.bl _) Bc (EU.eb Bg))))
    (Bl (Bx (Dd Bc (EU.eb (Cw (λ_ _ _=>.int _) Bc (EU.eb Bg)))))
   (Bx (Cw (λ_ _ _=>.int _) Bc (EU.eb Bg))))
    Dg)
   (Bl (Bx Bg)
   (Bl (Dr (Cy (EU.eb (Fe Bc (EU.eb Cl))))
    (Bl (Bx (Cw (λ_ _ _=>.int _) (EU.eb (Dk (λ_ _ _=>.int _) (EU.eb Bg) (EU.eb (Cw (λ_ _ _=>.int _) Bc (EU.eb Bg))))) (EU.eb (Dd (EF.eb (Dv 2 (Bu Bg (Bu (Cw (λ_ _ _=>.int _) (EU.eb Bg) (EU.eb Bg)) Bk)))) (EU.eb (Cw (λ_ _ _=>.int _) (EU.eb (Cw (λ_ _ _=>.int _) Bc (EU.eb Bg))) (EU.eb Bg)))))))
   (Bx (Cw (λ_ _ _=>.int _) Bc (EU.eb Bg))))
    Dg)
   (Gf (Bu (Gk 3 (Bu (Dd Bc Bc) (Bu Br (Bu Br Bk)))) Bk)))))))
   Gu))) (λps P hp=>?_)
 clear h hu hu64 hr
 obtain⟨c,m,sg,rfl,hm,hs,q⟩:=hp
 walk_at "s"
 have ew:([PV.str "fore",PV.str "back",PV.str "num",PV.str "blank",PV.str "mark",PV.str "forein",PV.str "backin",PV.str "out"]:List PV)=toldK.map PV.str:=rfl
 ext
 rotate_left
 ·exact⟨by decide,by decide⟩
 rw[ew]
 refine⟨λk ρ=>∃(m:Int) (U:List Sg) (v5 v6 v7:Sl),ρ=[.bo (.int c),.sh (.int m),.bo (.lst (sg.map .int)),.sh (.lst (toldK.map PV.str)),.ow (.lst (U.map sgP)),v5,v6,v7]/\0<=m/\U.length=k/\T2 sg U,⟨m,[],_,_,_,rfl,hm,rfl,T2.nil⟩,?_,?_⟩
 ·rintro k ρ hk ⟨m,U,v5,v6,v7,rfl,h0,ul,ht⟩
  have hk':k<14:=hk
  rw[Int.zero_add]
  have wl:∀i:Int,∃w,toldK[(i%8).toNat]? = some w/\w∈toldK/\i%8=((i%8).toNat:Int):=λi=>by
   have g1:=emod_nonneg i (show (8:Int)≠0 by decide)
   have g2:=emod_lt_of_pos i (show (0:Int)<8 by decide)
   have hj:(i%8).toNat<toldK.length:=by show _<8;omega
   exact⟨_,getElem?_eq_getElem hj,getElem_mem hj,by omega⟩
  ext1
  refine Jg ?_
  obtain⟨w0,hw0,hm0,he0⟩:=wl (k:Int)
  ext1
  all_goals try decide
  refine Fh (l:=toldK) (f:=PV.str) (j:=((k:Int)%8).toNat) (a:=w0) hw0 he0 ?_
  ext1
  refine Og (λρ=>∃(m':Int) (w:Str),0<=m'/\w∈toldK/\(k<8->toldK[k]? = some w)/\ρ=[.bo (.int c),.sh (.int m'),.bo (.lst (sg.map .int)),.sh (.lst (toldK.map PV.str)),.ow (.lst (U.map sgP)),.sh (.int k),.sh (.str w),v7]) (λρ h=>?_) ?_
  rotate_left
  ·ext
   by_cases h7:7<k
   ·rw[decide_eq_true (by omega)]
    obtain⟨w1,hw1,hm1,he1⟩:=wl m
    ext
    walk_at "ma"
    refine Fh (l:=toldK) (f:=PV.str) (j:=(m%8).toNat) (a:=w1) hw1 he1 ?_
    ext
    walk_at "ma"
    exact .inl ⟨m / 8,w1,by omega,hm1,λz=>by omega,rfl⟩
   ·rw[decide_eq_false (by omega)]
    ext
    exact .inl ⟨m,w0,h0,hm0,λz=>by rw[show ((k:Int)%8).toNat=k by omega] at hw0;exact hw0,rfl⟩
  obtain⟨m',w,hm',hw,hw8,rfl⟩:=h
  ext1
  refine Jg ?_
  ext1
  refine Og (λρ=>∃(m' r:Int),0<=m'/\Nr w r/\ρ=[.bo (.int c),.sh (.int m'),.bo (.lst (sg.map .int)),.sh (.lst (toldK.map PV.str)),.ow (.lst (U.map sgP)),.sh (.int k),.sh (.str w),.sh (.int r)]) (λρ h=>?_) ?_
  rotate_left
  ·ext
   by_cases hmk:w="mark"
   ·rw[decide_eq_true hmk]
    have g1:=emod_nonneg (c / 16) (show (2:Int)≠0 by decide)
    have g2:=emod_lt_of_pos (c / 16) (show (0:Int)<2 by decide)
    obtain⟨f,hf,hf1⟩:∃f:Int,([1,10^28]:List Int)[(c / 16%2).toNat]? = some f/\1<=f:=by
     have hj:(c / 16%2).toNat<([1,10^28]:List Int).length:=by show _<2;omega
     have:∀x∈([1,10^28]:List Int),1<=x:=by decide
     exact⟨_,getElem?_eq_getElem hj,this _ (getElem_mem hj)⟩
    ext
    walk_at "mc"
    refine Fh (l:=([1,10^28]:List Int)) (f:=PV.int) (j:=(c / 16%2).toNat) (a:=f) hf (by omega) ?_
    have g3:=emod_nonneg m' (show (3:Int)≠0 by decide)
    have g4:=emod_lt_of_pos m' (show (0:Int)<3 by decide)
    ext
    all_goals try (first | decide | exact⟨by decide,by decide⟩ | exact .inl ⟨by omega,by omega⟩)
    refine .inl ⟨m' / 3,(1+m'%3)*f,by omega,.inl ⟨hmk,?_⟩,rfl⟩
    have:=Int.mul_le_mul (show (1:Int)<=1+m'%3 by omega) hf1 (by decide) (by omega)
    omega
   ·rw[decide_eq_false hmk]
    ext
    exact .inl ⟨m',0,hm',.inr ⟨hmk,rfl⟩,rfl⟩
  obtain⟨m2,r,hm2,hr,rfl⟩:=h
  ext
  have hk28:k<sg.length:=by omega
  refine Fh (l:=sg) (f:=PV.int) (j:=k) (a:=sg[k]) (getElem?_eq_getElem hk28) rfl ?_
  ext
  rotate_left
  ·rw[length_map];omega
  refine⟨m2,U++[(sg[k],w,r)],_,_,_,by rw[map_append];rfl,hm2,by rw[length_append,ul];rfl,ht.snoc (s:=(sg[k],w,r)) (by rw[ul];exact getElem?_eq_getElem hk28) hw hr (by rw[ul];exact hw8)⟩
 rintro ρ ⟨m,U,v5,v6,v7,rfl,h0,ul,ht⟩
 ext
 exact q U ul ht
theorem Ag4{l:List Sg}{p:Sg->Prop} [DecidablePred p]:l.filterMap (λs=>if p s then some (PV.int s.1) else none)=((l.filter λs=>decide (p s)).map (·.1)).map .int:=by
 induction l with
 | nil=>rfl
 | cons x r ih =>
  by_cases z:p x
  ·rw[List.filterMap_cons_some (by rw[if_pos z]),filter_cons_of_pos (by simp [z]),map_cons,map_cons,ih]
  ·rw[List.filterMap_cons_none (by rw[if_neg z]),filter_cons_of_neg (by simp [z]),ih]
def wdD(U:List Sg):List (Key×PV):=U.map λs=>(Sum.inl s.1,.str s.2.1)
theorem Aa8{U:List Sg}{k:Nat}{s:Sg}(nd:(U.map (·.1)).Nodup)(hs:U[k]? = some s):Nc (wdD (U.take k)) (.inl s.1) (.str s.2.1)=wdD (U.take (k+1)):=by
 rw[Zr (kvs:=wdD (U.take k)) (λz=>Ox (f:=λs:Sg=>s.1) nd hs (AaP (f:=λs:Sg=>s.1) z)),Dj hs]
 unfold wdD;rw[map_append];rfl
theorem Zf(f:Nat->Int):Je ((range 28).map λk=>PV.int (f k)) (some 24) (some 26)=[.int (f 24),.int (f 25)]:=rfl
theorem AnC{f:Nat->Int}{U:List Sg}:((U.filter λs=>decide (s.2.1∈bs4)).map (·.1)).map PV.int++[PV.int (f 24),PV.int (f 25)]=(r0G f U).map λs=>PV.int s.1:=by
 unfold r0G
 rw[map_append,map_map,map_map];rfl
theorem AnK{U:List Sg}:((U.filter λs:Sg=>decide (s.2.1="mark")).map (·.1)).map PV.int=(Ly U).map λs=>PV.int s.1:=by unfold Ly;rw[map_map];rfl
theorem Al4{f:Nat->Int}{U:List Sg}:upG U (r0G f U) (r0G f U).length=U:=by
 unfold upG;rw[drop_of_length_le (Nat.le_refl _)];simp
theorem Aje{U R:List Sg}{n:Nat}(h:n<=R.length)(x:Sg):upG U (R++[x]) n=upG U R n++(if x.2.1="plain" then [] else [x]):=by
 unfold upG
 rw[List.drop_append_of_le_length h,filter_append,append_assoc]
 by_cases z:x.2.1="plain"
 ·rw[if_pos z,filter_cons_of_neg (by simp [z])];rfl
 ·rw[if_neg z,filter_cons_of_pos (by simp [z])];rfl
theorem Aj5{s:Int×Int}{ss:List (Int×Int)}{P:PV->Prop}(h1:¬s∈ss->P (.bl true))(h2:s∈ss->P (.bl false)):Af5 (prP s) (.lst (ss.map prP)) P:=by
 refine⟨ss.map prP,rfl,λx hx=>?_,λx hx=>?_,λb hb=>?_⟩
 ·obtain⟨z,_,rfl⟩:=mem_map.mp hx;exact⟨_,rfl⟩
 ·obtain⟨z,_,rfl⟩:=mem_map.mp hx
  refine .tup (n:=39) λi u v hu hv=>?_
  match i,hu,hv with
  | 0,hu,hv=>cases hu;cases hv;exact .flat rfl rfl
  | 1,hu,hv=>cases hu;cases hv;exact .flat rfl rfl
  | _+2,hu,_=>simp at hu
 ·have hm:prP s∈ss.map prP↔s∈ss:=by
   constructor
   ·intro h
    obtain⟨z,hz,e⟩:=mem_map.mp h
    have e':PV.tup [.int z.1,.int z.2]=.tup [.int s.1,.int s.2]:=e
    injection e' with e'
    injection e' with e1 e2
    injection e2 with e2
    injection e1 with e1
    injection e2 with e2
    rwa [<- show z=s from Prod.ext e1 e2]
   ·exact λh=>mem_map.mpr ⟨s,h,rfl⟩
  by_cases h:s∈ss
  ·rw[hb.mpr (hm.mpr h)];exact h2 h
  ·have:b=false:=by
    cases b with
    | false=>rfl
    | true=>exact absurd (hm.mp (hb.mp rfl)) h
   rw[this];exact h1 h
theorem AaJ(U:List Sg):(wdD U).map (λkv=>kP kv.1)=U.map λs=>PV.int s.1:=by unfold wdD;rw[map_map];rfl
theorem Ti{U:List Sg}(nd:(U.map (·.1)).Nodup){s:Sg}(hs:s∈U):Gg (wdD U) (.inl s.1)=some (.str s.2.1):=by
 induction U with
 | nil=>cases hs
 | cons x r ih =>
  obtain⟨h1,h2⟩:=nodup_cons.mp (show (x.1::r.map (·.1)).Nodup from nd)
  show Gg ((Sum.inl x.1,PV.str x.2.1)::wdD r) (Sum.inl s.1)=_
  rw[Tg]
  rcases mem_cons.mp hs with e | e
  ·subst e;rw[if_pos rfl]
  ·rw[if_neg (λz=>h1 (mem_map.mpr ⟨s,e,(Sum.inl.inj z).symm⟩))]
   exact ih h2 e
theorem Alq{U:List Sg}{n:Int}(h:∀u∈U,¬u.1=n):Gg (wdD U) (.inl n)=none:=by
 induction U with
 | nil=>rfl
 | cons x r ih =>
  show Gg ((Sum.inl x.1,PV.str x.2.1)::wdD r) (Sum.inl n)=_
  rw[Tg,if_neg (λz=>h x mem_cons_self (Sum.inl.inj z))]
  exact ih λu hu=>h u (mem_cons_of_mem _ hu)
def Al8:Uf:=λp q r P=>∃(c:Int) (f:Nat->Int) (U:List Sg),p=.int c/\q=.lst (U.map sgP)/\r=.lst ((range 28).map λk=>.int (f k))/\T2 ((range 28).map f) U/\U.length=14/\S28 f/\∀k R J,k<=6->JG f U k R J->P (.lst (map jnP J)) (.lst (map sgP (upG U R (r0G f U).length)))
theorem AmP(T:Txt K mg t):Binds K t.d_qbm ["_law_cell","_law_told_here","_law_signs_here"] []:=T.F_qbm.binds (by walk_at "b3")
theorem AjN(T:Txt K mg t):FnOk P w K mg base CX0 1 t.f_qbm t.d_qbm ["_law_cell","_law_told_here","_law_signs_here"] (spM K t.C_Book Al8):=by
 refine T.F_qbm.ok sc_qbm (λvs H Q E h=>h.len) (λcdv A outer s H vs Q E hr h=>?_)
 have hu:=Cq hr
 have hu64:=hr.units
 refine⟨_,(Bd (Bo (i:=3) sc_qbm.nd rfl (by first | exact Or.inl rfl | exact Or.inr rfl) Ls)
   (Bd (Dc PassesOwn.never rfl (Ct (pv 1)) (Fy (K':=K) (n:=3) rfl rfl (Ce (Bq (i:=4) sc_qbm.nd rfl (Or.inl rfl)) (Ce (Bq (i:=5) sc_qbm.nd rfl (Or.inl rfl)) (Ce (Bq (i:=6) sc_qbm.nd rfl (Or.inl rfl)) Fa))))
    (Bi (Gv hu (pv 3) (pv 4) (pv 5) rfl)))
   (Bd (Wg (Ov 1 [3] ["_law_sign","_law_words_here"] ["_law_words_here"] rfl (Vb (pv 3)) rfl (λj y e1 i e2=>match j,e1,e2 with | 0,e1,e2=>by cases e1;cases e2;exact⟨rfl,rfl,rfl,by decide +kernel⟩ | _+1,_,e2=>by simp at e2) (forall_mem_cons.mpr ⟨rfl,λ_ h=>nomatch h⟩) (by decide +kernel) (λ_ _ _ _=>(Bq (i:=0) (show Nodup (["_law_sign","_law_words_here"]:List Str) by decide +kernel) rfl (Or.inl rfl))) (λ_ _ _ _=>(Jr (Cf Do (Qv hu (pv 1) (pv 0) (λ_ _=>rfl)) By (Ch _)))) (λ_ _ _ _=>(pv 0)) rfl (by decide +kernel) rfl (by decide +kernel) (λ_=>rfl) (i:=7) sc_qbm.nd rfl (Or.inl rfl) rfl))
   (Bd (Wg (Bo (i:=8) sc_qbm.nd rfl (Or.inl rfl) (Bv Ol (Jq 1 [3] ["_law_sign","_law_words_here"] ["_law_words_here"] rfl (Vb (pv 3)) rfl (λj y e1 i e2=>match j,e1,e2 with | 0,e1,e2=>by cases e1;cases e2;exact⟨rfl,rfl,rfl,by decide +kernel⟩ | _+1,_,e2=>by simp at e2) (forall_mem_cons.mpr ⟨rfl,λ_ h=>nomatch h⟩) (by decide +kernel) (λ_ _ _ _=>(Bq (i:=0) (show Nodup (["_law_sign","_law_words_here"]:List Str) by decide +kernel) rfl (Or.inl rfl))) (λ_ _ _ _=>(Jr (Cf (Ju K) (Qv hu (pv 1) (pv 0) (λ_ _=>rfl)) (Db (Ba By (Ba By (Ba By (Ba By Be))))) rfl))) (λ_ _ _ _=>(pv 0)) rfl (by decide +kernel) rfl (by decide +kernel)) (Gd (Gc K) (pv 2) (Dw Bf) (Dw Bf)))))
   (Bd (Bo (i:=9) sc_qbm.nd rfl (Or.inl rfl) (Db Be))
   (Bd (Bo (i:=10) sc_qbm.nd rfl (Or.inl rfl) (Db Be))
   (Bd (Dc PassesOwn.never rfl (Xh rfl T.z_range (Ba Bf (Ba (Bv Fm Bf (Bv Dq (pv 0) Bf)) Be))) (Bq (i:=11) sc_qbm.nd rfl (Or.inl rfl))
    (Bd (Bo (i:=0) sc_qbm.nd rfl (Or.inl rfl) (Bv Fu (pv 0) Bf))
   (Bd (Bo (i:=12) sc_qbm.nd rfl (Or.inl rfl) (Ci (Cp K) (pv 8) (Bv Dq (pv 0) (Cn (Ck K) rfl T.z_len PySem.boot_len (Ba (pv 8) Be))) (λ_ _=>rfl)))
   (Bd (Bo (i:=13) sc_qbm.nd rfl (Or.inl rfl) (Ci (Cp K) (pv 7) (Bv Dq (Bv Fu (pv 0) (Cn (Ck K) rfl T.z_len PySem.boot_len (Ba (pv 8) Be))) (Cn (Ck K) rfl T.z_len PySem.boot_len (Ba (pv 7) Be))) (λ_ _=>rfl)))
   (Bd (Bo (i:=0) sc_qbm.nd rfl (Or.inl rfl) (Bv Fu (pv 0) (Bv Vs (Cn (Ck K) rfl T.z_len PySem.boot_len (Ba (pv 8) Be)) (Cn (Ck K) rfl T.z_len PySem.boot_len (Ba (pv 7) Be)))))
   (Bi (Dh (Cf (Yc hu64) (Ft (Ba (pv 12) (Ba (pv 13) Be))) (pv 10) rfl)
    (Bd (Co (Fw plainAttrs_list PySem.F.slot_list_append PySem.F.type_list_append Da (pv 10) (Ba (Ft (Ba (pv 12) (Ba (pv 13) Be))) Be)))
   (Bd (Co (Fw plainAttrs_list PySem.F.slot_list_append PySem.F.type_list_append Da (pv 9) (Ba (Ft (Ba (Ci (Cp K) (pv 2) (pv 11) (λ_ _=>rfl)) (Ba (pv 12) (Ba (pv 13) Be)))) Be)))
   (Bd (Co (Fw plainAttrs_list PySem.F.slot_list_append PySem.F.type_list_append Da (pv 8) (Ba (Ci (Cp K) (pv 2) (pv 11) (λ_ _=>rfl)) Be)))
   (Bi (Dh (Li (AeF hu (pv 12) (pv 3)))
    (Bd (Gv hu (pv 3) (Ci (Cp K) (pv 2) (pv 11) (λ_ _=>rfl)) (Qv hu (pv 3) (pv 12) (λ_ _=>rfl)) rfl)
   (Bi (Co (Fw plainAttrs_list PySem.F.slot_list_append PySem.F.type_list_append Da (pv 1) (Ba (Ft (Ba (Ci (Cp K) (pv 2) (pv 11) (λ_ _=>rfl)) (Ba (Qv hu (pv 3) (pv 12) (λ_ _=>rfl)) (Ba Bf Be)))) Be)))))
    Cv)))))
    Cv)))))))
   (Bi (Cg (pv 9)))))))))),?_⟩
 try dsimp only [Cm,Cb]
 refine Aed h (by decide) (λa=>(Bl (Dp AbB)
   (Bl (Aiy (i:=1) (a:=a) (AiJ (Jb (Cr (Ca (top:=14)) (Cr (Ca (top:=14)) (Cr (Ca (top:=14)) Gb))))
    (Rh Bc Br)))
   (Bl (AeG (i:=3) (Bx (EF.eu (Xl  (Ca (top:=1)) (Cy (EU.eb (Fe (EU.eb (Aax Bc)) (EU.eb Cl)))) Br))))
   (Bl (AeG (i:=3) (Dp (Rg (EF.eb (Xl  (Ca (top:=1)) (Cy (EU.eb (Tk (Aax Bc) (EF.eb (Dv 4 (Bu Cl (Bu Cl (Bu Cl (Bu Cl Bk))))))))) Br)) (EF.eb (Jo Bc (Dx (EU.eb Bg)) (Dx (EU.eb Bg)))))))
   (Bl (Dp (Dv 0 Bk))
   (Bl (Dp (Dv 0 Bk))
   (Bl (Aa7 (Bt (EU.eb Bg) (Bt (EU.eb (Dk (λ_ _ _=>.int _) (EU.eb Bg) (EU.eb (Cw (λ_ _ _=>.int _) Bc (EU.eb Bg))))) Bk)) (Ca (top:=14))
    (Bl (Bx (Cw (λ_ _ _=>.int _) Bc (EU.eb Bg)))
   (Bl (Bx (Dd Bc (EU.eb (Cw (λ_ _ _=>.int _) Bc (EU.eb (Dy (Bt Bc Bk)))))))
   (Bl (Bx (Dd Bc (EU.eb (Cw (λ_ _ _=>.int _) (EU.eb (Cw (λ_ _ _=>.int _) Bc (EU.eb (Dy (Bt Bc Bk))))) (EU.eb (Dy (Bt Bc Bk)))))))
   (Bl (Bx (Cw (λ_ _ _=>.int _) Bc (EU.eb (Cw (λ_ _ _=>.int _) (EU.eb (Dy (Bt Bc Bk))) (EU.eb (Dy (Bt Bc Bk)))))))
   (Dr (Cy (EU.eb (Ad9 (Gk 2 (Bu Br (Bu Br Bk))) Bc)))
    (Bl (Gf (Bu (Gk 2 (Bu Br (Bu Br Bk))) Bk))
   (Bl (Gf (Bu (Gk 3 (Bu (Dd Bc Bc) (Bu Br (Bu Br Bk)))) Bk))
   (Bl (Gf (Bu (Dd Bc Bc) Bk))
   (Dr (Cy (EU.eb (AlU Bc Bc)))
    (Bl (Rh (EU.eb (Dd Bc Bc)) (AbC Bc Bc))
   (Ai5 (a:=a) (Bu (Gk 3 (Bu (Dd Bc Bc) (Bu (AbC Bc Bc) (Bu Bg Bk)))) Bk)))
    Dg))))
    Dg))))))
   (Ajk (i:=1)))))))))) (λa p0 q0 r0 P hp=>?_)
 clear h hu hu64 hr
 obtain⟨c,f,U,rfl,rfl,rfl,ht,ul,hf,q⟩:=hp
 walk_at "s"
 have nd:=ht.nd ul hf
 ext
 refine AkX rfl (λz=>?_)
 refine Amz rfl ⟨λk ρ=>∃v4 v5 v6,k<=14/\ρ=[.sh (.int c),.fl z (U.map sgP),.sh (.lst ((range 28).map λk=>.int (f k))),.ow (.dk (wdD (U.take k))),v4,v5,v6,.un,.un,.un,.un,.un,.un,.un],⟨_,_,_,zero_le _,rfl⟩,?_,?_,?_⟩
 ·rintro k ρ ⟨v4,v5,v6,_,rfl⟩;rfl
 ·rintro k p ρ hp ⟨v4,v5,v6,hk14,rfl⟩
  rw[getElem?_map] at hp
  obtain⟨s,hs,rfl⟩:=map_eq_some_iff.mp hp
  have hk:k<U.length:=(List.getElem?_eq_some_iff.mp hs).1
  ext
  rotate_left
  ·unfold wdD;rw[length_map,length_take];omega
  rw[show Nc (wdD (U.take k)) (Sum.inl s.1) (.str s.2.1)=wdD (U.take (k+1)) from Aa8 nd hs]
  exact⟨_,_,_,by omega,rfl⟩
 ·rintro ρ ⟨v4,v5,v6,hk14,rfl⟩
  walk_at "me"
  refine⟨rfl,?_⟩
  have wl:(wdD U).length=14:=by unfold wdD;rw[length_map,ul]
  ext
  refine⟨by omega,?_⟩
  rw[AaJ]
  refine Fq (S:=U) (enc:=λs=>PV.int s.1) (f:=λs=>if s.2.1="mark" then some (.int s.1) else none) ?_ (λd hd Z hZ=>?_)
  rotate_left
  ·walk_at "c"
   ext
   refine Vt (Ti nd hd) ?_
   ext
   by_cases hm:d.2.1="mark"
   ·rw[decide_eq_true hm]
    rw[if_pos hm] at hZ
    ext
    exact hZ
   ·rw[decide_eq_false hm]
    rw[if_neg hm] at hZ
    ext
    exact hZ
  rw[Ag4,AnK]
  show fzE _ _ _ _ _
  refine⟨rfl,?_⟩
  ext
  refine⟨by omega,?_⟩
  rw[AaJ]
  refine Fq (S:=U) (enc:=λs=>PV.int s.1) (f:=λs=>if s.2.1∈bs4 then some (.int s.1) else none) ?_ (λd hd Z hZ=>?_)
  rotate_left
  ·walk_at "c"
   ext
   refine Vt (Ti nd hd) ?_
   ext
   refine Ze (L:=bs4) (x:=d.2.1) ?_
   by_cases hm:d.2.1∈bs4
   ·rw[decide_eq_true hm]
    rw[if_pos hm] at hZ
    ext
    exact hZ
   ·rw[decide_eq_false hm]
    rw[if_neg hm] at hZ
    ext
    exact hZ
  rw[Ag4]
  have fl:=length_filter_le (λs:Sg=>decide (s.2.1∈bs4)) U
  ext
  all_goals try (first | decide | (rw[length_map,length_map,Zf];show _+2<=_;omega))
  rw[Zf,AnC]
  have rl:(r0G f U).length<=16:=by unfold r0G;rw[length_append,length_map];show _+2<=_;omega
  have g1:=emod_nonneg c (show (7:Int)≠0 by decide)
  have g2:=emod_lt_of_pos c (show (0:Int)<7 by decide)
  show fzE _ _ _ _ _
  refine⟨rfl,?_⟩
  ext
  all_goals try (first | decide | exact⟨by decide,by decide⟩ | omega)
  refine⟨λn ρ=>∃(c':Int) (R:List Sg) (J:List Jn) (v11 v12 v13:Sl),n<=6/\ρ=[.sh (.int c'),.om a (.lst ((upG U R (r0G f U).length).map sgP)),.sh (.lst ((range 28).map λk=>.int (f k))),.ow (.dk (wdD (upG U R (r0G f U).length))),v4,v5,v6,.sh (.lst ((Ly U).map λs=>PV.int s.1)),.ow (.lst (R.map λs=>PV.int s.1)),.ow (.lst (J.map jnP)),.ow (.lst ((J.map (·.2)).map prP)),v11,v12,v13]/\JG f U n R J,⟨c,r0G f U,[],_,_,_,zero_le _,by rw[Al4];rfl,.nil⟩,?_,?_⟩
  ·rintro n ρ hn ⟨c',R,J,v11,v12,v13,hn6,rfl,jg⟩
   have hn':n<6:=by omega
   obtain⟨und,uix⟩:=Ys jg hn6 ht ul hf
   have kk:=Ro ht ul hf
   have old:=jg.old2 hn' kk
   have jl:=jg.len
   have rp:0<R.length:=by rw[jl.2];unfold r0G;rw[length_append];show 0<_+2+_;omega
   have ml:=length_filter_le (λs:Sg=>decide (s.2.1="mark")) U
   have mp:0<(Ly U).length:=by
    have h4:4<U.length:=by omega
    have:=ht.wd 4 _ (getElem?_eq_getElem h4) (by omega)
    exact List.length_pos_of_mem (mem_filter.mpr ⟨getElem_mem h4,decide_eq_true (Option.some.inj this).symm⟩)
   have ulen:(upG U R (r0G f U).length).length<=60:=by
    have:=(Yq jg hn6 ht ul hf 0).ln
    omega
   have pick:∀(l:List Sg) (i:Int),0<l.length->∃s,l[(i%(l.length:Int)).toNat]? = some s/\s∈l/\i%(l.length:Int)=((i%(l.length:Int)).toNat:Int):=λl i hl=>by
    have q1:=emod_nonneg i (show (l.length:Int)≠0 by omega)
    have q2:=emod_lt_of_pos i (show (0:Int)<(l.length:Int) by omega)
    have hj:(i%(l.length:Int)).toNat<l.length:=by omega
    exact⟨_,getElem?_eq_getElem hj,getElem_mem hj,by omega⟩
   obtain⟨s,hs1,hs2,hs3⟩:=pick R (c' / 7) rp
   obtain⟨mr,hm1,hm2,hm3⟩:=pick (Ly U) (c' / 7 / (R.length:Int)) mp
   have fk:((range 28).map λk=>PV.int (f k))[18+n]? = some (PV.int (f (18+n))):=by rw[getElem?_map,getElem?_range (by omega)];rfl
   have ai:atI ((range 28).map λk=>PV.int (f k)) (18+(n:Int))=some (PV.int (f (18+n))):=by
    rw[show (18+(n:Int))=((18+n:Nat):Int) by omega];exact Gs fk
   ext
   all_goals try (first | decide | exact⟨by decide,by decide⟩ | (simp only [length_map];omega))
   simp only [length_map]
   refine Fh (l:=R) (f:=λs:Sg=>PV.int s.1) (j:=(c' / 7%(R.length:Int)).toNat) (a:=s) hs1 hs3 ?_
   ext
   all_goals try (first | decide | exact⟨by decide,by decide⟩ | (simp only [length_map];omega) | exact⟨by simp only [length_map];omega,by simp only [length_map];omega⟩)
   simp only [length_map]
   refine Fh (l:=Ly U) (f:=λs:Sg=>PV.int s.1) (j:=(c' / 7 / (R.length:Int)%((Ly U).length:Int)).toNat) (a:=mr) hm1 hm3 ?_
   have mlen:(Ly U).length<=14:=by unfold Ly;omega
   have prd:0<(R.length:Int)*((Ly U).length:Int):=Int.mul_pos (by omega) (by omega)
   have prd2:(R.length:Int)*((Ly U).length:Int)<=22*14:=Int.mul_le_mul (by omega) (by omega) (by omega) (by decide)
   ext
   all_goals try (first | decide | exact⟨by decide,by decide⟩ | exact .inl ⟨by simp only [length_map];omega,by simp only [length_map];omega⟩ | exact⟨by simp only [length_map];omega,by simp only [length_map];omega⟩)
   refine Aj5 (s:=(s.1,mr.1)) (ss:=J.map (·.2)) (λhnew=>?_) (λhold=>?_)
   rotate_left
   ·ext
    exact⟨_,R,J,_,_,_,by omega,rfl,.skip jg⟩
   have jg2:JG f U (n+1) (R++[(f (10+n+8),s.2.1,0)]) (J++[(f (10+n+8),s.1,mr.1)]):=.add jg hs2 hm2 hnew
   rw[show 10+n+8=18+n by omega] at jg2
   obtain⟨und2,_⟩:=Ys jg2 (by omega) ht ul hf
   have us:=Aje (U:=U) (R:=R) (n:=(r0G f U).length) (by omega) (f (18+n),s.2.1,0)
   have eh:(J.map (·.2)).map prP++[PV.tup [.int s.1,.int mr.1]]=((J++[(f (18+n),s.1,mr.1)]).map (·.2)).map prP:=by rw[map_append,map_append];rfl
   have ej:J.map jnP++[PV.tup [.int (f (18+n)),.int s.1,.int mr.1]]=(J++[(f (18+n),s.1,mr.1)]).map jnP:=by rw[map_append];rfl
   have er:R.map (λs:Sg=>PV.int s.1)++[PV.int (f (18+n))]=(R++[((f (18+n),s.2.1,0):Sg)]).map λs:Sg=>PV.int s.1:=by rw[map_append];rfl
   ext
   all_goals try (first | (simp only [length_map];omega))
   refine Rq ai ?_
   ext
   all_goals try (first | (simp only [length_map];omega))
   refine Rq ai ?_
   ext
   all_goals try (first | (simp only [length_map];omega))
   rw[eh,ej,er]
   rcases AeT jg hn6 ht ul hf s hs2 with ⟨np,r,hr⟩ | ⟨pl,hr⟩
   ·have hv:=Ti und hr
    rw[if_neg np] at us
    have hv2:=Ti (s:=(s.1,s.2.1,r)) und2 (by rw[us];exact mem_append_left _ hr)
    have ep:Nc (wdD (upG U R (r0G f U).length)) (Sum.inl (f (18+n))) (.str s.2.1)=wdD (upG U (R++[(f (18+n),s.2.1,0)]) (r0G f U).length):=by
     rw[us] at und2 ⊢
     have hx:(upG U R (r0G f U).length++[(f (18+n),s.2.1,0)])[(upG U R (r0G f U).length).length]? = some (f (18+n),s.2.1,0):=by simp
     have:=Aa8 und2 hx
     rwa [List.take_left,List.take_of_length_le (by simp)] at this
    have et:(upG U R (r0G f U).length).map sgP++[PV.tup [.int (f (18+n)),.str s.2.1,.int 0]]=(upG U (R++[(f (18+n),s.2.1,0)]) (r0G f U).length).map sgP:=by rw[us,map_append];rfl
    rw[hv,isSome_some]
    ext
    refine Vt hv ?_
    ext
    refine Rq ai ?_
    ext
    rotate_left
    ·unfold wdD;rw[length_map];omega
    rw[ep]
    refine Rq ai ?_
    ext
    refine Vt hv2 ?_
    ext
    rotate_left
    ·rw[length_map];omega
    rw[et]
    exact⟨_,_,_,_,_,_,by omega,rfl,jg2⟩
   ·have hv:=Alq hr
    rw[if_pos pl,append_nil] at us
    rw[hv,Option.isSome_none]
    ext
    exact⟨_,R++[(f (18+n),s.2.1,0)],_,_,_,_,by omega,(by rw[us]),jg2⟩
  ·rintro ρ ⟨c',R,J,v11,v12,v13,hn6,rfl,jg⟩
   ext
   exact⟨_,_,rfl,q _ R J hn6 jg⟩
theorem Ahg{c:Int}(hc:0<=c):S28 (s2F c):=by
 have hst:(0:Int)<1+c / 64%10^26:=by have:=emod_nonneg (c / 64) (show (10:Int)^26≠0 by decide);omega
 have hb:byF c∈byL:=by
  have h1:=emod_nonneg c (show (8:Int)≠0 by decide)
  have h2:=emod_lt_of_pos c (show (0:Int)<8 by decide)
  have hj:(c%8).toNat<byL.length:=by show _<8;omega
  unfold byF;rw[getElem?_eq_getElem hj];exact getElem_mem hj
 refine⟨λi=>?_,λi j hi hj e=>?_⟩
 ·unfold s2F
  have h1:=emod_nonneg (c / 8) (show (10:Int)^28≠0 by decide)
  have h2:=emod_nonneg ((i:Int)*byF c+c / 512) (show (28:Int)≠0 by decide)
  have:=Int.mul_nonneg (Int.le_of_lt hst) h2
  omega
 ·unfold s2F at e
  have e2:=Int.eq_of_mul_eq_mul_left (show 1+c / 64%10^26≠0 by omega) (show (1+c / 64%10^26)*(((i:Int)*byF c+c / 512)%28)=(1+c / 64%10^26)*(((j:Int)*byF c+c / 512)%28) by omega)
  generalize c / 512=z at e2
  generalize byF c=b at hb e2
  simp only [byL,mem_cons,not_mem_nil,or_false] at hb
  rcases hb with rfl | rfl | rfl | rfl | rfl | rfl | rfl | rfl <;> omega
structure G2A(f:Nat->Int)(U R:List Sg)(J:List Jn)(k y:Nat):Prop where
 hf:S28 f
 ht:T2 ((range 28).map f) U
 ul:U.length=14
 hk:k<=6
 jg:JG f U k R J
 hy:y=1\/y=2
def g2P(f:Nat->Int)(U R:List Sg)(J:List Jn)(y:Nat):PV:=.tup [.lst ((range 28).map λk=>.int (f k)),.lst ((upG U R (r0G f U).length).map sgP),.lst ((mtG f y).map prP),.lst (J.map jnP)]
def Ake:PSp:=λps P=>∃ns,ps=[.scr ns]/\ns.length<=63/\∀f U R J k y,G2A f U R J k y->P (g2P f U R J y)
theorem Ano(T:Txt K mg t):Binds K t.d_qbo ["_law_script"] []:=T.F_qbo.binds (by walk_at "b1")
theorem Akw(T:Txt K mg t):FnOk P w K mg base CX0 2 t.f_qbo t.d_qbo ["_law_script"] (spOf K t.C_Book [false] .sh Ake):=by
 refine T.F_qbo.ok sc_qbo (λvs H Q E h=>h.len) (λcdv A outer s H vs Q E hr h=>?_)
 have hu:=Cq hr
 have hu64:=hr.units
 refine⟨_,(Bd (Bo (i:=1) sc_qbo.nd rfl (Or.inl rfl) (Bv Dq (Bp (Yr T) (hr.mono (by decide)) rfl T.m_qp T.F_qp.kp (Acp T) .nil Bw (Ba (pv 0) (Ba Bf Be))) (Bv Lk Bf Bf)))
   (Bd (Bo (i:=2) sc_qbo.nd rfl (Or.inl rfl) (Bp (Alp T) (hr.mono (by decide)) rfl T.m_qbp T.F_qbp.kp (An3 T) .nil Bw (Ba (pv 1) Be)))
   (Bd (Bo (i:=3) sc_qbo.nd rfl (Or.inl rfl) (Bp (AlB T) (hr.mono (by decide)) rfl T.m_qbw T.F_qbw.kp (Anp T) .nil Bw (Ba (pv 1) (Ba (Bv Dq (Bp (Yr T) (hr.mono (by decide)) rfl T.m_qp T.F_qp.kp (Acp T) .nil Bw (Ba (pv 0) (Ba Bf Be))) (Bv Lk Bf Bf)) (Ba (pv 2) Be)))))
   (Bd (Bo (i:=4) sc_qbo.nd rfl (Or.inl rfl) (Bp (AjN T) (hr.mono (by decide)) rfl T.m_qbm T.F_qbm.kp (AmP T) .nil Bw (Ba (Bv Dq (Bp (Yr T) (hr.mono (by decide)) rfl T.m_qp T.F_qp.kp (Acp T) .nil Bw (Ba (pv 0) (Ba Bf Be))) (Bv Lk Bf Bf)) (Ba (pv 3) (Ba (pv 2) Be)))))
   (Bd (Bo (i:=5) sc_qbo.nd rfl (Or.inl rfl) (Gd (Gc K) (Db (Ba (Ft (Ba (Ci (Cp K) (pv 2) Bf (λ_ _=>rfl)) (Ba (Ci (Cp K) (pv 2) Bf (λ_ _=>rfl)) Be))) (Ba (Ft (Ba (Ci (Cp K) (pv 2) Bf (λ_ _=>rfl)) (Ba (Ci (Cp K) (pv 2) Bf (λ_ _=>rfl)) Be))) Be))) Ng (Dw (Bv Fm Bf (Bv Dq (Bv Fu (pv 1) Bf) Bf)))))
   (Bi (Cg (Ft (Ba (pv 2) (Ba (pv 3) (Ba (pv 5) (Ba (pv 4) Be)))))))))))),?_⟩
 try dsimp only [Cm,Cb]
 refine Cu h (by decide) (Bl (Bx (Cw (λ_ _ _=>.int _) (EU.eb (Fr (Bt Bc (Bt (EU.eb Bg) Bk)))) (EU.eb (Cw (λ_ _ _=>.int _) (EU.eb Bg) (EU.eb Bg)))))
   (Bl (Bx (EF.eu (Dl (Bt Bc Bk))))
   (Bl (Dp (Dl (Bt Bc (Bu (Cw (λ_ _ _=>.int _) (EU.eb (Fr (Bt Bc (Bt (EU.eb Bg) Bk)))) (EU.eb (Cw (λ_ _ _=>.int _) (EU.eb Bg) (EU.eb Bg)))) (Bt Bc Bk)))))
   (Bl (Ai0 (Cw (λ_ _ _=>.int _) (EU.eb (Fr (Bt Bc (Bt (EU.eb Bg) Bk)))) (EU.eb (Cw (λ_ _ _=>.int _) (EU.eb Bg) (EU.eb Bg)))) Br)
   (Bl (Bx (EF.eu (Jo (EF.eb (Dv 2 (Bu (Gk 2 (Bu (Dd Bc (EU.eb Bg)) (Bu (Dd Bc (EU.eb Bg)) Bk))) (Bu (Gk 2 (Bu (Dd Bc (EU.eb Bg)) (Bu (Dd Bc (EU.eb Bg)) Bk))) Bk)))) Nj (Dx (EU.eb (Dk (λ_ _ _=>.int _) (EU.eb Bg) (EU.eb (Cw (λ_ _ _=>.int _) (EU.eb (Cw (λ_ _ _=>.int _) Bc (EU.eb Bg))) (EU.eb Bg)))))))))
   (Va 3 (Va 4 (Dz (Gk 4 (Bu Br (Bu Br (Bu Br (Bu Br Bk))))))))))))) (λps P hp=>?_)
 clear h hu hu64 hr
 obtain⟨ns,rfl,hl,q⟩:=hp
 walk_at "s"
 ext
 refine⟨ns,0,rfl,hl,?_⟩
 ext
 walk_at "mb"
 have hc:=emod_nonneg (cR ns 0) (show (10:Int)^30≠0 by decide)
 rw[show (10:Int)^toNat 30=10^30 from rfl]
 generalize cR ns 0%10^30=c at hc
 refine⟨c,rfl,hc,?_⟩
 ext
 refine⟨ns,1,rfl,hl,?_⟩
 ext
 walk_at "mb"
 refine⟨c,_,s2L c,rfl,emod_nonneg _ (by decide),by unfold s2L;rw[length_map,length_range],λU ul ht=>?_⟩
 ext
 refine⟨ns,2,rfl,hl,?_⟩
 ext
 walk_at "mb"
 refine⟨_,s2F c,U,rfl,rfl,(by unfold s2L;rw[map_map];rfl),ht,ul,Ahg hc,λk R J hk jg=>?_⟩
 have gx:∀i,i<28->(s2L c)[i]? = some (s2F c i):=λi hi=>by unfold s2L;rw[getElem?_map,getElem?_range hi];rfl
 ext
 refine Fh (l:=s2L c) (f:=PV.int) (j:=14) (a:=s2F c 14) (gx 14 (by decide)) rfl ?_
 ext
 refine Fh (l:=s2L c) (f:=PV.int) (j:=15) (a:=s2F c 15) (gx 15 (by decide)) rfl ?_
 ext
 refine Fh (l:=s2L c) (f:=PV.int) (j:=16) (a:=s2F c 16) (gx 16 (by decide)) rfl ?_
 ext
 refine Fh (l:=s2L c) (f:=PV.int) (j:=17) (a:=s2F c 17) (gx 17 (by decide)) rfl ?_
 ext
 walk_at "ma"
 obtain⟨y,hy,ey⟩:∃y:Nat,(y=1\/y=2)/\1+c / 32%2=(y:Int):=by
  have h1:=emod_nonneg (c / 32) (show (2:Int)≠0 by decide)
  have h2:=emod_lt_of_pos (c / 32) (show (0:Int)<2 by decide)
  exact⟨(1+c / 32%2).toNat,by omega,by omega⟩
 rw[ey]
 have em:Je [PV.tup [.int (s2F c 14),.int (s2F c 15)],PV.tup [.int (s2F c 16),.int (s2F c 17)]] none (some (y:Int))=(mtG (s2F c) y).map prP:=by
  rcases hy with rfl | rfl <;> rfl
 have z:=q (s2F c) U R J k y ⟨Ahg hc,ht,ul,hk,jg,hy⟩
 unfold g2P at z
 rw[<- em,show ((range 28).map λk=>PV.int (s2F c k))=(s2L c).map .int by unfold s2L;rw[map_map];rfl] at z
 exact z
def cvD(l:List (Key×V)):List (Key×PV):=l.map λkv=>(kv.1,vP kv.2)
def kkD(U:List Sg)(M:List (Int×Int)):List (Key×PV):=cvD (kK U++kM M)
theorem Wv{l:List (Key×V)}{k:Key}{v:V}(nd:((l++[(k,v)]).map (·.1)).Nodup):Nc (cvD l) k (vP v)=cvD (l++[(k,v)]):=by
 rw[Zr (kvs:=cvD l) (λz=>by
  rw[map_append] at nd
  refine (nodup_append.mp nd).2.2 k ?_ k mem_cons_self rfl
  unfold cvD at z
  rw[map_map] at z
  exact z)]
 unfold cvD
 rw[map_append];rfl
theorem AiW(l:List (Key×V))(k:Key):Gg (cvD l) k=(Cs l k).map vP:=by
 induction l with
 | nil=>rfl
 | cons x r ih =>
  show Gg ((x.1,vP x.2)::cvD r) k=_
  rw[Tg]
  by_cases z:x.1=k
  ·rw[if_pos z,Ni z];rfl
  ·rw[if_neg z,Nf z,ih]
theorem Tv(U:List Sg)(M:List (Int×Int))(n:Int):(Gg (kkD U M) (.inl n)).getD (.str "plain")=.str (De U M n):=by
 unfold kkD
 rw[AiW]
 have:=Ac2 U M n
 cases e:Cs (kK U++kM M) (Sum.inl n) with
 | none=>rw[e] at this;show PV.str "plain"=_;injection this with this;rw[this]
 | some v=>rw[e] at this;have t:v=V.str (De U M n):=this;rw[t];rfl
def AjQ:PSp:=λps P=>∃f U R J k y,ps=[g2P f U R J y]/\G2A f U R J k y/\P (.dk (kkD (upG U R (r0G f U).length) (mtG f y)))
theorem An5(T:Txt K mg t):Binds K t.d_qbq ["_law_lists_here"] []:=T.F_qbq.binds (by walk_at "b1")
theorem AkO(T:Txt K mg t):FnOk P w K mg base CX0 1 t.f_qbq t.d_qbq ["_law_lists_here"] (spOf K t.C_Book [true] .fr AjQ):=by
 refine T.F_qbq.ok sc_qbq (λvs H Q E h=>h.len) (λcdv A outer s H vs Q E hr h=>?_)
 have hu:=Cq hr
 have hu64:=hr.units
 refine⟨_,(Bd (Bo (i:=1) sc_qbq.nd rfl (Or.inl rfl) Ls)
   (Bd (Dc PassesOwn.never rfl (Ct (Ci (Df K) (pv 0) Bf (λ_ _=>rfl))) (Fy (K':=K) (n:=3) rfl rfl (Ce (Bq (i:=2) sc_qbq.nd rfl (Or.inl rfl)) (Ce (Bq (i:=3) sc_qbq.nd rfl (Or.inl rfl)) (Ce (Bq (i:=4) sc_qbq.nd rfl (Or.inl rfl)) Fa))))
    (Bi (Gv hu (pv 1) (pv 2) (pv 3) rfl)))
   (Bd (Dc PassesOwn.never rfl (Ct (Ci (Df K) (pv 0) Bf (λ_ _=>rfl))) (Fy (K':=K) (n:=2) rfl rfl (Ce (Bq (i:=5) sc_qbq.nd rfl (Or.inl rfl)) (Ce (Bq (i:=6) sc_qbq.nd rfl (Or.inl rfl)) Fa)))
    (Bd (Gv hu (pv 1) (pv 5) By rfl)
   (Bi (Gv hu (pv 1) (pv 6) By rfl))))
   (Bi (Cg (pv 1)))))),?_⟩
 try dsimp only [Cm,Cb]
 refine Cu h (by decide) (Bl (Dp AbB)
   (Bl (Qs (Du Bc (EU.eb Bg)) (Jb (Cr (Ca (top:=7)) (Cr (Ca (top:=7)) (Cr (Ca (top:=7)) Gb))))
    (Rh Bc Br))
   (Bl (Qs (Du Bc (EU.eb Bg)) (Jb (Cr (Ca (top:=7)) (Cr (Ca (top:=7)) Gb)))
    (Bl (Rh Bc Cl)
   (Rh Bc Cl)))
   Gu))) (λps P hp=>?_)
 clear h hu hu64 hr
 obtain⟨f,U,R,J,k0,y,rfl,ga,q⟩:=hp
 walk_at "s"
 have bk:=Yq ga.jg ga.hk ga.ht ga.ul ga.hf y
 unfold g2P
 generalize upG U R (r0G f U).length=W at bk q
 generalize mtG f y=M at bk q
 have ndk:=Yg bk.nd
 have wl:W.length<=60:=by have:=bk.ln;omega
 have ml:M.length<=30:=by have:=bk.ln;omega
 ext
 refine⟨λk ρ=>∃v2 v3 v4,ρ=[.sh (.tup [.lst ((range 28).map λk=>.int (f k)),.lst (W.map sgP),.lst (M.map prP),.lst (J.map jnP)]),.ow (.dk (cvD (kK (W.take k)))),v2,v3,v4,.un,.un],⟨_,_,_,rfl⟩,?_,?_⟩
 ·rintro k p ρ hp ⟨v2,v3,v4,rfl⟩
  rw[getElem?_map] at hp
  obtain⟨s,hs,rfl⟩:=map_eq_some_iff.mp hp
  have e1:kK (W.take (k+1))=kK (W.take k)++[(Sum.inl s.1,V.str s.2.1)]:=by rw[Dj hs];unfold kK;rw[map_append];rfl
  have n1:((kK (W.take (k+1))).map (·.1)).Nodup:=by
   rw[map_append] at ndk
   refine Nodup.sublist (Sublist.map _ ?_) (nodup_append.mp ndk).1
   unfold kK
   exact Sublist.map _ (List.take_sublist _ _)
  rw[e1] at n1
  ext
  rotate_left
  ·unfold cvD kK;rw[length_map,length_map,length_take];omega
  rw[show Nc (cvD (kK (W.take k))) (Sum.inl s.1) (PV.str s.2.1)=cvD (kK (W.take (k+1))) by rw[e1];exact Wv n1]
  exact⟨_,_,_,rfl⟩
 rintro ρ ⟨v2,v3,v4,rfl⟩
 walk_at "me"
 ext
 refine⟨λk ρ=>∃v5 v6,ρ=[.sh (.tup [.lst ((range 28).map λk=>.int (f k)),.lst (W.map sgP),.lst (M.map prP),.lst (J.map jnP)]),.ow (.dk (cvD (kK W++kM (M.take k)))),v2,v3,v4,v5,v6],⟨_,_,by rw[List.take_zero];unfold kM;rw[append_nil]⟩,?_,?_⟩
 ·rintro k p ρ hp ⟨v5,v6,rfl⟩
  rw[getElem?_map] at hp
  obtain⟨m,hm,rfl⟩:=map_eq_some_iff.mp hp
  have hk:k<M.length:=(List.getElem?_eq_some_iff.mp hm).1
  have e1:kK W++kM (M.take (k+1))=(kK W++kM (M.take k)++[(Sum.inl m.1,V.str "open")])++[(Sum.inl m.2,V.str "shut")]:=by rw[Dj hm,Qj,append_assoc,append_assoc];rfl
  have n1:((kK W++kM (M.take (k+1))).map (·.1)).Nodup:=by
   have e:=Qj (M.take (k+1)) (M.drop (k+1))
   rw[take_append_drop] at e
   rw[e,<- append_assoc,map_append] at ndk
   exact (nodup_append.mp ndk).1
  rw[e1] at n1
  have n2:=n1
  rw[map_append] at n2
  have n3:=(nodup_append.mp n2).1
  have kl:(cvD (kK W++kM (M.take k))).length<=1000:=by
   have:∀M:List (Int×Int),(kM M).length=2*M.length:=λM=>by
    induction M with
    | nil=>rfl
    | cons x r ih=>show (kM r).length+1+1=_;rw[ih,length_cons];omega
   unfold cvD kK
   rw[length_map,length_append,length_map,this,length_take];omega
  have p1:Nc (cvD (kK W++kM (M.take k))) (Sum.inl m.1) (PV.str "open")=cvD (kK W++kM (M.take k)++[(Sum.inl m.1,V.str "open")]):=Wv n3
  have p2:Nc (cvD (kK W++kM (M.take k)++[(Sum.inl m.1,V.str "open")])) (Sum.inl m.2) (PV.str "shut")=cvD (kK W++kM (M.take (k+1))):=by rw[e1];have z:=Wv n1;exact z
  have l2:(cvD (kK W++kM (M.take k)++[(Sum.inl m.1,V.str "open")])).length<100000:=by
   unfold cvD at kl ⊢;rw[length_map] at kl ⊢;rw[length_append];show _+1<_;omega
  have l1:(cvD (kK W++kM (M.take k))).length<100000:=by omega
  ext
  all_goals try (first | exact l1 | (rw[p1];exact l2))
  rw[p1,p2]
  exact⟨_,_,rfl⟩
 rintro ρ ⟨v5,v6,rfl⟩
 walk_at "me"
 ext
 exact q
def AlX:PSp:=λps P=>∃(f:Nat->Int) (W:List Sg) (M:List (Int×Int)) (J:List Jn) (ws:List Str),ps=[.tup [.lst ((range 28).map λk=>.int (f k)),.lst (W.map sgP),.lst (M.map prP),.lst (J.map jnP)],.dk (kkD W M),.lst (ws.map .str)]/\ws.length<=100/\P (.lst (ws.map λw=>.lst ((gpF f W M w).map .int)))
theorem AoD(T:Txt K mg t):Binds K t.d_qz ["_law_lists_here","_law_words_here","_law_chosen"] []:=T.F_qz.binds (by walk_at "b3")
theorem Ana(T:Txt K mg t):FnOk P w K mg base CX0 1 t.f_qz t.d_qz ["_law_lists_here","_law_words_here","_law_chosen"] (spOf K t.C_Book [false,false,true] .fr AlX):=by
 refine T.F_qz.ok sc_qz (λvs H Q E h=>h.len) (λcdv A outer s H vs Q E hr h=>?_)
 have hu:=Cq hr
 have hu64:=hr.units
 refine⟨_,(Bd (Bo (i:=3) sc_qz.nd rfl (Or.inl rfl) (Db Be))
   (Bd (Dc PassesOwn.never rfl (Ct (pv 2)) (Bq (i:=4) sc_qz.nd rfl (by first | exact Or.inl rfl | exact Or.inr rfl))
    (Bi (Co (Fw plainAttrs_list PySem.F.slot_list_append PySem.F.type_list_append Da (pv 3) (Ba (Jq 1 [1,4] ["_law_sign","_law_words_here","_law_word"] ["_law_words_here","_law_word"] rfl (Ct (Ci (Df K) (pv 0) Bf (λ_ _=>rfl))) rfl (λj y e1 i e2=>match j,e1,e2 with | 0,e1,e2=>by cases e1;cases e2;exact⟨rfl,rfl,rfl,by decide +kernel⟩ | 1,e1,e2=>by cases e1;cases e2;exact⟨rfl,rfl,rfl,by decide +kernel⟩ | _+2,_,e2=>by simp at e2) (forall_mem_cons.mpr ⟨rfl,forall_mem_cons.mpr ⟨rfl,λ_ h=>nomatch h⟩⟩) (by decide +kernel) (λ_ _ _ _=>(Bq (i:=0) (show Nodup (["_law_sign","_law_words_here","_law_word"]:List Str) by decide +kernel) rfl (Or.inl rfl))) (λ_ _ _ _=>(Jr (Cf Do (Ot hu (pv 1) (pv 0) By ⟨rfl,rfl,rfl,rfl⟩) (pv 2) (Ch _)))) (λ_ _ _ _=>(pv 0)) rfl (by decide +kernel) rfl (by decide +kernel)) Be)))))
   (Bi (Cg (pv 3))))),?_⟩
 try dsimp only [Cm,Cb]
 refine Cu h (by decide) (Bl (Dp (Dv 0 Bk))
   (Bl (Nh (Ca (top:=5))
    (Gf (Bu (EF.eu (Gx (EU.eb (Du Bc (EU.eb Bg))) (Ca (top:=1)) (Cy (EU.eb (Fe (EU.eb (Uj Bc Cl)) Bc))) Br)) Bk)))
   Gu)) (λps P hp=>?_)
 clear h hu hu64 hr
 obtain⟨f,W,M,J,ws,rfl,hw,q⟩:=hp
 walk_at "s"
 ext
 refine⟨λk ρ=>∃v4,ρ=[.bo (.tup [.lst ((range 28).map λk=>.int (f k)),.lst (W.map sgP),.lst (M.map prP),.lst (J.map jnP)]),.bo (.dk (kkD W M)),.sh (.lst (ws.map .str)),.ow (.lst ((ws.take k).map λw=>.lst ((gpF f W M w).map .int))),v4],⟨_,rfl⟩,?_,?_⟩
 ·rintro k p ρ hp ⟨v4,rfl⟩
  rw[getElem?_map] at hp
  obtain⟨w,hk,rfl⟩:=map_eq_some_iff.mp hp
  ext
  refine⟨by simp,?_⟩
  refine Fq (S:=(range 28).map f) (enc:=PV.int) (f:=λn=>if De W M n=w then some (.int n) else none) ?_ (λd hd Z hZ=>?_)
  rotate_left
  ·walk_at "c"
   ext
   rw[Tv]
   ext
   by_cases hm:De W M d=w
   ·rw[decide_eq_true hm]
    rw[if_pos hm] at hZ
    ext
    exact hZ
   ·rw[decide_eq_false hm]
    rw[if_neg hm] at hZ
    ext
    exact hZ
  rw[show ((range 28).map f).filterMap (λn=>if De W M n=w then some (PV.int n) else none)=(gpF f W M w).map .int by
   unfold gpF
   generalize (range 28).map f=l
   induction l with
   | nil=>rfl
   | cons x r ih =>
    by_cases z:De W M x=w
    ·rw[List.filterMap_cons_some (by rw[if_pos z]),filter_cons_of_pos (by simp [z]),map_cons,ih]
    ·rw[List.filterMap_cons_none (by rw[if_neg z]),filter_cons_of_neg (by simp [z]),ih]]
  ext
  rotate_left
  ·rw[length_map,length_take];omega
  exact⟨_,by rw[Dj hk,map_append];rfl⟩
 rintro ρ ⟨v4,rfl⟩
 walk_at "me"
 ext
 exact q
def Amw:PSp:=λps P=>∃(gs:List (List Int)) (cs:List Int),ps=[.lst (gs.map λg=>.lst (g.map .int)),.lst (cs.map .int)]/\(0<gs.length/\gs.length<=100)/\(∀g∈gs,0<g.length/\g.length<=100)/\cs.length<=300/\∀ts:List Int,ts.length=cs.length->(∀t∈ts,∃g∈gs,t∈g)->P (.lst (ts.map .int))
theorem Aid(T:Txt K mg t):Binds K t.d_qbv ["_law_groups_here","_law_cells"] []:=T.F_qbv.binds (by walk_at "b2")
theorem Afe(T:Txt K mg t):FnOk P w K mg base CX0 1 t.f_qbv t.d_qbv ["_law_groups_here","_law_cells"] (spOf K t.C_Book [true,true] .fr Amw):=by
 refine T.F_qbv.ok sc_qbv (λvs H Q E h=>h.len) (λcdv A outer s H vs Q E hr h=>?_)
 have hu:=Cq hr
 have hu64:=hr.units
 refine⟨_,(Bd (Bo (i:=2) sc_qbv.nd rfl (Or.inl rfl) (Db Be))
   (Bd (Dc PassesOwn.never rfl (Ct (pv 1)) (Bq (i:=3) sc_qbv.nd rfl (Or.inl rfl))
    (Bd (Bo (i:=4) sc_qbv.nd rfl (Or.inl rfl) (Ci (Cp K) (pv 0) (Bv Dq (pv 3) (Cn (Ck K) rfl T.z_len PySem.boot_len (Ba (pv 0) Be))) (λ_ _=>rfl)))
   (Bi (Co (Fw plainAttrs_list PySem.F.slot_list_append PySem.F.type_list_append Da (pv 2) (Ba (Ci (Cp K) (pv 4) (Bv Dq (Bv Fu (pv 3) (Cn (Ck K) rfl T.z_len PySem.boot_len (Ba (pv 0) Be))) (Cn (Ck K) rfl T.z_len PySem.boot_len (Ba (pv 4) Be))) (λ_ _=>rfl)) Be))))))
   (Bi (Cg (pv 2))))),?_⟩
 try dsimp only [Cm,Cb]
 refine Cu h (by decide) (Bl (Dp (Dv 0 Bk))
   (Bl (Nh (Ca (top:=5))
    (Bl (Bx (Dd Bc (EU.eb (Cw (λ_ _ _=>.int _) Bc (EU.eb (Dy (Bt Bc Bk)))))))
   (Gf (Bu (Dd Bc (EU.eb (Cw (λ_ _ _=>.int _) (EU.eb (Cw (λ_ _ _=>.int _) Bc (EU.eb (Dy (Bt Bc Bk))))) (EU.eb (Dy (Bt Bc Bk)))))) Bk))))
   Gu)) (λps P hp=>?_)
 clear h hu hu64 hr
 obtain⟨gs,cs,rfl,hg,hg2,hc,q⟩:=hp
 walk_at "s"
 ext
 refine⟨λk ρ=>∃(ts:List Int) (v3 v4:Sl),ρ=[.sh (.lst (gs.map λg=>.lst (g.map .int))),.sh (.lst (cs.map .int)),.ow (.lst (ts.map .int)),v3,v4]/\ts.length=k/\∀t∈ts,∃g∈gs,t∈g,⟨[],_,_,rfl,rfl,λt h=>by cases h⟩,?_,?_⟩
 ·rintro k p ρ hp ⟨ts,v3,v4,rfl,tl,ht⟩
  rw[getElem?_map] at hp
  obtain⟨c,hk,rfl⟩:=map_eq_some_iff.mp hp
  have hkl:k<cs.length:=(List.getElem?_eq_some_iff.mp hk).1
  have g1:=emod_nonneg c (show (gs.length:Int)≠0 by omega)
  have g2:=emod_lt_of_pos c (show (0:Int)<(gs.length:Int) by omega)
  have hj:(c%(gs.length:Int)).toNat<gs.length:=by omega
  obtain⟨g,hgm,hgi⟩:∃g,g∈gs/\gs[(c%(gs.length:Int)).toNat]? = some g:=⟨_,getElem_mem hj,getElem?_eq_getElem hj⟩
  obtain⟨gp,gl⟩:=hg2 g hgm
  have g3:=emod_nonneg (c / (gs.length:Int)) (show (g.length:Int)≠0 by omega)
  have g4:=emod_lt_of_pos (c / (gs.length:Int)) (show (0:Int)<(g.length:Int) by omega)
  have hj2:(c / (gs.length:Int)%(g.length:Int)).toNat<g.length:=by omega
  obtain⟨t,htm,hti⟩:∃t,t∈g/\g[(c / (gs.length:Int)%(g.length:Int)).toNat]? = some t:=⟨_,getElem_mem hj2,getElem?_eq_getElem hj2⟩
  ext
  all_goals try (simp only [length_map];omega)
  simp only [length_map]
  refine Fh (l:=gs) (f:=λg:List Int=>PV.lst (g.map .int)) (j:=(c%(gs.length:Int)).toNat) (a:=g) hgi (by omega) ?_
  ext
  all_goals try (first | (simp only [length_map];omega) | exact⟨by simp only [length_map];omega,by simp only [length_map];omega⟩)
  simp only [length_map]
  refine Fh (l:=g) (f:=PV.int) (j:=(c / (gs.length:Int)%(g.length:Int)).toNat) (a:=t) hti (by omega) ?_
  ext
  rotate_left
  ·rw[length_map];omega
  refine⟨ts++[t],_,_,by rw[map_append];rfl,by rw[length_append,tl];rfl,λx hx=>?_⟩
  rcases mem_append.mp hx with hx | hx
  ·exact ht x hx
  ·rw[mem_singleton.mp hx];exact⟨g,hgm,htm⟩
 rintro ρ ⟨ts,v3,v4,rfl,tl,ht⟩
 rw[length_map] at tl
 ext
 exact q ts tl ht
def AeR(K:Frag):Sp:=λvs H Q _=>∃l d m kvs ts,vs=[.ref d,.ref l]/\H d=some (.dK kvs)/\SqL K H l (map V.int ts)/\ts.length<=300/\(∀n:Int,∃w:Str,(Cs kvs (Sum.inl n)).getD (.str "plain")=.str w/\m n=decide (w="mark")) /\
 ∀(wl:Addr) (xs:List V) (H':Hp),H wl=none->Same H H'->(∀x∈xs,∃p,x=V.ref p/\H p=none)->LLat H' wl xs (grp m ts)->Q (.ref wl) H'
def Ajj:PSp:=λps P=>∃W M ts,ps=[.dk (kkD W M),.lst (map .int ts)]/\ts.length<=300/\P (.lst (map (λg=>PV.lst (map .int g)) (grp (Cj W M) ts)))
theorem Akj{C:Addr}{ω:Om}{E:XK}{m n:Bool}{t:TA}{u:UA}(ha:AU K C ω [m,n] t u):EU K C ω (Rz (AeR K) [] E t) (Wa Ajj u) :=
 λB G0 H0 own G σ H ρ P Q S hu k=>ha B G0 H0 own G σ H ρ _ _ S hu λvs ps G1 H1 w1 ok ⟨W,M,ts,e,hl,h⟩=>by
  obtain⟨v,w,p,q,rfl,e2,r2,r1⟩:=Sa ok
  rw[e] at e2;cases e2
  obtain⟨a,xs,rfl,ea,l⟩:=r1.lst w1.i
  rw[Ta l] at ea
  obtain⟨d,kvs,rfl,ed,ld⟩:=r2.dk w1.i
  refine⟨a,d,Cj W M,kvs,ts,rfl,ed,SqL.of ea,hl,λn=>⟨De W M n,?_,rfl⟩,λwl xs H2 hwl s2 fx ll=>?_⟩
  ·have kv:=Tv W M n
   rcases Vq (Sum.inl n) ld with ⟨h1,h2⟩ | ⟨x,p,h1,h2,h3⟩
   ·rw[h2] at kv
    rw[h1]
    have kv':PV.str "plain"=.str (De W M n):=kv
    injection kv' with kv'
    rw[<- kv'];rfl
   ·rw[h2] at kv
    have kv':p=.str (De W M n):=kv
    subst kv'
    cases h3
    rw[h1];rfl
  ·refine k _ _ _ H2 (w1.trans (Nz w1.i s2)) (Rep.ofL (Fk hwl ll.li) ⟨by rw[ll.at'.1,length_map],λi x y hx hy=>?_⟩) h
   rw[getElem?_map] at hy
   obtain⟨g,hg,rfl⟩:=map_eq_some_iff.mp hy
   obtain⟨p,e1,hp⟩:=ll.at'.2 i x g hx hg
   obtain⟨p',e2,hn⟩:=fx x (mem_of_getElem? hx)
   subst e1
   cases e2
   exact Rep.ofL (Fk hn hp) (Fj g)
theorem Am5(T:Txt K mg t):Binds K t.d_qbb ["_law_words_here","_law_signs_here"] []:=T.F_qbb.binds (by walk_at "b2")
theorem Akq(T:Txt K mg t):FnOk P w K mg base CX0 1 t.f_qbb t.d_qbb ["_law_words_here","_law_signs_here"] (AeR K):=by
 refine T.F_qbb.ok sc_qbb (λvs H Q E h=>?_) (λcdv A outer s H vs Q E hr h=>?_)
 ·obtain⟨l,d,m,kvs,ts,rfl,hD,hT,hl,hm,q⟩:=h
  rfl
 ·obtain⟨l,d,m,kvs,ts,rfl,hD,hT,hl,hm,q⟩:=h
  have hu:=Cq hr
  have hu64:=hr.units
  refine⟨_,(Bd (Bo (i:=2) sc_qbb.nd rfl (Or.inl rfl) (Db Be))
   (Bd (Dc PassesOwn.never rfl (Ct (pv 1)) (Bq (i:=3) sc_qbb.nd rfl (Or.inl rfl))
    (Bi (Dh (PW.pt (So (Cf Do (Ot hu (pv 0) (pv 3) By ⟨rfl,rfl,rfl,rfl⟩) By (Ch _)) (Rf (Cf Tl (Cn (Lp) rfl T.z_len PySem.boot_len (Ba (pv 2) Be)) Bf (Ch _)))))
    (Bi (Co (Fw plainAttrs_list PySem.F.slot_list_append PySem.F.type_list_append Da (Ci (Xd) (pv 2) (Rv Ou Bf) (λ_ _=>rfl)) (Ba (pv 3) Be))))
    (Bi (Co (Fw plainAttrs_list PySem.F.slot_list_append PySem.F.type_list_append Da (pv 2) (Ba (Db (Ba (pv 3) Be)) Be)))))))
   (Bi (Cg (pv 2))))),?_⟩
  try dsimp only [Cm,Cb]
  walk_at "rd"
  refine⟨by decide,λwl H0 hwl s0 e0=>?_⟩
  walk_at "rd"
  refine No (i:=1) rfl (s0.seq hT) (λi σ H'=>∃v3 xs,σ=[some (.ref d),some (.ref l),some (.ref wl),v3]/\Same H H'/\(∀x∈xs,∃p,x=V.ref p/\H p=none)/\LLat H' wl xs (grp m (ts.take i))) ⟨none,[],rfl,s0,(λx h=>by cases h),⟨e0,LAt.nil,nodup_nil,by simp⟩⟩ (λi σ H' _ ⟨_,_,_,s,_⟩=>s.seq hT) ?_ ?_
  ·rintro i x σ H' hi ⟨v3,xs,rfl,s,fx,ll⟩
   obtain⟨n,en,rfl⟩:=Zv hi
   have hlt:=(List.getElem?_eq_some_iff.mp en).1
   have eg:grp m (ts.take (i+1))=Nm m (grp m (ts.take i)) n:=by rw[Dj en,Aau]
   have hli:=ll.li
   have hxl:xs.length<=300:=by
    have:=(Gj m (ts.take i)).ln
    rw[<- ll.at'.1,length_take] at this
    omega
   have hD':H' d=some (.dK kvs):=s _ _ hD
   have push:(grp m (ts.take i)=[]\/m n=false)->∀(p:Addr) (H3 H4:Hp),H' p=none->Same H' H3->H3 p=some (.lst [V.int n])->Chg wl H3 H4->H4 wl=some (.lst (xs++[.ref p]))->∃v3 xs,[some (V.ref d),some (.ref l),some (.ref wl),some (.int n)]=[some (V.ref d),some (.ref l),some (.ref wl),v3]/\Same H H4/\(∀x∈xs,∃p,x=V.ref p/\H p=none)/\LLat H4 wl xs (grp m (ts.take (i+1))):=λhz p H3 H4 hp s3 e3 c4 e4=>by
    have npw:p≠wl:=(Bz hli hp).symm
    refine⟨_,_,rfl,(s.trans s3).chg c4 hwl,λx hx=>?_,by rw[eg,Os hz];exact ll.push hp s3 c4 e4 (λ_ _ h _=>h) (c4 _ _ e3 npw)⟩
    rcases mem_append.mp hx with w | w
    ·exact fx x w
    ·exact⟨p,mem_singleton.mp w,s.free hp⟩
   walk_at "rd"
   obtain⟨w,hw,hmw⟩:=hm n
   rw[hw]
   walk_at "rd"
   by_cases hx:w="mark"
   ·have hmt:m n=true:=by rw[hmw,decide_eq_true hx]
    refine Jl (by simp [hx]) ?_
    walk_at "rd"
    by_cases hz0:xs.length=0
    ·have hz:grp m (ts.take i)=[]\/m n=false:=.inl (List.eq_nil_of_length_eq_zero (by rw[<- ll.at'.1];exact hz0))
     refine Gp (by simp [hz0]) ?_
     walk_at "rd"
     refine⟨(by decide:1<=sizeLine),λp H3 hp s3 e3=>?_⟩
     walk_at "rd"
     walk_at "rd"
     refine Jc (s3 _ _ hli) (Jh (by omega)) λH4 c4 e4=>?_
     walk_at "rd"
     exact push hz p H3 H4 hp s3 e3 c4 e4
    ·refine Jl (decide_eq_true (by omega)) ?_
     obtain⟨xs',p,gs',g,ex,eg',hp⟩:=ll.last (λz=>hz0 (by rw[ll.at'.1,z];rfl))
     have ll2:=ll
     rw[eg',ex] at ll2
     rw[eg'] at eg
     have hgl:g.length<=300:=by
      have z:=(Gj m (ts.take i)).fl
      rw[eg'] at z
      have:=congrArg length z
      simp at this
      omega
     walk_at "rd"
     refine Yf (SqL.of ll2.li) ?_ (Jy _ _)
     walk_at "rd"
     walk_at "rd"
     refine Jc hp (Jh (by rw[length_map];omega)) λH4 c4 e4=>?_
     walk_at "rd"
     have fp:H p=none:=by
      obtain⟨p',e,z⟩:=fx (V.ref p) (by rw[ex];exact mem_append_right _ mem_cons_self)
      cases e;exact z
     exact⟨_,_,rfl,s.chg c4 fp,λx hx=>fx x (by rw[ex];exact hx),by rw[eg,Rs hmt];exact ll2.add c4 e4⟩
   ·have hmt:m n=false:=by rw[hmw,decide_eq_false hx]
    refine Gp (by simp [hx]) ?_
    refine Gp (by simp) ?_
    walk_at "rd"
    refine⟨(by decide:1<=sizeLine),λp H3 hp s3 e3=>?_⟩
    walk_at "rd"
    walk_at "rd"
    refine Jc (s3 _ _ hli) (Jh (by omega)) λH4 c4 e4=>?_
    walk_at "rd"
    exact push (.inr hmt) p H3 H4 hp s3 e3 c4 e4
  ·rintro σ H' ⟨v3,xs,rfl,s,fx,ll⟩
   rw[length_map,take_length] at ll
   walk_at "rd"
   exact q wl xs H' hwl s fx ll
def Agn:PSp:=λps P=>∃(ws:List (List Int)) (p e:Nat),ps=[.lst (ws.map λg:List Int=>.lst (g.map .int)),.int ((p:Int) - 1),.int (e:Int)]/\ws.length<=300/\((ws.take e).drop p).flatten.length<=1000/\P (.lst (((ws.take e).drop p).flatten.map .int))
theorem AcE(T:Txt K mg t):Binds K t.d_qba ["_law_signs_here","_law_at","_law_to"] []:=T.F_qba.binds (by walk_at "b3")
theorem Zt(T:Txt K mg t):FnOk P w K mg base CX0 1 t.f_qba t.d_qba ["_law_signs_here","_law_at","_law_to"] (spOf K t.C_Book [true,false,false] .fr Agn):=by
 refine T.F_qba.ok sc_qba (λvs H Q E h=>h.len) (λcdv A outer s H vs Q E hr h=>?_)
 have hu:=Cq hr
 have hu64:=hr.units
 refine⟨_,(Bd (Bo (i:=3) sc_qba.nd rfl (Or.inl rfl) (Db Be))
   (Bd (Dc PassesOwn.never rfl (Ct (Gd (Gc K) (pv 0) (Dw (Bv Fm (pv 1) Bf)) (Dw (pv 2)))) (Bq (i:=4) sc_qba.nd rfl (Or.inl rfl))
    (Bi (Bo (i:=3) sc_qba.nd rfl (Or.inl rfl) (Bv Ol (pv 3) (pv 4)))))
   (Bi (Cg (pv 3))))),?_⟩
 try dsimp only [Cm,Cb]
 refine Cu h (by decide) (Bl (Dp (Dv 0 Bk))
   (Bl (Qs (EF.eu (Jo Bc (Dx (EU.eb (Dk (λ_ _ _=>.int _) Bc (EU.eb Bg)))) (Dx Bc))) (Ca (top:=5))
    (Dp (Rg Bc Bc)))
   Gu)) (λps P hp=>?_)
 clear h hu hu64 hr
 obtain⟨ws,p,e,rfl,hl,hf,q⟩:=hp
 walk_at "s"
 ext
 rw[show some ((p:Int) - 1+1)=some ((p:Nat):Int) by rw[Int.sub_add_cancel],Jf,AaE]
 generalize (ws.take e).drop p=hs at hf q
 have fl:∀n,((hs.take n).flatten).length<=1000:=λn=>by
  have e:hs.flatten=(hs.take n).flatten++(hs.drop n).flatten:=by rw[<- List.flatten_append,take_append_drop]
  have:=congrArg length e
  rw[length_append] at this
  omega
 refine⟨λn ρ=>∃(v4:Sl),ρ=[.sh (.lst (ws.map λg:List Int=>.lst (g.map .int))),.bo (.int ((p:Int) - 1)),.bo (.int (e:Int)),.ow (.lst (((hs.take n).flatten).map .int)),v4],⟨_,rfl⟩,?_,?_⟩
 ·rintro n x ρ hp ⟨v4,rfl⟩
  rw[getElem?_map] at hp
  obtain⟨g,hg,rfl⟩:=map_eq_some_iff.mp hp
  have e:(hs.take (n+1)).flatten=(hs.take n).flatten++g:=by rw[Dj hg,List.flatten_append,flatten_cons,List.flatten_nil,append_nil]
  have:=fl (n+1)
  rw[e,length_append] at this
  ext
  rotate_left
  ·rw[length_map,length_map];omega
  exact⟨_,by rw[e,map_append]⟩
 rintro ρ ⟨v4,rfl⟩
 walk_at "me"
 ext
 exact q
theorem Sk{ks:List Str}{b m:Int}:∀(n:Nat) (x:Nst),x∈dF ks b m n->∃k,ks[x.1]? = some k/\k∈bgK/\x=(x.1,Bm ks x.1,lvF k (arF b ((dF ks b m x.1).filter λy=>decide (x.1<=y.2.1))) m)
 | 0,x,h=>by cases h
 | n+1,x,h=>by
  cases e:ks[n]? with
  | none=>rw[dF,e] at h;exact Sk n x h
  | some k =>
   by_cases hb:k∈bgK
   ·rw[Ge e hb] at h
    rcases mem_append.mp h with h | h
    ·exact Sk n x h
    ·rw[mem_singleton.mp h]
     exact⟨k,e,hb,rfl⟩
   ·rw[Gq e hb] at h;exact Sk n x h
theorem AfZ{ks:List Str}{b m l:Int}{a:Nat}{k:Str}(h:ks[a]? = some k)(hb:k∈bgK)(hl:lvF k (arF b ((dF ks b m a).filter λx=>decide (a<=x.2.1))) m=some l):(dF ks b m ks.length).filter (λx=>decide (a<x.1/\x.1<Bm ks a))=(dF (inK ks a (Bm ks a)) l m (inK ks a (Bm ks a)).length).map (shN (a+1)):=by
 obtain⟨R,hD,hR⟩:=AaA h hb hl
 have hn:a<ks.length:=(List.getElem?_eq_some_iff.mp h).1
 have el:=Lg (Nat.le_of_lt hn)
 have ee:=Jv h hb
 have il:(inK ks a (Bm ks a)).length=Bm ks a - (a+1):=Nd el
 rw[hD,filter_append,filter_cons_of_neg (by simp),filter_append]
 have f1:(dF ks b m a).filter (λx=>decide (a<x.1/\x.1<Bm ks a))=[]:=List.filter_eq_nil_iff.mpr λx hx z=>by
  have:=(Vd (kn:=ks) (b:=b) (m:=m) a).1 x hx
  have:=(of_decide_eq_true z).1
  omega
 have f3:R.filter (λx=>decide (a<x.1/\x.1<Bm ks a))=[]:=List.filter_eq_nil_iff.mpr λx hx z=>by
  have:=hR x hx
  have:=(of_decide_eq_true z).2
  omega
 rw[f1,f3,nil_append,append_nil]
 refine List.filter_eq_self.mpr λx hx=>?_
 obtain⟨y,hy,rfl⟩:=mem_map.mp hx
 have:=(Vd (kn:=inK ks a (Bm ks a)) (b:=l) (m:=m) (inK ks a (Bm ks a)).length).1 y hy
 refine decide_eq_true ?_
 show a<y.1+(a+1)/\y.1+(a+1)<Bm ks a
 omega
theorem GW.dr36{mk:Int->Bool}{gs:List (List Int)}(h:GW mk gs)(a m:Nat):GW mk ((gs.drop a).take m):=by
 refine⟨λg hg=>h.ne g (List.mem_of_mem_drop (List.mem_of_mem_take hg)),λi g hg hi=>?_⟩
 rw[getElem?_take] at hg
 split at hg
 ·rw[List.getElem?_drop] at hg
  exact h.hd _ g hg (by omega)
 ·cases hg
theorem Agi(mk:Int->Bool)(ts:List Int)(a e:Nat):grp mk (inK (grp mk ts) a e).flatten=inK (grp mk ts) a e:=by
 unfold inK
 rw[List.drop_take]
 exact AdE ((Ac8 mk ts).dr36 _ _)
theorem Aju(W:List Sg)(M:List (Int×Int))(ts:List Int)(a e:Nat):knL W M (inK (grp (Cj W M) ts) a e).flatten=inK (knL W M ts) a e/\bsL W M (inK (grp (Cj W M) ts) a e).flatten=inK (bsL W M ts) a e:=by
 unfold knL bsL
 rw[Agi]
 unfold inK
 exact⟨by rw[List.map_drop,map_take],by rw[List.map_drop,map_take]⟩
theorem Ajq(mk:Int->Bool)(ts:List Int)(a e:Nat):(inK (grp mk ts) a e).flatten.length<=ts.length:=by
 have h:=congrArg length (Gj mk ts).fl
 unfold inK
 have e1:((grp mk ts).take e).flatten.length=(((grp mk ts).take e).take (a+1)).flatten.length+(((grp mk ts).take e).drop (a+1)).flatten.length:=by rw[<- length_append,<- List.flatten_append,take_append_drop]
 have e2:(grp mk ts).flatten.length=((grp mk ts).take e).flatten.length+((grp mk ts).drop e).flatten.length:=by rw[<- length_append,<- List.flatten_append,take_append_drop]
 omega
theorem Ajr{xs ys:List Nst}:CmpL (xs.map nP) (ys.map nP):=λ_ i x y hx hy=>by
 rw[getElem?_map] at hx hy
 obtain⟨a,_,rfl⟩:=map_eq_some_iff.mp hx
 obtain⟨b,_,rfl⟩:=map_eq_some_iff.mp hy
 refine .tup λi x y h1 h2=>?_
 have fo:∀o,Qm (opP o)=true:=λo=>by cases o <;> rfl
 match i,h1,h2 with
 | 0,h1,h2=>cases h1;cases h2;exact .flat rfl rfl
 | 1,h1,h2=>cases h1;cases h2;exact .flat rfl rfl
 | 2,h1,h2=>cases h1;cases h2;exact .flat (fo _) (fo _)
 | _+3,h1,_=>simp at h1
def Ahj(a:Nat)(x:Nst):PV:=.tup [.int ((x.1:Int) - a - 1),.int ((x.2.1:Int) - a - 1),opP x.2.2]
def AgJ:PSp:=λps P=>∃(W:List Sg) (M:List (Int×Int)) (J:List Jn) (ts:List Int) (b m:Int) (i a e:Nat) (l:Int),ps=[.bk W M J,.lst ((grp (Cj W M) ts).map λg:List Int=>.lst (g.map .int)),.lst ((dF (knL W M ts) b m (knL W M ts).length).map nP),.int (i:Int),.lst ((Dt (mtF M) (knL W M ts) (bsL W M ts) b m).map .int),.int m]/\ts.length<=200/\(dF (knL W M ts) b m (knL W M ts).length)[i]? = some (a,e,some l)/\P (.bl true)
theorem Anx(T:Txt K mg t):Binds K t.d_qbk ["_law_book","_law_signs_here","_law_told_here","_law_number","_law_found","_law_most"] []:=T.F_qbk.binds λ_ _ _ _ _ _ us hl=>match us,hl with | [_,_,_,_,_,_],_=>rfl
theorem AkB(T:Txt K mg t):FnOk P w K mg base CX0 8 t.f_qbk t.d_qbk ["_law_book","_law_signs_here","_law_told_here","_law_number","_law_found","_law_most"] (spOf K t.C_Book [false,true,true,false,true,false] .sh AgJ):=by
 refine T.F_qbk.ok sc_qbk (λvs H Q E h=>h.len) (λcdv A outer s H vs Q E hr h=>?_)
 have hu:=Cq hr
 have hu64:=hr.units
 refine⟨_,(Bd (Qd (Ci (Cp K) (pv 2) (pv 3) (λ_ _=>rfl)) (Fy (K':=K) (n:=3) rfl rfl (Ce (Bq (i:=6) sc_qbk.nd rfl (Or.inl rfl)) (Ce (Bq (i:=7) sc_qbk.nd rfl (Or.inl rfl)) (Ce (Bq (i:=8) sc_qbk.nd rfl (Or.inl rfl)) Fa)))))
   (Bd (Bo (i:=9) sc_qbk.nd rfl (Or.inl rfl) (Bp (Zt T) (hr.mono (by decide)) rfl T.m_qba T.F_qba.kp (AcE T) .nil Bw (Ba (pv 1) (Ba (pv 6) (Ba (pv 7) Be)))))
   (Bd (Dh (Cf (AbD K hu64) (Bp (Aad T) (hr.mono (by decide)) rfl T.m_qbr T.F_qbr.kp (Acv T) .nil Bw (Ba (pv 0) (Ba (pv 9) (Ba (pv 8) (Ba (pv 5) Be))))) (Gd (Gc K) (pv 4) (Dw (Bv Fm (pv 6) Bf)) (Dw (pv 7))) (Ch _))
    (Bi (Cg Tm))
    Cv)
   (Bd (Bo (i:=10) sc_qbk.nd rfl (Or.inl rfl) (Db Be))
   (Bd (Dc PassesOwn.never rfl (Ct (pv 2)) (Bq (i:=11) sc_qbk.nd rfl (Or.inl rfl))
    (Bi (Dh (PW.pt (So (Cf AcD (pv 6) (Ci (Df K) (pv 11) Bf (λ_ _=>rfl)) (Ch _)) (Rf (Cf AcD (Ci (Df K) (pv 11) Bf (λ_ _=>rfl)) (pv 7) (Ch _)))))
    (Bi (Co (Fw plainAttrs_list PySem.F.slot_list_append PySem.F.type_list_append Da (pv 10) (Ba (Ft (Ba (Bv Nq (Bv Nq (Ci (Df K) (pv 11) Bf (λ_ _=>rfl)) (pv 6)) Bf) (Ba (Bv Nq (Bv Nq (Ci (Df K) (pv 11) Bf (λ_ _=>rfl)) (pv 6)) Bf) (Ba (Ci (Df K) (pv 11) Bf (λ_ _=>rfl)) Be)))) Be))))
    Cv)))
   (Bi (Cg (Ja (Ws K hu64) (Bp (AaG T) (hr.mono (by decide)) rfl T.m_qbx T.F_qbx.kp (Acl T) .nil Bw (Ba (pv 0) (Ba (pv 9) (Ba (pv 8) (Ba (pv 5) Be))))) (pv 10) (Ch _))))))))),?_⟩
 try dsimp only [Cm,Cb]
 refine Cu h (by decide) (Bl (Ae0 (Dd Bc Bc) (Jb (Cr (Ca (top:=12)) (Cr (Ca (top:=12)) (Cr (Ca (top:=12)) Gb)))))
   (Bl (Bx (EF.eu (Dl (Bu Br (Bt Bc (Bt Bc Bk))))))
   (Bl (Dr (Cy (EU.eb (Td (EF.eb (Dl (Bt Bc (Bt Bc (Bu Br (Bt Bc Bk)))))) (EF.eb (Jo Bc (Dx (EU.eb (Dk (λ_ _ _=>.int _) Bc (EU.eb Bg)))) (Dx Bc))))))
    (Dz Vm)
    Dg)
   (Bl (Dp (Dv 0 Bk))
   (Bl (Nh (Ca (top:=12))
    (Dr (Vz (Cy (EU.eb (Dk (λ_ _ _=>.bl _) Bc (EU.eb (Du Bc (EU.eb Bg)))))) (Cy (EU.eb (Dk (λ_ _ _=>.bl _) (EU.eb (Du Bc (EU.eb Bg))) Bc))))
    (Gf (Bu (Gk 3 (Bu (Dk (λ_ _ _=>.int _) (EU.eb (Dk (λ_ _ _=>.int _) (EU.eb (Du Bc (EU.eb Bg))) Bc)) (EU.eb Bg)) (Bu (Dk (λ_ _ _=>.int _) (EU.eb (Dk (λ_ _ _=>.int _) (EU.eb (Du Bc (EU.eb Bg))) Bc)) (EU.eb Bg)) (Bu (Du Bc (EU.eb Bg)) Bk)))) Bk))
    Dg))
   (Dz (Td (EF.eb (Dl (Bt Bc (Bt Bc (Bu Br (Bt Bc Bk)))))) Bc))))))) (λps P hp=>?_)
 clear h hu hu64 hr
 obtain⟨W,M,J,ts,b,m,i,a,e,l,rfl,hl,hi,q⟩:=hp
 walk_at "s"
 obtain⟨k,hk,hb,hx⟩:=Sk _ _ (mem_of_getElem? hi)
 have hk:(knL W M ts)[a]? = some k:=hk
 have hee:e=Bm (knL W M ts) a:=congrArg (λx:Nst=>x.2.1) hx
 have hll:lvF k (arF b ((dF (knL W M ts) b m a).filter λx=>decide (a<=x.2.1))) m=some l:=(congrArg (λx:Nst=>x.2.2) hx).symm
 have li:=AjP (mt:=mtF M) (bs:=bsL W M ts) hk hb hll
 have di:=AfZ hk hb hll
 subst hee
 have hn:a<(knL W M ts).length:=(List.getElem?_eq_some_iff.mp hk).1
 have el:=Lg (Nat.le_of_lt hn)
 generalize Bm (knL W M ts) a=e at *
 clear hk hx hll hb
 have hkl:=(AeW W M ts).2
 have hgl:(grp (Cj W M) ts).length<=200:=by rw[show (grp (Cj W M) ts).length=(knL W M ts).length from (length_map ..).symm];omega
 have fin:(inK (grp (Cj W M) ts) a e).flatten.length<=200:=Nat.le_trans (Ajq ..) hl
 ext
 refine Fh hi rfl ?_
 rw[show nP (a,e,some l)=.tup [.int a,.int e,.int l] from rfl]
 ext
 have kn:knL W M (((grp (Cj W M) ts).take e).drop (a+1)).flatten=_/\bsL W M (((grp (Cj W M) ts).take e).drop (a+1)).flatten=_:=Aju W M ts a e
 have fin:(((grp (Cj W M) ts).take e).drop (a+1)).flatten.length<=200:=fin
 refine⟨_,a+1,e,by rw[show (((a+1:Nat):Int) - 1)=(a:Int) by omega],by omega,by omega,?_⟩
 generalize (((grp (Cj W M) ts).take e).drop (a+1)).flatten=I at kn fin
 ext
 refine⟨W,M,J,I,some l,m,rfl,by omega,?_⟩
 rw[kn.1,kn.2]
 dsimp only [Option.getD]
 rw[<- li]
 ext
 rw[Jf,show (a:Int)+1=((a+1:Nat):Int) by omega,AaE]
 refine AdZ Uy ?_
 ext
 have hD:(dF (knL W M ts) b m (knL W M ts).length).length<=200:=Nat.le_trans (Si _) (by omega)
 generalize dF (knL W M ts) b m (knL W M ts).length=D at di hi hD
 refine⟨λn ρ=>∃(v:Sl),ρ=[.bo (.bk W M J),.sh (.lst ((grp (Cj W M) ts).map λg:List Int=>.lst (g.map .int))),.sh (.lst (D.map nP)),.bo (.int i),.sh (.lst ((Dt (mtF M) (knL W M ts) (bsL W M ts) b m).map .int)),.bo (.int m),.sh (.int a),.sh (.int e),.sh (.int l),.sh (.lst (I.map .int)),.ow (.lst (((D.take n).filter λx=>decide (a<x.1/\x.1<e)).map (Ahj a))),v],⟨_,rfl⟩,?_,?_⟩
 ·rintro n p ρ hp ⟨v,rfl⟩
  rw[getElem?_map] at hp
  obtain⟨x,hx,rfl⟩:=map_eq_some_iff.mp hp
  have et:=Dj hx
  rw[show nP x=.tup [.int x.1,.int x.2.1,opP x.2.2] from rfl]
  ext
  by_cases h1:a<x.1
  ·refine Jl (decide_eq_true (by omega)) ?_
   ext
   by_cases h2:x.1<e
   ·refine Jl (decide_eq_true (by omega)) ?_
    ext
    rotate_left
    ·rw[length_map]
     have:=length_filter_le (λx:Nst=>decide (a<x.1/\x.1<e)) (D.take n)
     rw[length_take] at this
     omega
    exact⟨_,by rw[et,filter_append,filter_cons_of_pos (by simpa using ⟨h1,h2⟩),List.filter_nil,map_append];rfl⟩
   ·refine Gp (by rw[decide_eq_false (by omega)];decide) ?_
    ext
    exact⟨_,by rw[et,filter_append,filter_cons_of_neg (by simpa using λ_=>Nat.le_of_not_lt h2),List.filter_nil,append_nil]⟩
  ·refine Gp (by rw[decide_eq_false (by omega)];decide) ?_
   ext
   exact⟨_,by rw[et,filter_append,filter_cons_of_neg (by simpa using λz=>absurd z h1),List.filter_nil,append_nil]⟩
 rintro ρ ⟨v,rfl⟩
 walk_at "me"
 ext
 refine⟨W,M,J,I,l,m,rfl,by omega,?_⟩
 rw[kn.1,di,map_map,show Ahj a∘shN (a+1)=nP from funext λy=>by
  show PV.tup [.int (((y.1+(a+1):Nat):Int) - a - 1),.int (((y.2.1+(a+1):Nat):Int) - a - 1),opP y.2.2]=.tup [.int y.1,.int y.2.1,opP y.2.2]
  rw[show ((y.1+(a+1):Nat):Int) - a - 1=y.1 by omega,show ((y.2.1+(a+1):Nat):Int) - a - 1=y.2.1 by omega]]
 ext
 refine Aeg Ajr ?_
 ext
 exact q
def hsF(mk:Int->Bool):List Int->List Int
 | []=>[]
 | t::r=>t::r.filter (λn=>!mk n)
theorem Aav(mk:Int->Bool)(ts:List Int):(grp mk ts).map hdF=hsF mk ts:=by
 refine (AbH (mk:=mk) (λgs ts=>gs.map hdF=hsF mk ts/\(∀g∈gs,g≠[])/\(gs=[]↔ts=[])) ⟨rfl,λg h=>(by cases h),⟨λ_=>rfl,λ_=>rfl⟩⟩ (λgs ts n ⟨h1,h2,h3⟩=>?_) ts).1
 unfold Nm
 by_cases c:gs=[]\/mk n=false
 ·rw[if_pos c]
  refine⟨?_,λg hg=>?_,⟨λz=>absurd z (by simp),λz=>absurd z (by simp)⟩⟩
  ·rw[map_append,h1]
   cases ts with
   | nil=>rfl
   | cons t r =>
    have:mk n=false:=c.resolve_left (λz=>by have:=h3.mp z;cases this)
    show t::r.filter _++[n]=t::(r++[n]).filter _
    rw[filter_append,filter_cons_of_pos (p:=λn=>!mk n) (by rw[this];rfl)];rfl
  ·rcases mem_append.mp hg with hg | hg
   ·exact h2 g hg
   ·rw[mem_singleton.mp hg];exact List.cons_ne_nil _ _
 ·rw[if_neg c]
  have c1:gs≠[]:=λz=>c (.inl z)
  have c2:mk n=true:=by cases e:mk n with | true=>rfl | false=>exact absurd (.inr e) c
  obtain⟨g0,hg0⟩:∃g0,gs.getLast? = some g0:=⟨_,List.getLast?_eq_some_getLast c1⟩
  have eg:gs.dropLast++[g0]=gs:=by
   have:=List.dropLast_concat_getLast c1
   rw[List.getLast?_eq_some_getLast c1] at hg0
   rw[<- Option.some.inj hg0];exact this
  have g0n:g0≠[]:=h2 g0 (List.mem_of_getLast? hg0)
  refine⟨?_,λg hg=>?_,⟨λz=>absurd z (by simp),λz=>absurd z (by simp)⟩⟩
  ·rw[hg0]
   show (gs.dropLast++[g0++[n]]).map hdF=_
   have eh:hdF (g0++[n])=hdF g0:=by
    cases g0 with
    | nil=>exact absurd rfl g0n
    | cons a r=>rfl
   rw[map_append,show [g0++[n]].map hdF=[g0].map hdF by show [_]=[_];rw[eh],<- map_append,eg,h1]
   cases ts with
   | nil=>exact absurd (h3.mpr rfl) c1
   | cons t r =>
    show t::r.filter _=t::(r++[n]).filter _
    rw[filter_append,filter_cons_of_neg (p:=λn=>!mk n) (by rw[c2];decide)]
    show _=t::(r.filter _++[])
    rw[append_nil]
  ·rcases mem_append.mp hg with hg | hg
   ·exact h2 g (List.dropLast_subset _ hg)
   ·rw[mem_singleton.mp hg,hg0]
    show g0++[n]≠[]
    exact λz=>by simp at z
def kpF(U:List Sg)(M:List (Int×Int))(n:Int):Str:=if Cj U M n=true then "plain" else De U M n
theorem Aic(U:List Sg)(M:List (Int×Int))(ts:List Int):knL U M ts=(hsF (Cj U M) ts).map (kpF U M)/\bsL U M ts=hsF (Cj U M) ts:=by
 refine⟨?_,Aav _ _⟩
 rw[<- Aav,map_map]
 unfold knL
 refine List.map_congr_left λg hg=>?_
 have:=(Gj (Cj U M) ts).ne g hg
 obtain⟨n,r,rfl,_⟩:=this
 rfl
def edL(kd:Int->Str):Nat->List Int->List Int
 | _,[]=>[]
 | d,t::r=>(if ¬kd t="out"\/0<d then [t] else [])++edL kd (if kd t∈bgK then d+1 else if kd t="out" then d - 1 else d) r
def edD(kd:Int->Str):Nat->List Int->Nat
 | d,[]=>d
 | d,t::r=>edD kd (if kd t∈bgK then d+1 else if kd t="out" then d - 1 else d) r
theorem Abi(kd:Int->Str):∀(ts:List Int) (d:Nat),(edL kd d ts).length<=ts.length/\edD kd d ts<=d+ts.length
 | [],_=>⟨Nat.le_refl _,Nat.le_refl _⟩
 | t::r,d=>by
  have ih:=Abi kd r (if kd t∈bgK then d+1 else if kd t="out" then d - 1 else d)
  rw[edL,edD,length_append,length_cons]
  have:(if kd t∈bgK then d+1 else if kd t="out" then d - 1 else d)<=d+1:=by
   split
   ·omega
   ·split <;> omega
  have:(if ¬kd t="out"\/0<d then [t] else []:List Int).length<=1:=by
   split
   ·exact Nat.le_refl 1
   ·exact zero_le 1
  omega
def ndK(kd:Int->Str)(l:List Int):List Str:=(l.filter λn=>!decide (kd n="mark")).map kd
theorem Tu(kd:Int->Str)(a b:List Int):ndK kd (a++b)=ndK kd a++ndK kd b:=by unfold ndK;rw[filter_append,map_append]
theorem Tp{kd:Int->Str}{t:Int}(h:¬kd t="mark"):ndK kd [t]=[kd t]:=by
 unfold ndK
 rw[filter_cons_of_pos (p:=λn=>!decide (kd n="mark")) (by rw[decide_eq_false h];rfl)];rfl
theorem AdX{kd:Int->Str}{c:Int}{ke:List Str}(hc:kd c="out")(he:ke=[]\/ke=[("out" : Str)]):∀(ts:List Int) (d:Nat),enS ((d+1:Nat):Int) (ndK kd (edL kd d ts++replicate (edD kd d ts) c)++ke)=(ndK kd (edL kd d ts++replicate (edD kd d ts) c)).length
 | [],d=>by
  show enS ((d+1:Nat):Int) (ndK kd (replicate d c)++ke)=(ndK kd (replicate d c)).length
  induction d with
  | zero =>
   show enS ((1:Nat):Int) ke=0
   rcases he with rfl | rfl
   ·rfl
   ·exact AaX
  | succ d ih =>
   have e:ndK kd (replicate (d+1) c)=("out" : Str)::ndK kd (replicate d c):=by
    rw[replicate_succ,show c::replicate d c=[c]++replicate d c from rfl,Tu,Tp (by rw[hc];decide +kernel),hc];rfl
   rw[e,cons_append,Ww (by omega),show d+1+1 - 1=d+1 from rfl,ih];rfl
 | t::r,d=>by
  have ih:=AdX (ke:=ke) hc he r
  rw[edL,edD]
  by_cases h1:kd t∈bgK
  ·have n1:¬kd t="out":=Nu h1
   have n2:¬kd t="mark":=λz=>by rw[z] at h1;revert h1;decide +kernel
   rw[if_pos h1,if_pos (.inl n1),append_assoc,Tu,Tp n2,append_assoc]
   show enS _ (kd t::(_++_))=_
   rw[Oi h1,nil_append,ih (d+1)];rfl
  rw[if_neg h1]
  by_cases h2:kd t="out"
  ·rw[if_pos h2]
   by_cases hd:0<d
   ·rw[if_pos (.inr hd),append_assoc,Tu,Tp (by rw[h2];decide +kernel),append_assoc,h2]
    show enS _ ("out"::(_++_))=_
    have ih:=ih (d - 1)
    rw[show d - 1+1=d by omega] at ih
    rw[Ww (by omega),show d+1 - 1=d from rfl,nil_append,ih];rfl
   ·have:d=0:=by omega
    subst this
    rw[if_neg (λz=>z.elim (λy=>y h2) (λy=>absurd y (by decide))),nil_append]
    exact ih 0
  ·rw[if_neg h2,if_pos (.inl h2),append_assoc,Tu]
   by_cases h3:kd t="mark"
   ·have:ndK kd [t]=[]:=by unfold ndK;rw[filter_cons_of_neg (p:=λn=>!decide (kd n="mark")) (by rw[decide_eq_true h3];decide)];rfl
    rw[this,nil_append]
    exact ih d
   ·rw[Tp h3,append_assoc]
    show enS _ (kd t::(_++_))=_
    rw[Wu (by omega) h1 h2,nil_append,ih d];rfl
theorem Xk{α:Type}{l:List α}{n:Nat}{x:α}(h:l[n]? = some x):l.drop n=x::l.drop (n+1):=by
 obtain⟨h1,h2⟩:=List.getElem?_eq_some_iff.mp h
 rw[drop_eq_getElem_cons h1,h2]
def AiM:PSp:=λps P=>∃(W:List Sg) (M:List (Int×Int)) (ts:List Int) (c:Int),ps=[.dk (kkD W M),.lst (ts.map .int),.int c]/\ts.length<=1000/\P (.lst ((edL (De W M) 0 ts++replicate (edD (De W M) 0 ts) c).map .int))
theorem An8(T:Txt K mg t):Binds K t.d_qbl ["_law_words_here","_law_signs_here","_law_close"] []:=T.F_qbl.binds (by walk_at "b3")
theorem Ama(T:Txt K mg t):FnOk P w K mg base CX0 1 t.f_qbl t.d_qbl ["_law_words_here","_law_signs_here","_law_close"] (spOf K t.C_Book [false,false,true] .fr AiM):=by
 refine T.F_qbl.ok sc_qbl (λvs H Q E h=>h.len) (λcdv A outer s H vs Q E hr h=>?_)
 have hu:=Cq hr
 have hu64:=hr.units
 refine⟨_,(Bd (Bo (i:=3) sc_qbl.nd rfl (Or.inl rfl) (Db Be))
   (Bd (Bo (i:=4) sc_qbl.nd rfl (Or.inl rfl) Bf)
   (Bd (Dc PassesOwn.never rfl (Ct (pv 1)) (Bq (i:=5) sc_qbl.nd rfl (Or.inl rfl))
    (Bd (Bo (i:=6) sc_qbl.nd rfl (Or.inl rfl) (Ot hu (pv 0) (pv 5) By ⟨rfl,rfl,rfl,rfl⟩))
   (Bd (Dh (Cf (Ju K) (pv 6) (Db (Ba By (Ba By Be))) rfl)
    (Bi (Bo (i:=4) sc_qbl.nd rfl (Or.inl rfl) (Bv Fm (pv 4) Bf)))
    Cv)
   (Bd (Dh (PW.pt (Vn (Cf Yj (pv 6) By (Ch _)) (Wb (Cf Tl (pv 4) Bf (Ch _)))))
    (Bi (Co (Fw plainAttrs_list PySem.F.slot_list_append PySem.F.type_list_append Da (pv 3) (Ba (pv 5) Be))))
    Cv)
   (Bi (Dh (Cf Do (pv 6) By (Ch _))
    (Bi (Bo (i:=4) sc_qbl.nd rfl (Or.inl rfl) (Cn (Xp rfl) rfl T.z_max boot_max (Ba (Bv Nq (pv 4) Bf) (Ba Bf Be)))))
    Cv))))))
   (Bi (Cg (Bv Ol (pv 3) (Jq 1 [2] ["_law_k","_law_close"] ["_law_close"] rfl (Nv rfl T.z_range (Ba (pv 4) Be)) rfl (λj y e1 i e2=>match j,e1,e2 with | 0,e1,e2=>by cases e1;cases e2;exact⟨rfl,rfl,rfl,by decide +kernel⟩ | _+1,_,e2=>by simp at e2) (forall_mem_cons.mpr ⟨rfl,λ_ h=>nomatch h⟩) (by decide +kernel) (λ_ _ _ _=>(Bq (i:=0) (show Nodup (["_law_k","_law_close"]:List Str) by decide +kernel) rfl (Or.inl rfl))) (λ_ _ _ _=>Gz) (λ_ _ _ _=>(pv 1)) rfl (by decide +kernel) rfl (by decide +kernel)))))))),?_⟩
 try dsimp only [Cm,Cb]
 refine Cu h (by decide) (Bl (Dp (Dv 0 Bk))
   (Bl (Bx Bg)
   (Bl (Nh (Ca (top:=7))
    (Bl (Bx (Uj Bc Cl))
   (Bl (Dr (Cy (EU.eb (Tk Br (EF.eb (Dv 2 (Bu Cl (Bu Cl Bk)))))))
    (Bx (Dk (λ_ _ _=>.int _) Bc (EU.eb Bg)))
    Dg)
   (Bl (Dr (Yo (Cy (EU.eb (Ab1 Bc (EU.eb Cl)))) (Cy (EU.eb (Dk (λ_ _ _=>.bl _) Bc (EU.eb Bg)))))
    (Gf (Bu Br Bk))
    Dg)
   (Dr (Cy (EU.eb (Fe Bc (EU.eb Cl))))
    (Bx (AdT (Bt (EU.eb (Dk (λ_ _ _=>.int _) Bc (EU.eb Bg))) (Bt (EU.eb Bg) Bk))))
    Dg)))))
   (On (Rg Bc (EF.eb (Uq (Bt Bc Bk) (Ca (top:=1)) Ji Br))))))) (λps P hp=>?_)
 clear h hu hu64 hr
 obtain⟨W,M,ts,c,rfl,hl,q⟩:=hp
 walk_at "s"
 ext
 refine⟨λn ρ=>∃(A:List Int) (d:Nat) (v5 v6:Sl),ρ=[.bo (.dk (kkD W M)),.bo (.lst (ts.map .int)),.sh (.int c),.ow (.lst (A.map .int)),.sh (.int d),v5,v6]/\A.length<=n/\d<=n/\A++edL (De W M) d (ts.drop n)=edL (De W M) 0 ts/\edD (De W M) d (ts.drop n)=edD (De W M) 0 ts,⟨[],0,_,_,rfl,Nat.le_refl _,Nat.le_refl _,rfl,rfl⟩,?_,?_⟩
 ·rintro n p ρ hp ⟨A,d,v5,v6,rfl,al,dl,hA,hd⟩
  rw[getElem?_map] at hp
  obtain⟨t,ht,rfl⟩:=map_eq_some_iff.mp hp
  have hn:n<ts.length:=(List.getElem?_eq_some_iff.mp ht).1
  rw[Xk ht,edL] at hA
  rw[Xk ht,edD] at hd
  ext
  rw[Tv]
  ext
  refine Ze (L:=bgK) (x:=De W M t) ?_
  generalize De W M t=k at hA hd
  have al2:(A.map PV.int).length<100000:=by rw[length_map];omega
  ext
  by_cases h1:k∈bgK
  ·have n1:¬k="out":=Nu h1
   rw[if_pos h1] at hA hd
   rw[if_pos (.inl n1)] at hA
   rw[decide_eq_true h1]
   ext
   rw[decide_eq_false n1]
   ext
   rotate_left
   ·exact al2
   refine Gp (λz=>n1 (of_decide_eq_true z)) ?_
   ext
   exact⟨A++[t],d+1,_,_,by rw[map_append];rfl,by rw[length_append];show A.length+1<=_;omega,by omega,by rw[append_assoc];exact hA,hd⟩
  ·rw[if_neg h1] at hA hd
   rw[decide_eq_false h1]
   ext
   by_cases h2:k="out"
   ·rw[if_pos h2] at hA hd
    subst h2
    rw[decide_eq_true rfl]
    ext
    by_cases hd0:0<d
    ·rw[if_pos (.inr hd0)] at hA
     refine Jl (decide_eq_true (show (0:Int)<(d:Int) by omega)) ?_
     ext
     rotate_left
     ·exact al2
     refine Jl (decide_eq_true rfl) ?_
     ext
     refine⟨A++[t],d - 1,_,_,by rw[map_append];congr 5;congr 2;omega,by rw[length_append];show A.length+1<=_;omega,by omega,by rw[append_assoc];exact hA,hd⟩
    ·rw[if_neg (λz=>z.elim (λy=>y rfl) hd0)] at hA
     refine Gp (λz=>hd0 (by have:=of_decide_eq_true z;omega)) ?_
     ext
     refine Jl (decide_eq_true rfl) ?_
     ext
     refine⟨A,d - 1,_,_,by congr 5;congr 2;omega,by omega,by omega,hA,hd⟩
   ·rw[if_neg h2] at hA hd
    rw[if_pos (.inl h2)] at hA
    rw[decide_eq_false h2]
    ext
    rotate_left
    ·exact al2
    refine Gp (λz=>h2 (of_decide_eq_true z)) ?_
    ext
    exact⟨A++[t],d,_,_,by rw[map_append];rfl,by rw[length_append];show A.length+1<=_;omega,by omega,by rw[append_assoc];exact hA,hd⟩
 rintro ρ ⟨A,d,v5,v6,rfl,al,dl,hA,hd⟩
 rw[length_map] at al dl
 rw[length_map,drop_length,edL,append_nil] at hA
 rw[length_map,drop_length,edD] at hd
 ext
 refine Ui (n:=d) (f:=λ_=>some (.int c)) (by omega) ?_ (λk hk Z hZ=>?_)
 rotate_left
 ·walk_at "c"
  ext
  exact hZ
 rw[show (range d).filterMap (λ_=>some (PV.int c))=(replicate d c).map .int by
  rw[List.map_replicate,show (range d).filterMap (λ_=>some (PV.int c))=(range d).map (λ_=>PV.int c) from congrFun (filterMap_eq_map' (f:=λ_:Nat=>PV.int c)) _,List.map_const',length_range]]
 ext
 rotate_left
 ·rw[length_map,length_map,length_replicate];omega
 rw[<- map_append,hA,hd]
 exact q
def chA:List Str:=["fore","back","num","blank","mark","forein","backin","out","plain","open","shut"]
theorem AfC:∀w∈chA,w="plain"\/w="open"\/w="shut"\/∃k,k<8/\toldK[k]? = some w:=by
 have:∀w∈chA,w="plain"\/w="open"\/w="shut"\/w∈toldK:=by decide +kernel
 intro w hw
 rcases this w hw with h | h | h | h
 ·exact .inl h
 ·exact .inr (.inl h)
 ·exact .inr (.inr (.inl h))
 ·obtain⟨k,hk⟩:=getElem?_of_mem h
  have:=(List.getElem?_eq_some_iff.mp hk).1
  exact .inr (.inr (.inr ⟨k,this,hk⟩))
theorem Akd{f:Nat->Int}{U R:List Sg}{J:List Jn}{k y:Nat}(ga:G2A f U R J k y):∀w∈chA,0<(gpF f (upG U R (r0G f U).length) (mtG f y) w).length/\(gpF f (upG U R (r0G f U).length) (mtG f y) w).length<=28:=by
 intro w hw
 have bk:=Yq ga.jg ga.hk ga.ht ga.ul ga.hf y
 have nd:=bk.nd
 have uix:=(Ys ga.jg ga.hk ga.ht ga.ul ga.hf).2
 have le:(gpF f (upG U R (r0G f U).length) (mtG f y) w).length<=28:=by
  unfold gpF
  refine Nat.le_trans (length_filter_le _ _) ?_
  rw[length_map,length_range];exact Nat.le_refl _
 have one:∀n,n<28->De (upG U R (r0G f U).length) (mtG f y) (f n)=w->0<(gpF f (upG U R (r0G f U).length) (mtG f y) w).length:=λn hn h =>
  List.length_pos_of_mem (mem_filter.mpr ⟨mem_map.mpr ⟨n,mem_range.mpr hn,rfl⟩,decide_eq_true h⟩)
 have mm:(f 14,f 15)∈mtG f y:=by
  unfold mtG
  rcases ga.hy with rfl | rfl <;> exact .head _
 refine⟨?_,le⟩
 rcases AfC w hw with rfl | rfl | rfl | ⟨i,hi,hw2⟩
 ·refine one 26 (by decide) (Tr (AeY λz=>?_))
  rcases mem_append.mp z with z | z
  ·obtain⟨u,hu,e⟩:=mem_map.mp z
   obtain⟨⟨a,h1,h2⟩,_⟩:=uix u hu
   have:=ga.hf.inj a 26 (by omega) (by omega) (by rw[<- h2];exact e)
   omega
  ·obtain⟨a,h1,h2,h3⟩:=AcU f y _ z
   have:=ga.hf.inj 26 a (by omega) (by omega) h3
   omega
 ·exact one 14 (by decide) (Tr (AiT nd mm))
 ·exact one 15 (by decide) (Tr (AiU nd mm))
 ·have hl:i<U.length:=by have:=ga.ul;omega
  obtain⟨s,hs⟩:∃s,U[i]? = some s:=⟨_,getElem?_eq_getElem hl⟩
  have h1:=ga.ht.wd i s hs hi
  have h2:=(ga.ht.at' i s hs).1
  rw[getElem?_map,getElem?_range (by omega)] at h2
  rw[hw2] at h1
  refine one i (by omega) (Tr ?_)
  have h3:f i=s.1:=Option.some.inj h2
  rw[h3,Option.some.inj h1]
  exact Xg nd (mem_append_left _ (mem_of_getElem? hs))
theorem AkS(l:List Int):l.filterMap (λc=>some (PV.int (c%10^9)))=(l.map λc=>c%10^9).map .int:=by rw[map_map];exact congrFun (filterMap_eq_map' (f:=λc=>PV.int (c%10^9))) _
def Qo(D:List Nst)(k:Nat):Bool:=((D[k]?).bind λx=>x.2.2).isSome
theorem Aiz{D:List Nst}{k:Nat}(h:Qo D k=true):∃a e l,D[k]? = some (a,e,some l):=by
 unfold Qo at h
 cases e:D[k]? with
 | none=>rw[e] at h;cases h
 | some x =>
  obtain⟨a,z,o⟩:=x
  rw[e] at h
  cases o with
  | none=>cases h
  | some l=>exact⟨a,z,l,rfl⟩
theorem Aop{p:Nat->Bool}(n:Nat):(range n).filterMap (λk=>if p k=true then some (PV.int (k:Nat)) else none)=((range n).filter p).map λk:Nat=>PV.int k:=by
 generalize range n=r
 induction r with
 | nil=>rfl
 | cons x r ih =>
  by_cases z:p x=true
  ·rw[List.filterMap_cons_some (by rw[if_pos z]),filter_cons_of_pos z,map_cons,ih]
  ·rw[List.filterMap_cons_none (by rw[if_neg z]),filter_cons_of_neg z,ih]
theorem Adj{xs:List PV}{P:PV->Prop}(h0:xs=[]->P (.bl true))(h1:xs≠[]->P (.bl false)):Aap false (.lst xs) (.lst []) P:=⟨xs,[],rfl,rfl,(λ_ i x y _ h=>by cases h),λb hb=>by
 by_cases z:xs=[]
 ·rw[hb.mpr z];exact h0 z
 ·have:b=false:=by cases b with | false=>rfl | true=>exact absurd (hb.mp rfl) z
  rw[this];exact h1 z⟩
theorem AiH{f:Nat->Int}{W:List Sg}{M:List (Int×Int)}{w:Str}:((range 28).map f).filterMap (λn=>if De W M n=w then some (PV.int n) else none)=(gpF f W M w).map .int:=by
 unfold gpF
 generalize (range 28).map f=l
 induction l with
 | nil=>rfl
 | cons x r ih =>
  by_cases z:De W M x=w
  ·rw[List.filterMap_cons_some (by rw[if_pos z]),filter_cons_of_pos (by simp [z]),map_cons,ih]
  ·rw[List.filterMap_cons_none (by rw[if_neg z]),filter_cons_of_neg (by simp [z]),ih]
theorem AgD(W:List Sg)(M:List (Int×Int))(E:List Int):(E.filter λn=>!Cj W M n).length=(ndK (De W M) E).length:=by
 unfold ndK
 rw[length_map];rfl
theorem AiL{mk:Int->Bool}{a b:List Int}(h:a≠[]):hsF mk (a++b)=hsF mk a++b.filter (λn=>!mk n):=by
 cases a with
 | nil=>exact absurd rfl h
 | cons t r =>
  show t::(r++b).filter _=t::r.filter _++_
  rw[filter_append];rfl
theorem AhD{mk:Int->Bool}:∀(gs:List (List Int)),(∀g∈gs,∃n r,g=n::r/\mk n=false/\∀m∈r,mk m=true)->gs.flatten.filter (λn=>!mk n)=gs.map hdF
 | [],_=>rfl
 | g::gs,h=>by
  obtain⟨n,r,rfl,hn,hr⟩:=h g (.head _)
  rw[flatten_cons,filter_append,AhD gs (λx hx=>h x (.tail _ hx)),filter_cons_of_pos (p:=λn=>!mk n) (by rw[hn];rfl),List.filter_eq_nil_iff.mpr (λx hx=>by rw[hr x hx];decide)]
  rfl
theorem AnQ(W:List Sg)(M:List (Int×Int))(ts E:List Int){n e:Nat}(h0:0<n)(h1:n<=e)(h2:e<=(grp (Cj W M) ts).length) :
  knL W M (((grp (Cj W M) ts).take n).flatten++E++((grp (Cj W M) ts).drop e).flatten)=(knL W M ts).take n++(ndK (De W M) E++(knL W M ts).drop e) /\
  bsL W M (((grp (Cj W M) ts).take n).flatten++E++((grp (Cj W M) ts).drop e).flatten)=(bsL W M ts).take n++((E.filter λn=>!Cj W M n)++(bsL W M ts).drop e):=by
 have gw:=Ac8 (Cj W M) ts
 have hs:hsF (Cj W M) (((grp (Cj W M) ts).take n).flatten++E++((grp (Cj W M) ts).drop e).flatten)=(bsL W M ts).take n++((E.filter λn=>!Cj W M n)++(bsL W M ts).drop e):=by
  have ne:((grp (Cj W M) ts).take n).flatten≠[]:=λz=>by
   have m0:(grp (Cj W M) ts)[0]'(by omega)∈(grp (Cj W M) ts).take n:=mem_of_getElem? (i:=0) (by rw[getElem?_take,if_pos h0,getElem?_eq_getElem (by omega)])
   obtain⟨x,r,hx,_⟩:=gw.ne _ (List.mem_of_mem_take m0)
   rw[List.flatten_eq_nil_iff] at z
   rw[z _ m0] at hx;cases hx
  rw[append_assoc,AiL ne,filter_append,AhD _ (λg hg=>?_),<- Aav,show (grp (Cj W M) ts).take n=((grp (Cj W M) ts).drop 0).take n from rfl,AdE (gw.dr36 0 n)]
  ·unfold bsL
   rw[map_take,List.map_drop,List.map_drop,List.drop_zero]
  ·obtain⟨i,hi⟩:=getElem?_of_mem hg
   rw[List.getElem?_drop] at hi
   obtain⟨x,r,rfl,hr⟩:=gw.ne g (List.mem_of_mem_drop hg)
   obtain⟨x',r',hx',hm⟩:=gw.hd _ _ hi (by omega)
   obtain⟨rfl,rfl⟩:=List.cons.inj hx'
   exact⟨x,r,rfl,hm,hr⟩
 obtain⟨k1,k2⟩:=Aic W M (((grp (Cj W M) ts).take n).flatten++E++((grp (Cj W M) ts).drop e).flatten)
 obtain⟨k3,k4⟩:=Aic W M ts
 rw[k1,k2,hs,map_append,map_append,map_take,List.map_drop]
 refine⟨?_,rfl⟩
 rw[k4,<- k3]
 congr 2
 unfold ndK
 refine List.map_congr_left λn hn=>?_
 have:=(mem_filter.mp hn).2
 unfold kpF
 rw[if_neg (λz=>by rw[z] at this;cases this)]
theorem Agz(mk:Int->Bool)(ts:List Int){n e:Nat}(h:n<=e):((grp mk ts).take n).flatten.length+((grp mk ts).drop e).flatten.length<=ts.length:=by
 have h1:=congrArg length (Gj mk ts).fl
 have e1:((grp mk ts).take e).flatten.length=(((grp mk ts).take e).take n).flatten.length+(((grp mk ts).take e).drop n).flatten.length:=by rw[<- length_append,<- List.flatten_append,take_append_drop]
 have e2:(grp mk ts).flatten.length=((grp mk ts).take e).flatten.length+((grp mk ts).drop e).flatten.length:=by rw[<- length_append,<- List.flatten_append,take_append_drop]
 rw[List.take_take,Nat.min_eq_left h] at e1
 omega
theorem Agx{α:Type}{xs:List α}{i:Int}{k:Nat}(e:i = -(k:Int))(h0:0<k)(h1:k<=xs.length):Je xs (some i) none=xs.drop (xs.length - k):=by
 have e:HT.sIx xs.length 0 (some i)=xs.length - k:=by
  show (if i<0 then (i+(xs.length:Int)).toNat else min i.toNat xs.length)=_
  rw[if_pos (by omega)]
  omega
 unfold Je
 rw[HT.sIx_none,e]
 exact List.take_of_length_le (by rw[length_drop];omega)
def c36:List Str:=["fore","forein","back","out","num","backin","open","blank","forein","shut","plain","out","mark"]
theorem AgB:∀w∈c36,w∈chA:=by decide +kernel
theorem AoV(T:Txt K mg t):Binds K t.d_qcc ["_law_script"] []:=T.F_qcc.binds (by walk_at "b1")
theorem Amj(T:Txt K mg t):FnOk P w K mg base CX0 9 t.f_qcc t.d_qcc ["_law_script"] (spOf K t.C_Book [false] .sh Aa3):=by
 refine T.F_qcc.ok sc_qcc (λvs H Q E h=>h.len) (λcdv A outer s H vs Q E hr h=>?_)
 have hu:=Cq hr
 have hu64:=hr.units
 refine⟨_,(@Bd _ _ _ _ _ (Bo (i:=1) sc_qcc.nd rfl (Or.inl rfl) (Bp (Akw T) (hr.mono (by decide)) rfl T.m_qbo T.F_qbo.kp (Ano T) .nil Bw (@Ba _ _ _ _ _ (pv 0) Be rfl)))
   (@Bd _ _ _ _ _ (Bo (i:=2) sc_qcc.nd rfl (by first | exact Or.inl rfl | exact Or.inr rfl) (Bp (AkO T) (hr.mono (by decide)) rfl T.m_qbq T.F_qbq.kp (An5 T) .nil Bw (@Ba _ _ _ _ _ (pv 1) Be rfl)))
   (@Bd _ _ _ _ _ (@Bo _ _ 3 _ _ _ _ sc_qcc.nd rfl (Or.inl rfl) (@Db _ _ _ _ (@Fi _ _ _ _ _ _ _ By (@Fi _ _ _ _ _ _ _ By (@Fi _ _ _ _ _ _ _ By (@Fi _ _ _ _ _ _ _ By (@Fi _ _ _ _ _ _ _ By (@Fi _ _ _ _ _ _ _ By (@Fi _ _ _ _ _ _ _ By (@Fi _ _ _ _ _ _ _ By (@Fi _ _ _ _ _ _ _ By (@Fi _ _ _ _ _ _ _ By (@Fi _ _ _ _ _ _ _ By (@Fi _ _ _ _ _ _ _ By Be))))))))))))) rfl (by first | exact .inl rfl | exact .inr rfl))
   (@Bd _ _ _ _ _ (Co (Fw plainAttrs_list PySem.F.slot_list_append PySem.F.type_list_append Da (pv 3) (@Fi _ _ _ _ _ _ _ By Be)))
   (@Bd _ _ _ _ _ (Bo (i:=4) sc_qcc.nd rfl (Or.inl rfl) (Bp (Ana T) (hr.mono (by decide)) rfl T.m_qz T.F_qz.kp (AoD T) .nil Bw (@Ba _ _ _ _ _ (pv 1) (@Ba _ _ _ _ _ (pv 2) (@Ba _ _ _ _ _ (pv 3) Be rfl) rfl) rfl)))
   (@Bd _ _ _ _ _ (Bo (i:=5) sc_qcc.nd rfl (Or.inl rfl) (Bv Dq (Bp (Yr T) (hr.mono (by decide)) rfl T.m_qp T.F_qp.kp (Acp T) .nil Bw (@Ba _ _ _ _ _ (pv 0) (@Fi _ _ _ _ _ _ _ Bf Be) rfl)) (Bv Lk Bf Bf)))
   (@Bd _ _ _ _ _ (Bo (i:=6) sc_qcc.nd rfl (Or.inl rfl) (AiB T.K_Book (Aln T) (hr.mono (by decide)) rfl T.m_Book (AnZ T) .nil Bw (@Ba _ _ _ _ _ (Lc (Gi K) rfl T.z_list PyProof.Rows.boot_list (@Ba _ _ _ _ _ (@Ci _ _ _ _ _ _ _ (Df K) (pv 1) Bf (λ_ _=>rfl)) Be rfl)) (@Ba _ _ _ _ _ (Lc (Gi K) rfl T.z_list PyProof.Rows.boot_list (@Ba _ _ _ _ _ (@Ci _ _ _ _ _ _ _ (Df K) (pv 1) Bf (λ_ _=>rfl)) Be rfl)) (@Ba _ _ _ _ _ (Lc (Gi K) rfl T.z_list PyProof.Rows.boot_list (@Ba _ _ _ _ _ (@Ci _ _ _ _ _ _ _ (Df K) (pv 1) Bf (λ_ _=>rfl)) Be rfl)) Be rfl) rfl) rfl)))
   (@Bd _ _ _ _ _ (Bo (i:=7) sc_qcc.nd rfl (Or.inl rfl) (Bp (Afe T) (hr.mono (by decide)) rfl T.m_qbv T.F_qbv.kp (Aid T) .nil Bw (@Ba _ _ _ _ _ (pv 4) (@Ba _ _ _ _ _ (Uv 1 ["_law_number"] rfl rfl (Ct (Wc K (pv 0) (Dw Bf) (Dw Bf) (Dw Bf))) (λ_ _ _ _=>(Bq (i:=0) (show Nodup (["_law_number"]:List Str) by decide +kernel) rfl (Or.inl rfl))) (λ_ _ _ _=>Gz) (λ_ _ _ _=>(Bv Dq (pv 0) (Bv Lk Bf Bf))) (by decide +kernel) (by decide +kernel) rfl (by decide +kernel)) Be rfl) rfl)))
   (@Bd _ _ _ _ _ (Bo (i:=8) sc_qcc.nd rfl (Or.inl rfl) (Bp (Afe T) (hr.mono (by decide)) rfl T.m_qbv T.F_qbv.kp (Aid T) .nil Bw (@Ba _ _ _ _ _ (pv 4) (@Ba _ _ _ _ _ (Uv 1 ["_law_number"] rfl rfl (Ct (Wc K (pv 0) (Dw Bf) (Dw Bf) (Dw Bf))) (λ_ _ _ _=>(Bq (i:=0) (show Nodup (["_law_number"]:List Str) by decide +kernel) rfl (Or.inl rfl))) (λ_ _ _ _=>Gz) (λ_ _ _ _=>(Bv Dq (pv 0) (Bv Lk Bf Bf))) (by decide +kernel) (by decide +kernel) rfl (by decide +kernel)) Be rfl) rfl)))
   (@Bd _ _ _ _ _ (Bo (i:=9) sc_qcc.nd rfl (Or.inl rfl) (Bv Dq (pv 5) Bf))
   (@Bd _ _ _ _ _ (Bo (i:=10) sc_qcc.nd rfl (Or.inl rfl) (Bv Dq (Bv Fu (pv 5) Bf) Bf))
   (@Bd _ _ _ _ _ (Dh (Cf Do (Bv Dq (Bv Fu (pv 5) Bf) Bf) Bf (Ch _))
    (@Bi _ _ _ (Bo (i:=10) sc_qcc.nd rfl (Or.inl rfl) (Cn (AdP rfl) rfl T.z_min PyProof.Rows.boot_min (@Fi _ _ _ _ _ _ _ Bf (@Ba _ _ _ _ _ (Bv Fm (Bv Fm (pv 9) Bf) (Bv Dq (Bv Fu (pv 5) Bf) Bf)) Be rfl)))))
    Cv)
   (@Bd _ _ _ _ _ (Bo (i:=11) sc_qcc.nd rfl (Or.inl rfl) (Bp (Aad T) (hr.mono (by decide)) rfl T.m_qbr T.F_qbr.kp (Acv T) .nil Bw (@Ba _ _ _ _ _ (pv 6) (@Ba _ _ _ _ _ (Lc (Gi K) rfl T.z_list PyProof.Rows.boot_list (@Ba _ _ _ _ _ (pv 7) Be rfl)) (@Ba _ _ _ _ _ (pv 9) (@Ba _ _ _ _ _ (pv 10) Be rfl) rfl) rfl) rfl)))
   (@Bd _ _ _ _ _ (Bo (i:=12) sc_qcc.nd rfl (by first | exact Or.inl rfl | exact Or.inr rfl) (Bp (AaG T) (hr.mono (by decide)) rfl T.m_qbx T.F_qbx.kp (Acl T) .nil Bw (@Ba _ _ _ _ _ (pv 6) (@Ba _ _ _ _ _ (Lc (Gi K) rfl T.z_list PyProof.Rows.boot_list (@Ba _ _ _ _ _ (pv 7) Be rfl)) (@Ba _ _ _ _ _ (pv 9) (@Ba _ _ _ _ _ (pv 10) Be rfl) rfl) rfl) rfl)))
   (@Bd _ _ _ _ _ (Bo (i:=13) sc_qcc.nd rfl (Or.inl rfl) (Bp (Akq T) (hr.mono (by decide)) rfl T.m_qbb T.F_qbb.kp (Am5 T) .nil Bw (@Ba _ _ _ _ _ (pv 2) (@Ba _ _ _ _ _ (pv 7) Be rfl) rfl)))
   (@Bd _ _ _ _ _ (Dh (PW.pt (Vn (Sy (Sd (Cn (Sj K) rfl T.z_isinstance boot_isinstance (@Ba _ _ _ _ _ (pv 11) (@Ba _ _ _ _ _ (Lz (v:=.ty "list") rfl T.z_list PyProof.Rows.boot_list rfl) Be rfl) rfl)))) (Vn (Sy (Sd (Cn (Sj K) rfl T.z_isinstance boot_isinstance (@Ba _ _ _ _ _ (pv 12) (@Ba _ _ _ _ _ (Lz (v:=.ty "list") rfl T.z_list PyProof.Rows.boot_list rfl) Be rfl) rfl)))) (Wb (Cf Yj (Cn (Ck K) rfl T.z_len PySem.boot_len (@Ba _ _ _ _ _ (pv 11) Be rfl)) (Cn (Ck K) rfl T.z_len PySem.boot_len (@Ba _ _ _ _ _ (pv 13) Be rfl)) (Ch _))))))
    (@Bi _ _ _ (@Cg _ _ _ _ Tm))
    Cv)
   (@Bd _ _ _ _ _ (Ov 1 [12] ["_law_k","_law_told_here"] ["_law_told_here"] rfl (Nv rfl T.z_range (@Ba _ _ _ _ _ (Cn (Ck K) rfl T.z_len PySem.boot_len (@Ba _ _ _ _ _ (pv 12) Be rfl)) Be rfl)) rfl (λj y e1 i e2=>match j,e1,e2 with | 0,e1,e2=>by cases e1;cases e2;exact⟨rfl,rfl,rfl,by decide +kernel⟩ | _+1,_,e2=>by simp at e2) (forall_mem_cons.mpr ⟨rfl,λ_ h=>nomatch h⟩) (by decide +kernel) (λ_ _ _ _=>(Bq (i:=0) (show Nodup (["_law_k","_law_told_here"]:List Str) by decide +kernel) rfl (Or.inl rfl))) (λ_ _ _ _=>(Jr (Li (Oo (@Ci _ _ _ _ _ _ _ (Df K) (@Ci _ _ _ _ _ _ _ (Cp K) (pv 1) (pv 0) (λ_ _=>rfl)) Bf (λ_ _=>rfl)))))) (λ_ _ _ _=>(pv 0)) rfl (by decide +kernel) rfl (by decide +kernel) (λ_=>rfl) (i:=14) sc_qcc.nd rfl (Or.inl rfl) rfl)
   (@Bd _ _ _ _ _ (Dc PassesOwn.never rfl (Ct (pv 14)) (Bq (i:=15) sc_qcc.nd rfl (Or.inl rfl))
    (@Bi _ _ _ (Dh (Sy (Sd (Bp (AkB T) (hr.mono (by decide)) rfl T.m_qbk T.F_qbk.kp (Anx T) .nil Bw (@Ba _ _ _ _ _ (pv 6) (@Ba _ _ _ _ _ (pv 13) (@Ba _ _ _ _ _ (pv 12) (@Ba _ _ _ _ _ (pv 15) (@Ba _ _ _ _ _ (pv 11) (@Ba _ _ _ _ _ (pv 10) Be rfl) rfl) rfl) rfl) rfl) rfl))))
    (@Bi _ _ _ (@Cg _ _ _ _ Tm))
    Cv)))
   (@Bd _ _ _ _ _ (Dh (Cf (Ws K hu64) (pv 14) (@Db _ _ _ _ Be) (Ch _))
    (@Bi _ _ _ (@Cg _ _ _ _ Tm))
    Cv)
   (@Bd _ _ _ _ _ (Qd (@Ci _ _ _ _ _ _ _ (Cp K) (pv 12) (@Ci _ _ _ _ _ _ _ (Cp K) (pv 14) (Bv Dq (Bv Fu (pv 5) Bf) (Cn (Ck K) rfl T.z_len PySem.boot_len (@Ba _ _ _ _ _ (pv 14) Be rfl))) (λ_ _=>rfl)) (λ_ _=>rfl)) (Fy (K':=K) (n:=3) rfl rfl (Ce (Bq (i:=16) sc_qcc.nd rfl (Or.inl rfl)) (Ce (Bq (i:=17) sc_qcc.nd rfl (Or.inl rfl)) (Ce (Bq (i:=18) sc_qcc.nd rfl (Or.inl rfl)) Fa)))))
   (@Bd _ _ _ _ _ (Ov 1 [2] ["_law_sign","_law_words_here"] ["_law_words_here"] rfl (Ct (@Ci _ _ _ _ _ _ _ (Df K) (pv 1) Bf (λ_ _=>rfl))) rfl (λj y e1 i e2=>match j,e1,e2 with | 0,e1,e2=>by cases e1;cases e2;exact⟨rfl,rfl,rfl,by decide +kernel⟩ | _+1,_,e2=>by simp at e2) (forall_mem_cons.mpr ⟨rfl,λ_ h=>nomatch h⟩) (by decide +kernel) (λ_ _ _ _=>(Bq (i:=0) (show Nodup (["_law_sign","_law_words_here"]:List Str) by decide +kernel) rfl (Or.inl rfl))) (λ_ _ _ _=>(Jr (Cf Do (Ot hu (pv 1) (pv 0) By ⟨rfl,rfl,rfl,rfl⟩) By (Ch _)))) (λ_ _ _ _=>(pv 0)) rfl (by decide +kernel) rfl (by decide +kernel) (λ_=>rfl) (i:=19) sc_qcc.nd rfl (Or.inl rfl) rfl)
   (@Bd _ _ _ _ _ (Bo (i:=20) sc_qcc.nd rfl (Or.inl rfl) (Bv Ol (Bp (Zt T) (hr.mono (by decide)) rfl T.m_qba T.F_qba.kp (AcE T) .nil Bw (@Ba _ _ _ _ _ (pv 13) (@Ba _ _ _ _ _ (Rv Ou Bf) (@Ba _ _ _ _ _ (Bv Fm (pv 16) Bf) Be rfl) rfl) rfl)) (Bp (Ama T) (hr.mono (by decide)) rfl T.m_qbl T.F_qbl.kp (An8 T) .nil Bw (@Ba _ _ _ _ _ (pv 2) (@Ba _ _ _ _ _ (pv 8) (@Ba _ _ _ _ _ (@Ci _ _ _ _ _ _ _ (Cp K) (pv 19) Bf (λ_ _=>rfl)) Be rfl) rfl) rfl))))
   (@Bd _ _ _ _ _ (Bo (i:=20) sc_qcc.nd rfl (Or.inl rfl) (Bv Ol (pv 20) (Bp (Zt T) (hr.mono (by decide)) rfl T.m_qba T.F_qba.kp (AcE T) .nil Bw (@Ba _ _ _ _ _ (pv 13) (@Ba _ _ _ _ _ (Bv Nq (pv 17) Bf) (@Ba _ _ _ _ _ (Cn (Ck K) rfl T.z_len PySem.boot_len (@Ba _ _ _ _ _ (pv 13) Be rfl)) Be rfl) rfl) rfl))))
   (@Bd _ _ _ _ _ (Bo (i:=21) sc_qcc.nd rfl (Or.inl rfl) (Bp (Aad T) (hr.mono (by decide)) rfl T.m_qbr T.F_qbr.kp (Acv T) .nil Bw (@Ba _ _ _ _ _ (pv 6) (@Ba _ _ _ _ _ (pv 20) (@Ba _ _ _ _ _ (pv 9) (@Ba _ _ _ _ _ (pv 10) Be rfl) rfl) rfl) rfl)))
   (@Bd _ _ _ _ _ (Dh (Cf (AbD K hu64) (Gd (Gc K) (pv 21) Ng (Dw (Bv Fm (pv 16) Bf))) (Gd (Gc K) (pv 11) Ng (Dw (Bv Fm (pv 16) Bf))) (Ch _))
    (@Bi _ _ _ (@Cg _ _ _ _ Tm))
    Cv)
   (@Bi _ _ _ (@Cg _ _ _ _ (AnE (Ja Do (pv 17) (Cn (Ck K) rfl T.z_len PySem.boot_len (@Ba _ _ _ _ _ (pv 13) Be rfl)) (Ch _)) (Re (Ja (Ws K hu64) (Gd (Gc K) (pv 21) (Dw (Bv Nq (pv 17) (Cn (Ck K) rfl T.z_len PySem.boot_len (@Ba _ _ _ _ _ (pv 13) Be rfl)))) Ng) (Gd (Gc K) (pv 11) (Dw (pv 17)) Ng) (Ch _))))))))))))))))))))))))))))))),?_⟩
 try dsimp only [Cm,Cb]
 refine Cu h (by decide) (Bl (Bx (Fr (Bt Bc Bk)))
   (Bl (Bx (EF.eu (Dl (Bu Br Bk))))
   (Bl (Dp (Dv 12 (Bu Cl (Bu Cl (Bu Cl (Bu Cl (Bu Cl (Bu Cl (Bu Cl (Bu Cl (Bu Cl (Bu Cl (Bu Cl (Bu Cl Bk))))))))))))))
   (Bl (Gf (Bu Cl Bk))
   (Bl (Va 3 (Bx (EF.eu (Dl (Bt Bc (Bt Bc (Bu Br Bk)))))))
   (Bl (Bx (Cw (λ_ _ _=>.int _) (EU.eb (Fr (Bt Bc (Bt (EU.eb Bg) Bk)))) (EU.eb (Cw (λ_ _ _=>.int _) (EU.eb Bg) (EU.eb Bg)))))
   (Bl (Bx (Anf (Bt (EF.eb (Od (Bt (EU.eb (Du Bc (EU.eb Bg))) Bk))) (Bt (EF.eb (Od (Bt (EU.eb (Du Bc (EU.eb Bg))) Bk))) (Bt (EF.eb (Od (Bt (EU.eb (Du Bc (EU.eb Bg))) Bk))) Bk)))))
   (Bl (Bx (EF.eu (Dl (Bu Br (Bu (EF.eu (Gx (EF.eb (Ae8 Bc (Dx (EU.eb Bg)) (Dx (EU.eb Bg)) (Dx (EU.eb Bg)))) (Ca (top:=1)) Ji (Cw (λ_ _ _=>.int _) Bc (EU.eb (Cw (λ_ _ _=>.int _) (EU.eb Bg) (EU.eb Bg)))))) Bk)))))
   (Bl (Bx (EF.eu (Dl (Bu Br (Bu (EF.eu (Gx (EF.eb (Ae8 Bc (Dx (EU.eb Bg)) (Dx (EU.eb Bg)) (Dx (EU.eb Bg)))) (Ca (top:=1)) Ji (Cw (λ_ _ _=>.int _) Bc (EU.eb (Cw (λ_ _ _=>.int _) (EU.eb Bg) (EU.eb Bg)))))) Bk)))))
   (Bl (Bx (Cw (λ_ _ _=>.int _) Bc (EU.eb Bg)))
   (Bl (Bx (Cw (λ_ _ _=>.int _) (EU.eb (Cw (λ_ _ _=>.int _) Bc (EU.eb Bg))) (EU.eb Bg)))
   (Bl (Dr (Cy (EU.eb (Fe (EU.eb (Cw (λ_ _ _=>.int _) (EU.eb (Cw (λ_ _ _=>.int _) Bc (EU.eb Bg))) (EU.eb Bg))) (EU.eb Bg))))
    (Bx (Aki (Bt (EU.eb Bg) (Bt (EU.eb (Dk (λ_ _ _=>.int _) (EU.eb (Dk (λ_ _ _=>.int _) Bc (EU.eb Bg))) (EU.eb (Cw (λ_ _ _=>.int _) (EU.eb (Cw (λ_ _ _=>.int _) Bc (EU.eb Bg))) (EU.eb Bg))))) Bk))))
    Dg)
   (Bl (Bx (EF.eu (Dl (Bt Bc (Bt (EF.eb (Od (Bt Bc Bk))) (Bu Br (Bt Bc Bk)))))))
   (Bl (Bx (EF.eu (Dl (Bt Bc (Bt (EF.eb (Od (Bt Bc Bk))) (Bu Br (Bt Bc Bk)))))))
   (Bl (Bx (Akj (Bt Bc (Bt Bc Bk))))
   (Bl (Dr (Yo (Aao (Wn (EU.eb (Aeb Bc)))) (Yo (Aao (Wn (EU.eb (Aeb Bc)))) (Cy (EU.eb (Ab1 (EU.eb (Dy (Bt Bc Bk))) (EU.eb (Dy (Bt Bc Bk))))))))
    (Dz Vm)
    Dg)
   (Bl (Bx (EF.eu (Uq (Bt (EU.eb (Dy (Bt Bc Bk))) Bk) (Ca (top:=1)) (Cy (EU.eb (Oj (EU.eb (Du (EU.eb (Dd Bc Bc)) (EU.eb Bg)))))) Br)))
   (Bl (Qs Br (Ca (top:=22))
    (Dr (Aao (Wn (EU.eb (Fr (Bt Bc (Bu Br (Bu Br (Bt Bc (Bu Br (Bt Bc Bk))))))))))
    (Dz Vm)
    Dg))
   (Bl (Dr (Cy (EU.eb (Td Bc (EF.eb (Dv 0 Bk)))))
    (Dz Vm)
    Dg)
   (Bl (Ae0 (Dd Bc (EU.eb (Dd Bc (EU.eb (Cw (λ_ _ _=>.int _) (EU.eb (Cw (λ_ _ _=>.int _) Bc (EU.eb Bg))) (EU.eb (Dy (Bt Bc Bk)))))))) (Jb (Cr (Ca (top:=22)) (Cr (Ca (top:=22)) (Cr (Ca (top:=22)) Gb)))))
   (Bl (Bx (EF.eu (Gx (EU.eb (Du Bc (EU.eb Bg))) (Ca (top:=1)) (Cy (EU.eb (Fe (EU.eb (Uj Bc Cl)) (EU.eb Cl)))) Br)))
   (Bl (Bx (EF.eu (Rg (EF.eb (Dl (Bu Br (Bt (EU.eb (Zd (λ_ _=>.int _) (EU.eb Bg))) (Bt (EU.eb (Dk (λ_ _ _=>.int _) Bc (EU.eb Bg))) Bk))))) (EF.eb (Dl (Bt Bc (Bt Bc (Bu (Dd Bc (EU.eb Bg)) Bk))))))))
   (Bl (Bx (EF.eu (Rg Bc (EF.eb (Dl (Bu Br (Bt (EU.eb (Dk (λ_ _ _=>.int _) Bc (EU.eb Bg))) (Bt (EU.eb (Dy (Bt Bc Bk))) Bk))))))))
   (Bl (Bx (EF.eu (Dl (Bt Bc (Bt Bc (Bu Br (Bt Bc Bk)))))))
   (Bl (Dr (Cy (EU.eb (Td (EF.eb (Jo Bc Nj (Dx (EU.eb (Dk (λ_ _ _=>.int _) Bc (EU.eb Bg)))))) (EF.eb (Jo Bc Nj (Dx (EU.eb (Dk (λ_ _ _=>.int _) Bc (EU.eb Bg)))))))))
    (Dz Vm)
    Dg)
   (Dz (Amd (EU.eb (Fe Bc (EU.eb (Dy (Bt Bc Bk))))) (Td (EF.eb (Jo Bc (Dx (EU.eb (Dk (λ_ _ _=>.int _) Bc (EU.eb (Dy (Bt Bc Bk)))))) Nj)) (EF.eb (Jo Bc (Dx Bc) Nj)))))))))))))))))))))))))))))) (λps P hp=>?_)
 clear h hu hu64 hr
 obtain⟨ns,rfl,hlen,q⟩:=hp
 walk_at "s"
 ext
 refine⟨ns,rfl,hlen,λf U R J k y ga=>?_⟩
 have bk:=Yq ga.jg ga.hk ga.ht ga.ul ga.hf y
 have gne:=Akd ga
 ext
 refine⟨f,U,R,J,k,y,rfl,ga,?_⟩
 ext
 rotate_left
 ·decide
 unfold g2P
 generalize upG U R (r0G f U).length=W at bk gne
 generalize mtG f y=M at bk gne
 refine⟨f,W,M,J,c36,rfl,by decide,?_⟩
 rw[show (c36.map λw=>PV.lst ((gpF f W M w).map .int))=(c36.map (gpF f W M)).map (λg:List Int=>PV.lst (g.map .int)) by rw[map_map];rfl]
 have g0:∀g∈c36.map (gpF f W M),0<g.length/\g.length<=100:=λg hg=>by
  obtain⟨w,hw,rfl⟩:=mem_map.mp hg
  have:=gne w (AgB w hw)
  exact⟨this.1,by omega⟩
 have gl:(c36.map (gpF f W M)).length=13:=by rw[length_map];rfl
 generalize c36.map (gpF f W M)=gs at g0 gl
 have ix:∀lo,(pick (Oy ns.length lo (some 64) (some 2)) ns).length<=63:=λlo=>Nat.le_trans (AaC _ _) (Nat.le_trans (Aah _ _ _ _) hlen)
 ext1
 refine Jg ?_
 ext1
 refine⟨ns,3,rfl,hlen,?_⟩
 ext1
 walk_at "mb"
 generalize cR ns 3%10^toNat 9=c
 refine Jg ?_
 ext1
 refine⟨3,_,_,rfl,rfl,Gs (j:=3) rfl,?_⟩
 ext1
 refine⟨W,M,J,rfl,bk.so,bk.mo,bk.nd,bk.jo,by have:=bk.ln;omega,?_⟩
 ext1
 refine Jg ?_
 ext1
 all_goals try decide
 have i4:=ix (some 4)
 have i5:=ix (some 5)
 generalize pick (Oy ns.length (some 4) (some 64) (some 2)) ns=p4 at i4
 walk_at "md"
 refine Fq (S:=p4) (enc:=PV.int) (f:=λc=>some (.int (c%10^9))) ?_ (λd hd Z hZ=>?_)
 rotate_left
 ·walk_at "c"
  ext
  walk_at "mb"
  exact hZ
 rw[AkS]
 ext1
 refine⟨gs,_,rfl,⟨by omega,by omega⟩,g0,by rw[length_map];omega,λts tl tin=>?_⟩
 rw[length_map] at tl
 have hl:ts.length<=63:=by omega
 refine Jg ?_
 ext1
 all_goals try decide
 generalize pick (Oy ns.length (some 5) (some 64) (some 2)) ns=p5 at i5
 walk_at "md"
 refine Fq (S:=p5) (enc:=PV.int) (f:=λc=>some (.int (c%10^9))) ?_ (λd hd Z hZ=>?_)
 rotate_left
 ·walk_at "c"
  ext
  walk_at "mb"
  exact hZ
 rw[AkS]
 ext1
 refine⟨gs,_,rfl,⟨by omega,by omega⟩,g0,by rw[length_map];omega,λus ul uin=>?_⟩
 rw[length_map] at ul
 have hu:us.length<=63:=by omega
 obtain⟨kl1,kl2⟩:=AeW W M ts
 refine Jg ?_
 ext1
 all_goals try decide
 generalize c%61=b
 refine Jg ?_
 ext1
 walk_at "ma"
 refine Og (λρ=>∃m:Int,ρ=[.bo (.scr ns),.sh (.tup [.lst ((range 28).map λk=>.int (f k)),.lst (W.map sgP),.lst (M.map prP),.lst (J.map jnP)]),.sh (.dk (kkD W M)),.sh (.lst (c36.map .str)),.sh (.lst (gs.map λg:List Int=>PV.lst (g.map .int))),.sh (.int c),.sh (.bk W M J),.sh (.lst (ts.map .int)),.sh (.lst (us.map .int)),.sh (.int b),.sh (.int m),.un,.un,.un,.un,.un,.un,.un,.un,.un,.un,.un]) (λρ h=>?_) ?_
 rotate_left
 ·ext
  walk_at "ma"
  refine Zh (λh=>?_) (λh=>?_)
  ·ext
   walk_at "ma"
   exact .inl ⟨_,rfl⟩
  ·ext
   exact .inl ⟨_,rfl⟩
 obtain⟨m,rfl⟩:=h
 ext
 refine⟨W,M,J,ts,some b,m,rfl,by omega,?_⟩
 rw[show (some b).getD (obF 0 (knL W M ts))=b from rfl]
 have ll:=Jp (mtF M) (knL W M ts) (bsL W M ts) b m
 ext
 refine⟨W,M,J,ts,b,m,rfl,by omega,?_⟩
 ext
 refine⟨W,M,ts,rfl,by omega,?_⟩
 ext
 rw[length_map,length_map,ll,show (grp (Cj W M) ts).length=(knL W M ts).length from (length_map ..).symm]
 refine Gp (by simp) ?_
 ext
 have dl:(dF (knL W M ts) b m (knL W M ts).length).length<=63:=Nat.le_trans (Si _) (by omega)
 generalize hD:dF (knL W M ts) b m (knL W M ts).length=D at dl
 rw[length_map]
 refine Ui (n:=D.length) (f:=λk=>if Qo D k=true then some (.int (k:Nat)) else none) (by omega) ?_ (λk hk Z hZ=>?_)
 rotate_left
 ·walk_at "c"
  ext
  refine Fh (l:=D) (j:=k) (a:=D[k]) (getElem?_eq_getElem hk) rfl ?_
  rw[show nP D[k]=.tup [.int D[k].1,.int D[k].2.1,opP D[k].2.2] from rfl]
  ext
  try refine⟨2,_,_,rfl,rfl,Gs (j:=2) rfl,?_⟩
  try ext
  rw[show Qo D k=D[k].2.2.isSome by unfold Qo;rw[getElem?_eq_getElem hk];rfl] at hZ
  cases e:D[k].2.2 with
  | none =>
   rw[e] at hZ
   refine Gp (by decide) ?_
   exact hZ
  | some l =>
   rw[e] at hZ
   refine Jl rfl ?_
   ext
   exact hZ
 rw[Aop]
 have hL:∀k∈(range D.length).filter (Qo D),∃a e l,D[k]? = some (a,e,some l):=λk hk=>Aiz (mem_filter.mp hk).2
 have Ll:((range D.length).filter (Qo D)).length<=63:=Nat.le_trans (length_filter_le ..) (by rw[length_range];omega)
 generalize (range D.length).filter (Qo D)=L at hL Ll
 ext
 refine⟨λn ρ=>∃(v:Sl),ρ=[.bo (.scr ns),.sh (.tup [.lst ((range 28).map λk=>.int (f k)),.lst (W.map sgP),.lst (M.map prP),.lst (J.map jnP)]),.sh (.dk (kkD W M)),.sh (.lst (c36.map .str)),.sh (.lst (gs.map λg:List Int=>PV.lst (g.map .int))),.sh (.int c),.sh (.bk W M J),.sh (.lst (ts.map .int)),.sh (.lst (us.map .int)),.sh (.int b),.sh (.int m),.sh (.lst ((Dt (mtF M) (knL W M ts) (bsL W M ts) b m).map .int)),.sh (.lst (D.map nP)),.sh (.lst ((grp (Cj W M) ts).map λg:List Int=>PV.lst (g.map .int))),.sh (.lst (L.map λk:Nat=>PV.int k)),v,.un,.un,.un,.un,.un,.un],⟨_,rfl⟩,?_,?_⟩
 ·rintro n p ρ hp ⟨v,rfl⟩
  rw[getElem?_map] at hp
  obtain⟨k,hk,rfl⟩:=map_eq_some_iff.mp hp
  obtain⟨a,e,l,hx⟩:=hL k (mem_of_getElem? hk)
  ext
  refine⟨W,M,J,ts,b,m,k,a,e,l,by rw[hD],by omega,by rw[hD];exact hx,?_⟩
  ext
  exact⟨_,rfl⟩
 rintro ρ ⟨v,rfl⟩
 ext
 refine Adj (λz=>?_) (λz=>?_)
 ·ext
  exact q
 have L0:0<L.length:=by
  cases L with
  | nil=>exact absurd rfl z
  | cons _ _=>exact Nat.succ_pos _
 ext
 all_goals try (first | decide | exact⟨by decide,by decide⟩ | (rw[length_map];omega))
 rw[length_map]
 have x1:=emod_nonneg (c / 66978) (show (L.length:Int)≠0 by omega)
 have x2:=emod_lt_of_pos (c / 66978) (show (0:Int)<L.length by omega)
 generalize c / 66978%(L.length:Int)=x at x1 x2
 obtain⟨xn,rfl⟩:∃xn:Nat,x=(xn:Int):=⟨x.toNat,by omega⟩
 obtain⟨k,hk⟩:∃k,L[xn]? = some k:=⟨_,getElem?_eq_getElem (by omega)⟩
 obtain⟨a,e,l,hi⟩:=hL k (mem_of_getElem? hk)
 refine Fh (l:=L) (j:=xn) (a:=k) hk rfl ?_
 ext
 refine Fh (l:=D) (j:=k) (a:=(a,e,some l)) hi rfl ?_
 rw[show nP (a,e,some l)=.tup [.int a,.int e,.int l] from rfl]
 ext
 refine⟨by simp,?_⟩
 refine Fq (S:=(range 28).map f) (enc:=PV.int) (f:=λn=>if De W M n="out" then some (.int n) else none) ?_ (λd hd Z hZ=>?_)
 rotate_left
 ·walk_at "c"
  ext
  rw[Tv]
  ext
  by_cases hm:De W M d="out"
  ·rw[decide_eq_true hm]
   rw[if_pos hm] at hZ
   ext
   exact hZ
  ·rw[decide_eq_false hm]
   rw[if_neg hm] at hZ
   ext
   exact hZ
 rw[AiH]
 obtain⟨on1,on2⟩:=gne "out" (by decide +kernel)
 obtain⟨cc,hcc⟩:∃x,(gpF f W M "out")[0]? = some x:=⟨_,getElem?_eq_getElem on1⟩
 have kcc:De W M cc="out":=by
  have:=mem_of_getElem? hcc
  unfold gpF at this
  exact of_decide_eq_true (mem_filter.mp this).2
 subst hD
 obtain⟨k',hk',hb',hx'⟩:=Sk _ _ (mem_of_getElem? hi)
 have hk':(knL W M ts)[a]? = some k':=hk'
 have hee:e=Bm (knL W M ts) a:=congrArg (λx:Nst=>x.2.1) hx'
 have hll:lvF k' (arF b ((dF (knL W M ts) b m a).filter λx=>decide (a<=x.2.1))) m=some l:=(congrArg (λx:Nst=>x.2.2) hx').symm
 have hn:a<(knL W M ts).length:=(List.getElem?_eq_some_iff.mp hk').1
 have el:=Lg (Nat.le_of_lt hn)
 have eg:a+1<=Bm (knL W M ts) a:=by rw[Jv hk' hb'];omega
 have ed1:=AdX (kd:=De W M) (c:=cc) (ke:=[("out" : Str)]) kcc (.inr rfl) us 0
 have edl:=Abi (De W M) us 0
 have El:(edL (De W M) 0 us++replicate (edD (De W M) 0 us) cc).length<=126:=by rw[length_append,length_replicate];omega
 have l2:=Aek (mt:=mtF M) (bs:=bsL W M ts) kl1.symm hk' hb' hll (I':=ndK (De W M) (edL (De W M) 0 us++replicate (edD (De W M) 0 us) cc)) (Ib':=(edL (De W M) 0 us++replicate (edD (De W M) 0 us) cc).filter λn=>!Cj W M n) (AgD ..) ed1
 subst hee
 have gl2:(grp (Cj W M) ts).length=(knL W M ts).length:=(length_map ..).symm
 obtain⟨c1,c2⟩:=AnQ W M ts (edL (De W M) 0 us++replicate (edD (De W M) 0 us) cc) (n:=a+1) (e:=Bm (knL W M ts) a) (by omega) (by omega) (by omega)
 have fl:=Agz (Cj W M) ts (n:=a+1) (e:=Bm (knL W M ts) a) eg
 rw[<- c1,<- c2] at l2
 ext
 refine⟨grp (Cj W M) ts,0,a+1,by rw[show (((a+1:Nat)):Int)=(a:Int)+1 by omega];rfl,by omega,?_,?_⟩
 ·rw[List.drop_zero];omega
 rw[List.drop_zero]
 ext
 refine Fh (l:=gpF f W M "out") (j:=0) (a:=cc) hcc rfl ?_
 ext
 refine⟨W,M,us,cc,rfl,by omega,?_⟩
 generalize edL (De W M) 0 us++replicate (edD (De W M) 0 us) cc=E at l2 El c1 c2
 ext
 all_goals try (first | decide | (simp only [length_append,length_map];omega))
 refine⟨grp (Cj W M) ts,Bm (knL W M ts) a,(grp (Cj W M) ts).length,by rw[length_map],by omega,?_,?_⟩
 ·rw[take_length];omega
 rw[take_length]
 have cl:(((grp (Cj W M) ts).take (a+1)).flatten++E++((grp (Cj W M) ts).drop (Bm (knL W M ts) a)).flatten).length<=300:=by
  rw[length_append,length_append];omega
 ext
 all_goals try (first | decide | (simp only [length_append,length_map];omega))
 rw[<- map_append,<- map_append]
 have kl3:=congrArg length c1
 generalize ((grp (Cj W M) ts).take (a+1)).flatten++E++((grp (Cj W M) ts).drop (Bm (knL W M ts) a)).flatten=X at l2 c1 c2 cl kl3
 refine⟨W,M,J,X,some b,m,rfl,cl,?_⟩
 rw[show (some b).getD (obF 0 (knL W M X))=b from rfl]
 obtain⟨l3,l4⟩:=l2
 have lx:=Jp (mtF M) (knL W M X) (bsL W M X) b m
 rw[kl3,length_append,length_append,length_take,length_drop] at lx
 generalize Dt (mtF M) (knL W M X) (bsL W M X) b m=A at l3 l4 lx
 generalize Dt (mtF M) (knL W M ts) (bsL W M ts) b m=B at l3 l4 ll
 ext
 rw[Jf,Jf,show (a:Int)+1=((a+1:Nat):Int) by omega,Ym,Ym,l3]
 refine AdZ Uy ?_
 ext
 rw[length_map,gl2]
 by_cases ze:Bm (knL W M ts) a=(knL W M ts).length
 ·rw[decide_eq_true (show ((Bm (knL W M ts) a:Nat):Int)=((knL W M ts).length:Int) by omega)]
  ext
  exact q
 rw[decide_eq_false (show ¬((Bm (knL W M ts) a:Nat):Int)=((knL W M ts).length:Int) by omega)]
 ext
 rw[Jf,Jf,An1,length_map,gl2,Agx (xs:=A) (i:=((Bm (knL W M ts) a:Nat):Int) - ((knL W M ts).length:Int)) (k:=(knL W M ts).length - Bm (knL W M ts) a) (by omega) (by omega) (by omega),show A.length - ((knL W M ts).length - Bm (knL W M ts) a)=a+1+(ndK (De W M) E).length by omega,l4]
 refine Aeg Uy ?_
 exact q
end
def _root_.PySem.W.Fast.tw10116704574250260088:Nat:=0
def _root_.PySem.W.Fast.tw10227373260132142536:Nat:=0
def _root_.PySem.W.Fast.tw10357515231226129306:Nat:=0
def _root_.PySem.W.Fast.tw10614210731404615783:Nat:=0
def _root_.PySem.W.Fast.tw10730750844044252209:Nat:=0
def _root_.PySem.W.Fast.tw1078989128158010771:Nat:=0
def _root_.PySem.W.Fast.tw10919994498708252699:Nat:=0
def _root_.PySem.W.Fast.tw11193126531601409950:Nat:=0
def _root_.PySem.W.Fast.tw11394482665571103783:Nat:=0
def _root_.PySem.W.Fast.tw1168497307678469822:Nat:=0
def _root_.PySem.W.Fast.tw11757894077793521509:Nat:=0
def _root_.PySem.W.Fast.tw1192707109121043929:Nat:=0
def _root_.PySem.W.Fast.tw11975555291294483953:Nat:=0
def _root_.PySem.W.Fast.tw12036305520876095986:Nat:=0
def _root_.PySem.W.Fast.tw12104924056868802846:Nat:=0
def _root_.PySem.W.Fast.tw12297535137521279739:Nat:=0
def _root_.PySem.W.Fast.tw12366438327794903788:Nat:=0
def _root_.PySem.W.Fast.tw12451686630598070779:Nat:=0
def _root_.PySem.W.Fast.tw12487787998923239406:Nat:=0
def _root_.PySem.W.Fast.tw12512544934747697077:Nat:=0
def _root_.PySem.W.Fast.tw12521184916238525898:Nat:=0
def _root_.PySem.W.Fast.tw12621489702919778259:Nat:=0
def _root_.PySem.W.Fast.tw12654932072626439821:Nat:=0
def _root_.PySem.W.Fast.tw12771880002440778592:Nat:=0
def _root_.PySem.W.Fast.tw12831384283764030847:Nat:=0
def _root_.PySem.W.Fast.tw12862994144954663902:Nat:=0
def _root_.PySem.W.Fast.tw12936017086240372520:Nat:=0
def _root_.PySem.W.Fast.tw13053447657888061290:Nat:=0
def _root_.PySem.W.Fast.tw13401214005571172513:Nat:=0
def _root_.PySem.W.Fast.tw13471521112483087585:Nat:=0
def _root_.PySem.W.Fast.tw1347428092138150171:Nat:=0
def _root_.PySem.W.Fast.tw13530816696530617896:Nat:=0
def _root_.PySem.W.Fast.tw13572794859854672812:Nat:=0
def _root_.PySem.W.Fast.tw13588313324056190657:Nat:=0
def _root_.PySem.W.Fast.tw13669536899083408761:Nat:=0
def _root_.PySem.W.Fast.tw13683312361493914426:Nat:=0
def _root_.PySem.W.Fast.tw13713575004361495328:Nat:=0
def _root_.PySem.W.Fast.tw13785152049987393147:Nat:=0
def _root_.PySem.W.Fast.tw13919835194385754490:Nat:=0
def _root_.PySem.W.Fast.tw14272858002056205016:Nat:=0
def _root_.PySem.W.Fast.tw14682397445543687362:Nat:=0
def _root_.PySem.W.Fast.tw14701925748473894917:Nat:=0
def _root_.PySem.W.Fast.tw14827549766100817448:Nat:=0
def _root_.PySem.W.Fast.tw14918733969807375845:Nat:=0
def _root_.PySem.W.Fast.tw1506612614854992471:Nat:=0
def _root_.PySem.W.Fast.tw15066208984769133320:Nat:=0
def _root_.PySem.W.Fast.tw1515817372091679502:Nat:=0
def _root_.PySem.W.Fast.tw15310880566043504762:Nat:=0
def _root_.PySem.W.Fast.tw15426469973972415275:Nat:=0
def _root_.PySem.W.Fast.tw15456664803666551619:Nat:=0
def _root_.PySem.W.Fast.tw15637921789267171968:Nat:=0
def _root_.PySem.W.Fast.tw15650245630706370129:Nat:=0
def _root_.PySem.W.Fast.tw15679910349432741538:Nat:=0
def _root_.PySem.W.Fast.tw15810439901200874012:Nat:=0
def _root_.PySem.W.Fast.tw15850353721531155874:Nat:=0
def _root_.PySem.W.Fast.tw15875992177467364624:Nat:=0
def _root_.PySem.W.Fast.tw15944649763811152448:Nat:=0
def _root_.PySem.W.Fast.tw1602412479783566510:Nat:=0
def _root_.PySem.W.Fast.tw16036435264547584788:Nat:=0
def _root_.PySem.W.Fast.tw16298296766729945255:Nat:=0
def _root_.PySem.W.Fast.tw16604046251987749090:Nat:=0
def _root_.PySem.W.Fast.tw16746215316361457481:Nat:=0
def _root_.PySem.W.Fast.tw16750727573012634081:Nat:=0
def _root_.PySem.W.Fast.tw17034151200819346115:Nat:=0
def _root_.PySem.W.Fast.tw17118724332508071235:Nat:=0
def _root_.PySem.W.Fast.tw17242894850178504572:Nat:=0
def _root_.PySem.W.Fast.tw1737221988056142232:Nat:=0
def _root_.PySem.W.Fast.tw1749287593879580097:Nat:=0
def _root_.PySem.W.Fast.tw17609903902350252506:Nat:=0
def _root_.PySem.W.Fast.tw17916460212175359799:Nat:=0
def _root_.PySem.W.Fast.tw1800724302689772656:Nat:=0
def _root_.PySem.W.Fast.tw18023928150210589254:Nat:=0
def _root_.PySem.W.Fast.tw18207575751225464194:Nat:=0
def _root_.PySem.W.Fast.tw1836860040920423012:Nat:=0
def _root_.PySem.W.Fast.tw20061924891613815:Nat:=0
def _root_.PySem.W.Fast.tw2020599467515323950:Nat:=0
def _root_.PySem.W.Fast.tw2023481226241841708:Nat:=0
def _root_.PySem.W.Fast.tw2038735222450869451:Nat:=0
def _root_.PySem.W.Fast.tw2753560670653770557:Nat:=0
def _root_.PySem.W.Fast.tw2844732813639881665:Nat:=0
def _root_.PySem.W.Fast.tw2845836783976957527:Nat:=0
def _root_.PySem.W.Fast.tw3314035456525865664:Nat:=0
def _root_.PySem.W.Fast.tw3397423997273040402:Nat:=0
def _root_.PySem.W.Fast.tw349545683175055695:Nat:=0
def _root_.PySem.W.Fast.tw4064210384691587096:Nat:=0
def _root_.PySem.W.Fast.tw4467755890212435993:Nat:=0
def _root_.PySem.W.Fast.tw4517666104521480780:Nat:=0
def _root_.PySem.W.Fast.tw4551871406708656892:Nat:=0
def _root_.PySem.W.Fast.tw500230620186602620:Nat:=0
def _root_.PySem.W.Fast.tw5071743017964747873:Nat:=0
def _root_.PySem.W.Fast.tw5205099236987258017:Nat:=0
def _root_.PySem.W.Fast.tw5384732050652965107:Nat:=0
def _root_.PySem.W.Fast.tw5416684897869290621:Nat:=0
def _root_.PySem.W.Fast.tw5478791787634901845:Nat:=0
def _root_.PySem.W.Fast.tw5496676351474160329:Nat:=0
def _root_.PySem.W.Fast.tw5580591137962151636:Nat:=0
def _root_.PySem.W.Fast.tw5629685543772146921:Nat:=0
def _root_.PySem.W.Fast.tw5720146615480845712:Nat:=0
def _root_.PySem.W.Fast.tw5873427327172031349:Nat:=0
def _root_.PySem.W.Fast.tw5963655473358064293:Nat:=0
def _root_.PySem.W.Fast.tw6127648511319110434:Nat:=0
def _root_.PySem.W.Fast.tw6135361394856161098:Nat:=0
def _root_.PySem.W.Fast.tw6783375134086181593:Nat:=0
def _root_.PySem.W.Fast.tw6937725478490907495:Nat:=0
def _root_.PySem.W.Fast.tw7368936918500190660:Nat:=0
def _root_.PySem.W.Fast.tw7488206466444487809:Nat:=0
def _root_.PySem.W.Fast.tw7693007481143064681:Nat:=0
def _root_.PySem.W.Fast.tw7840420876422894183:Nat:=0
def _root_.PySem.W.Fast.tw8097310451697344460:Nat:=0
def _root_.PySem.W.Fast.tw838298424503878425:Nat:=0
def _root_.PySem.W.Fast.tw8430417428785203166:Nat:=0
def _root_.PySem.W.Fast.tw8606582004165889819:Nat:=0
def _root_.PySem.W.Fast.tw8623237211647983837:Nat:=0
def _root_.PySem.W.Fast.tw8670658945726550823:Nat:=0
def _root_.PySem.W.Fast.tw8673741864474322202:Nat:=0
def _root_.PySem.W.Fast.tw8869999832375917793:Nat:=0
def _root_.PySem.W.Fast.tw8885069747897840447:Nat:=0
def _root_.PySem.W.Fast.tw9068421204641790126:Nat:=0
def _root_.PySem.W.Fast.tw9221869971389592637:Nat:=0
def _root_.PySem.W.Fast.tw9232583665297239353:Nat:=0
def _root_.PySem.W.Fast.tw9834418045085010711:Nat:=0
abbrev fnD(x q:Str)(st:Stmt)(dV kV doc pm:Value)(an:Option Addr)(cdv ct:Value):FuncData:=fnOf x q (Js st) (Gr st) (Bs st) dV kV doc pm an cdv ct
def FK(K:Frag)(a:Addr)(n:Str)(st:Stmt):Prop:=nsIn K mainGlobals n=some (some (.ref a))/\∃d,Fun K n n st a d
theorem FK.mk'{K:Frag}{n:Str}{st:Stmt}{f:Addr}{oc kV doc pm cdv ct:Value}{od an:Option Addr}{osl:Array (Option Value)}(b:nsIn K mainGlobals n=some (some (.ref f)))(l:K.lookup f=some ⟨oc,od,.func (fnD n n st .none kV doc pm an cdv ct),osl⟩)(c:codeIn K cdv n=true)(k:keepIn K (.ref f)=true):FK K f n st:=⟨b,_,Tc l c k⟩
theorem FK.get{K:Frag}{h:Heap}{mg:Str->Option Value}{a:Addr}{n:Str}{st:Stmt}(z:FK K a n st)(X:K.In h)(G:h.Ns mainGlobals mg):∃d,Fun K n n st a d/\mg n=some (.ref a):=by
 obtain⟨b,d,F⟩:=z
 exact⟨d,F,mg_of X G b⟩
theorem all_mk{l:PySem.W.OpenLaw}{w:World}{K:Frag}{h:Heap}{mg:Str->Option Value}{fa:Addr}(X:K.In h)(G:h.Ns mainGlobals mg)(hfa:mg "law"=some (.ref fa)){x00 x01 x02 x03 x04 x05 x06 x07 x08 x09 x0a x0b x0c x0d x0e x0f x0g x0h x0i x0j x0k x0l x0m x0n x0o x0p x0q x0r x0s x0t x0u x0v x0w x0x x0y x0z x10 x11 x12 x13 x14 x15 x16 x17 x18 x19 x1a x1b x1c x1d x1e x1f x1g x1h x1i:Addr}{x1j:Addr}{x1k:Value}{x1l:Option Addr}{x1m:Nat}{x1n:Array (Option Value)}{x1o:Addr}{x1p x1q:Value}{x1r:Option Addr}{x1s:Nat}{x1t:Array (Option Value)}{x1u:Option Addr}{x1v:Array Value}{x1w:Nat}{x1x:Array (Option Value)}{x1y:Option Addr}{x1z:Array Value}{x20:Nat}{x21:Array (Option Value)}{x22:Option Addr}{x23:Array Value}{x24:Nat}{x25:Array (Option Value)}{x26:Value}{x27:Option Addr}{x28:Array Value}{x29:Nat}{x2a:Array (Option Value)}{x2b x2c x2d x2e x2f x2g x2h x2i x2j x2k x2l x2m:Option Addr}{x2n x2o x2p x2q x2r x2s:Array (Option Value)}{x2t x2u x2v x2w x2x x2y x2z x30 x31 x32 x33 x34 x35 x36 x37 x38 x39 x3a x3b x3c x3d x3e x3f x3g x3h x3i x3j x3k x3l x3m x3n x3o x3p x3q x3r x3s:Value}
  (x3t:nsIn K mainGlobals "Book"=some (some (.ref x1e)))
  (x3u:FK K x00 "_law_signs" AcZ)
  (x3v:FK K x01 "_law_told" AcI)
  (x3w:FK K x02 "_law_joins" AbM)
  (x3x:FK K x03 "_law_cell_at" Af3)
  (x3y:FK K x04 "_law_lists" AcQ)
  (x3z:FK K x05 "_law_words" Acw)
  (x40:FK K x06 "_law_groups" Agl)
  (x41:FK K x07 "refuse_unless" AfF)
  (x42:FK K x08 "check_tuples" Af6)
  (x43:FK K x09 "is_whole_number" AgO)
  (x44:FK K x0a "is_sign" AbV)
  (x45:FK K x0b "add_kind" Ab3)
  (x46:FK K x0c "is_told_kind" AgE)
  (x47:FK K x0d "is_rank_of" AfH)
  (x48:FK K x0e "kinds_told" Af0)
  (x49:FK K x0f "ranks_told" Acz)
  (x4a:FK K x0g "both_ways" AbZ)
  (x4b:FK K x0h "kind_among" AgK)
  (x4c:FK K x0i "check_join" AgH)
  (x4d:FK K x0j "ends_in_time" AfI)
  (x4e:FK K x0k "pairs_told" AcF)
  (x4f:FK K x0l "wholes_told" Afl)
  (x4g:findIn K (.ref x1e) "__init__"=some (some (.ref x0m)))
  (x4h:isFn K (.ref x0m)=true)
  (x4i:K.lookup x0m=some ⟨x2t,x2b,.func (fnD "__init__" "Book.__init__" Yw .none x2u x2v x2w x2c x2x x2y),x2n⟩)
  (x4j:codeIn K x2x "Book.__init__"=true)
  (x4k:keepIn K (.ref x0m)=true)
  (x4l:FK K x0n "_law_text" AcJ)
  (x4m:findIn K (.ref x1e) "kind"=some (some (.ref x0o)))
  (x4n:isFn K (.ref x0o)=true)
  (x4o:K.lookup x0o=some ⟨x2z,x2d,.func (fnD "kind" "Book.kind" Yk .none x30 x31 x32 x2e x33 x34),x2o⟩)
  (x4p:codeIn K x33 "Book.kind"=true)
  (x4q:keepIn K (.ref x0o)=true)
  (x4r:FK K x0p "wholes_of" AbO)
  (x4s:FK K x0q "kind_of_whole" AgI)
  (x4t:FK K x0r "kinds_of" AcL)
  (x4u:FK K x0s "own_base" AbU)
  (x4v:FK K x0t "base_or_own" AfQ)
  (x4w:FK K x0u "level_within" Af4)
  (x4x:nsIn K mainGlobals "nests_of"=some (some (.ref x0v)))
  (x4y:K.lookup x0v=some ⟨x35,x2f,.func (fnD "nests_of" "nests_of" Yu (.ref x1j) x36 x37 x38 x2g x39 x3a),x2p⟩)
  (x4z:codeIn K x39 "nests_of"=true)
  (x50:keepIn K (.ref x0v)=true)
  (x51:K.lookup x1j=some ⟨.type "tuple",x1l,.seq [x1k].toArray x1m,x1n⟩)
  (x52:Vals [.int 20] [x1k])
  (x53:FK K x0w "stretch_rows" Afu)
  (x54:FK K x0x "leading_ways" AfN)
  (x55:findIn K (.ref x1e) "mate"=some (some (.ref x0y)))
  (x56:isFn K (.ref x0y)=true)
  (x57:K.lookup x0y=some ⟨x3b,x2h,.func (fnD "mate" "Book.mate" Yn .none x3c x3d x3e x2i x3f x3g),x2q⟩)
  (x58:codeIn K x3f "Book.mate"=true)
  (x59:keepIn K (.ref x0y)=true)
  (x5a:FK K x0z "pairs_in" Acd)
  (x5b:FK K x10 "last_ways" Ab9)
  (x5c:FK K x11 "ways_filled" AgN)
  (x5d:FK K x12 "way_of_pair" AfA)
  (x5e:FK K x13 "ways_with_pairs" Agg)
  (x5f:FK K x14 "ways_in_row" AfM)
  (x5g:FK K x15 "way_of_level" AfR)
  (x5h:FK K x16 "level_by_way" Agw)
  (x5i:FK K x17 "levels_in_row" Afi)
  (x5j:nsIn K mainGlobals "levels_of"=some (some (.ref x18)))
  (x5k:K.lookup x18=some ⟨x3h,x2j,.func (fnD "levels_of" "levels_of" Yh (.ref x1o) x3i x3j x3k x2k x3l x3m),x2r⟩)
  (x5l:codeIn K x3l "levels_of"=true)
  (x5m:keepIn K (.ref x18)=true)
  (x5n:K.lookup x1o=some ⟨.type "tuple",x1r,.seq [x1p,x1q].toArray x1s,x1t⟩)
  (x5o:Vals [.non] [x1p])
  (x5p:Vals [.int 20] [x1q])
  (x5q:FK K x19 "_law_wholes" Acg)
  (x5r:FK K x1a "_law_inside" AbQ)
  (x5s:FK K x1b "_law_ended" Ack)
  (x5t:FK K x1c "_law_alone" AcK)
  (x5u:nsIn K mainGlobals "law"=some (some (.ref x1d)))
  (x5v:K.lookup x1d=some ⟨x3n,x2l,.func (fnD "law" "law" Vj .none x3o x3p x3q x2m x3r x3s),x2s⟩)
  (x5w:codeIn K x3r "law"=true)
  (x5x:keepIn K (.ref x1d)=true)
  (x5y:plainGet K x1e Str.empty=true)
  (x5z:hasDictIn K x1e=true)
  (x60:plainOver K x1e=true)
  (x61:findIn K (.ref x1e) "__setattr__"=some (some (.builtin "object.__setattr__")))
  (x62:makesIn K x1e=true)
  (x63:keepIn K (.ref x1e)=true)
  (x64:findIn K (.ref x1e) "kinds"=some none)
  (x65:findIn K (.ref x1e) "ranks"=some none)
  (x66:findIn K (.ref x1e) "mates"=some none)
  (x67:findIn K (.ref x1e) "pairs"=some none)
  (x68:findIn K (.ref x1e) "wholes"=some none)
  (x69:nsIn K mainGlobals "bool"=some none)
  (x6a:nsIn K mainGlobals "enumerate"=some none)
  (x6b:nsIn K mainGlobals "int"=some none)
  (x6c:nsIn K mainGlobals "isinstance"=some none)
  (x6d:nsIn K mainGlobals "len"=some none)
  (x6e:nsIn K mainGlobals "list"=some none)
  (x6f:nsIn K mainGlobals "max"=some none)
  (x6g:nsIn K mainGlobals "min"=some none)
  (x6h:nsIn K mainGlobals "range"=some none)
  (x6i:nsIn K mainGlobals "reversed"=some none)
  (x6j:nsIn K mainGlobals "str"=some none)
  (x6k:nsIn K mainGlobals "tuple"=some none)
  (x6l:nsIn K mainGlobals "zip"=some none)
  (x6m:nsIn K mainGlobals "BEGINNINGS"=some (some (.ref x1f)))
  (x6n:K.lookup x1f=some ⟨.type "tuple",x1u,.seq x1v x1w,x1x⟩)
  (x6o:x1v.size<=sizeLine)
  (x6p:Vals [.str "forein",.str "backin"] x1v.toList)
  (x6q:nsIn K mainGlobals "JOINED_KINDS"=some (some (.ref x1g)))
  (x6r:K.lookup x1g=some ⟨.type "tuple",x1y,.seq x1z x20,x21⟩)
  (x6s:x1z.size<=sizeLine)
  (x6t:Vals [.str "fore",.str "back",.str "num",.str "blank",.str "plain"] x1z.toList)
  (x6u:nsIn K mainGlobals "LEADING_KINDS"=some (some (.ref x1h)))
  (x6v:K.lookup x1h=some ⟨.type "tuple",x22,.seq x23 x24,x25⟩)
  (x6w:x23.size<=sizeLine)
  (x6x:Vals [.str "fore",.str "back",.str "num"] x23.toList)
  (x6y:nsIn K mainGlobals "MOST_GOINGS"=some (some x26))
  (x6z:RelV (.int 7) x26)
  (x70:nsIn K mainGlobals "TOLD_KINDS"=some (some (.ref x1i)))
  (x71:K.lookup x1i=some ⟨.type "tuple",x27,.seq x28 x29,x2a⟩)
  (x72:x28.size<=sizeLine)
  (x73:Vals [.str "fore",.str "back",.str "num",.str "blank",.str "mark",.str "forein",.str "backin",.str "out"] x28.toList)
  : ∃fd:FuncData,(∀(s:Shared) (v:Value),BindsTo s fd ⟨[v],[]⟩ [("_law_script",v)])/\∀base:Heap,K.In base->base.Ns mainGlobals mg->FnOk l.prog w K mg base CX0 9 fa fd ["_law_script"] (Vl K):=by
 have e:=hfa.symm.trans (mg_of X G x5u)
 cases e
 obtain⟨_,F_qbp,m_qbp⟩:=x3u.get X G
 obtain⟨_,F_qbw,m_qbw⟩:=x3v.get X G
 obtain⟨_,F_qbm,m_qbm⟩:=x3w.get X G
 obtain⟨_,F_qp,m_qp⟩:=x3x.get X G
 obtain⟨_,F_qbo,m_qbo⟩:=x3y.get X G
 obtain⟨_,F_qbq,m_qbq⟩:=x3z.get X G
 obtain⟨_,F_qz,m_qz⟩:=x40.get X G
 obtain⟨_,F_qe,m_qe⟩:=x41.get X G
 obtain⟨_,F_qf,m_qf⟩:=x42.get X G
 obtain⟨_,F_qa,m_qa⟩:=x43.get X G
 obtain⟨_,F_qca,m_qca⟩:=x44.get X G
 obtain⟨_,F_qbt,m_qbt⟩:=x45.get X G
 obtain⟨_,F_qh,m_qh⟩:=x46.get X G
 obtain⟨_,F_qw,m_qw⟩:=x47.get X G
 obtain⟨_,F_qy,m_qy⟩:=x48.get X G
 obtain⟨_,F_qbd,m_qbd⟩:=x49.get X G
 obtain⟨_,F_qbi,m_qbi⟩:=x4a.get X G
 obtain⟨_,F_qx,m_qx⟩:=x4b.get X G
 obtain⟨_,F_qv,m_qv⟩:=x4c.get X G
 obtain⟨_,F_qg,m_qg⟩:=x4d.get X G
 obtain⟨_,F_qbc,m_qbc⟩:=x4e.get X G
 obtain⟨_,F_qt,m_qt⟩:=x4f.get X G
 obtain⟨_,F_qbv,m_qbv⟩:=x4l.get X G
 obtain⟨_,F_qbs,m_qbs⟩:=x4r.get X G
 obtain⟨_,F_qc,m_qc⟩:=x4s.get X G
 obtain⟨_,F_qbu,m_qbu⟩:=x4t.get X G
 obtain⟨_,F_qby,m_qby⟩:=x4u.get X G
 obtain⟨_,F_qo,m_qo⟩:=x4v.get X G
 obtain⟨_,F_qk,m_qk⟩:=x4w.get X G
 obtain⟨_,F_ql,m_ql⟩:=x53.get X G
 obtain⟨_,F_qi,m_qi⟩:=x54.get X G
 obtain⟨_,F_qbz,m_qbz⟩:=x5a.get X G
 obtain⟨_,F_qbj,m_qbj⟩:=x5b.get X G
 obtain⟨_,F_qr,m_qr⟩:=x5c.get X G
 obtain⟨_,F_qq,m_qq⟩:=x5d.get X G
 obtain⟨_,F_qb,m_qb⟩:=x5e.get X G
 obtain⟨_,F_qs,m_qs⟩:=x5f.get X G
 obtain⟨_,F_qm,m_qm⟩:=x5g.get X G
 obtain⟨_,F_qj,m_qj⟩:=x5h.get X G
 obtain⟨_,F_qd,m_qd⟩:=x5i.get X G
 obtain⟨_,F_qbb,m_qbb⟩:=x5q.get X G
 obtain⟨_,F_qba,m_qba⟩:=x5r.get X G
 obtain⟨_,F_qbl,m_qbl⟩:=x5s.get X G
 obtain⟨_,F_qbk,m_qbk⟩:=x5t.get X G
 have T:Txt K mg ⟨x00,_,x01,_,x02,_,x03,_,x04,_,x05,_,x06,_,x07,_,x08,_,x09,_,x0a,_,x0b,_,x0c,_,x0d,_,x0e,_,x0f,_,x0g,_,x0h,_,x0i,_,x0j,_,x0k,_,x0l,_,x0m,_,x0n,_,x0o,_,x0p,_,x0q,_,x0r,_,x0s,_,x0t,_,x0u,_,x0v,_,x1j,x1k,x0w,_,x0x,_,x0y,_,x0z,_,x10,_,x11,_,x12,_,x13,_,x14,_,x15,_,x16,_,x17,_,x18,_,x1o,x1p,x1q,x19,_,x1a,_,x1b,_,x1c,_,fa,_,x1e,x1f,x1g,x1h,x1i⟩:={
  F_qbp,m_qbp,
  F_qbw,m_qbw,
  F_qbm,m_qbm,
  F_qp,m_qp,
  F_qbo,m_qbo,
  F_qbq,m_qbq,
  F_qz,m_qz,
  F_qe,m_qe,
  F_qf,m_qf,
  F_qa,m_qa,
  F_qca,m_qca,
  F_qbt,m_qbt,
  F_qh,m_qh,
  F_qw,m_qw,
  F_qy,m_qy,
  F_qbd,m_qbd,
  F_qbi,m_qbi,
  F_qx,m_qx,
  F_qv,m_qv,
  F_qg,m_qg,
  F_qbc,m_qbc,
  F_qt,m_qt,
  F_qbe:=Tc (st:=Yw) x4i x4j x4k,
  F_qbv,m_qbv,
  F_qbf:=Tc (st:=Yk) x4o x4p x4q,
  M_qbf:=⟨x4m,x4n,x4q⟩,
  F_qbs,m_qbs,
  F_qc,m_qc,
  F_qbu,m_qbu,
  F_qby,m_qby,
  F_qo,m_qo,
  F_qk,m_qk,
  F_qbx:=Abg (st:=Yu) x4y x4z x50 x51,
  w_nests_of_0:=x52,
  m_qbx:=mg_of X G x4x,
  F_ql,m_ql,
  F_qi,m_qi,
  F_qbg:=Tc (st:=Yn) x57 x58 x59,
  M_qbg:=⟨x55,x56,x59⟩,
  F_qbz,m_qbz,
  F_qbj,m_qbj,
  F_qr,m_qr,
  F_qq,m_qq,
  F_qb,m_qb,
  F_qs,m_qs,
  F_qm,m_qm,
  F_qj,m_qj,
  F_qd,m_qd,
  F_qbr:=Abg (st:=Yh) x5k x5l x5m x5n,
  w_levels_of_0:=x5o,
  w_levels_of_1:=x5p,
  m_qbr:=mg_of X G x5j,
  F_qbb,m_qbb,
  F_qba,m_qba,
  F_qbl,m_qbl,
  F_qbk,m_qbk,
  F_qcc:=Tc (st:=Vj) x5v x5w x5x,
  m_qcc:=mg_of X G x5u,
  m_Book:=mg_of X G x3t,
  cl_Book:=⟨x5y,x5z,x60,x61⟩,
  K_Book:=⟨x62,x4g,x4h,x63⟩,
  n_Book_kinds:=x64,
  n_Book_ranks:=x65,
  n_Book_mates:=x66,
  n_Book_pairs:=x67,
  n_Book_wholes:=x68,
  z_bool:=mg_none_of X G x69,
  z_enumerate:=mg_none_of X G x6a,
  z_int:=mg_none_of X G x6b,
  z_isinstance:=mg_none_of X G x6c,
  z_len:=mg_none_of X G x6d,
  z_list:=mg_none_of X G x6e,
  z_max:=mg_none_of X G x6f,
  z_min:=mg_none_of X G x6g,
  z_range:=mg_none_of X G x6h,
  z_reversed:=mg_none_of X G x6i,
  z_str:=mg_none_of X G x6j,
  z_tuple:=mg_none_of X G x6k,
  z_zip:=mg_none_of X G x6l,
  g_BEGINNINGS:=mg_of X G x6m,
  q_BEGINNINGS:=λ_=>.inr ⟨_,_,_,x6n,rfl,rfl,x6o,x6p⟩,
  g_JOINED_KINDS:=mg_of X G x6q,
  q_JOINED_KINDS:=λ_=>.inr ⟨_,_,_,x6r,rfl,rfl,x6s,x6t⟩,
  g_LEADING_KINDS:=mg_of X G x6u,
  q_LEADING_KINDS:=λ_=>.inr ⟨_,_,_,x6v,rfl,rfl,x6w,x6x⟩,
  g_MOST_GOINGS:=⟨_,mg_of X G x6y,x6z⟩,
  g_TOLD_KINDS:=mg_of X G x70,
  q_TOLD_KINDS:=λ_=>.inr ⟨_,_,_,x71,rfl,rfl,x72,x73⟩ }
 exact⟨fnD "law" "law" Vj .none x3o x3p x3q x2m x3r x3s,λs v=>.of_eq rfl,λbase _ _=>(Amj T).imp Ai4⟩
theorem walk{l:PySem.W.OpenLaw}{q:Program}{loose:List Str}{XP:(Str->Option Value)->Heap->Prop}{YP:World->Heap->Prop}{d:DefRec}{K:Params->Frag}(hn:l.most=some 63)(hdf:d.params.defaults=[])
  (hY:∀(w:World) (h:Heap),YP w h->(K w.params).In h)
  (F:∀(w:World) (mg:Str->Option Value) (fa:Addr) (h:Heap),(K w.params).In h->h.Ns mainGlobals mg->mg d.name=some (.ref fa) ->
   ∃fd:FuncData,(∀(s:Shared) (u:Value),BindsTo s fd ⟨[u],[]⟩ [("_law_script",u)])/\∀base:Heap,(K w.params).In base->base.Ns mainGlobals mg->FnOk l.prog w (K w.params) mg base CX0 9 fa fd ["_law_script"] (Vl (K w.params))) :
  PySem.W.WalkO q loose XP YP l.row.toRowW d [] (λf vs=>PySem.call f vs) :=
 L2.AoU (n:=63) (k:=9) (x:="_law_script") (CX:=λw=>CX0) (sp:=λw=>Vl (K w.params)) hn (by decide) hdf ⟨rfl,by decide,by decide⟩ hY F (λ_ _ a ns hl _ hS=>⟨a,ns,rfl,hS,hl,λ_=>rfl⟩) λ_ _ _ _ _ z=>z
end My
open PySem PySem.W PyProof.Rows
local macro_rules | `(tactic| walk_at "f")=>`(tactic| (refine' My.FK.mk' ?a ?b ?c ?d; (case a=>k_is); (case b=>k_is); (case c=>k_is); (case d=>k_is)))
set_option maxRecDepth 100000 in
set_option maxHeartbeats 0 in
theorem PySem.Challenge.cw_bothhands_k36_whole_inside_and_without_holds : PySem.Challenge.rw_bothhands_k36_whole_inside_and_without.Holds := by
 w_on;o_law;k_head;(case hw=>w_witness2)
 k_fill
 refine My.walk (l:=PySem.Challenge.rw_bothhands_k36_whole_inside_and_without) rfl rfl (λw h Y=>kIn_of Y) ?F
 case F =>
  intro w mg fa h KX G hmg
  refine' My.all_mk KX G hmg ?x3t ?x3u ?x3v ?x3w ?x3x ?x3y ?x3z ?x40 ?x41 ?x42 ?x43 ?x44 ?x45 ?x46 ?x47 ?x48 ?x49 ?x4a ?x4b ?x4c ?x4d ?x4e ?x4f ?x4g ?x4h ?x4i ?x4j ?x4k ?x4l ?x4m ?x4n ?x4o ?x4p ?x4q ?x4r ?x4s ?x4t ?x4u ?x4v ?x4w ?x4x ?x4y ?x4z ?x50 ?x51 ?x52 ?x53 ?x54 ?x55 ?x56 ?x57 ?x58 ?x59 ?x5a ?x5b ?x5c ?x5d ?x5e ?x5f ?x5g ?x5h ?x5i ?x5j ?x5k ?x5l ?x5m ?x5n ?x5o ?x5p ?x5q ?x5r ?x5s ?x5t ?x5u ?x5v ?x5w ?x5x ?x5y ?x5z ?x60 ?x61 ?x62 ?x63 ?x64 ?x65 ?x66 ?x67 ?x68 ?x69 ?x6a ?x6b ?x6c ?x6d ?x6e ?x6f ?x6g ?x6h ?x6i ?x6j ?x6k ?x6l ?x6m ?x6n ?x6o ?x6p ?x6q ?x6r ?x6s ?x6t ?x6u ?x6v ?x6w ?x6x ?x6y ?x6z ?x70 ?x71 ?x72 ?x73
  (case x3t=>k_is)
  (case x3u | x3v | x3w | x3x | x3y | x3z | x40 | x41 | x42 | x43 | x44 | x45 | x46 | x47 | x48 | x49 | x4a | x4b | x4c | x4d | x4e | x4f=>walk_at "f")
  (case x4g | x4h | x4i | x4j | x4k=>k_is)
  (case x4l=>walk_at "f")
  (case x4m | x4n | x4o | x4p | x4q=>k_is)
  (case x4r | x4s | x4t | x4u | x4v | x4w=>walk_at "f")
  (case x4x | x4y | x4z | x50 | x51=>k_is)
  (case x52=>exact .cons ⟨_,rfl⟩ .nil)
  (case x53 | x54=>walk_at "f")
  (case x55 | x56 | x57 | x58 | x59=>k_is)
  (case x5a | x5b | x5c | x5d | x5e | x5f | x5g | x5h | x5i=>walk_at "f")
  (case x5j | x5k | x5l | x5m | x5n=>k_is)
  (case x5o=>exact .cons rfl .nil)
  (case x5p=>exact .cons ⟨_,rfl⟩ .nil)
  (case x5q | x5r | x5s | x5t=>walk_at "f")
  (case x5u | x5v | x5w | x5x | x5y | x5z | x60 | x61 | x62 | x63 | x64 | x65 | x66 | x67 | x68 | x69 | x6a | x6b | x6c | x6d | x6e | x6f | x6g | x6h | x6i | x6j | x6k | x6l | x6m | x6n=>k_is)
  (case x6o=>decide)
  (case x6p=>exact .cons ⟨_,rfl⟩ (.cons ⟨_,rfl⟩ (.nil)))
  (case x6q | x6r=>k_is)
  (case x6s=>decide)
  (case x6t=>exact .cons ⟨_,rfl⟩ (.cons ⟨_,rfl⟩ (.cons ⟨_,rfl⟩ (.cons ⟨_,rfl⟩ (.cons ⟨_,rfl⟩ (.nil))))))
  (case x6u | x6v=>k_is)
  (case x6w=>decide)
  (case x6x=>exact .cons ⟨_,rfl⟩ (.cons ⟨_,rfl⟩ (.cons ⟨_,rfl⟩ (.nil))))
  (case x6y=>k_is)
  (case x6z=>exact⟨_,rfl⟩)
  (case x70 | x71=>k_is)
  (case x72=>decide)
  (case x73=>exact .cons ⟨_,rfl⟩ (.cons ⟨_,rfl⟩ (.cons ⟨_,rfl⟩ (.cons ⟨_,rfl⟩ (.cons ⟨_,rfl⟩ (.cons ⟨_,rfl⟩ (.cons ⟨_,rfl⟩ (.cons ⟨_,rfl⟩ (.nil)))))))))
