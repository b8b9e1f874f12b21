import PyProof.Rows.All
import Wide.All
import OpenK.AllK
import Wide.FinOn
import Lean
import PyProof.EqAt
import PyProof.EqKinds
import PyProof.TupleCall
import PyProof.NeKinds
import PyProof.DictItems
import PyProof.DictWalks
import KE.KTurnsDict
import KE.KDictSum
import KE.KSortKey
import KE.KBoundM
import KE.KMinKey
import KE.KRevIter
import KE.KFind
import KE.LcSums
import PyProof.ListRange
import PyProof.CollectIter
import PyProof.ConsumeWalk
import PyProof.ZipIter
import KE.KSortTup
import PySem.Challenge.RW_bothhands_k75_whole_there_and_back
open PySem.W (instObj methodObj lookIn plainGet hasDictIn findIn handedIn plainGet_of isFn plainOver takerIn makesIn typeIn emptyDict keepIn mroIn kitOne kia_one kitx_list kitx_dict callWith_K cellsFrom_some kIn_of mg_of kitMeta mg_none_of Frag fnOf nsIn codeIn)
open PySem.Heap (lt_size SameBut get?_push_of_some get?_push_size Ns1)
open Nat (ne_of_lt zero_le lt_succ_self le_succ succ_le_succ)
open List (range mem_filter mem_range filterMap_cons mem_cons_self mem_cons_of_mem mem_cons mem_append mem_append_left getElem?_set_ne mem_append_right length_cons map_cons length_map append_nil nodup_cons of_mem_zip replicate length length_take getElem?_append_right getElem?_replicate getElem?_append_left getElem?_map mem_of_getElem? length_append length_replicate length_drop size_toArray length_set all_cons any_cons flatten_cons foldl_cons nil_append find?_cons length_nil map_nil nodup_nil Pairwise any_eq_true mem_map mem_singleton lookup_cons getElem_mem not_mem_nil map_append getElem?_take getElem?_of_mem take_append_drop drop_eq_getElem_cons nodup_append map_take zipWith take_length length_reverse set_set eq_nil_or_concat concat_eq_append getElem?_range Nodup Sublist drop_of_length_le length_filter_le filter_append filter_cons_of_pos filter_cons_of_neg map length_range cons_append any_map forall_mem_cons take_nil filterMap_eq_map' getElem?_eq_getElem map_map append_assoc getElem?_eq_none ext_getElem?)
open Option (getD_none isSome_some isSome_map map_eq_some_iff)
open Bool (and_eq_true false_eq_true)
open PySem.F (slot_dict_get entry_dict_get plainAttrs_dict type_dict_get plainAttrs_list)
open PyProof.Rows (boot_isinstance boot_int boot_bool boot_tuple boot_str boot_max)
open Int (emod_nonneg emod_lt_of_pos toNat)
set_option maxHeartbeats 4000000
set_option Elab.async false
set_option linter.all false
set_option maxRecDepth 100000
namespace L2
open PySem PySem.Spec PyProof.Rows
abbrev Key:=Sum Int Str
def Ul:Key->Value->Bool
 | .inl k,v=>Value.isInt k v
 | .inr x,v=>Value.isStrOf x v
def AnQ (w:World):Key->Int
 | .inl k=>hashInt k
 | .inr x=>hashStr w x
theorem Fp:∀ {k:Key} {v:Value},Ul k v = true->(∃ i t,k = Sum.inl i/\v = Value.int i t)\/(∃ x t,k = Sum.inr x/\v = Value.str x t)
 | .inl i,v,h=>by
  obtain⟨t,e⟩:=Value.isInt_shape (k:=i) (v:=v) h
  exact .inl ⟨i,t,rfl,e⟩
 | .inr x,v,h=>by
  obtain⟨t,e⟩:=Value.isStrOf_shape (x:=x) (v:=v) h
  exact .inr ⟨x,t,rfl,e⟩
theorem AdD (i:Int) (t:Tok):Ul (.inl i) (.int i t) = true:=by simp [Ul,Value.isInt]
theorem Ae1 (x:Str) (t:Tok):Ul (.inr x) (.str x t) = true:=by simp [Ul,Value.isStrOf]
theorem AlF (a b:Int):decide ((Sum.inl a:Key) = Sum.inl b) = (a == b):=by
 by_cases e:a = b
 ·subst e; simp
 ·have h:¬ (Sum.inl a:Key) = Sum.inl b:=fun q=>e (Sum.inl.inj q)
  rw[decide_eq_false h]
  exact (beq_eq_false_iff_ne.mpr e).symm
theorem AkT (a b:Str):decide ((Sum.inr a:Key) = Sum.inr b) = decide (a = b):=by
 by_cases e:a = b
 ·subst e; simp
 ·have h:¬ (Sum.inr a:Key) = Sum.inr b:=fun q=>e (Sum.inr.inj q)
  rw[decide_eq_false h,decide_eq_false e]
theorem Akw (a:Int) (b:Str):decide ((Sum.inl a:Key) = Sum.inr b) = false:=decide_eq_false (fun q=>nomatch q)
theorem Alv (a:Str) (b:Int):decide ((Sum.inr a:Key) = Sum.inl b) = false:=decide_eq_false (fun q=>nomatch q)
def Dq (prog:Program) (w:World):PySem.KeyKind prog w Key where
 is:=Ul
 hash:=AnQ w
 inj:=fun v a b ha hb=>by
  rcases Fp ha with ⟨i,t,rfl,rfl⟩ | ⟨x,t,rfl,rfl⟩
  ·rcases Fp hb with ⟨j,u,rfl,e⟩ | ⟨y,u,rfl,e⟩
   ·injection e with e1 _; rw[e1]
   ·exact nomatch e
  ·rcases Fp hb with ⟨j,u,rfl,e⟩ | ⟨y,u,rfl,e⟩
   ·exact nomatch e
   ·injection e with e1 _; rw[e1]
 byValue:=fun k v h=>by
  rcases Fp h with ⟨i,t,rfl,rfl⟩ | ⟨x,t,rfl,rfl⟩ <;> rfl
 pyHash:=fun hv h=>by
  rcases Fp hv with ⟨i,t,rfl,rfl⟩ | ⟨x,t,rfl,rfl⟩
  ·exact wpAny_pyHash_int h
  ·exact wpAny_pyHash_str h
 eqBool:=fun hu hv h=>by
  rcases Fp hu with ⟨i,t,rfl,rfl⟩ | ⟨x,t,rfl,rfl⟩
  ·rcases Fp hv with ⟨j,u,rfl,rfl⟩ | ⟨y,u,rfl,rfl⟩
   ·rw[AlF] at h; exact wpAny_eqBool_int h
   ·rw[Akw] at h; exact SeqAt.EqAt.int_str i t y u _ _ _ _ h
  ·rcases Fp hv with ⟨j,u,rfl,rfl⟩ | ⟨y,u,rfl,rfl⟩
   ·rw[Alv] at h; exact SeqAt.EqAt.str_int x t j u _ _ _ _ h
   ·rw[AkT] at h; exact wpAny_eqBool_str h
 «strs»:=fun k x t v h=>by
  rcases Fp h with ⟨i,u,rfl,e⟩ | ⟨y,u,rfl,e⟩
  ·exact nomatch e
  ·injection e with e1 _
   subst e1
   cases v <;> rfl
theorem Abc (prog:Program) (w:World) (i:Int) (t:Tok):(Dq prog w).is (.inl i) (.int i t) = true:=AdD i t
theorem Abb (prog:Program) (w:World) (x:Str) (t:Tok):(Dq prog w).is (.inr x) (.str x t) = true:=Ae1 x t
inductive V where
 | non | bl (b:Bool) | int (i:Int) | str (x:Str) | byt (b:Array UInt8) | flt (b:UInt64) | ref (a:Addr) | ty (n:String)
 deriving DecidableEq
def RelV:V->Value->Prop
 | .non,u=>u = Value.none
 | .bl b,u=>u = Value.bool b
 | .int i,u=>∃ t,u = Value.int i t
 | .str x,u=>∃ t,u = Value.str x t
 | .byt b,u=>∃ t,u = Value.bytes b t
 | .flt b,u=>∃ t,u = Value.float b t
 | .ref a,u=>u = Value.ref a
 | .ty n,u=>u = Value.type n
abbrev Vals:List V->List Value->Prop:=Paired RelV
theorem Vals.length {xs:List V} {us:List Value} (r:Vals xs us):xs.length = us.length:=Paired.length r
theorem Vals.get:∀ {xs:List V} {us:List Value} {i:Nat} {x:V},Vals xs us->xs[i]? = some x->∃ u,us[i]? = some u/\RelV x u
 | _,_,_,_,.nil,e=>by simp at e
 | _,_,0,_,.cons r _,e=>by simp at e; subst e; exact⟨_,rfl,r⟩
 | _,_,i + 1,x,.cons _ t,e=>by
  obtain⟨u,h1,h2⟩:=Vals.get (i:=i) (x:=x) t (by simpa using e)
  exact⟨u,by simpa using h1,h2⟩
theorem Vals.append:∀ {xs ys:List V} {us ws:List Value},Vals xs us->Vals ys ws->Vals (xs ++ ys) (us ++ ws)
 | _,_,_,_,.nil,s=>s
 | _,_,_,_,.cons r t,s=>.cons r (Vals.append t s)
theorem Vals.take:∀ {xs:List V} {us:List Value} (n:Nat),Vals xs us->Vals (xs.take n) (us.take n)
 | _,_,0,_=>.nil
 | _,_,_ + 1,.nil=>.nil
 | _,_,n + 1,.cons r t=>.cons r (Vals.take n t)
theorem Vals.drop:∀ {xs:List V} {us:List Value} (n:Nat),Vals xs us->Vals (xs.drop n) (us.drop n)
 | _,_,0,r=>r
 | _,_,_ + 1,.nil=>.nil
 | _,_,n + 1,.cons _ t=>Vals.drop n t
theorem Vals.none_of:∀ {xs:List V} {us:List Value} {i:Nat},Vals xs us->xs[i]? = none->us[i]? = none:=fun {xs us i} r e=>by
 have h1:=r.length
 have h2:xs.length <= i:=List.getElem?_eq_none_iff.mp e
 exact List.getElem?_eq_none_iff.mpr (by omega)
def RelO:Option V->Option Value->Prop
 | some v,some u=>RelV v u
 | none,none=>True
 | _,_=>False
def KV {κ:Type}:List (κ × V)->List (κ × Value)->Prop:=Paired fun (p:κ × V) (q:κ × Value)=>p.1 = q.1/\RelV p.2 q.2
def kV:Key->V
 | .inl i=>.int i
 | .inr x=>.str x
inductive HO where
 | lst (xs:List V)
 | tup (xs:List V)
 | dK (kvs:List (Key × V)) | dT (kvs:List (List Key × V))
 | set (S:Int->Bool) (n:Nat)
 | ins (C dx:Addr) (fs:List (Str × V))
 | own (x:Addr)
 | xd (fs:List (Str × V))
 | met (f x:Addr)
 | rng (lo hi:Int)
 | frz (o:Obj) (u:HO)
 | tbl (ps:Array Value)
 | ext (φ:Heap->Prop)
abbrev Hp:=Addr->Option HO
def upd (H:Hp) (a:Addr) (o:HO):Hp:=fun b=>if b = a then some o else H b
theorem Bp {H:Hp} {a:Addr} {o:HO}:upd H a o a = some o:=by unfold upd; rw[if_pos rfl]
theorem Bk {H:Hp} {a b:Addr} {o:HO} (h:b ≠ a):upd H a o b = H b:=by unfold upd; rw[if_neg h]
theorem Gz {H:Hp} {a:Addr} {o u:HO}:upd (upd H a o) a u = upd H a u:=by
 funext b; unfold upd; split <;> rfl
theorem Fk {H:Hp} {a b:Addr} {o u:HO} (h:H a = some o) (h':H b = some u) (d:o ≠ u):a ≠ b:=by
 intro e; subst e; rw[h] at h'; exact d (Option.some.inj h')
theorem Bu {H:Hp} {a b:Addr} {o:HO} (h:H a = some o) (h':H b = none):a ≠ b:=by
 intro e; subst e; rw[h] at h'; cases h'
section
variable (P:Program) (w:World)
def ObjOk (H:Hp) (h:Heap) (a:Addr):HO->Prop
 | .lst xs=>xs.length <= sizeLine/\∃ (its:List Value) (n:Nat),Vals xs its/\h.get? a = some { cls:=.type "list",data:=.seq its.toArray n }
 | .tup xs=>xs.length <= sizeLine/\∃ its:List Value,Vals xs its/\IsTup h a its.toArray
 | .dK kvs=>kvs.length <= sizeLine/\(a == sysModules) = false/\∃ vs,KV kvs vs/\h.DictOf (Dq P w) a vs
 | .dT kvs=>kvs.length <= sizeLine/\(a == sysModules) = false/\∃ xs:List (List Key × Addr × Value),
   Paired (fun (p:List Key × V) (q:List Key × Addr × Value)=>p.1 = q.1/\H q.2.1 = some (.tup (p.1.map kV))/\RelV p.2 q.2.2) kvs xs /\
   ∃ o es ep,h.get? a = some o/\o.ExactDict/\o.data = .dict es ep/\es.toList = xs.map (entryOfKey (tupleKind (Dq P w)))/\(xs.map (·.1)).Nodup
 | .set S n=>h.SetOf (intKind P w) a S n
 | .ins C dx fs=>H dx = some (.own a)/\fs.length <= 1000/\dx ≠ a/\h.get? a = some (instObj C dx) /\
   ∃ mA,h.Ns1 dx mA/\(∀ f,RelO (fs.lookup f) (mA f))/\PySem.Within mA (fs.map (·.1))
 | .own _=>∃ o,h.get? a = some o
 | .xd fs=>∃ mA,h.Ns1 a mA/\∀ f,RelO (fs.lookup f) (mA f)
 | .rng lo hi=>∃ t u v,h.get? a = some { cls:=.type "range",data:=.fields #[.int lo t,.int hi u,.int 1 v] }
 | .frz o u=>h.get? a = some o/\ObjOk H h a u
 | .tbl ps=>h.get? a = some { cls:=.none,data:=.fields ps }
 | .met f x=>h.get? a = some (methodObj (.ref f) (.ref x))
 | .ext φ=>φ h/\(∃ o,h.get? a = some o)/\∀ h1 h2:Heap,φ h1->(∀ o,h1.get? a = some o->h2.get? a = some o)->φ h2
def HOk (H:Hp) (h:Heap):Prop:=∀ a o,H a = some o->ObjOk P w H h a o
end
section
variable {P:Program} {w:World} {H H':Hp} {h h':Heap} {a:Addr} {o:HO}
theorem ObjOk.lt (x:ObjOk P w H h a o):a < h.objs.size:=by
 cases o with
 | lst xs=>obtain⟨_,_,_,_,e⟩:=x; exact lt_size e
 | tup xs=>obtain⟨_,_,_,p⟩:=x; exact p.lt
 | dK kvs=>obtain⟨_,_,_,_,o,_,_,e,_⟩:=x; exact lt_size e
 | dT kvs=>obtain⟨_,_,_,_,o,_,_,e,_⟩:=x; exact lt_size e
 | set S n=>obtain⟨o,_,_,_,e,_⟩:=x; exact lt_size e
 | ins C dx fs=>obtain⟨_,_,_,e,_⟩:=x; exact lt_size e
 | own y=>obtain⟨_,e⟩:=x; exact lt_size e
 | xd fs=>obtain⟨_,⟨_,_,_,e,_⟩,_⟩:=x; exact lt_size e
 | rng lo hi=>obtain⟨_,_,_,e⟩:=x; exact lt_size e
 | frz ob u=>obtain⟨e,_⟩:=x; exact lt_size e
 | tbl ps=>exact lt_size (show h.get? a = some _ from x)
 | met f y=>exact lt_size (show h.get? a = some _ from x)
 | ext φ=>obtain⟨_,⟨_,e⟩,_⟩:=x; exact lt_size e
theorem Paired.mapP {α β:Type} {F G:α->β->Prop}:∀ {l₁:List α} {l₂:List β},Paired F l₁ l₂->(∀ a b,F a b->G a b)->Paired G l₁ l₂
 | _,_,.nil,_=>.nil
 | _,_,.cons r t,f=>.cons (f _ _ r) (Paired.mapP t f)
theorem ObjOk.stay (x:ObjOk P w H h a o) (k:∀ b u,(b = a\/H b = some (.own a))->h.get? b = some u->h'.get? b = some u)
  (ho:∀ b,H b = some (.own a)->H' b = some (.own a)) (ht:∀ b xs,H b = some (.tup xs)->H' b = some (.tup xs)):ObjOk P w H' h' a o:=by
 induction o with
 | lst xs=>obtain⟨z,its,n,r,e⟩:=x; exact⟨z,its,n,r,k _ _ (.inl rfl) e⟩
 | tup xs=>obtain⟨z,its,r,ob,e,c⟩:=x; exact⟨z,its,r,ob,k _ _ (.inl rfl) e,c⟩
 | dK kvs=>obtain⟨z,y,vs,r,ob,es,ep,e,c⟩:=x; exact⟨z,y,vs,r,ob,es,ep,k _ _ (.inl rfl) e,c⟩
 | dT kvs =>
  obtain⟨z,y,xs,r,ob,es,ep,e,c⟩:=x
  exact⟨z,y,xs,Paired.mapP r fun p q z=>⟨z.1,ht _ _ z.2.1,z.2.2⟩,ob,es,ep,k _ _ (.inl rfl) e,c⟩
 | set S n=>obtain⟨ob,es,ep,t,e,c⟩:=x; exact⟨ob,es,ep,t,k _ _ (.inl rfl) e,c⟩
 | ins C dx fs =>
  obtain⟨d,z,ne,e,mA,⟨od,es,ep,e2,c⟩,r⟩:=x
  exact⟨ho _ d,z,ne,k _ _ (.inl rfl) e,mA,⟨od,es,ep,k _ _ (.inr d) e2,c⟩,r⟩
 | own y=>obtain⟨ob,e⟩:=x; exact⟨ob,k _ _ (.inl rfl) e⟩
 | xd fs=>obtain⟨mA,⟨od,es,ep,e,c⟩,r⟩:=x; exact⟨mA,⟨od,es,ep,k _ _ (.inl rfl) e,c⟩,r⟩
 | rng lo hi=>obtain⟨t,u,v,e⟩:=x; exact⟨t,u,v,k _ _ (.inl rfl) e⟩
 | frz ob u ih=>obtain⟨e,q⟩:=x; exact⟨k _ _ (.inl rfl) e,ih q⟩
 | tbl ps =>
  have e:h.get? a = some { cls:=.none,data:=.fields ps }:=x
  show h'.get? a = some { cls:=.none,data:=.fields ps }
  exact k a _ (.inl rfl) e
 | met f y =>
  have e:h.get? a = some (methodObj (.ref f) (.ref y)):=x
  show h'.get? a = some (methodObj (.ref f) (.ref y))
  exact k a _ (.inl rfl) e
 | ext φ=>obtain⟨p,⟨o,e⟩,st⟩:=x; exact⟨st _ _ p fun o q=>k _ _ (.inl rfl) q,⟨o,k _ _ (.inl rfl) e⟩,st⟩
theorem HOk.lt (x:HOk P w H h) (e:H a = some o):a < h.objs.size:=(x a o e).lt
theorem HOk.fresh (x:HOk P w H h) (e:h.objs.size <= a):H a = none:=by
 cases q:H a with
 | none=>rfl
 | some u=>exact absurd (Nat.lt_of_lt_of_le (x.lt q) e) (Nat.lt_irrefl _)
theorem HOk.kept (x:HOk P w H h) (k:∀ b u,h.get? b = some u->h'.get? b = some u):HOk P w H h':=fun a o e =>
 (x a o e).stay (fun b u _ q=>k b u q) (fun _ q=>q) fun _ _ q=>q
theorem HOk.laid (x:HOk P w H h) (k:∀ b u,h.get? b = some u->h'.get? b = some u) (hp:h.objs.size <= a) (new:ObjOk P w (upd H a o) h' a o):HOk P w (upd H a o) h':=fun b u e=>by
 have hn:=x.fresh hp
 by_cases hb:b = a
 ·subst hb; rw[Bp] at e; cases e; exact new
 ·rw[Bk hb] at e
  exact (x b u e).stay (fun c v _ q=>k c v q) (fun c q=>by rw[Bk (Bu q hn)]; exact q) fun c xs q=>by rw[Bk (Bu q hn)]; exact q
end
def Rd (H:Hp) (a:Addr) (u:HO):Prop:=H a = some u\/∃ o,H a = some (.frz o u)
theorem Rd.ok {P:Program} {w:World} {H:Hp} {h:Heap} {a:Addr} {u:HO} (r:Rd H a u) (x:HOk P w H h):ObjOk P w H h a u:=by
 rcases r with r | ⟨o,r⟩
 ·exact x a u r
 ·obtain⟨_,q⟩:=x a _ r
  exact q
def Mut:Option HO->Prop
 | some (.lst _)=>True
 | some (.dK _)=>True
 | some (.dT _)=>True
 | some (.set _ _)=>True
 | some (.ins _ _ _)=>True
 | some (.ext _)=>True
 | _=>False
section
variable {P:Program} {w:World} {H:Hp} {h h':Heap} {x e:Addr} {o':HO}
theorem HOk.write (ok:HOk P w H h) (mu:Mut (H x)) (he:e = x\/H e = some (.own x)) (k:∀ b u,b ≠ e->h.get? b = some u->h'.get? b = some u) (heo:∃ u,h'.get? e = some u)
  (new:ObjOk P w (upd H x o') h' x o'):HOk P w (upd H x o') h':=fun b u q=>by
 have nown:∀ c y,H c = some (.own y)->c ≠ x:=fun c y r z=>by subst z; rw[r] at mu; exact mu
 have ntup:∀ c xs,H c = some (.tup xs)->c ≠ x:=fun c xs r z=>by subst z; rw[r] at mu; exact mu
 by_cases hb:b = x
 ·subst hb; rw[Bp] at q; cases q; exact new
 ·rw[Bk hb] at q
  by_cases hbe:b = e
  ·have q':H b = some (.own x):=by
    rcases he with z | z
    ·exact absurd (hbe.trans z) hb
    ·rw[hbe]; exact z
   rw[q] at q'; cases q'
   obtain⟨v,hv⟩:=heo
   exact⟨v,by rw[hbe]; exact hv⟩
  ·refine (ok b u q).stay (fun c v hc r=>k c v ?_ r) (fun c r=>by rw[Bk (nown c b r)]; exact r) fun c xs r=>by rw[Bk (ntup c xs r)]; exact r
   rcases hc with rfl | hc
   ·exact hbe
   ·rintro rfl
    rcases he with z | z
    ·exact nown c b hc z
    ·rw[hc] at z; cases z; exact hb rfl
end
structure Un (fs ex:List Addr) (H H':Hp) (h h':Heap):Prop where
 keep:∀ b o,h.get? b = some o->H b = none->b ∉ fs->b ∉ ex->h'.get? b = some o
 slot:∀ b o,h.get? b = some o->H b = none->b ∈ fs->b ∉ ex->∃ sl,h'.get? b = some { o with slots:=sl }
 free:∀ b o,h.get? b = some o->H b = none->b ∉ ex->H' b = none
 there:∀ b o,h.get? b = some o->b ∉ ex->∃ o',h'.get? b = some o'
 tups:∀ b xs,H b = some (.tup xs)->H' b = some (.tup xs)
 frzs:∀ b o u,H b = some (.frz o u)->H' b = some (.frz o u)
 tbls:∀ b ps,H b = some (.tbl ps)->∃ more,H' b = some (.tbl (ps ++ more))
section
variable {fs fs' ex ex':List Addr} {H H1 H2:Hp} {h h1 h2 h':Heap} {a x e:Addr} {o:HO}
theorem Un.any (u:Un fs ex H H1 h h1) {b:Addr} {ob:Obj} (q:h.get? b = some ob) (n:H b = none) (hx:b ∉ ex):∃ sl,h1.get? b = some { ob with slots:=sl }:=by
 by_cases hb:b ∈ fs
 ·exact u.slot b ob q n hb hx
 ·exact⟨ob.slots,u.keep b ob q n hb hx⟩
theorem Un.kept (k:∀ b u,h.get? b = some u->h'.get? b = some u):Un fs ex H H h h' :=
 ⟨fun b ob q _ _ _=>k b ob q,fun b ob q _ _ _=>⟨ob.slots,k b ob q⟩,fun _ _ _ n _=>n,fun b ob q _=>⟨ob,k b ob q⟩,fun _ _ q=>q,fun _ _ _ q=>q,fun _ ps q=>⟨#[],by rw[q]; simp⟩⟩
theorem Un.refl:Un fs ex H H h h:=Un.kept fun _ _ q=>q
theorem Un.laid (k:∀ b u,h.get? b = some u->h'.get? b = some u) (hp:h.objs.size <= a) (hn:H a = none):Un fs ex H (upd H a o) h h' where
 keep:=fun b u q _ _ _=>k b u q
 slot:=fun b u q _ _ _=>⟨u.slots,k b u q⟩
 free:=fun b u q n _=>by rw[Bk (ne_of_lt (Nat.lt_of_lt_of_le (lt_size q) hp))]; exact n
 there:=fun b u q _=>⟨u,k b u q⟩
 tups:=fun b xs q=>by rw[Bk (Bu q hn)]; exact q
 frzs:=fun b u xs q=>by rw[Bk (Bu q hn)]; exact q
 tbls:=fun b ps q=>⟨#[],by rw[Bk (Bu q hn),q]; simp⟩
theorem Un.write (mu:Mut (H x)) (he:e = x\/H e = some (.own x)) (k:∀ b u,b ≠ e->h.get? b = some u->h'.get? b = some u) (heo:∃ u,h'.get? e = some u):Un fs ex H (upd H x o) h h':=by
 have hx:∀ b,H b = none->b ≠ x:=fun b n z=>by subst z; rw[n] at mu; exact mu
 have hb:∀ b,H b = none->b ≠ e:=fun b n z=>by
  subst z
  rcases he with r | r
  ·exact hx b n r
  ·rw[n] at r; cases r
 have hm:∀ b u,H b = some u->¬ Mut (some u)->b ≠ x:=fun b u q nm z=>by subst z; rw[q] at mu; exact nm mu
 refine⟨fun b u q n _ _=>k b u (hb b n) q,fun b u q n _ _=>⟨u.slots,k b u (hb b n) q⟩,fun b u q n _=>by rw[Bk (hx b n)]; exact n,fun b u q _=>?_,
  fun b xs q=>by rw[Bk (hm b _ q fun z=>z)]; exact q,fun b u xs q=>by rw[Bk (hm b _ q fun z=>z)]; exact q,fun b ps q=>⟨#[],by rw[Bk (hm b _ q fun z=>z),q]; simp⟩⟩
 by_cases hbe:b = e
 ·subst hbe; exact heo
 ·exact⟨u,k b u hbe q⟩
end
def trk (h:Heap) (H:Hp):List Addr:=(range h.objs.size).filter fun a=>(H a).isSome
def Rw (h:Heap) (H:Hp):Heap:=PySem.W.hideAll h (trk h H)
theorem Afc (h:Heap) (H:Hp):(Rw h H).objs.size = h.objs.size:=PySem.W.hideAll_size _ _
theorem Agd {h:Heap} {H:Hp} {b:Addr} {o:Obj} (e:h.get? b = some o) (n:H b = none):(Rw h H).get? b = some o :=
 PySem.W.hideAll_get _ e fun hm=>by
  have q:(H b).isSome = true:=(mem_filter.mp hm).2
  rw[n] at q; simp at q
theorem Ajh {h:Heap} {H:Hp} {b:Addr} {o:Obj} (e:(Rw h H).get? b = some o):h.get? b = some o/\H b = none:=by
 have e':h.get? b = some o:=PySem.W.of_hideAll (trk h H) e
 refine⟨e',?_⟩
 cases q:H b with
 | none=>rfl
 | some x =>
  have hm:b ∈ trk h H:=mem_filter.mpr ⟨mem_range.mpr (lt_size e'),by simp [q]⟩
  have z:(Rw h H).get? b = none:=PySem.W.hideAll_none (trk h H) hm
  rw[z] at e; cases e
structure Mod (K:Frag) (mg:Str->Option Value) (base:Heap):Prop where
 kin:K.In base
 glob:base.Ns mainGlobals mg
 blt:∃ mb,base.Ns builtinsNs mb/\∀ x:Str,x ≠ "__name__"->mb x = bootBuiltins x
 nolimit:base.NoLimit
structure Cx where
 prog:Program
 w:World
 K:Frag
 mg:Str->Option Value
 base:Heap
 A:Around
 N:List Str
 s₀:Shared
 H₀:Hp
 env:Env
 outer:List Env
 stack:List Env
 ex:List Addr
 fn:Str->Bool
 calm:Bool
 pn:List (Addr × Obj)
 xe:Value->Shared->Prop
def frs (l:List Env):List Addr:=l.filterMap (·.frame)
abbrev Cx.fs (X:Cx):List Addr:=frs X.outer
def Vis (sc:Scope) (x:Str):Prop:=sc.names.lookup x = some .local\/sc.names.lookup x = some .cell\/sc.names.lookup x = some .free
def Loc (sc:Scope) (x:Str):Prop:=sc.names.lookup x = some .local\/sc.names.lookup x = some .cell
def An3 (env:Env) (h:Heap) (m:Str->Option Value) (x:Str) (u:Value):Prop :=
 (env.kindOf x = some .local/\m x = some u)\/((env.kindOf x = some .cell\/env.kindOf x = some .free)/\∃ c,env.cells.lookup x = some c/\h.IsCell c (some u))
structure Cx.Ok (X:Cx):Prop where
 mod:Mod X.K X.mg X.base
 kind:X.env.scope.kind = .function
 glob:X.env.globals = mainGlobals
 blt:X.env.builtins = builtinsNs
 above:X.s₀.heap.objs.size <= X.env.locals
 inj:∀ x y c,X.env.cells.lookup x = some c->X.env.cells.lookup y = some c->x = y
 has:∀ x,(X.env.kindOf x = some .cell\/X.env.kindOf x = some .free)->∃ c,X.env.cells.lookup x = some c
 cab:∀ x c,X.fn x = true->X.env.cells.lookup x = some c->X.s₀.heap.objs.size <= c
 hd:X.calm = true->X.A.handled = none
 frames:X.A.frames = some X.stack
 stk:X.stack = X.outer\/(X.stack = X.env :: X.outer/\X.env.frame = some X.env.locals)
 exf:∀ b ∈ X.ex,b ≠ X.env.locals/\∀ x c,X.env.cells.lookup x = some c->c ≠ b
 bs:∀ b o,X.base.get? b = some o->X.s₀.heap.get? b = some o/\X.H₀ b = none
 bsz:X.base.objs.size <= X.s₀.heap.objs.size
 noex:∀ b o,X.base.get? b = some o->b ∉ X.ex
 exfs:∀ b ∈ X.ex,b ∉ X.fs
 funs:X.s₀.heap.FunFrames X.base X.outer
 frf:∀ b ∈ X.fs,X.H₀ b = none
structure Inv (X:Cx) (pins:List (Addr × Obj)) (σ:List (Option V)) (H:Hp) (s:Shared):Prop where
 ok:X.Ok
 os:s.os = X.s₀.os
 bare:AllBare s.gens
 base:Un X.fs X.ex X.H₀ H X.s₀.heap s.heap
 loc:∃ m,s.heap.Ns X.env.locals m/\∀ (i:Nat) (x:Str) (v:V),X.N[i]? = some x->σ[i]? = some (some v)->Vis X.env.scope x->∃ u,RelV v u/\An3 X.env s.heap m x u
 cell:∀ x c,X.env.cells.lookup x = some c->∃ v,s.heap.IsCell c v
 free:H X.env.locals = none
 freeC:∀ x c,X.env.cells.lookup x = some c->H c = none
 pin:∀ p ∈ X.pn ++ pins,s.heap.get? p.1 = some p.2/\H p.1 = none/\p.1 ≠ X.env.locals/\p.1 ∉ X.fs/\∀ v,p.2.data ≠ .cell v
 hok:HOk X.prog X.w H s.heap
 len:σ.length = X.N.length
section
variable {X:Cx} {pins:List (Addr × Obj)} {σ:List (Option V)} {H H':Hp} {s:Shared} {h':Heap}
theorem Cx.Ok.nofr (ok:X.Ok) {b:Addr} {o:Obj} (e:X.base.get? b = some o):b ∉ X.fs:=fun hb=>by
 have:=(ok.funs.mem hb).1
 rw[e] at this; cases this
theorem Inv.bs (I:Inv X pins σ H s):∀ b o,X.base.get? b = some o->s.heap.get? b = some o/\H b = none:=fun b o e =>
 ⟨I.base.keep b o (I.ok.bs b o e).1 (I.ok.bs b o e).2 (I.ok.nofr e) (I.ok.noex b o e),I.base.free b o (I.ok.bs b o e).1 (I.ok.bs b o e).2 (I.ok.noex b o e)⟩
theorem Inv.bk (I:Inv X pins σ H s):∀ b o,X.base.get? b = some o->s.heap.get? b = some o:=fun b o e=>(I.bs b o e).1
theorem Inv.mod (I:Inv X pins σ H s):Mod X.K X.mg X.base:=I.ok.mod
theorem Inv.kIn (I:Inv X pins σ H s):X.K.In s.heap:=I.ok.mod.kin.keeps I.bk
theorem Inv.lt (I:Inv X pins σ H s):X.env.locals < s.heap.objs.size:=let ⟨_,hn,_⟩:=I.loc; hn.lt
theorem Inv.sz (I:Inv X pins σ H s):X.s₀.heap.objs.size <= s.heap.objs.size:=Nat.le_trans I.ok.above (Nat.le_of_lt I.lt)
theorem Inv.nofs (I:Inv X pins σ H s) {a:Addr} (h:s.heap.objs.size <= a):a ∉ X.fs:=fun hb=>by
 obtain⟨_,o,ho,_⟩:=I.ok.funs.mem hb
 exact absurd (Nat.lt_of_lt_of_le (lt_size ho) (Nat.le_trans I.sz h)) (Nat.lt_irrefl _)
theorem Inv.cne (I:Inv X pins σ H s):∀ x c,X.env.cells.lookup x = some c->c ≠ X.env.locals:=fun x c e z=>by
 obtain⟨v,o,ho,hd⟩:=I.cell x c e
 obtain⟨m,⟨o',es,ep,ho',hd',_⟩,_⟩:=I.loc
 rw[z,ho'] at ho; cases ho; rw[hd'] at hd; cases hd
theorem Inv.funs (I:Inv X pins σ H s):s.heap.FunFrames X.base X.outer:=by
 have all:∀ (l:List Env),(∀ b ∈ frs l,b ∈ X.fs)->X.s₀.heap.FunFrames X.base l->s.heap.FunFrames X.base l:=by
  intro l
  induction l with
  | nil=>intro _ _; trivial
  | cons env r ih =>
   intro hs hl
   obtain⟨hk,⟨L,o,hf,hn,ho,hd⟩,hr⟩:=hl
   have hL:L ∈ X.fs:=hs L (by unfold frs; rw[filterMap_cons,hf]; exact mem_cons_self)
   obtain⟨sl,e⟩:=I.base.slot L o ho (I.ok.frf L hL) hL fun z=>I.ok.exfs L z hL
   exact⟨hk,⟨L,_,hf,hn,e,hd⟩,ih (fun b hb=>hs b (by unfold frs; rw[filterMap_cons,hf]; exact mem_cons_of_mem _ hb)) hr⟩
 exact all X.outer (fun _ hb=>hb) I.ok.funs
theorem Inv.stack (I:Inv X pins σ H s):s.heap.FunFrames X.base X.stack:=by
 rcases I.ok.stk with e | ⟨e,hf⟩
 ·rw[e]; exact I.funs
 ·rw[e]
  obtain⟨m,hn,_⟩:=I.loc
  refine .cons (by rw[I.ok.kind]; decide) hf hn ?_ I.funs
  exact Heap.get?_none_of_le (Nat.le_trans I.ok.bsz I.ok.above)
theorem Inv.stkSub (I:Inv X pins σ H s):∀ b ∈ frs X.stack,b ∈ X.env.locals :: X.fs:=fun b hb=>by
 rcases I.ok.stk with e | ⟨e,hf⟩
 ·rw[e] at hb; exact mem_cons_of_mem _ hb
 ·rw[e] at hb
  unfold frs at hb
  rw[filterMap_cons,hf] at hb
  exact hb
theorem Inv.stkFree (I:Inv X pins σ H s):∀ b ∈ frs X.stack,H b = none:=fun b hb=>by
 rcases mem_cons.mp (I.stkSub b hb) with e | hb
 ·rw[e]; exact I.free
 ·obtain⟨_,o,ho,_⟩:=I.ok.funs.mem hb
  exact I.base.free b o ho (I.ok.frf b hb) fun z=>I.ok.exfs b z hb
theorem Inv.step {g':Array GenState} {t':Nat} {d':Drawn} {ch:List Addr} (I:Inv X pins σ H s)
  (hch:∀ b ∈ ch,(b ∈ X.ex\/X.s₀.heap.objs.size <= b)/\b ≠ X.env.locals/\(∀ x c,X.env.cells.lookup x = some c->c ≠ b)/\∀ p ∈ X.pn ++ pins,p.1 ≠ b)
  (keep:∀ b o,b ≠ X.env.locals->b ∉ X.fs->b ∉ ch->s.heap.get? b = some o->H b = none->h'.get? b = some o)
  (slot:∀ b o,b ≠ X.env.locals->b ∈ X.fs->b ∉ ch->s.heap.get? b = some o->H b = none->∃ sl,h'.get? b = some { o with slots:=sl }) (free:∀ b o,b ∉ ch->s.heap.get? b = some o->H b = none->H' b = none)
  (there:∀ b o,b ∉ ch->s.heap.get? b = some o->∃ o',h'.get? b = some o')
  (tups:∀ b xs,H b = some (.tup xs)->H' b = some (.tup xs)) (frzs:∀ b o u,H b = some (.frz o u)->H' b = some (.frz o u)) (tbls:∀ b ps,H b = some (.tbl ps)->∃ more,H' b = some (.tbl (ps ++ more)))
  (ns:∀ m,s.heap.Ns X.env.locals m->h'.Ns X.env.locals m) (hok:HOk X.prog X.w H' h') (hg:AllBare g') :
  Inv X pins σ H' { s with heap:=h',gens:=g',drawn:=d',toks:=t' }:=by
 have neL:∀ b o,X.s₀.heap.get? b = some o->b ≠ X.env.locals:=fun b o e=>ne_of_lt (Nat.lt_of_lt_of_le (lt_size e) I.ok.above)
 have neC:∀ b o,X.s₀.heap.get? b = some o->b ∉ X.ex->b ∉ ch:=fun b o e hx hb=>by
  rcases (hch b hb).1 with z | z
  ·exact hx z
  ·exact absurd (Nat.lt_of_lt_of_le (lt_size e) z) (Nat.lt_irrefl _)
 have cellK:∀ x c,X.env.cells.lookup x = some c->∀ v,s.heap.IsCell c v->h'.IsCell c v:=fun x c e v ⟨o,ho,hd⟩=>by
  have nch:c ∉ ch:=fun z=>(hch c z).2.2.1 x c e rfl
  by_cases hc:c ∈ X.fs
  ·obtain⟨sl,q⟩:=slot c o (I.cne x c e) hc nch ho (I.freeC x c e)
   exact⟨_,q,hd⟩
  ·exact⟨o,keep c o (I.cne x c e) hc nch ho (I.freeC x c e),hd⟩
 refine⟨I.ok,I.os,hg,⟨fun b o e n hb hx=>?_,fun b o e n hb hx=>?_,fun b o e n hx=>?_,fun b o e hx=>?_,fun b xs e=>tups b xs (I.base.tups b xs e),fun b o xs e=>frzs b o xs (I.base.frzs b o xs e),fun b ps e=>?_⟩,?_,fun x c e=>?_,?_,fun x c e=>?_,fun p hp=>?_,hok,I.len⟩
 ·exact keep b o (neL b o e) hb (neC b o e hx) (I.base.keep b o e n hb hx) (I.base.free b o e n hx)
 ·obtain⟨sl,e1⟩:=I.base.slot b o e n hb hx
  obtain⟨sl',e2⟩:=slot b _ (neL b o e) hb (neC b o e hx) e1 (I.base.free b o e n hx)
  exact⟨sl',e2⟩
 ·obtain⟨o',e1⟩:=I.base.there b o e hx
  exact free b o' (neC b o e hx) e1 (I.base.free b o e n hx)
 ·obtain⟨o',e1⟩:=I.base.there b o e hx
  exact there b o' (neC b o e hx) e1
 ·obtain⟨m1,e1⟩:=I.base.tbls b ps e
  obtain⟨m2,e2⟩:=tbls b _ e1
  exact⟨m1 ++ m2,by rw[e2,Array.append_assoc]⟩
 ·obtain⟨m,hn,hl⟩:=I.loc
  refine⟨m,ns m hn,fun i x v e1 e2 e3=>?_⟩
  obtain⟨u,r,l⟩:=hl i x v e1 e2 e3
  refine⟨u,r,?_⟩
  rcases l with l | ⟨k,c,e,z⟩
  ·exact .inl l
  ·exact .inr ⟨k,c,e,cellK x c e _ z⟩
 ·obtain⟨v,z⟩:=I.cell x c e
  exact⟨v,cellK x c e v z⟩
 ·obtain⟨m,⟨o,_,_,ho,_⟩,_⟩:=I.loc
  exact free _ o (fun z=>(hch _ z).2.1 rfl) ho I.free
 ·obtain⟨v,o,ho,hd⟩:=I.cell x c e
  exact free c o (fun z=>(hch c z).2.2.1 x c e rfl) ho (I.freeC x c e)
 ·obtain⟨e,n,ne,nf,d⟩:=I.pin p hp
  have nch:p.1 ∉ ch:=fun z=>(hch p.1 z).2.2.2 p hp rfl
  exact⟨keep p.1 p.2 ne nf nch e n,free p.1 p.2 nch e n,ne,nf,d⟩
theorem Inv.un {t':Nat} (I:Inv X pins σ H s) (u:Un X.fs [] H H' s.heap h') (hok:HOk X.prog X.w H' h'):Inv X pins σ H' { s with heap:=h',toks:=t' }:=by
 obtain⟨m,⟨o,es,ep,ho,r⟩,_⟩:=id I.loc
 obtain⟨sl,hL⟩:=u.any ho I.free (by simp)
 exact I.step (g':=s.gens) (d':=s.drawn) (ch:=[]) (fun _ z=>nomatch z) (fun b o _ hb _ e n=>u.keep b o e n hb (by simp)) (fun b o _ hb _ e n=>u.slot b o e n hb (by simp)) (fun b o _ e n=>u.free b o e n (by simp)) (fun b o _ e=>u.there b o e (by simp)) u.tups u.frzs u.tbls (fun m' hm=>by
  obtain⟨o',es',ep',ho',r'⟩:=hm
  rw[ho] at ho'; cases ho'
  exact⟨_,es',ep',hL,r'⟩) hok I.bare
theorem Inv.call {g':Array GenState} {t':Nat} {d':Drawn} {ch:List Addr} (I:Inv X pins σ H s) (u:Un (frs X.stack) ch H H' s.heap h') (hok:HOk X.prog X.w H' h') (hg:AllBare g')
  (hch:∀ b ∈ ch,(b ∈ X.ex\/X.s₀.heap.objs.size <= b)/\b ≠ X.env.locals/\(∀ x c,X.env.cells.lookup x = some c->c ≠ b)/\∀ p ∈ X.pn ++ pins,p.1 ≠ b) :
  Inv X pins σ H' { s with heap:=h',gens:=g',drawn:=d',toks:=t' }:=by
 obtain⟨m,⟨o,es,ep,ho,r⟩,_⟩:=id I.loc
 obtain⟨sl,hL⟩:=u.any ho I.free fun z=>(hch _ z).2.1 rfl
 exact I.step (ch:=ch) hch (fun b o hL hb hc e n=>u.keep b o e n (fun z=>(mem_cons.mp (I.stkSub b z)).elim hL hb) hc) (fun b o _ _ hc e n=>u.any e n hc) (fun b o hc e n=>u.free b o e n hc) (fun b o hc e=>u.there b o e hc) u.tups u.frzs u.tbls (fun m' hm=>by
  obtain⟨o',es',ep',ho',r'⟩:=hm
  rw[ho] at ho'; cases ho'
  exact⟨_,es',ep',hL,r'⟩) hok hg
theorem Inv.turned {t':Nat} {it:Addr} (I:Inv X pins σ H s) (k:∀ b o,b ≠ it->s.heap.get? b = some o->h'.get? b = some o) (hn:H it = none) (hL:it ≠ X.env.locals)
  (h1:it ∈ X.ex\/X.s₀.heap.objs.size <= it) (h2:∀ x c,X.env.cells.lookup x = some c->c ≠ it) (h3:∀ p ∈ X.pn ++ pins,p.1 ≠ it):Inv X pins σ H { s with heap:=h',toks:=t' }:=by
 have nit:∀ b u,H b = some u->b ≠ it:=fun b u e z=>by rw[z,hn] at e; cases e
 refine I.step (g':=s.gens) (d':=s.drawn) (ch:=[it]) (fun b hb=>?_) (fun b o _ _ hc e _=>k b o (fun z=>hc (by simp [z])) e) (fun b o _ _ hc e _=>⟨o.slots,k b o (fun z=>hc (by simp [z])) e⟩) (fun _ _ _ _ n=>n)
  (fun b o hc e=>⟨o,k b o (fun z=>hc (by simp [z])) e⟩) (fun _ _ e=>e) (fun _ _ _ e=>e) (fun b ps e=>⟨#[],by rw[e]; simp⟩) (fun m hm=>?_) (fun b u e=>?_) I.bare
 ·have e:b = it:=by simpa using hb
  subst e
  exact⟨h1,hL,h2,h3⟩
 ·obtain⟨o,es,ep,ho,r⟩:=hm
  exact⟨o,es,ep,k _ o (Ne.symm hL) ho,r⟩
 ·refine (I.hok b u e).stay (fun c v hc q=>k c v ?_ q) (fun _ q=>q) fun _ _ q=>q
  rcases hc with z | z
  ·rw[z]; exact nit b u e
  ·exact nit c _ z
theorem Inv.tok (I:Inv X pins σ H s) (t:Nat):Inv X pins σ H { s with toks:=t }:=I.un (h':=s.heap) (t':=t) Un.refl I.hok
theorem Inv.kept {t':Nat} (I:Inv X pins σ H s) (k:∀ b u,s.heap.get? b = some u->h'.get? b = some u):Inv X pins σ H { s with heap:=h',toks:=t' }:=I.un (Un.kept k) (I.hok.kept k)
theorem Inv.laid {a:Addr} {o:HO} {t':Nat} (I:Inv X pins σ H s) (k:∀ b u,s.heap.get? b = some u->h'.get? b = some u) (hp:s.heap.objs.size <= a) (new:ObjOk X.prog X.w (upd H a o) h' a o) :
  Inv X pins σ (upd H a o) { s with heap:=h',toks:=t' }:=I.un (Un.laid k hp (I.hok.fresh hp)) (I.hok.laid k hp new)
theorem Inv.write {x e:Addr} {o:HO} {t':Nat} (I:Inv X pins σ H s) (mu:Mut (H x)) (he:e = x\/H e = some (.own x)) (k:∀ b u,b ≠ e->s.heap.get? b = some u->h'.get? b = some u) (heo:∃ u,h'.get? e = some u)
  (new:ObjOk X.prog X.w (upd H x o) h' x o):Inv X pins σ (upd H x o) { s with heap:=h',toks:=t' }:=I.un (Un.write mu he k heo) (I.hok.write mu he k heo new)
theorem Inv.weak {σ':List (Option V)} (I:Inv X pins σ H s) (hl:σ'.length = σ.length) (w:∀ (i:Nat) v,σ'[i]? = some (some v)->σ[i]? = some (some v)):Inv X pins σ' H s :=
 ⟨I.ok,I.os,I.bare,I.base,let ⟨m,hn,hl'⟩:=I.loc; ⟨m,hn,fun i x v e1 e2 e3=>hl' i x v e1 (w i v e2) e3⟩,I.cell,I.free,I.freeC,I.pin,I.hok,hl.trans I.len⟩
theorem Inv.pins_of {pins':List (Addr × Obj)} (I:Inv X pins σ H s) (h:∀ p ∈ pins',s.heap.get? p.1 = some p.2/\H p.1 = none/\p.1 ≠ X.env.locals/\p.1 ∉ X.fs/\∀ v,p.2.data ≠ .cell v):Inv X pins' σ H s :=
 ⟨I.ok,I.os,I.bare,I.base,I.loc,I.cell,I.free,I.freeC,fun p hp=>(mem_append.mp hp).elim (fun z=>I.pin p (mem_append_left _ z)) (h p),I.hok,I.len⟩
theorem Nm {N:List Str} (hN:N.Nodup) {i j:Nat} {x:Str} (a:N[i]? = some x) (b:N[j]? = some x):i = j:=by
 obtain⟨h1,e1⟩:=List.getElem?_eq_some_iff.mp a
 obtain⟨h2,e2⟩:=List.getElem?_eq_some_iff.mp b
 exact (List.getElem_inj hN).mp (e1.trans e2.symm)
theorem Yf {M:Model} {A:Around} {E:Value->Shared->Prop} {i:Nat} {x:Str} {v:V} {u:Value} {Q:Unit->Shared->Prop} (I:Inv X pins σ H s) (hN:X.N.Nodup) (hi:X.N[i]? = some x) (hx:Loc X.env.scope x) (r:RelV v u)
  (h:∀ s',Inv X pins (σ.set i (some v)) H s'->(∃ a,SameBut a s.heap s'.heap/\(a = X.env.locals\/X.env.cells.lookup x = some a))->Q () s') (hf:X.fn x = true\/X.env.scope.names.lookup x = some .local:=by first | exact .inl rfl | exact .inr rfl | assumption):wpAny M A (storeName X.env x u) Q E s:=by
 obtain⟨m,hn,hl⟩:=id I.loc
 have hcls:(X.env.scope.kind == .class || (X.env.scope.kind == .module && X.env.locals != X.env.globals)) = false:=by rw[I.ok.kind]; rfl
 have hiσ:i < σ.length:=by rw[I.len]; exact (List.getElem?_eq_some_iff.mp hi).1
 have cne:=I.cne
 have tracked:∀ {a:Addr} {h':Heap},(∃ o,s.heap.get? a = some o/\H a = none)->SameBut a s.heap h'->HOk X.prog X.w H h':=fun {a h'} ha hs b ob e=>by
  obtain⟨_,_,hfree⟩:=ha
  refine (I.hok b ob e).stay (fun c w' hc q=>(hs.2 c ?_).trans q) (fun _ q=>q) fun _ _ q=>q
  rintro rfl
  rcases hc with rfl | hc
  ·rw[hfree] at e; cases e
  ·rw[hfree] at hc; cases hc
 rcases hx with hk | hk
 ·refine wpAny_storeName_local hk hn (fun h' hn' hs=>?_) hcls
  obtain⟨oL,_,_,hoL,_⟩:=id hn
  refine h _ ⟨I.ok,I.os,I.bare,⟨fun b o e n hb hx=>?_,fun b o e n hb hx=>?_,I.base.free,fun b o e hx=>?_,I.base.tups,I.base.frzs,I.base.tbls⟩,⟨_,hn',fun j y v' e1 e2 e3=>?_⟩,fun y c e=>?_,I.free,I.freeC,fun p hp=>?_,tracked ⟨oL,hoL,I.free⟩ hs,by simpa using I.len⟩ ⟨_,hs,.inl rfl⟩
  ·exact (hs.2 b (ne_of_lt (Nat.lt_of_lt_of_le (lt_size e) I.ok.above))).trans (I.base.keep b o e n hb hx)
  ·obtain⟨sl,e1⟩:=I.base.slot b o e n hb hx
   exact⟨sl,(hs.2 b (ne_of_lt (Nat.lt_of_lt_of_le (lt_size e) I.ok.above))).trans e1⟩
  ·obtain⟨o',e1⟩:=I.base.there b o e hx
   exact⟨o',(hs.2 b (ne_of_lt (Nat.lt_of_lt_of_le (lt_size e) I.ok.above))).trans e1⟩
  ·by_cases hj:j = i
   ·subst hj
    rw[hi] at e1; cases e1
    rw[List.getElem?_set_self hiσ] at e2
    cases e2
    exact⟨u,r,.inl ⟨hk,by simp⟩⟩
   ·rw[getElem?_set_ne (Ne.symm hj)] at e2
    obtain⟨u',r',q⟩:=hl j y v' e1 e2 e3
    refine⟨u',r',?_⟩
    rcases q with ⟨k,e⟩ | ⟨k,c,e,z⟩
    ·refine .inl ⟨k,?_⟩
     have:y ≠ x:=fun e=>hj (Nm hN e1 (e ▸ hi))
     simp [this,e]
    ·exact .inr ⟨k,c,e,z.sameBut hs (cne y c e)⟩
  ·obtain⟨w',z⟩:=I.cell y c e
   exact⟨w',z.sameBut hs (cne y c e)⟩
  ·obtain⟨e,n,ne,nf,d⟩:=I.pin p hp
   exact⟨(hs.2 p.1 ne).trans e,n,ne,nf,d⟩
 ·have hfn:X.fn x = true:=by
   rcases hf with z | z
   ·exact z
   ·rw[z] at hk; cases hk
  obtain⟨c,hc⟩:=I.ok.has x (.inl hk)
  obtain⟨w',z⟩:=I.cell x c hc
  refine wpAny_storeName_cell I.ok.kind hk hc z (fun h' hc' hs=>?_)
  obtain⟨oc,hoc,hocd⟩:=id z
  refine h { s with heap:=h' } ⟨I.ok,I.os,I.bare,⟨fun b o e n hb hx=>?_,fun b o e n hb hx=>?_,I.base.free,fun b o e hx=>?_,I.base.tups,I.base.frzs,I.base.tbls⟩,⟨m,hn.sameBut hs (Ne.symm (cne x c hc)),fun j y v' e1 e2 e3=>?_⟩,fun y c' e=>?_,I.free,I.freeC,fun p hp=>?_,tracked ⟨oc,hoc,I.freeC x c hc⟩ hs,by simpa using I.len⟩ ⟨c,hs,.inr hc⟩
  ·exact (hs.2 b (ne_of_lt (Nat.lt_of_lt_of_le (lt_size e) (I.ok.cab x c hfn hc)))).trans (I.base.keep b o e n hb hx)
  ·obtain⟨sl,e1⟩:=I.base.slot b o e n hb hx
   exact⟨sl,(hs.2 b (ne_of_lt (Nat.lt_of_lt_of_le (lt_size e) (I.ok.cab x c hfn hc)))).trans e1⟩
  ·obtain⟨o',e1⟩:=I.base.there b o e hx
   exact⟨o',(hs.2 b (ne_of_lt (Nat.lt_of_lt_of_le (lt_size e) (I.ok.cab x c hfn hc)))).trans e1⟩
  ·by_cases hj:j = i
   ·subst hj
    rw[hi] at e1; cases e1
    rw[List.getElem?_set_self hiσ] at e2
    cases e2
    exact⟨u,r,.inr ⟨.inl hk,c,hc,hc'⟩⟩
   ·rw[getElem?_set_ne (Ne.symm hj)] at e2
    obtain⟨u',r',q⟩:=hl j y v' e1 e2 e3
    refine⟨u',r',?_⟩
    rcases q with q | ⟨k,c',e,z'⟩
    ·exact .inl q
    ·refine .inr ⟨k,c',e,z'.sameBut hs ?_⟩
     rintro rfl
     exact hj (Nm hN e1 (I.ok.inj _ _ _ e hc ▸ hi))
  ·by_cases hcc:c' = c
   ·subst hcc; exact⟨_,hc'⟩
   ·obtain⟨w2,z2⟩:=I.cell y c' e
    exact⟨w2,z2.sameBut hs hcc⟩
  ·obtain⟨e,n,ne,nf,d⟩:=I.pin p hp
   refine⟨(hs.2 p.1 ?_).trans e,n,ne,nf,d⟩
   intro q
   rw[q,hoc] at e
   have q':oc = p.2:=Option.some.inj e
   exact d w' (by rw[<- q']; exact hocd)
theorem Aar {M:Model} {A:Around} {E:Value->Shared->Prop} {i:Nat} {x:Str} {v:V} {u:Value} {Q:Unit->Shared->Prop} (I:Inv X pins σ H s) (hN:X.N.Nodup) (hi:X.N[i]? = some x) (hx:Loc X.env.scope x) (r:RelV v u)
  (h:∀ s',Inv X pins (σ.set i (some v)) H s'->Q () s') (hf:X.fn x = true\/X.env.scope.names.lookup x = some .local:=by first | exact .inl rfl | exact .inr rfl | assumption):wpAny M A (storeName X.env x u) Q E s :=
 Yf I hN hi hx r (fun s' I' _=>h s' I') hf
end
abbrev XK:=Value->Option Addr->Hp->Prop
abbrev St:=List (Option V)
abbrev VK:=V->Hp->Prop
abbrev TE:=St->Hp->VK->Prop
abbrev TT:=St->Hp->(Bool->Hp->Prop)->Prop
abbrev TA:=St->Hp->(List V->Hp->Prop)->Prop
structure Ends where
 nx:St->Hp->Prop
 rt:VK
 bk:St->Hp->Prop:=fun _ _=>False
 ct:St->Hp->Prop:=fun _ _=>False
abbrev TS:=Ends->St->Hp->Prop
def EP (X:Cx) (pins:List (Addr × Obj)) (σ:St) (Q:VK) (u:Value) (s':Shared):Prop:=∃ v H',Inv X pins σ H' s'/\RelV v u/\Q v H'
def TP (X:Cx) (pins:List (Addr × Obj)) (σ:St) (Q:Bool->Hp->Prop) (b:Bool) (s':Shared):Prop:=∃ H',Inv X pins σ H' s'/\Q b H'
def AP (X:Cx) (pins:List (Addr × Obj)) (σ:St) (Q:List V->Hp->Prop) (us:List Value) (s':Shared):Prop:=∃ vs H',Inv X pins σ H' s'/\Vals vs us/\Q vs H'
def SP (X:Cx) (pins:List (Addr × Obj)) (D:Ends) (f:Flow) (s':Shared):Prop :=
 match f with
 | .next=>∃ σ' H',Inv X pins σ' H' s'/\D.nx σ' H'
 | .brk=>∃ σ' H',Inv X pins σ' H' s'/\D.bk σ' H'
 | .cont=>∃ σ' H',Inv X pins σ' H' s'/\D.ct σ' H'
 | .ret u=>∃ v σ' H',Inv X pins σ' H' s'/\RelV v u/\D.rt v H'
def PE (X:Cx) (e:Expr) (t:TE):Prop :=
 ∀ (pins:List (Addr × Obj)) (s:Shared) (σ:St) (H:Hp) (Q:VK),Inv X pins σ H s->t σ H Q->wpAny (model X.prog X.w) X.A (eval e X.env) (EP X pins σ Q) X.xe s
def PT (X:Cx) (e:Expr) (t:TT):Prop :=
 ∀ (pins:List (Addr × Obj)) (s:Shared) (σ:St) (H:Hp) (Q:Bool->Hp->Prop),Inv X pins σ H s->t σ H Q->wpAny (model X.prog X.w) X.A (isTrue e X.env (eval e X.env)) (TP X pins σ Q) X.xe s
def PW (X:Cx) (e:Expr) (t:TT):Prop :=
 ∀ (whole:Sem Value) (pins:List (Addr × Obj)) (s:Shared) (σ:St) (H:Hp) (Q:Bool->Hp->Prop),Inv X pins σ H s->t σ H Q->wpAny (model X.prog X.w) X.A (isTrue e X.env whole) (TP X pins σ Q) X.xe s
theorem PW.pt {X:Cx} {e:Expr} {t:TT} (h:PW X e t):PT X e t:=h _
def PA (X:Cx) (es:List Expr) (t:TA):Prop :=
 ∀ (pos:Pos) (pins:List (Addr × Obj)) (s:Shared) (σ:St) (H:Hp) (Q:List V->Hp->Prop),Inv X pins σ H s->t σ H Q->wpAny (model X.prog X.w) X.A (spliced (backTo pos (starEach es X.env))) (AP X pins σ Q) X.xe s
def PS (X:Cx) (st:Stmt) (t:TS):Prop :=
 ∀ (pins:List (Addr × Obj)) (s:Shared) (σ:St) (H:Hp) (D:Ends),Inv X pins σ H s->t D σ H->wpAny (model X.prog X.w) X.A (exec st X.env) (SP X pins D) X.xe s
def PSs (X:Cx) (st:List Stmt) (t:TS):Prop :=
 ∀ (pins:List (Addr × Obj)) (s:Shared) (σ:St) (H:Hp) (D:Ends),Inv X pins σ H s->t D σ H->wpAny (model X.prog X.w) X.A (execs st X.env) (SP X pins D) X.xe s
theorem thn {α:Type} {t:Sem α} {Q Q':α->Shared->Prop} {M:Model} {A:Around} {E:Value->Shared->Prop} {s:Shared} (h:wpAny M A t Q E s) (hQ:∀ a s,Q a s->Q' a s):wpAny M A t Q' E s:=wpAny_mono h hQ fun _ _ x=>x
section
variable {X:Cx}
def Gq (i:Nat):TE:=fun σ H Q=>∃ v,σ[i]? = some (some v)/\Q v H
def tC (v:V):TE:=fun _ H Q=>Q v H
theorem Alq {i:Nat} {x:Str} {pos:Pos} (hN:X.N[i]? = some x) (hv:Vis X.env.scope x) (hd:(x == ("__debug__" : Str)) = false:=by decide) (hcd:(x == ("__classdict__" : Str)) = false:=by decide):PE X (.Name x pos) (Gq i):=by
 intro pins s σ H Q I h
 obtain⟨v,e,h⟩:=h
 obtain⟨m,hn,hl⟩:=I.loc
 obtain⟨u,r,l⟩:=hl i x v hN e hv
 have fin:EP X pins σ Q u s:=⟨v,H,I,r,h⟩
 rcases l with ⟨hk,hm⟩ | ⟨hk,c,hc,hcell⟩
 ·exact wpAny_Name (wpAny_loadName_local I.ok.kind hk hn hm fin) hd
 ·rcases hk with hk | hk
  ·exact wpAny_Name (wpAny_loadName_cell I.ok.kind hk hc hcell fin) hd
  ·exact wpAny_Name (wpAny_loadName_free I.ok.kind hk hc hcell fin hcd) hd
theorem Bg {i j pos}:PE X (.Constant (.int i) j pos) (tC (.int i)):=fun _ _ _ H _ I h=>wpAny_Constant_int ⟨.int i,H,I.tok _,⟨_,rfl⟩,h⟩
theorem Of {b j pos}:PE X (.Constant (.bool b) j pos) (tC (.bl b)):=fun _ _ _ H _ I h=>Constant_bool ⟨.bl b,H,I,rfl,h⟩
theorem Cf {x j pos}:PE X (.Constant (.str x) j pos) (tC (.str x)):=fun _ _ _ H _ I h=>Calls.Constant_str ⟨.str x,H,I.tok _,⟨_,rfl⟩,h⟩
def Gl (X:Cx) (x:Str):Prop:=X.env.kindOf x = some .globalImplicit
theorem Xf {E:Value->Shared->Prop} {pins:List (Addr × Obj)} {s:Shared} {σ:St} {H:Hp} {x:Str} {u:Value} {pos:Pos} {Q:Value->Shared->Prop} (I:Inv X pins σ H s) (hg:Gl X x) (hm:X.mg x = some u) (h:Q u s)
  (hd:(x == ("__debug__" : Str)) = false:=by decide):wpAny (model X.prog X.w) X.A (eval (.Name x pos) X.env) Q E s :=
 Calls.Name_function_global I.ok.kind hg (Calls.loadGlobal_global (by rw[I.ok.glob]; exact I.mod.glob.keeps I.bk) hm h) hd
theorem Qn {E:Value->Shared->Prop} {pins:List (Addr × Obj)} {s:Shared} {σ:St} {H:Hp} {x:Str} {u:Value} {pos:Pos} {Q:Value->Shared->Prop} (I:Inv X pins σ H s) (hg:Gl X x) (hm:X.mg x = none) (hv:bootBuiltins x = some u) (h:Q u s)
  (hn:x ≠ "__name__":=by decide) (hd:(x == ("__debug__" : Str)) = false:=by decide):wpAny (model X.prog X.w) X.A (eval (.Name x pos) X.env) Q E s:=by
 obtain⟨mb,h1,h2⟩:=I.mod.blt
 exact Calls.Name_function_global I.ok.kind hg (Calls.loadGlobal_builtin (by rw[I.ok.glob]; exact I.mod.glob.keeps I.bk) hm (by rw[I.ok.blt]; exact h1.keeps I.bk) ((h2 x hn).trans hv) h) hd
theorem Xc {x:Str} {v:V} {u:Value} {pos:Pos} (hg:Gl X x) (hm:X.mg x = some u) (r:RelV v u) (hd:(x == ("__debug__" : Str)) = false:=by decide):PE X (.Name x pos) (tC v) :=
 fun _ _ _ H _ I h=>Xf I hg hm ⟨v,H,I,r,h⟩ hd
theorem Ni {x:Str} {v:V} {u:Value} {pos:Pos} (hg:Gl X x) (hm:X.mg x = none) (hv:bootBuiltins x = some u) (r:RelV v u) (hn:x ≠ "__name__":=by decide) (hd:(x == ("__debug__" : Str)) = false:=by decide):PE X (.Name x pos) (tC v) :=
 fun _ _ _ H _ I h=>Qn I hg hm hv ⟨v,H,I,r,h⟩ hn hd
variable {a b:Expr} {ta tb:TE} {pos:Pos}
def PC (X:Cx) (op:CmpOp) (a b:Expr) (t:TE):Prop :=
 ∀ (pins:List (Addr × Obj)) (s:Shared) (σ:St) (H:Hp) (Q:VK),Inv X pins σ H s->t σ H Q ->
  wpAny (model X.prog X.w) X.A (eval a X.env) (fun v s₁=>wpAny (model X.prog X.w) X.A (eval b X.env) (fun u s₂=>wpAny (model X.prog X.w) X.A (compareOp op v u) (EP X pins σ Q) X.xe s₂) X.xe s₁) X.xe s
theorem Zo (b:Expr) {op:CmpOp} (h:op ≠ .In) (h2:op ≠ .NotIn):behindInMarks op b = false:=by
 have e1:(op == CmpOp.In) = false:=by cases op <;> first | rfl | exact absurd rfl h
 have e2:(op == CmpOp.NotIn) = false:=by cases op <;> first | rfl | exact absurd rfl h2
 cases b <;> simp [behindInMarks,e1,e2]
def AlU (ta:TE):TE:=fun σ H Q=>ta σ H fun x H1=>Q (.bl (decide (x = .non))) H1
def AhA (ta:TE):TE:=fun σ H Q=>ta σ H fun x H1=>Q (.bl (!decide (x = .non))) H1
theorem RelV.none_iff {x:V} {v:Value} (r:RelV x v):(v == Value.none) = decide (x = .non):=by
 cases x with
 | non=>cases r; rfl
 | bl _=>cases r; rfl
 | int _=>obtain⟨t,rfl⟩:=r; rfl
 | str _=>obtain⟨t,rfl⟩:=r; rfl
 | byt _=>obtain⟨t,rfl⟩:=r; rfl
 | flt _=>obtain⟨t,rfl⟩:=r; rfl
 | ref _=>cases r; rfl
 | ty _=>cases r; rfl
theorem Ali {j pos'} (ha:PE X a ta):PC X .Is a (.Constant .none j pos') (AlU ta):=by
 intro pins s σ H Q I h
 refine thn (ha pins s σ H _ I h) fun v s1 ⟨x,H1,I1,r1,q1⟩=>?_
 exact Constant_none (is_none_gen ⟨.bl _,H1,I1,by rw[r1.none_iff]; rfl,q1⟩)
theorem Ajj {j pos'} (ha:PE X a ta):PC X .IsNot a (.Constant .none j pos') (AhA ta):=by
 intro pins s σ H Q I h
 refine thn (ha pins s σ H _ I h) fun v s1 ⟨x,H1,I1,r1,q1⟩=>?_
 exact Constant_none (isnot_none_gen ⟨.bl _,H1,I1,by rw[r1.none_iff]; rfl,q1⟩)
def tB (t:TE):TT:=fun σ H Q=>t σ H fun x H1=>∃ c,x = .bl c/\Q c H1
theorem Vp {op:CmpOp} {t:TE} (h:PC X op a b t) (h1:behindInMarks op b = false:=by first | exact Zo _ (by decide) (by decide) | rfl):PE X (.Compare a [op] [b] pos) t:=fun pins s σ H Q I hw=>wpAny_Compare1 (h pins s σ H Q I hw) h1
theorem Tm {op:CmpOp} {t:TE} (h:PC X op a b t) (h1:behindInMarks op b = false:=by first | exact Zo _ (by decide) (by decide) | rfl):PT X (.Compare a [op] [b] pos) (tB t):=by
 intro pins s σ H Q I hw
 refine wpAny_isTrue_Compare1 (thn (h pins s σ H _ I hw) fun v s1 h1=>thn h1 fun u s2 h2=>thn h2 fun c s3 ⟨x,H1,I1,r1,q1⟩=>?_) h1
 obtain⟨d,rfl,q⟩:=q1
 cases r1
 exact wpAny_truthy_bool ⟨H1,I1,q⟩
theorem Ta {e:Expr} {t:TE} (h:PE X e t) (he:∀ whole,isTrue e X.env whole = (do let v <- whole; standAt e.pos; holding [v] (truthy v)):=by intro _; rfl):PT X e (tB t):=by
 intro pins s σ H Q I hw
 refine isTrue_plain (thn (h pins s σ H _ I hw) fun v s1 ⟨x,H1,I1,r1,q1⟩=>?_) (he _)
 obtain⟨d,rfl,q⟩:=q1
 cases r1
 exact wpAny_truthy_bool ⟨H1,I1,q⟩
variable {tA tB':TT} {rest:List Expr}
def AgE (t u:TT):TT:=fun σ H Q=>t σ H fun c H1=>if c = true then u σ H1 Q else Q false H1
def tOr (t u:TT):TT:=fun σ H Q=>t σ H fun c H1=>if c = true then Q true H1 else u σ H1 Q
def AgD (t:TT):TT:=fun σ H Q=>t σ H fun c H1=>Q (!c) H1
theorem Uf (ha:PT X a tA):PW X (.BoolOp .And [a] pos) tA:=by
 intro wh pins s σ H Q I h
 refine isTrue_and (thn (ha pins s σ H Q I h) fun c s1 e=>?_)
 cases c with
 | true=>exact isTrue_and_nil e
 | false=>exact e
theorem Sv (ha:PT X a tA):PW X (.BoolOp .Or [a] pos) tA:=by
 intro wh pins s σ H Q I h
 refine isTrue_or (thn (ha pins s σ H Q I h) fun c s1 e=>?_)
 cases c with
 | false=>exact isTrue_or_nil e
 | true=>exact e
theorem Vr (ha:PT X a tA) (hb:PW X (.BoolOp .And (b :: rest) pos) tB'):PW X (.BoolOp .And (a :: b :: rest) pos) (AgE tA tB'):=by
 intro wh pins s σ H Q I h
 refine isTrue_and (thn (ha pins s σ H _ I h) fun c s1 ⟨H1,I1,q1⟩=>?_)
 cases c with
 | true=>exact hb wh pins s1 σ H1 Q I1 q1
 | false=>exact⟨H1,I1,q1⟩
theorem Wc (ha:PT X a tA) (hb:PW X (.BoolOp .Or (b :: rest) pos) tB'):PW X (.BoolOp .Or (a :: b :: rest) pos) (tOr tA tB'):=by
 intro wh pins s σ H Q I h
 refine isTrue_or (thn (ha pins s σ H _ I h) fun c s1 ⟨H1,I1,q1⟩=>?_)
 cases c with
 | true=>exact⟨H1,I1,q1⟩
 | false=>exact hb wh pins s1 σ H1 Q I1 q1
theorem Wo (ha:PT X a tA):PT X (.UnaryOp .Not a pos) (AgD tA):=by
 intro pins s σ H Q I h
 exact isTrue_not (ha pins s σ H (fun c H1=>Q (!c) H1) I h)
def Acn (ta tb:TE):TE:=fun σ H Q=>ta σ H fun x H1=>∃ c,x = .bl c/\if c = true then tb σ H1 Q else Q (.bl false) H1
def Ahm (ta:TE):TE:=fun σ H Q=>ta σ H fun x H1=>∃ c,x = .bl c/\Q (.bl (!c)) H1
theorem Ow {op} {t:TE} (h:PE X a t):PE X (.BoolOp op [a] pos) t:=fun pins s σ H Q I hw=>BoolOp_one (h pins s σ H Q I hw)
theorem Ny (ha:PE X a ta) (hb:PE X (.BoolOp .And (b :: rest) pos) tb):PE X (.BoolOp .And (a :: b :: rest) pos) (Acn ta tb):=by
 intro pins s σ H Q I h
 refine BoolOp_and (thn (ha pins s σ H _ I h) fun v s1 ⟨x,H1,I1,r1,q1⟩=>?_)
 obtain⟨c,rfl,q1⟩:=q1
 cases r1
 refine wpAny_truthy_bool ?_
 cases c with
 | true=>exact hb pins s1 σ H1 Q I1 q1
 | false=>exact⟨.bl false,H1,I1,rfl,q1⟩
theorem Amf (ha:PE X a ta):PE X (.UnaryOp .Not a pos) (Ahm ta):=by
 intro pins s σ H Q I h
 refine UnaryOp_ (thn (ha pins s σ H _ I h) fun v s1 ⟨x,H1,I1,r1,q1⟩=>?_)
 obtain⟨c,rfl,q1⟩:=q1
 cases r1
 exact not_of (wpAny_truthy_bool ⟨.bl (!c),H1,I1,rfl,q1⟩)
def tIf (t:TT) (ta tb:TE):TE:=fun σ H Q=>t σ H fun c H1=>if c = true then ta σ H1 Q else tb σ H1 Q
theorem AfE {c:Expr} (hc:PT X c tA) (ha:PE X a ta) (hb:PE X b tb):PE X (.IfExp c a b pos) (tIf tA ta tb):=by
 intro pins s σ H Q I h
 refine wpAny_IfExp (thn (hc pins s σ H _ I h) fun d s1 ⟨H1,I1,q1⟩=>?_)
 cases d with
 | true=>exact ha pins s1 σ H1 Q I1 q1
 | false=>exact hb pins s1 σ H1 Q I1 q1
end
def SqL (K:Frag) (H:Hp) (a:Addr) (xs:List V):Prop :=
 Rd H a (.lst xs) \/
  ∃ (o:Obj) (its:Array Value) (n:Nat),K.lookup a = some o/\o.cls = .type "list"/\o.dict = none/\o.data = .seq its n/\its.size <= sizeLine/\Vals xs its.toList
def SqT (K:Frag) (H:Hp) (a:Addr) (xs:List V):Prop :=
 Rd H a (.tup xs) \/
  ∃ (o:Obj) (its:Array Value) (n:Nat),K.lookup a = some o/\o.cls = .type "tuple"/\o.data = .seq its n/\its.size <= sizeLine/\Vals xs its.toList
def An7:Value->Option V
 | .none=>some .non
 | .bool b=>some (.bl b)
 | .int i _=>some (.int i)
 | .str x _=>some (.str x)
 | .bytes b _=>some (.byt b)
 | .float b _=>some (.flt b)
 | .ref a=>some (.ref a)
 | .type n=>some (.ty n)
 | _=>none
theorem RelV.abs {x:V} {u:Value} (r:RelV x u):An7 u = some x:=by
 cases x with
 | non=>cases r; rfl
 | bl _=>cases r; rfl
 | int _=>obtain⟨t,rfl⟩:=r; rfl
 | str _=>obtain⟨t,rfl⟩:=r; rfl
 | byt _=>obtain⟨t,rfl⟩:=r; rfl
 | flt _=>obtain⟨t,rfl⟩:=r; rfl
 | ref _=>cases r; rfl
 | ty _=>cases r; rfl
theorem RelV.inj {x y:V} {u:Value} (r:RelV x u) (q:RelV y u):x = y:=Option.some.inj (r.abs.symm.trans q.abs)
theorem Vals.inj:∀ {xs ys:List V} {us:List Value},Vals xs us->Vals ys us->xs = ys
 | _,_,_,.nil,.nil=>rfl
 | _,_,_,.cons r t,.cons r' t'=>by rw[r.inj r',Vals.inj t t']
section
variable {X:Cx} {pins:List (Addr × Obj)} {σ:St} {H:Hp} {s:Shared} {a:Addr} {xs ys:List V}
theorem SqL.of {K:Frag} (h:H a = some (.lst xs)):SqL K H a xs:=.inl (.inl h)
theorem SqT.of {K:Frag} (h:H a = some (.tup xs)):SqT K H a xs:=.inl (.inl h)
theorem Inv.list (I:Inv X pins σ H s) (h:SqL X.K H a xs):∃ its:List Value,Vals xs its/\PlainL s.heap a its.toArray/\xs.length <= sizeLine:=by
 rcases h with h | ⟨o,its,n,hk,hc,hd,hs,hz,r⟩
 ·obtain⟨z,its,n,r,e⟩:=h.ok I.hok
  exact⟨its,r,⟨_,n,e,rfl,rfl,rfl⟩,z⟩
 ·refine⟨its.toList,r,⟨o,n,I.kIn a o hk,hc,hd,by simpa using hs⟩,?_⟩
  have e:=r.length
  simp only [Array.length_toList] at e
  omega
theorem Inv.tuple (I:Inv X pins σ H s) (h:SqT X.K H a xs):∃ its:List Value,Vals xs its/\IsTup s.heap a its.toArray/\xs.length <= sizeLine:=by
 rcases h with h | ⟨o,its,n,hk,hc,hs,hz,r⟩
 ·obtain⟨z,its,r,p⟩:=h.ok I.hok
  exact⟨its,r,p,z⟩
 ·refine⟨its.toList,r,⟨o,I.kIn a o hk,hc,n,by simpa using hs⟩,?_⟩
  have e:=r.length
  simp only [Array.length_toList] at e
  omega
theorem Inv.list_inj (I:Inv X pins σ H s) (h:SqL X.K H a xs) (h':SqL X.K H a ys):xs = ys:=by
 obtain⟨its,r,⟨o,n,e,_,_,d⟩,_⟩:=I.list h
 obtain⟨its',r',⟨o',n',e',_,_,d'⟩,_⟩:=I.list h'
 rw[e] at e'; cases e'
 rw[d] at d'
 injection d' with d1 _
 have:its = its':=by simpa using congrArg Array.toList d1
 subst this
 exact r.inj r'
end
abbrev Cx.wish (X:Cx) (E:Value->Shared->Prop):Cx:={ X with xe:=E }
abbrev Cx.nox (X:Cx):Cx:=X.wish fun _ _=>False
theorem Cx.Ok.wish {X:Cx} (ok:X.Ok) (E:Value->Shared->Prop):(X.wish E).Ok :=
 ⟨ok.mod,ok.kind,ok.glob,ok.blt,ok.above,ok.inj,ok.has,ok.cab,ok.hd,ok.frames,ok.stk,ok.exf,ok.bs,ok.bsz,ok.noex,ok.exfs,ok.funs,ok.frf⟩
theorem Cx.Ok.unwish {X:Cx} {E:Value->Shared->Prop} (ok:(X.wish E).Ok):X.Ok :=
 ⟨ok.mod,ok.kind,ok.glob,ok.blt,ok.above,ok.inj,ok.has,ok.cab,ok.hd,ok.frames,ok.stk,ok.exf,ok.bs,ok.bsz,ok.noex,ok.exfs,ok.funs,ok.frf⟩
section
variable {X:Cx} {pins:List (Addr × Obj)} {σ:St} {H:Hp} {s:Shared} {E:Value->Shared->Prop}
theorem Inv.wish (I:Inv X pins σ H s) (E:Value->Shared->Prop):Inv (X.wish E) pins σ H s:=⟨I.ok.wish E,I.os,I.bare,I.base,I.loc,I.cell,I.free,I.freeC,I.pin,I.hok,I.len⟩
theorem Inv.unwish (I:Inv (X.wish E) pins σ H s):Inv X pins σ H s:=⟨I.ok.unwish,I.os,I.bare,I.base,I.loc,I.cell,I.free,I.freeC,I.pin,I.hok,I.len⟩
theorem SP.unwish {D:Ends} {f:Flow} {s':Shared} (h:SP (X.wish E) pins D f s'):SP X pins D f s':=by
 cases f with
 | next=>obtain⟨σ',H',I,q⟩:=h; exact⟨σ',H',I.unwish,q⟩
 | brk=>obtain⟨σ',H',I,q⟩:=h; exact⟨σ',H',I.unwish,q⟩
 | cont=>obtain⟨σ',H',I,q⟩:=h; exact⟨σ',H',I.unwish,q⟩
 | ret u=>obtain⟨v,σ',H',I,r,q⟩:=h; exact⟨v,σ',H',I.unwish,r,q⟩
theorem PSs.nox {st:List Stmt} {t:TS} (h:PSs X.nox st t):PSs X st t:=fun pins s σ H D I hw =>
 wpAny_mono (h pins s σ H D (I.wish _) hw) (fun _ _ q=>q.unwish) fun _ _ z=>False.elim z
end
section
variable {X:Cx} {st:Stmt} {rest:List Stmt} {t u:TS} {e:Expr} {te:TE} {pos:Pos}
def Adg:TS:=fun D σ H=>D.nx σ H
def AfX (t u:TS):TS:=fun D σ H=>t { D with nx:=u D } σ H
theorem Dg:PSs X [] Adg:=fun _ _ σ H _ I h=>wpAny_execs_nil ⟨σ,H,I,h⟩
theorem Bc (h1:PS X st t) (h2:PSs X rest u):PSs X (st :: rest) (AfX t u):=by
 intro pins s σ H D I h
 refine wpAny_execs_cons (thn (h1 pins s σ H { D with nx:=u D } I h) fun f s1 q=>?_)
 cases f with
 | next =>
  obtain⟨σ',H',I',q⟩:=q
  exact h2 pins s1 σ' H' D I' q
 | ret v=>exact q
 | brk=>exact q
 | cont=>exact q
theorem Bi (h1:PS X st t):PSs X [st] t:=by
 intro pins s σ H D I h
 refine wpAny_execs_cons (thn (h1 pins s σ H D I h) fun f s1 q=>?_)
 cases f with
 | next=>exact wpAny_execs_nil q
 | ret v=>exact q
 | brk=>exact q
 | cont=>exact q
theorem Inv.quiet {pins:List (Addr × Obj)} {σ:St} {H:Hp} {s:Shared} (I:Inv X pins σ H s):interactive X.env = false:=by simp [interactive,I.ok.kind]
def Vw (te:TE):TS:=fun D σ H=>te σ H fun _ H1=>D.nx σ H1
theorem Cj (he:PE X e te) (hs:swapsWith e none pos.line X.env = pure false:=by rfl):PS X (.Expr e pos) (Vw te):=by
 intro pins s σ H D I h
 exact wpAny_Expr_any (thn (he pins s σ H _ I h) fun v s1 ⟨x,H1,I1,r1,q1⟩=>⟨σ,H1,I1,q1⟩) I.quiet hs
def Xh (te:TE):TS:=fun D σ H=>te σ H D.rt
theorem Cd (he:PE X e te):PS X (.Return (some e) pos) (Xh te):=by
 intro pins s σ H D I h
 exact wpAny_Return_some (thn (he pins s σ H _ I h) fun v s1 ⟨x,H1,I1,r1,q1⟩=>⟨x,σ,H1,I1,r1,q1⟩)
def Af5 (c:TT) (t u:TS):TS:=fun D σ H=>c σ H fun b H1=>if b = true then t D σ H1 else u D σ H1
theorem Dx {c:Expr} {a b:List Stmt} {tc:TT} (hc:PT X c tc) (ha:PSs X a t) (hb:PSs X b u):PS X (.If c a b pos) (Af5 tc t u):=by
 intro pins s σ H D I h
 refine wpAny_If (thn (hc pins s σ H _ I h) fun d s1 ⟨H1,I1,q1⟩=>?_)
 cases d with
 | true=>exact ha pins s1 σ H1 D I1 q1
 | false=>exact hb pins s1 σ H1 D I1 q1
def Aem:TS:=fun _ _ _=>False
theorem Yl {sts:List Stmt}:PSs X sts Aem:=fun _ _ _ _ _ _ h=>h.elim
end
abbrev TG:=V->St->Hp->(St->Hp->Prop)->Prop
abbrev TGs:=List V->St->Hp->(St->Hp->Prop)->Prop
def PG (X:Cx) (target:Expr) (t:TG):Prop :=
 ∀ (pins:List (Addr × Obj)) (s:Shared) (σ:St) (H:Hp) (v:V) (u:Value) (Q:St->Hp->Prop),Inv X pins σ H s->RelV v u->t v σ H Q ->
  wpAny (model X.prog X.w) X.A (assign target X.env u) (fun _ s'=>∃ σ' H',Inv X pins σ' H' s'/\Q σ' H') X.xe s
def PGs (X:Cx) (ts:List Expr) (t:TGs):Prop :=
 ∀ (pins:List (Addr × Obj)) (s:Shared) (σ:St) (H:Hp) (vs:List V) (us:List Value) (Q:St->Hp->Prop),Inv X pins σ H s->Vals vs us->t vs σ H Q ->
  wpAny (model X.prog X.w) X.A (assignInOrder ((assignEach ts X.env).map (·.2)) us) (fun _ s'=>∃ σ' H',Inv X pins σ' H' s'/\Q σ' H') X.xe s
section
variable {X:Cx} {pos:Pos}
def Na (i:Nat):TG:=fun v σ H Q=>Q (σ.set i (some v)) H
theorem Bq {i:Nat} {x:Str} (hN:X.N.Nodup) (hi:X.N[i]? = some x) (hx:Loc X.env.scope x) (hf:X.fn x = true\/X.env.scope.names.lookup x = some .local:=by first | exact .inl rfl | exact .inr rfl | assumption):PG X (.Name x pos) (Na i):=by
 intro pins s σ H v u Q I r h
 exact wpAny_assign_Name (Aar I hN hi hx r (fun s' I'=>⟨_,H,I',h⟩) hf)
def Agp:TGs:=fun vs σ H Q=>vs = []/\Q σ H
def Ac6 (t:TG) (u:TGs):TGs:=fun vs σ H Q=>∃ v r,vs = v :: r/\t v σ H fun σ' H'=>u r σ' H' Q
theorem Ge:PGs X [] Agp:=by
 intro pins s σ H vs us Q I r h
 obtain⟨e,h⟩:=h
 subst e
 cases r
 exact assignInOrder_nil ⟨σ,H,I,h⟩
theorem Ci {e:Expr} {es:List Expr} {t:TG} {u:TGs} (h1:PG X e t) (h2:PGs X es u)
  (hs:(assignEach (e :: es) X.env).map (·.2) = assign e X.env :: (assignEach es X.env).map (·.2):=by rfl):PGs X (e :: es) (Ac6 t u):=by
 intro pins s σ H vs us Q I r h
 obtain⟨v,vr,e1,h⟩:=h
 subst e1
 cases r with
 | cons r rr =>
  rw[hs]
  refine assignInOrder_cons (thn (h1 pins s σ H _ _ _ I r h) fun _ s1 ⟨σ1,H1,I1,q1⟩=>?_)
  exact h2 pins s1 σ1 H1 _ _ Q I1 rr q1
def AaC (K:Frag) (n:Nat) (t:TGs):TG:=fun v σ H Q=>∃ a xs,v = .ref a/\SqT K H a xs/\xs.length = n/\t xs σ H Q
theorem Os {es:List Expr} {k:Nat} {t:TGs} {n:Nat} (hc:X.calm = true) (h:PGs X es t)
  (hn:(assignEach es X.env).length = n:=by rfl) (hst:(assignEach es X.env).findIdx? (·.1) = none:=by rfl):PG X (.Tuple es k pos) (AaC X.K n t):=by
 intro pins s σ H v u Q I r hw
 obtain⟨a,xs,e1,hq,hl,hw⟩:=hw
 subst e1
 cases r
 obtain⟨its,rv,ht,hz⟩:=I.tuple hq
 refine assign_Tuple_tuple (I.ok.hd hc) ht (by simp [hn,<- hl,rv.length]) hst fun h' hx=>?_
 have I1:Inv X pins σ H { s with heap:=h' }:=I.kept (t':=s.toks) fun b o e=>hx b o (ne_of_lt (lt_size e)) e
 exact h pins _ σ H xs _ Q I1 (by simpa using rv) hw
def Th (te:TE) (g:TG):TS:=fun D σ H=>te σ H fun x H1=>g x σ H1 D.nx
theorem Bo {i:Nat} {x:Str} {e:Expr} {te:TE} {pos':Pos} (hN:X.N.Nodup) (hi:X.N[i]? = some x) (hx:Loc X.env.scope x) (he:PE X e te) (hs:swapsWith e (some (.Name x pos')) pos.line X.env = pure false:=by rfl) (hf:X.fn x = true\/X.env.scope.names.lookup x = some .local:=by first | exact .inl rfl | exact .inr rfl | assumption) :
  PS X (.Assign [.Name x pos'] e pos) (Th te (Na i)):=by
 intro pins s σ H D I h
 refine wpAny_Assign_Name (thn (he pins s σ H _ I h) fun v s1 ⟨y,H1,I1,r1,q1⟩=>?_) hs
 exact Aar I1 hN hi hx r1 (fun s2 I2=>⟨_,H1,I2,q1⟩) hf
end
section
variable {X:Cx} {pos:Pos}
def AdV (c:TT) (tb:TS):TS:=fun D σ H=>∃ W:Nat->St->Hp->Prop,(∃ m,W m σ H)/\∀ m σ H,W m σ H ->
 c σ H fun b H1=>if b = true then ∃ N:St->Hp->Prop,(∀ σ' H',N σ' H'->∃ m',m' < m/\W m' σ' H')/\tb { D with nx:=N,ct:=N,bk:=D.nx } σ H1 else D.nx σ H1
theorem Aah {c:Expr} {body:List Stmt} {tc:TT} {tb:TS} (hp:PassesOwn (model X.prog X.w) X.A X.env X.xe) (hc:PT X c tc) (hb:PSs X body tb):PS X (.While c body [] pos) (AdV tc tb):=by
 intro pins s σ H D I h
 obtain⟨W,⟨m0,w0⟩,turn⟩:=h
 refine wpAny_While (codeAny_whileLoop (fun n s'=>∃ σ' H',Inv X pins σ' H' s'/\W n σ' H') ?_ m0 ⟨σ,H,I,w0⟩)
 rintro n s1 ⟨σ1,H1,I1,w1⟩
 refine wpAny_passesOwn hp (thn (hc pins s1 σ1 H1 _ I1 (turn n σ1 H1 w1)) fun b s2 ⟨H2,I2,q2⟩=>?_)
 cases b with
 | true =>
  obtain⟨N,hN,q2⟩:=q2
  rw[if_pos rfl]
  refine wpAny_passesOwn hp (thn (hb pins s2 σ1 H2 _ I2 q2) fun f s3 q3=>?_)
  cases f with
  | next =>
   obtain⟨σ3,H3,I3,n3⟩:=q3
   obtain⟨m',hm,w3⟩:=hN σ3 H3 n3
   exact⟨m',hm,σ3,H3,I3,w3⟩
  | cont =>
   obtain⟨σ3,H3,I3,n3⟩:=q3
   obtain⟨m',hm,w3⟩:=hN σ3 H3 n3
   exact⟨m',hm,σ3,H3,I3,w3⟩
  | brk=>exact q3
  | ret v=>exact q3
 | false =>
  rw[if_neg Bool.false_ne_true]
  exact wpAny_execs_nil ⟨σ1,H2,I2,q2⟩
end
structure It where
 go:Nat->Hp->Prop
 yld:Nat->Hp->V->Hp->Prop
 stop:Nat->Hp->Prop
def Uw (X:Cx) (pins:List (Addr × Obj)) (H:Hp) (b:Addr):Prop :=
 H b = none/\b ≠ X.env.locals/\b ∉ X.fs/\(b ∈ X.ex\/X.s₀.heap.objs.size <= b)/\(∀ x c,X.env.cells.lookup x = some c->c ≠ b)/\∀ p ∈ X.pn ++ pins,p.1 ≠ b
theorem Inv.fpOk {X:Cx} {pins:List (Addr × Obj)} {σ:St} {H H':Hp} {s:Shared} {b:Addr} (I:Inv X pins σ H s) (hb:s.heap.objs.size <= b) (hn:H' b = none):Uw X pins H' b:=by
 refine⟨hn,Nat.ne_of_gt (Nat.lt_of_lt_of_le I.lt hb),I.nofs hb,.inr (Nat.le_trans I.sz hb),fun x c e z=>?_,fun p hp z=>?_⟩
 ·obtain⟨v,q⟩:=I.cell x c e
  exact absurd (Nat.lt_of_lt_of_le q.lt (by rw[z]; exact hb)) (Nat.lt_irrefl _)
 ·exact absurd (Nat.lt_of_lt_of_le (lt_size (I.pin p hp).1) (by rw[z]; exact hb)) (Nat.lt_irrefl _)
structure Aaf (P:Program) (w:World) (K:Frag) (tg:Expr) (J:It) (fp:List Addr) (it:Addr) (tn:Nat->Heap->Prop):Prop where
 mem:it ∈ fp
 obj:∀ i h,tn i h->∀ b ∈ fp,∃ o,h.get? b = some o/\∀ v,o.data ≠ .cell v
 keep:∀ i h h',tn i h->(∀ b ∈ fp,∀ o,h.get? b = some o->h'.get? b = some o)->tn i h'
 item:∀ (X:Cx),X.prog = P->X.w = w->X.K = K->X.calm = true->∀ (i:Nat) (pins:List (Addr × Obj)) (s:Shared) (σ:St) (H:Hp) (E:Value->Shared->Prop),Inv X pins σ H s->(∀ b ∈ fp,Uw X pins H b)->tn i s.heap->J.go i H ->
  wpAny (model P w) X.A (pyNext (.ref it)) (fun r s1=>∃ u,r = some u /\
   wpAny (model P w) X.A (letOwnedTupleGo tg (.ref it) u) (fun _ s2=>∃ x H',Inv X pins σ H' s2/\RelV x u/\J.yld i H x H'/\tn (i + 1) s2.heap/\∀ b ∈ fp,H' b = none) E s1) E s
 done:∀ (X:Cx),X.prog = P->X.w = w->X.K = K->X.calm = true->∀ (i:Nat) (pins:List (Addr × Obj)) (s:Shared) (σ:St) (H:Hp) (E:Value->Shared->Prop),Inv X pins σ H s->(∀ b ∈ fp,Uw X pins H b)->tn i s.heap->J.stop i H ->
  wpAny (model P w) X.A (pyNext (.ref it)) (fun r s1=>r = none/\Inv X pins σ H s1) E s
 self:∀ (A:Around) (i:Nat) (s:Shared) (Q:Value->Shared->Prop) (E:Value->Shared->Prop),tn i s.heap->Q (.ref it) s->wpAny (model P w) A (pyIter (.ref it)) Q E s
abbrev TI:=St->Hp->(It->Hp->Prop)->Prop
def PIE (X:Cx) (pins:List (Addr × Obj)) (σ:St) (tg:Expr) (R:It->Hp->Prop) (itv:Value) (s2:Shared):Prop :=
 ∃ (it:Addr) (fp:List Addr) (tn:Nat->Heap->Prop) (J:It) (H':Hp),itv = .ref it/\Inv X pins σ H' s2/\Aaf X.prog X.w X.K tg J fp it tn/\tn 0 s2.heap/\(∀ b ∈ fp,Uw X pins H' b)/\R J H'
def PI (X:Cx) (tg iter:Expr) (wi:TI):Prop :=
 ∀ (pins:List (Addr × Obj)) (s:Shared) (σ:St) (H:Hp) (R:It->Hp->Prop),Inv X pins σ H s->wi σ H R ->
  wpAny (model X.prog X.w) X.A (eval iter X.env) (fun v s1=>wpAny (model X.prog X.w) X.A (pyIter v) (PIE X pins σ tg R) X.xe s1) X.xe s
theorem Ac5 {M:Model} {A:Around} {E:Value->Shared->Prop} {s:Shared} {tg:Expr} {it:Addr} {u:Value} {o:Obj} {n:String} {vs:Array Value} {Q:Unit->Shared->Prop} (ho:s.heap.get? it = some o) (hc:o.cls = .type n) (hd:o.data = .fields vs)
  (hn:["enumerate","zip","dict_itemiterator","dict_reverseitemiterator","odict_iterator","itertools.zip_longest","itertools.pairwise"].contains n = false) (hQ:Q () s):wpAny M A (letOwnedTupleGo tg (.ref it) u) Q E s:=by
 unfold letOwnedTupleGo
 cases tg <;> first
  | exact wpAny_pure hQ
  | (cases u <;> first
    | exact wpAny_pure hQ
    | (refine wpAny_bind (wpAny_load ho ?_); rw[hc,hd]; show wpAny M A (if (["enumerate","zip","dict_itemiterator","dict_reverseitemiterator","odict_iterator","itertools.zip_longest","itertools.pairwise"].contains n && vs[0]? == some (rawInt _)) = true then _ else _) Q E s; rw[if_neg (by intro h; rw[hn,Bool.false_and] at h; cases h)]; exact wpAny_pure hQ))
def Itl (K:Frag) (a:Addr):It :=
 ⟨fun i H=>∃ xs x,SqL K H a xs/\xs[i]? = some x,fun i H x H'=>H' = H/\∀ xs,SqL K H a xs->xs[i]? = some x,fun i H=>∃ xs,SqL K H a xs/\xs.length <= i⟩
def Itr (lo:Int) (n:Nat):It:=⟨fun i _=>i < n,fun i H x H'=>H' = H/\x = .int (lo + i),fun i _=>n <= i⟩
theorem Aek {P:Program} {w:World} {K:Frag} {tg:Expr} (a it:Addr):Aaf P w K tg (Itl K a) [it] it (fun i h=>h.IsListIter it a i) where
 mem:=by simp
 obj:=fun i h st b hb=>by
  have e:b = it:=by simpa using hb
  subst e
  obtain⟨o,e,c,d⟩:=st
  exact⟨o,e,fun v z=>by rw[d] at z; cases z⟩
 keep:=fun i h h' st k=>st.at fun o e=>k it (by simp) o e
 item:=by
  intro X hP hw hK hc i pins s σ H E I hf st hg
  subst hP hw hK
  obtain⟨xs,x,hq,hx⟩:=hg
  obtain⟨its,rv,p,hz⟩:=I.list hq
  obtain⟨u,hu,ru⟩:=rv.get hx
  obtain⟨f0,f1,f2,f3,f4,f5⟩:=hf it (by simp)
  refine wpAny_pyNext_list_item st p.isList (x:=u) (by simpa using hu) fun h' st' sb=>?_
  have I1:Inv X pins σ H { s with heap:=h' }:=I.turned (t':=s.toks) (fun b o hb e=>(sb.2 b hb).trans e) f0 f1 f3 f4 f5
  obtain⟨o,e,c,d⟩:=id st'
  exact⟨u,rfl,Ac5 (s:={ s with heap:=h' }) e c d (by decide) ⟨x,H,I1,ru,⟨rfl,fun ys hy=>by rw[I.list_inj hy hq]; exact hx⟩,st',fun b hb=>(hf b hb).1⟩⟩
 done:=by
  intro X hP hw hK hc i pins s σ H E I hf st hg
  subst hP hw hK
  obtain⟨xs,hq,hx⟩:=hg
  obtain⟨its,rv,p,hz⟩:=I.list hq
  obtain⟨f0,f1,f2,f3,f4,f5⟩:=hf it (by simp)
  have hl:=rv.length
  exact wpAny_pyNext_list_end (I.ok.hd hc) st p.isList (by simp; omega) fun h' eb=>⟨rfl,I.turned (t':=s.toks) (fun b o hb e=>eb b o hb e) f0 f1 f3 f4 f5⟩
 self:=fun _ _ _ _ _ st h=>wpAny_pyIter_listiter st h
theorem Ac0 {P:Program} {w:World} {K:Frag} {tg:Expr} (it:Addr) (lo:Int) (n:Nat):Aaf P w K tg (Itr lo n) [it] it (fun i h=>IsRangeIter h it (lo + (i:Nat) * 1) ((n:Int) - (i:Nat)) 1) where
 mem:=by simp
 obj:=fun i h st b hb=>by
  have e:b = it:=by simpa using hb
  subst e
  exact⟨_,st,fun v z=>by
   have z':Data.fields _ = Data.cell v:=z
   cases z'⟩
 keep:=fun i h h' st k=>k it (by simp) _ st
 item:=by
  intro X hP hw hK hc i pins s σ H E I hf st hg
  subst hP hw hK
  obtain⟨f0,f1,f2,f3,f4,f5⟩:=hf it (by simp)
  have W:=Walks.range (prog:=X.prog) (w:=X.w) (I.ok.hd hc) it lo 1 n
  refine W.item i s _ _ hg st fun v h' tk hv st' kk=>?_
  obtain⟨t,rfl⟩:=hv
  have I1:Inv X pins σ H { s with heap:=h',toks:=tk }:=I.turned (fun b o hb e=>kk b o (by simpa using hb) e) f0 f1 f3 f4 f5
  refine⟨_,rfl,Ac5 (s:={ s with heap:=h',toks:=tk }) (n:="range_iterator") st' rfl rfl (by decide) ⟨.int (lo + i),H,I1,⟨t,?_⟩,⟨rfl,rfl⟩,st',fun b hb=>(hf b hb).1⟩⟩
  rw[Int.mul_one]
 done:=by
  intro X hP hw hK hc i pins s σ H E I hf st hg
  subst hP hw hK
  obtain⟨f0,f1,f2,f3,f4,f5⟩:=hf it (by simp)
  exact wpAny_pyNext_range_end (I.ok.hd hc) st (by have:n <= i:=hg; omega) fun h' eb=>⟨rfl,I.turned (t':=s.toks) (fun b o hb e=>eb b o hb e) f0 f1 f3 f4 f5⟩
 self:=fun _ _ _ _ _ st h=>wpAny_pyIter_rangeiter st h
section
variable {X:Cx} {tg:Expr}
def Sc (K:Frag) (tl:TE):TI:=fun σ H R=>tl σ H fun x H1=>∃ a,x = .ref a/\(∃ xs,SqL K H1 a xs)/\R (Itl K a) H1
theorem Cs {l:Expr} {tl:TE} (hl:PE X l tl):PI X tg l (Sc X.K tl):=by
 intro pins s σ H R I h
 refine thn (hl pins s σ H _ I h) fun v s1 ⟨x,H1,I1,r1,q1⟩=>?_
 obtain⟨a,e,⟨xs,hq⟩,q⟩:=q1
 subst e
 cases r1
 obtain⟨its,rv,p,hz⟩:=I1.list hq
 refine wpAny_pyIter_list p.isList ?_
 refine⟨s1.heap.objs.size,[s1.heap.objs.size],_,_,H1,rfl,I1.kept (t':=s1.toks) fun b o e=>get?_push_of_some _ e,Aek a _,⟨_,get?_push_size _ rfl,rfl,rfl⟩,fun b hb=>?_,q⟩
 have e:b = s1.heap.objs.size:=by simpa using hb
 subst e
 exact I1.fpOk (Nat.le_refl _) (I1.hok.fresh (Nat.le_refl _))
theorem Aal {pins:List (Addr × Obj)} {σ:St} {H:Hp} {s:Shared} {R:It->Hp->Prop} {E:Value->Shared->Prop} {lo hi:Int} {t u v:Tok} {tk:Nat} (I:Inv X pins σ H s) (h1:-(2 ^ 62) <= lo) (h2:lo < 2 ^ 62) (h3:-(2 ^ 62) <= hi) (h4:hi < 2 ^ 62)
  (q:R (Itr lo (hi - lo).toNat) H):wpAny (model X.prog X.w) X.A (pyIter (.ref s.heap.objs.size)) (PIE X pins σ tg R) E { s with heap:=s.heap.push { cls:=.type "range",data:=.fields #[.int lo t,.int hi u,.int 1 v] },toks:=tk }:=by
 refine wpAny_pyIter_range (IsRange.new ..) (small_one h1 h2 h3 h4) ?_
 have I1:Inv X pins σ H { s with heap:=s.heap.push { cls:=.type "range",data:=.fields #[.int lo t,.int hi u,.int 1 v] },toks:=tk }:=I.kept fun b o e=>get?_push_of_some _ e
 refine⟨(s.heap.push { cls:=.type "range",data:=.fields #[.int lo t,.int hi u,.int 1 v] }).objs.size,[(s.heap.push { cls:=.type "range",data:=.fields #[.int lo t,.int hi u,.int 1 v] }).objs.size],_,_,H,rfl,
  I1.kept (t':=tk) fun b o e=>get?_push_of_some _ e,Ac0 _ lo (hi - lo).toNat,?_,fun b hb=>?_,q⟩
 ·have e1:lo + ((0:Nat):Int) * 1 = lo:=by simp
  have e2:(((hi - lo).toNat:Nat):Int) - ((0:Nat):Int) = Builtin.Range.rangeSize lo hi 1:=by rw[rangeSize_one]; split <;> omega
  show IsRangeIter _ _ (lo + ((0:Nat):Int) * 1) ((((hi - lo).toNat:Nat):Int) - ((0:Nat):Int)) 1
  rw[e1,e2]
  exact get?_push_size _ rfl
 ·have e:b = (s.heap.push { cls:=.type "range",data:=.fields #[.int lo t,.int hi u,.int 1 v] }).objs.size:=by simpa using hb
  subst e
  exact I1.fpOk (Nat.le_refl _) (I1.hok.fresh (Nat.le_refl _))
def Vq (ta:TA):TI:=fun σ H R=>ta σ H fun vs H1=>∃ j:Int,vs = [.int j]/\-(2 ^ 62) <= j/\j < 2 ^ 62/\R (Itr 0 j.toNat) H1
def AhE (ta:TA):TI:=fun σ H R=>ta σ H fun vs H1=>∃ i j:Int,vs = [.int i,.int j]/\(-(2 ^ 62) <= i/\i < 2 ^ 62/\-(2 ^ 62) <= j/\j < 2 ^ 62)/\R (Itr i (j - i).toNat) H1
theorem Nz {a:Expr} {ta:TA} {p pos:Pos} (hg:Gl X "range") (hm:X.mg "range" = none) (ha:PA X [a] ta) (hs:starEach [a] X.env = [(false,eval a X.env)]:=by rfl):PI X tg (.Call (.Name "range" p) [a] [] pos) (Vq ta):=by
 intro pins s σ H R I h
 refine Call_ (Qn I hg hm boot_range (PyProof.Rows.callWith_type1 (thn (ha pos pins s σ H _ I h) fun us s1 ⟨vs,H1,I1,r1,q1⟩=>?_) hs rfl))
 obtain⟨j,e,q1,q2,q⟩:=q1
 subst e
 cases r1 with
 | cons r rr =>
  cases rr
  obtain⟨t,rfl⟩:=r
  exact call_range_1 (Aal I1 (by omega) (by omega) q1 q2 (by simpa using q))
theorem Aea {a b:Expr} {ta:TA} {p pos:Pos} (hg:Gl X "range") (hm:X.mg "range" = none) (ha:PA X [a,b] ta) (hs:starEach [a,b] X.env = [(false,eval a X.env),(false,eval b X.env)]:=by rfl) (hs2:starEach [b] X.env = [(false,eval b X.env)]:=by rfl) :
  PI X tg (.Call (.Name "range" p) [a,b] [] pos) (AhE ta):=by
 intro pins s σ H R I h
 refine Call_ (Qn I hg hm boot_range (PyProof.Rows.callWith_type1 (thn (ha pos pins s σ H _ I h) fun us s1 ⟨vs,H1,I1,r1,q1⟩=>?_) (by rw[hs,hs2]) (by rw[hs2]; rfl)))
 obtain⟨i,j,e,⟨q1,q2,q3,q4⟩,q⟩:=q1
 subst e
 cases r1 with
 | cons r rr =>
  cases rr with
  | cons r' rr =>
   cases rr
   obtain⟨t,rfl⟩:=r
   obtain⟨t',rfl⟩:=r'
   exact call_range_2 (Aal I1 q1 q2 q3 q4 q)
def Qk (wi:TI) (g:TG) (tb:TS):TS:=fun D σ H=>wi σ H fun J H1=>∃ W:Nat->Nat->St->Hp->Prop,(∃ m,W 0 m σ H1)/\∀ i m σ H,W i m σ H ->
 (J.stop i H/\D.nx σ H)\/(J.go i H/\∃ N:St->Hp->Prop,(∀ σ' H',N σ' H'->∃ m',m' < m/\W (i + 1) m' σ' H')/\∀ x H',J.yld i H x H'->g x σ H' fun σ2 H2=>tb { D with nx:=N,ct:=N,bk:=D.nx } σ2 H2)
def Sq (fp:List Addr) (h:Heap):List (Addr × Obj):=fp.filterMap fun b=>(h.get? b).map fun o=>(b,o)
theorem Oe {fp:List Addr} {h:Heap} {b:Addr} {o:Obj} (hb:b ∈ fp) (e:h.get? b = some o):(b,o) ∈ Sq fp h:=List.mem_filterMap.mpr ⟨b,hb,by rw[e]; rfl⟩
theorem AdT {fp:List Addr} {h:Heap} {p:Addr × Obj} (hp:p ∈ Sq fp h):p.1 ∈ fp/\h.get? p.1 = some p.2:=by
 obtain⟨b,hb,e⟩:=List.mem_filterMap.mp hp
 cases q:h.get? b with
 | none=>rw[q] at e; cases e
 | some o =>
  rw[q] at e
  have e':(b,o) = p:=Option.some.inj e
  subst e'
  exact⟨hb,q⟩
theorem Inv.pinned {pins:List (Addr × Obj)} {σ:St} {H:Hp} {s:Shared} {fp:List Addr} (I:Inv X pins σ H s) (hf:∀ b ∈ fp,Uw X pins H b) (ho:∀ b ∈ fp,∃ o,s.heap.get? b = some o/\∀ v,o.data ≠ .cell v):Inv X (pins ++ Sq fp s.heap) σ H s :=
 I.pins_of fun p hp=>(mem_append.mp hp).elim (fun z=>I.pin p (mem_append_right _ z)) fun z=>by
  obtain⟨hb,e⟩:=AdT z
  obtain⟨f0,f1,f2,_⟩:=hf p.1 hb
  obtain⟨o,e',d⟩:=ho p.1 hb
  rw[e] at e'; cases e'
  exact⟨e,f0,f1,f2,d⟩
theorem Inv.unpinned {pins pl:List (Addr × Obj)} {σ:St} {H:Hp} {s:Shared} (I:Inv X (pins ++ pl) σ H s):Inv X pins σ H s:=I.pins_of fun p hp=>I.pin p (mem_append_right _ (mem_append_left _ hp))
theorem Dj {iter:Expr} {body:List Stmt} {wi:TI} {g:TG} {tb:TS} {pos:Pos} (hp:PassesOwn (model X.prog X.w) X.A X.env X.xe) (hc:X.calm = true) (hi:PI X tg iter wi) (hg:PG X tg g) (hb:PSs X body tb)
  (hs:∀ x,foldedSetIterable iter X.env x = pure x:=by intro _; rfl):PS X (.For tg iter body [] pos) (Qk wi g tb):=by
 intro pins s σ H D I h
 refine wpAny_For (thn (hi pins s σ H _ I h) fun v s1 h1=>thn h1 fun itv s2 h2=>?_) hs
 obtain⟨it,fp,tn,J,H2,e,I2,T,st2,f2,W,⟨m0,w0⟩,turn⟩:=h2
 subst e
 -- what stays true of the iterator's objects through the loop
 have stat:∀ {H':Hp},(∀ b ∈ fp,H' b = none)->∀ b ∈ fp,Uw X pins H' b:=fun hn b hb=>⟨hn b hb,(f2 b hb).2⟩
 refine codeAny_forLoop_any (fun n s'=>∃ i σ' H',Inv X pins σ' H' s'/\tn i s'.heap/\(∀ b ∈ fp,H' b = none)/\W i n σ' H') ?_ m0 ⟨0,σ,H2,I2,st2,fun b hb=>(f2 b hb).1,w0⟩
 rintro n s3 ⟨i,σ3,H3,I3,st3,fr3,w3⟩
 rcases turn i n σ3 H3 w3 with ⟨stop,qn⟩ | ⟨go,N,hN,step⟩
 ·refine wpAny_passesOwn hp (thn (T.done X rfl rfl rfl hc i pins s3 σ3 H3 X.xe I3 (stat fr3) st3 stop) fun r s4 ⟨hr,I4⟩=>?_)
  subst hr
  exact wpAny_execs_nil ⟨σ3,H3,I4,qn⟩
 ·refine wpAny_passesOwn hp (thn (T.item X rfl rfl rfl hc i pins s3 σ3 H3 X.xe I3 (stat fr3) st3 go) fun r s4 ⟨u,hr,h4⟩=>?_)
  subst hr
  refine wpAny_passesOwn hp (thn h4 fun _ s5 ⟨x,H5,I5,r5,y5,st5,fr5⟩=>?_)
  have I5':=I5.pinned (stat fr5) (T.obj _ _ st5)
  refine wpAny_passesOwn hp (thn (hg _ s5 σ3 H5 x u _ I5' r5 (step x H5 y5)) fun _ s6 ⟨σ6,H6,I6,q6⟩=>?_)
  refine wpAny_passesOwn hp (thn (hb _ s6 σ6 H6 _ I6 q6) fun f s7 q7=>?_)
  have again:∀ {σ7:St} {H7:Hp},Inv X (pins ++ Sq fp s5.heap) σ7 H7 s7->N σ7 H7->∃ m,m < n/\∃ i σ' H',Inv X pins σ' H' s7/\tn i s7.heap/\(∀ b ∈ fp,H' b = none)/\W i m σ' H':=fun {σ7 H7} I7 n7=>by
   obtain⟨m',hm,w7⟩:=hN σ7 H7 n7
   refine⟨m',hm,i + 1,σ7,H7,I7.unpinned,T.keep _ _ _ st5 fun b hb o e=>(I7.pin (b,o) (mem_append_right _ (mem_append_right _ (Oe hb e)))).1,fun b hb=>?_,w7⟩
   obtain⟨o,e,d⟩:=T.obj _ _ st5 b hb
   exact (I7.pin (b,o) (mem_append_right _ (mem_append_right _ (Oe hb e)))).2.1
  cases f with
  | next=>obtain⟨σ7,H7,I7,n7⟩:=q7; exact again I7 n7
  | cont=>obtain⟨σ7,H7,I7,n7⟩:=q7; exact again I7 n7
  | brk=>obtain⟨σ7,H7,I7,q7⟩:=q7; exact⟨σ7,H7,I7.unpinned,q7⟩
  | ret v=>obtain⟨x7,σ7,H7,I7,r7,q7⟩:=q7; exact⟨x7,σ7,H7,I7.unpinned,r7,q7⟩
end
theorem Sb {K:Frag} {a:Addr} {xs:List V} {g:TG} {tb:TS} {D:Ends} {σ:St} {H:Hp} (Pv:Nat->St->Hp->Prop) (h0:Pv 0 σ H) (hl:∀ i σ H,i <= xs.length->Pv i σ H->SqL K H a xs)
  (hs:∀ i x σ H,xs[i]? = some x->Pv i σ H->g x σ H fun σ2 H2=>tb { D with nx:=Pv (i + 1),ct:=Pv (i + 1),bk:=D.nx } σ2 H2) (hd:∀ σ H,Pv xs.length σ H->D.nx σ H) :
  ∃ W:Nat->Nat->St->Hp->Prop,(∃ m,W 0 m σ H)/\∀ i m σ H,W i m σ H ->
   ((Itl K a).stop i H/\D.nx σ H)\/((Itl K a).go i H/\∃ N:St->Hp->Prop,(∀ σ' H',N σ' H'->∃ m',m' < m/\W (i + 1) m' σ' H')/\∀ x H',(Itl K a).yld i H x H'->g x σ H' fun σ2 H2=>tb { D with nx:=N,ct:=N,bk:=D.nx } σ2 H2):=by
 refine⟨fun i m σ H=>m = xs.length - i/\i <= xs.length/\Pv i σ H,⟨xs.length,by simp,zero_le _,h0⟩,?_⟩
 rintro i m σ H ⟨rfl,hi,p⟩
 have q:=hl i σ H hi p
 by_cases hlt:i < xs.length
 ·refine .inr ⟨⟨xs,xs[i],q,by simp [hlt]⟩,Pv (i + 1),fun σ' H' p'=>⟨xs.length - (i + 1),by omega,rfl,hlt,p'⟩,fun x H' y=>?_⟩
  obtain⟨e,y⟩:=y
  subst e
  exact hs i x σ _ (y xs q) p
 ·have e:i = xs.length:=by omega
  subst e
  exact .inl ⟨⟨xs,q,Nat.le_refl _⟩,hd σ H p⟩
theorem Yq {lo:Int} {n:Nat} {g:TG} {tb:TS} {D:Ends} {σ:St} {H:Hp} (Pv:Nat->St->Hp->Prop) (h0:Pv 0 σ H)
  (hs:∀ i σ H,i < n->Pv i σ H->g (.int (lo + i)) σ H fun σ2 H2=>tb { D with nx:=Pv (i + 1),ct:=Pv (i + 1),bk:=D.nx } σ2 H2) (hd:∀ σ H,Pv n σ H->D.nx σ H) :
  ∃ W:Nat->Nat->St->Hp->Prop,(∃ m,W 0 m σ H)/\∀ i m σ H,W i m σ H ->
   ((Itr lo n).stop i H/\D.nx σ H)\/((Itr lo n).go i H/\∃ N:St->Hp->Prop,(∀ σ' H',N σ' H'->∃ m',m' < m/\W (i + 1) m' σ' H')/\∀ x H',(Itr lo n).yld i H x H'->g x σ H' fun σ2 H2=>tb { D with nx:=N,ct:=N,bk:=D.nx } σ2 H2):=by
 refine⟨fun i m σ H=>m = n - i/\i <= n/\Pv i σ H,⟨n,by simp,zero_le _,h0⟩,?_⟩
 rintro i m σ H ⟨rfl,hi,p⟩
 by_cases hlt:i < n
 ·refine .inr ⟨hlt,Pv (i + 1),fun σ' H' p'=>⟨n - (i + 1),by omega,rfl,hlt,p'⟩,fun x H' y=>?_⟩
  obtain⟨e,y⟩:=y
  subst e y
  exact hs i σ _ hlt p
 ·have e:i = n:=by omega
  subst e
  exact .inl ⟨Nat.le_refl _,hd σ H p⟩
abbrev R2:=V->V->Hp->VK->Prop
def OpR (X:Cx) (f:Value->Value->Sem Value) (r:R2):Prop :=
 ∀ (pins:List (Addr × Obj)) (s:Shared) (σ:St) (H:Hp) (x y:V) (v u:Value) (Q:VK),Inv X pins σ H s->RelV x v->RelV y u->r x y H Q ->
  wpAny (model X.prog X.w) X.A (f v u) (EP X pins σ Q) X.xe s
def UnR (X:Cx) (f:Value->Sem Value) (r:V->Hp->VK->Prop):Prop :=
 ∀ (pins:List (Addr × Obj)) (s:Shared) (σ:St) (H:Hp) (x:V) (v:Value) (Q:VK),Inv X pins σ H s->RelV x v->r x H Q ->
  wpAny (model X.prog X.w) X.A (f v) (EP X pins σ Q) X.xe s
def Lr (X:Cx) (f:Value) (r:List V->Hp->VK->Prop):Prop :=
 ∀ (pins:List (Addr × Obj)) (s:Shared) (σ:St) (H:Hp) (xs:List V) (us:List Value) (Q:VK),Inv X pins σ H s->Vals xs us->r xs H Q ->
  wpAny (model X.prog X.w) X.A (call f us) (EP X pins σ Q) X.xe s
def tOp (r:R2) (ta tb:TE):TE:=fun σ H Q=>ta σ H fun x H1=>tb σ H1 fun y H2=>r x y H2 Q
def tUn (r:V->Hp->VK->Prop) (ta:TE):TE:=fun σ H Q=>ta σ H fun x H1=>r x H1 Q
def rI (C:Int->Int->Prop) (g:Int->Int->V):R2:=fun x y H Q=>∃ i j,x = .int i/\y = .int j/\C i j/\Q (g i j) H
def rI0 (g:Int->Int->V):R2:=fun x y H Q=>∃ i j,x = .int i/\y = .int j/\Q (g i j) H
def rU (g:Int->V):V->Hp->VK->Prop:=fun x H Q=>∃ i,x = .int i/\Q (g i) H
section
variable {X:Cx} {a b c:Expr} {ta tb tc:TE} {pos:Pos}
theorem AfN (ha:PE X a ta) (hb:PE X b tb) {pins:List (Addr × Obj)} {s:Shared} {σ:St} {H:Hp} {R:V->V->Hp->Prop} (I:Inv X pins σ H s)
  (h:ta σ H fun x H1=>tb σ H1 fun y H2=>R x y H2) {Q:Value->Shared->Prop} {f:Value->Value->Sem Value}
  (hf:∀ v u s2 x y H2,Inv X pins σ H2 s2->RelV x v->RelV y u->R x y H2->wpAny (model X.prog X.w) X.A (f v u) Q X.xe s2) :
  wpAny (model X.prog X.w) X.A (eval a X.env) (fun v s₁=>wpAny (model X.prog X.w) X.A (eval b X.env) (fun u s₂=>wpAny (model X.prog X.w) X.A (f v u) Q X.xe s₂) X.xe s₁) X.xe s:=by
 refine thn (ha pins s σ H _ I h) fun v s1 ⟨x,H1,I1,r1,q1⟩=>?_
 refine thn (hb pins s1 σ H1 _ I1 q1) fun u s2 ⟨y,H2,I2,r2,q2⟩=>?_
 exact hf v u s2 x y H2 I2 r1 r2 q2
theorem Bs {op:Operator} {r:R2} (ho:OpR X (binaryOp op) r) (ha:PE X a ta) (hb:PE X b tb):PE X (.BinOp a op b pos) (tOp r ta tb):=by
 intro pins s σ H Q I h
 exact wpAny_BinOp (AfN ha hb I h fun v u s2 x y H2 I2 rx ry q=>ho pins s2 σ H2 x y v u Q I2 rx ry q)
theorem Wk {op:UnaryOp} {r:V->Hp->VK->Prop} (ho:UnR X (unaryOp op) r) (ha:PE X a ta):PE X (.UnaryOp op a pos) (tUn r ta):=by
 intro pins s σ H Q I h
 exact UnaryOp_ (thn (ha pins s σ H _ I h) fun v s1 ⟨x,H1,I1,r1,q1⟩=>ho pins s1 σ H1 x v Q I1 r1 q1)
theorem opI {f:Value->Value->Sem Value} {C:Int->Int->Prop} {g:Int->Int->Int}
  (rule:∀ (i j:Int) (t u:Tok) (s:Shared) (Q:Value->Shared->Prop) (E:Value->Shared->Prop),C i j->Q (.int (g i j) s.toks) { s with toks:=s.toks + 1 }->wpAny (model X.prog X.w) X.A (f (.int i t) (.int j u)) Q E s) :
  OpR X f (rI C fun i j=>.int (g i j)):=by
 intro pins s σ H x y v u Q I rx ry h
 obtain⟨i,j,rfl,rfl,hc,q⟩:=h
 obtain⟨t,rfl⟩:=rx
 obtain⟨t',rfl⟩:=ry
 exact rule i j t t' s _ _ hc ⟨.int (g i j),H,I.tok _,⟨_,rfl⟩,q⟩
theorem Alc {f:Value->Value->Sem Value} {g:Int->Int->Int}
  (rule:∀ (i j:Int) (t u:Tok) (s:Shared) (Q:Value->Shared->Prop) (E:Value->Shared->Prop),Q (.int (g i j) s.toks) { s with toks:=s.toks + 1 }->wpAny (model X.prog X.w) X.A (f (.int i t) (.int j u)) Q E s) :
  OpR X f (rI0 fun i j=>.int (g i j)):=by
 intro pins s σ H x y v u Q I rx ry h
 obtain⟨i,j,rfl,rfl,q⟩:=h
 obtain⟨t,rfl⟩:=rx
 obtain⟨t',rfl⟩:=ry
 exact rule i j t t' s _ _ ⟨.int (g i j),H,I.tok _,⟨_,rfl⟩,q⟩
theorem Agu {f:Value->Value->Sem Value} {g:Int->Int->Bool}
  (rule:∀ (i j:Int) (t u:Tok) (s:Shared) (Q:Value->Shared->Prop) (E:Value->Shared->Prop),Q (.bool (g i j)) s->wpAny (model X.prog X.w) X.A (f (.int i t) (.int j u)) Q E s) :
  OpR X f (rI0 fun i j=>.bl (g i j)):=by
 intro pins s σ H x y v u Q I rx ry h
 obtain⟨i,j,rfl,rfl,q⟩:=h
 obtain⟨t,rfl⟩:=rx
 obtain⟨t',rfl⟩:=ry
 exact rule i j t t' s _ _ ⟨.bl (g i j),H,I,rfl,q⟩
def Zr (i j:Int):Prop:=0 < j/\j < 1073741824
def AcW (i j:Int):Prop:=0 <= j/\j <= 1000000/\i.natAbs < 2 ^ 64
def CMul (i j:Int):Prop:=(-(2 ^ 64) < i/\i < 2 ^ 64)\/(-(2 ^ 64) < j/\j < 2 ^ 64)
theorem CMul.ok {i j:Int} (h:CMul i j):IntMulOk i j:=by
 rcases h with ⟨h1,h2⟩ | ⟨h1,h2⟩
 ·exact .of_left (intBits_le_64 h1 h2)
 ·exact .of_right (intBits_le_64 h1 h2)
theorem Gb:OpR X (binaryOp .Add) (rI0 fun i j=>.int (i + j)):=Alc fun _ _ _ _ _ _ _ q=>add_int q
theorem Amj:OpR X (binaryOp .Sub) (rI0 fun i j=>.int (i - j)):=Alc fun _ _ _ _ _ _ _ q=>sub_int q
theorem Wg:OpR X (binaryOp .Mult) (rI CMul fun i j=>.int (i * j)):=opI fun _ _ _ _ _ _ _ hc q=>mul_int q hc.ok
theorem Fd:OpR X (binaryOp .FloorDiv) (rI Zr fun i j=>.int (i / j)):=opI fun i j _ _ _ _ _ hc q=>by
 have h1:(0:Int) < j:=hc.1
 have h2:j < 1073741824:=hc.2
 exact floordiv_int (by omega) (by rw[Int.fdiv_eq_ediv_of_nonneg i (by omega)]; exact q) (.inl (PyProof.noPylong_small (by omega)))
theorem Dm:OpR X (binaryOp .Mod) (rI (fun _ j=>0 < j) fun i j=>.int (i % j)):=opI fun i j _ _ _ _ _ hc q=>by
 have h1:(0:Int) < j:=hc
 exact mod_int' (by omega) (by rw[Int.fmod_eq_emod_of_nonneg i (by omega)]; exact q)
theorem Lu:OpR X (binaryOp .Pow) (rI AcW fun i j=>.int (i ^ j.toNat)):=opI fun _ _ _ _ _ _ _ hc q=>pow_int_small hc.1 hc.2.1 hc.2.2 q
theorem unI {f:Value->Sem Value} {g:Int->Int}
  (rule:∀ (i:Int) (t:Tok) (s:Shared) (Q:Value->Shared->Prop) (E:Value->Shared->Prop),Q (.int (g i) s.toks) { s with toks:=s.toks + 1 }->wpAny (model X.prog X.w) X.A (f (.int i t)) Q E s) :
  UnR X f (rU fun i=>.int (g i)):=by
 intro pins s σ H x v Q I rx h
 obtain⟨i,rfl,q⟩:=h
 obtain⟨t,rfl⟩:=rx
 exact rule i t s _ _ ⟨.int (g i),H,I.tok _,⟨_,rfl⟩,q⟩
theorem Sr:UnR X (unaryOp .USub) (rU fun i=>.int (-i)):=unI fun _ _ _ _ _ q=>neg_int q
end
def AkK:V->V->Bool
 | .non,.non=>true | .non,.int _=>true | .int _,.non=>true | .non,.bl _=>true | .bl _,.non=>true | .non,.str _=>true | .str _,.non=>true
 | .int _,.int _=>true | .bl _,.bl _=>true | .str _,.str _=>true | .byt _,.byt _=>true
 | .int _,.str _=>true | .str _,.int _=>true | .bl _,.str _=>true | .str _,.bl _=>true
 | _,_=>false
def rEq:R2:=fun x y H Q=>AkK x y = true/\Q (.bl (decide (x = y))) H
def rNe:R2:=fun x y H Q=>AkK x y = true/\Q (.bl (!decide (x = y))) H
theorem Abu {i j:Int}:decide (V.int i = V.int j) = (i == j):=by
 rw[Bool.eq_iff_iff]
 simp
theorem Afb {i j:Bool}:decide (V.bl i = V.bl j) = (i == j):=by
 rw[Bool.eq_iff_iff]
 simp
theorem Abv {i j:Str}:decide (V.str i = V.str j) = (i == j):=by
 rw[Bool.eq_iff_iff]
 simp
theorem AbV {i j:Array UInt8}:decide (V.byt i = V.byt j) = (i.toList == j.toList):=by
 rw[Bool.eq_iff_iff]
 cases i
 cases j
 simp
section
variable {X:Cx} {a b c:Expr} {ta tb tc:TE} {pos:Pos}
theorem Dl {pins:List (Addr × Obj)} {σ:St} {H:Hp} {s:Shared} {Q:VK} {k k':Bool} (I:Inv X pins σ H s) (q:Q (.bl k) H) (e:k = k'):EP X pins σ Q (.bool k') s:=by
 subst e
 exact⟨.bl k,H,I,rfl,q⟩
theorem Gi:OpR X (compareOp .Eq) rEq:=by
 intro pins s σ H x y v u Q I rx ry h
 obtain⟨hs,q⟩:=h
 cases x with
 | non =>
  cases rx
  cases y with
  | non=>cases ry; exact PySem.EqNone.eq_none_none (Dl I q (by simp))
  | bl j=>cases ry; exact PySem.EqNone.eq_none_bool (Dl I q (by simp))
  | int j=>obtain⟨t',rfl⟩:=ry; exact PySem.EqNone.eq_none_int (Dl I q (by simp))
  | str j=>obtain⟨t',rfl⟩:=ry; exact PySem.EqNone.eq_none_str (Dl I q (by simp))
  | _=>exact absurd (show false = true from hs) Bool.false_ne_true
 | bl i =>
  cases rx
  cases y with
  | non=>cases ry; exact PySem.EqNone.eq_bool_none (Dl I q (by simp))
  | bl j=>cases ry; exact eq_bool (Dl I q Afb)
  | str j=>obtain⟨t',rfl⟩:=ry; exact PySem.EqMixed.eq_bool_str (Dl I q (by simp))
  | _=>exact absurd (show false = true from hs) Bool.false_ne_true
 | int i =>
  obtain⟨t,rfl⟩:=rx
  cases y with
  | non=>cases ry; exact PySem.EqNone.eq_int_none (Dl I q (by simp))
  | int j=>obtain⟨t',rfl⟩:=ry; exact eq_int (Dl I q Abu)
  | str j=>obtain⟨t',rfl⟩:=ry; exact PySem.EqMixed.eq_int_str (Dl I q (by simp))
  | _=>exact absurd (show false = true from hs) Bool.false_ne_true
 | str i =>
  obtain⟨t,rfl⟩:=rx
  cases y with
  | non=>cases ry; exact PySem.EqNone.eq_str_none (Dl I q (by simp))
  | bl j=>cases ry; exact PySem.EqMixed.eq_str_bool (Dl I q (by simp))
  | int j=>obtain⟨t',rfl⟩:=ry; exact PySem.EqMixed.eq_str_int (Dl I q (by simp))
  | str j=>obtain⟨t',rfl⟩:=ry; exact eq_str (Dl I q Abv)
  | _=>exact absurd (show false = true from hs) Bool.false_ne_true
 | byt i =>
  obtain⟨t,rfl⟩:=rx
  cases y with
  | byt j=>obtain⟨t',rfl⟩:=ry; exact PySem.W.eq_bytes (Dl I q AbV)
  | _=>exact absurd (show false = true from hs) Bool.false_ne_true
 | _=>cases y <;> exact absurd (show false = true from hs) Bool.false_ne_true
theorem Uo:OpR X (compareOp .NotEq) rNe:=by
 intro pins s σ H x y v u Q I rx ry h
 obtain⟨hs,q⟩:=h
 cases x with
 | non =>
  cases rx
  cases y with
  | non=>cases ry; exact PySem.EqNone.ne_none_none (Dl I q (by simp))
  | bl j=>cases ry; exact PySem.EqNone.ne_none_bool (Dl I q (by simp))
  | int j=>obtain⟨t',rfl⟩:=ry; exact PySem.EqNone.ne_none_int (Dl I q (by simp))
  | str j=>obtain⟨t',rfl⟩:=ry; exact PySem.EqNone.ne_none_str (Dl I q (by simp))
  | _=>exact absurd (show false = true from hs) Bool.false_ne_true
 | bl i =>
  cases rx
  cases y with
  | non=>cases ry; exact PySem.EqNone.ne_bool_none (Dl I q (by simp))
  | bl j=>cases ry; exact ne_bool (Dl I q (congrArg not Afb))
  | str j=>obtain⟨t',rfl⟩:=ry; exact PySem.EqMixed.ne_bool_str (Dl I q (by simp))
  | _=>exact absurd (show false = true from hs) Bool.false_ne_true
 | int i =>
  obtain⟨t,rfl⟩:=rx
  cases y with
  | non=>cases ry; exact PySem.EqNone.ne_int_none (Dl I q (by simp))
  | int j=>obtain⟨t',rfl⟩:=ry; exact ne_int (Dl I q (congrArg not Abu))
  | str j=>obtain⟨t',rfl⟩:=ry; exact PySem.EqMixed.ne_int_str (Dl I q (by simp))
  | _=>exact absurd (show false = true from hs) Bool.false_ne_true
 | str i =>
  obtain⟨t,rfl⟩:=rx
  cases y with
  | non=>cases ry; exact PySem.EqNone.ne_str_none (Dl I q (by simp))
  | bl j=>cases ry; exact PySem.EqMixed.ne_str_bool (Dl I q (by simp))
  | int j=>obtain⟨t',rfl⟩:=ry; exact PySem.EqMixed.ne_str_int (Dl I q (by simp))
  | str j=>obtain⟨t',rfl⟩:=ry; exact ne_str (Dl I q (congrArg not Abv))
  | _=>exact absurd (show false = true from hs) Bool.false_ne_true
 | byt i =>
  obtain⟨t,rfl⟩:=rx
  cases y with
  | byt j=>obtain⟨t',rfl⟩:=ry; exact PySem.W.ne_bytes (Dl I q (congrArg not AbV))
  | _=>exact absurd (show false = true from hs) Bool.false_ne_true
 | _=>cases y <;> exact absurd (show false = true from hs) Bool.false_ne_true
theorem AnB:OpR X (compareOp .Lt) (rI0 fun i j=>.bl (decide (i < j))):=Agu fun _ _ _ _ _ _ _ q=>lt_int q
theorem Acy:OpR X (compareOp .Gt) (rI0 fun i j=>.bl (decide (j < i))):=Agu fun _ _ _ _ _ _ _ q=>gt_int q
theorem Zk:OpR X (compareOp .GtE) (rI0 fun i j=>.bl (decide (j <= i))):=Agu fun _ _ _ _ _ _ _ q=>ge_int q
theorem Co (b:Expr) {op:CmpOp} (h:op ≠ .In:=by decide) (h2:op ≠ .NotIn:=by decide):behindInMarks op b = false:=by
 have e1:(op == CmpOp.In) = false:=by cases op <;> first | rfl | exact absurd rfl h
 have e2:(op == CmpOp.NotIn) = false:=by cases op <;> first | rfl | exact absurd rfl h2
 cases b <;> simp [behindInMarks,e1,e2]
theorem Gd {op:CmpOp} {r:R2} (ho:OpR X (compareOp op) r) (ha:PE X a ta) (hb:PE X b tb) (hm:behindInMarks op b = false):PE X (.Compare a [op] [b] pos) (tOp r ta tb):=by
 intro pins s σ H Q I h
 exact wpAny_Compare1 (AfN ha hb I h fun v u s2 x y H2 I2 rx ry q=>ho pins s2 σ H2 x y v u Q I2 rx ry q) hm
def Acl (t:TE):TT:=fun σ H Q=>t σ H fun x H'=>∃ k,x = .bl k/\Q k H'
theorem Cr {op:CmpOp} {r:R2} (ho:OpR X (compareOp op) r) (ha:PE X a ta) (hb:PE X b tb) (hm:behindInMarks op b = false):PT X (.Compare a [op] [b] pos) (Acl (tOp r ta tb)):=by
 intro pins s σ H Q I h
 refine wpAny_isTrue_Compare1 (thn (ha pins s σ H _ I h) fun v s1 ⟨x,H1,I1,r1,q1⟩=>thn (hb pins s1 σ H1 _ I1 q1) fun u s2 ⟨y,H2,I2,r2,q2⟩ =>
  thn (ho pins s2 σ H2 x y v u _ I2 r1 r2 q2) fun c s3 ⟨z,H3,I3,r3,k,e,q3⟩=>?_) hm
 subst e
 cases r3
 exact wpAny_truthy_bool ⟨H3,I3,q3⟩
theorem Aat:(sizeLine:Nat) < 2 ^ 63:=by rw[sizeLine_eq]; decide
theorem Rn {x:V} {us:List Value} (r:Vals [x] us):∃ u,us = [u]/\RelV x u:=by
 cases r with
 | cons r1 r2=>cases r2; exact⟨_,rfl,r1⟩
theorem Ahv {x y:V} {us:List Value} (r:Vals [x,y] us):∃ u w',us = [u,w']/\RelV x u/\RelV y w':=by
 cases r with
 | cons r1 r2 =>
  cases r2 with
  | cons r3 r4=>cases r4; exact⟨_,_,rfl,r1,r3⟩
theorem Ye (hc:X.calm = true):Lr X (.builtin "max") (fun xs H Q=>∃ i j,xs = [.int i,.int j]/\Q (.int (if j > i then j else i)) H):=by
 intro pins s σ H xs us Q I r h
 obtain⟨i,j,rfl,q⟩:=h
 obtain⟨u,w',rfl,⟨t,rfl⟩,⟨t',rfl⟩⟩:=Ahv r
 refine max_two_ints (I.ok.hd hc) fun h' tk k=>⟨_,H,I.kept k,?_,q⟩
 by_cases hj:j > i
 ·rw[if_pos hj,if_pos hj]; exact⟨_,rfl⟩
 ·rw[if_neg hj,if_neg hj]; exact⟨_,rfl⟩
theorem AdB:Lr X (.type "int") (fun xs H Q=>(∃ i,xs = [.int i]/\Q (.int i) H)\/∃ k,xs = [.bl k]/\Q (.int (if k then 1 else 0)) H):=by
 intro pins s σ H xs us Q I r h
 rcases h with ⟨i,rfl,q⟩ | ⟨k,rfl,q⟩
 ·obtain⟨u,rfl,t,rfl⟩:=Rn r
  exact call_int_int ⟨.int i,H,I,⟨_,rfl⟩,q⟩
 ·obtain⟨u,rfl,r1⟩:=Rn r
  cases r1
  exact call_int_bool ⟨.int (if k then 1 else 0),H,I.tok _,⟨_,rfl⟩,q⟩
end
structure ObjM (h:Heap) (x dx C:Addr) (mA:Str->Option Value):Prop where
 obj:h.get? x = some (instObj C dx)
 ns:h.Ns1 dx mA
 ne:dx ≠ x
theorem AdW {h:Heap} {dx:Addr} {mA:Str->Option Value} (n:h.Ns1 dx mA):∃ od,h.get? dx = some od/\∀ name,lookIn name od = some (mA name):=by
 obtain⟨o,es,ep,ho,hd,hk,_,hm⟩:=n
 refine⟨o,ho,fun name=>?_⟩
 have e:=hm name
 unfold nsFind findBy at e
 rw[<- Array.find?_toList] at e
 unfold lookIn
 rw[hd]
 dsimp only
 split
 ·rename_i y q
  rw[q] at e
  exact congrArg some e
 ·rename_i q
  rw[q] at e
  have a:es.toList.any (·.refKey) = false:=by
   rw[List.any_eq_false]
   intro y hy
   obtain⟨z,t,hkey⟩:=hk y (Array.mem_toList_iff.mp hy)
   simp [DictEntry.refKey,hkey]
  have a':¬ es.toList.any (·.refKey) = true:=by rw[a]; exact Bool.false_ne_true
  rw[if_neg a']
  exact congrArg some e
theorem ObjM.look {h:Heap} {x dx C:Addr} {mA:Str->Option Value} (I:ObjM h x dx C mA):∃ od,PySem.W.InstAt h x (instObj C dx) C (some od)/\∀ name,lookIn name od = some (mA name) :=
 let ⟨od,ho,hl⟩:=AdW I.ns
 ⟨od,⟨I.obj,rfl,rfl,ho⟩,hl⟩
section
variable {prog:Program} {w:World} {A:Around} {E:Value->Shared->Prop} {s:Shared} {K:Frag} {x dx C f:Addr} {mA:Str->Option Value} {name:Str} {v:Value}
theorem Ai9 {expr:Bool} {Q:Value->Shared->Prop} (X:K.In s.heap) (I:ObjM s.heap x dx C mA) (hg:plainGet K C name = true) (hh:hasDictIn K C = true)
  (ha:findIn K (.ref C) name = some none) (hv:mA name = some v) (hv':handedIn v = true) (h:Q v { s with toks:=s.toks + 1 }) :
  wpAny (model prog w) A (getAttr (.ref x) name expr) Q E s:=by
 obtain⟨od,J,hl⟩:=I.look
 exact PySem.W.get_value X J (plainGet_of hg).1 (PySem.W.findObj_own hh ha rfl (by rw[hl,hv])) hv' h
theorem Agc {pl:Sem Bool} {Q:Value × List Value->Shared->Prop} (X:K.In s.heap) (I:ObjM s.heap x dx C mA) (hg:plainGet K C name = true)
  (hf:findIn K (.ref C) name = some (some (.ref f))) (ht:isFn K (.ref f) = true) (hv:mA name = none) (h:Q (.ref f,[.ref x]) s) :
  wpAny (model prog w) A (getMethod (.ref x) name pl) Q E s:=by
 obtain⟨od,J,hl⟩:=I.look
 exact PySem.W.method_fn X J (plainGet_of hg).1 (plainGet_of hg).2 hf (beq_iff_eq.mp ht) (by show (lookIn name od).map (·.isSome) = some false; rw[hl,hv]; rfl) h
theorem Ajw {ns:List Str} {Q:Unit->Shared->Prop} (X:K.In s.heap) (I:ObjM s.heap x dx C mA)
  (hs:findIn K (.ref C) "__setattr__" = some (some (.builtin "object.__setattr__"))) (hp:plainOver K C = true) (ht:takerIn K C name = some none) (hh:hasDictIn K C = true)
  (hw:PySem.Within mA ns) (hsz:ns.length <= sizeLine)
  (h:∀ h',ObjM h' x dx C (fun y=>if y = name then some v else mA y)->SameBut dx s.heap h'->Q () { s with heap:=h',toks:=s.toks + 2 }) :
  wpAny (model prog w) A (setAttr (.ref x) name v) Q E s:=by
 obtain⟨od,J,hl⟩:=I.look
 refine PySem.W.set_plain X J hs (PySem.W.osa_open (s:={ s with toks:=s.toks + 1 }) (r:=none) X J hp ht fun b=>?_)
 obtain⟨cd,hc,hd'⟩:=PySem.W.any_some hh
 have hx:s.heap.get? x = some ⟨.ref C,some dx,.plain,#[]⟩:=I.obj
 refine wpAny_bind (wpAny_pure (wpAny_bind (wpAny_bind (wpAny_loadPart hx (wpAny_bind (PySem.W.Looks.here (s:={ s with toks:=s.toks + 1 }) (PySem.W.looks_clsIn X hc) ?_))))))
 rw[hd']
 refine wpAny_pure (a:=some dx) (wpAny_bind (wpAny_pure (wpAny_bind ?_)))
 refine wpAny_nsSet1 (s:={ s with toks:=s.toks + 1 }) I.ns fun h' hn2 hs2=>?_
 obtain⟨oD,esD,epD,hoD,hdD,hcD⟩:=hn2.count (PySem.Within.cons name v hw)
 refine wpAny_bind (wpAny_lookBehind hoD (by rw[hdD]; exact pastItsLine_dict (Nat.le_trans hcD (by rw[length_cons]; omega))) ?_)
 exact wpAny_pure (h _ ⟨(hs2.2 _ (Ne.symm I.ne)).trans I.obj,hn2,I.ne⟩ hs2)
theorem AgJ {R:Result->Shared->Prop} {vs:List Value} {kw:List (Str × Value)} (X:K.In s.heap) (hm:makesIn K C = true)
  (hi:findIn K (.ref C) "__init__" = some (some (.ref f))) (hf:typeIn K (.ref f) = some (.type "function"))
  (h:codeAny (model prog w) (A.under (.builtin "type.__call__" ⟨.ref C :: vs,kw⟩)) (.call (.ref f) ⟨.ref (s.heap.objs.size + 1) :: vs,kw⟩) (PySem.W.InitBack (s.heap.objs.size + 1) R)
   { s with heap:=(s.heap.push emptyDict).push (instObj C s.heap.objs.size) }) :
  codeAny (model prog w) A (.call (.ref C) ⟨vs,kw⟩) R s:=by
 obtain⟨hh,g,d,t,os⟩:=s
 exact PySem.W.make_core (PySem.W.makes_of X hm) (PySem.W.looks_findIn X hi) (fun self=>PySem.W.bind_fn X self hf) (.inl rfl) h
end
def Bx (f:Str) (v:V):List (Str × V)->List (Str × V)
 | []=>[(f,v)]
 | (g,x) :: r=>if g = f then (g,v) :: r else (g,x) :: Bx f v r
theorem Cu (f g:Str) (v:V):∀ fs:List (Str × V),(Bx f v fs).lookup g = if g = f then some v else fs.lookup g
 | []=>by
  show List.lookup g [(f,v)] = _
  by_cases h:g = f
  ·have hb:(g == f) = true:=beq_iff_eq.mpr h
   simp only [List.lookup,hb,if_pos h]
  ·have hb:(g == f) = false:=beq_eq_false_iff_ne.mpr h
   simp only [List.lookup,hb,if_neg h]
 | (k,x) :: r=>by
  have ih:=Cu f g v r
  rw[show Bx f v ((k,x) :: r) = (if k = f then (k,v) :: r else (k,x) :: Bx f v r) from rfl]
  by_cases hk:k = f
  ·rw[if_pos hk]
   by_cases h:g = k
   ·have hb:(g == k) = true:=beq_iff_eq.mpr h
    simp only [List.lookup,hb,if_pos (h.trans hk)]
   ·have hb:(g == k) = false:=beq_eq_false_iff_ne.mpr h
    simp only [List.lookup,hb,if_neg (fun e:g = f=>h (e.trans hk.symm))]
  ·rw[if_neg hk]
   by_cases h:g = k
   ·have hb:(g == k) = true:=beq_iff_eq.mpr h
    simp only [List.lookup,hb,if_neg (fun e:g = f=>hk (h.symm.trans e))]
   ·have hb:(g == k) = false:=beq_eq_false_iff_ne.mpr h
    simp only [List.lookup,hb]
    exact ih
theorem Ts (f:Str) (v:V):∀ fs:List (Str × V),f ∈ (Bx f v fs).map (·.1)/\∀ g,g ∈ fs.map (·.1)->g ∈ (Bx f v fs).map (·.1)
 | []=>⟨by simp [Bx],fun g h=>by simp at h⟩
 | (k,x) :: r=>by
  obtain⟨i1,i2⟩:=Ts f v r
  rw[show Bx f v ((k,x) :: r) = (if k = f then (k,v) :: r else (k,x) :: Bx f v r) from rfl]
  by_cases hk:k = f
  ·rw[if_pos hk]
   subst hk
   exact⟨by simp,fun g h=>by simpa using h⟩
  ·rw[if_neg hk]
   refine⟨?_,fun g h=>?_⟩
   ·rw[map_cons]
    exact mem_cons_of_mem _ i1
   ·rw[map_cons] at h ⊢
    rcases mem_cons.mp h with e | e
    ·exact mem_cons.mpr (.inl e)
    ·exact mem_cons_of_mem _ (i2 g e)
theorem Fb (f:Str) (v:V):∀ fs:List (Str × V),(Bx f v fs).length <= fs.length + 1
 | []=>by simp [Bx]
 | (k,x) :: r=>by
  have ih:=Fb f v r
  rw[show Bx f v ((k,x) :: r) = (if k = f then (k,v) :: r else (k,x) :: Bx f v r) from rfl]
  by_cases hk:k = f
  ·rw[if_pos hk,length_cons,length_cons]; omega
  ·rw[if_neg hk,length_cons,length_cons]; omega
theorem RelO.some_of {v:V} {o:Option Value} (r:RelO (some v) o):∃ u,o = some u/\RelV v u:=by
 cases o with
 | none=>exact (show False from r).elim
 | some u=>exact⟨u,rfl,r⟩
theorem RelO.none_of {o:Option Value} (r:RelO none o):o = none:=by
 cases o with
 | none=>rfl
 | some u=>exact (show False from r).elim
theorem AeG {v:V} {u:Value} (r:RelV v u):handedIn u = true:=by
 cases v with
 | non=>cases (show u = Value.none from r); rfl
 | bl b=>cases (show u = Value.bool b from r); rfl
 | int i=>obtain⟨t,e⟩:=(show ∃ t,u = Value.int i t from r); cases e; rfl
 | str x=>obtain⟨t,e⟩:=(show ∃ t,u = Value.str x t from r); cases e; rfl
 | byt b=>obtain⟨t,e⟩:=(show ∃ t,u = Value.bytes b t from r); cases e; rfl
 | flt b=>obtain⟨t,e⟩:=(show ∃ t,u = Value.float b t from r); cases e; rfl
 | ref a=>cases (show u = Value.ref a from r); rfl
 | ty n=>cases (show u = Value.type n from r); rfl
section
variable {P:Program} {w:World} {H H':Hp} {h h':Heap} {a C dx:Addr} {fs fs':List (Str × V)}
theorem Qw (hok:HOk P w H h) (e:H a = some (.ins C dx fs)):∃ mA,ObjM h a dx C mA/\(∀ f,RelO (fs.lookup f) (mA f))/\PySem.Within mA (fs.map (·.1))/\fs.length <= 1000/\H dx = some (.own a):=by
 obtain⟨d,z,ne,ob,mA,n,r,q⟩:=(show ObjOk P w H h a (.ins C dx fs) from hok a _ e)
 exact⟨mA,⟨ob,n,ne⟩,r,q,z,d⟩
end
structure Cls (K:Frag) (C:Addr):Prop where
 pg:plainGet K C Str.empty = true
 hd:hasDictIn K C = true
 po:plainOver K C = true
 sa:findIn K (.ref C) "__setattr__" = some (some (.builtin "object.__setattr__"))
theorem Cls.get {K:Frag} {C:Addr} (c:Cls K C) (f:Str):plainGet K C f = true:=c.pg
def NoAttr (K:Frag) (C:Addr) (f:Str):Prop:=findIn K (.ref C) f = some none
theorem NoAttr.taker {K:Frag} {C:Addr} {f:Str} (n:NoAttr K C f):takerIn K C f = some none:=by
 unfold takerIn
 rw[show findIn K (.ref C) f = some none from n]
 rfl
structure Xs (K:Frag) (C:Addr) (m:Str) (f:Addr):Prop where
 at_:findIn K (.ref C) m = some (some (.ref f))
 fn:isFn K (.ref f) = true
 kp:keepIn K (.ref f) = true
section
variable {X:Cx} {pins:List (Addr × Obj)} {σ:St} {H:Hp} {s:Shared} {a C dx:Addr} {fs:List (Str × V)} {f:Str} {v:V} {A:Around} {E:Value->Shared->Prop}
theorem Ado {b:Bool} {Q:Value->Shared->Prop} (I:Inv X pins σ H s) (e:H a = some (.ins C dx fs)) (c:Cls X.K C) (n:NoAttr X.K C f) (l:fs.lookup f = some v)
  (h:∀ u s',Inv X pins σ H s'->RelV v u->Q u s'):wpAny (model X.prog X.w) A (getAttr (.ref a) f b) Q E s:=by
 obtain⟨mA,O,r,_,_,_⟩:=Qw I.hok e
 obtain⟨u,hu,ru⟩:=RelO.some_of (v:=v) (o:=mA f) (by rw[<- l]; exact r f)
 exact Ai9 I.kIn O (c.get f) c.hd n hu (AeG ru) (h u _ (I.tok _) ru)
theorem AcB {m:Str} {g:Addr} {pl:Sem Bool} {Q:Value × List Value->Shared->Prop} (I:Inv X pins σ H s) (e:H a = some (.ins C dx fs)) (c:Cls X.K C) (k:Xs X.K C m g) (l:fs.lookup m = none)
  (h:Q (.ref g,[.ref a]) s):wpAny (model X.prog X.w) A (getMethod (.ref a) m pl) Q E s:=by
 obtain⟨mA,O,r,_,_,_⟩:=Qw I.hok e
 have hn:mA m = none:=RelO.none_of (by rw[<- l]; exact r m)
 exact Agc I.kIn O (c.get m) k.at_ k.fn hn h
theorem AcD {y:V} {u:Value} {Q:Unit->Shared->Prop} (I:Inv X pins σ H s) (e:H a = some (.ins C dx fs)) (c:Cls X.K C) (n:NoAttr X.K C f) (hl:fs.length < 1000) (ry:RelV y u)
  (h:∀ s',Inv X pins σ (upd H a (.ins C dx (Bx f y fs))) s'->Q () s'):wpAny (model X.prog X.w) A (setAttr (.ref a) f u) Q E s:=by
 obtain⟨mA,O,r,wi,_,ho⟩:=Qw I.hok e
 have hz:(fs.map (·.1)).length <= sizeLine:=by rw[length_map,sizeLine_eq]; omega
 refine Ajw I.kIn O c.sa c.po n.taker c.hd wi hz fun h' O' sb=>h _ ?_
 have hd:∃ o,h'.get? dx = some o:=let ⟨o,_,_,e',_⟩:=O'.ns; ⟨o,e'⟩
 refine I.write (x:=a) (e:=dx) (by rw[e]; exact True.intro) (.inr ho) (fun b q hb z=>(sb.2 b hb).trans z) hd ?_
 refine⟨by rw[Bk O.ne]; exact ho,?_,O.ne,O'.obj,_,O'.ns,fun g=>?_,fun g hg=>?_⟩
 ·have:=Fb f y fs; omega
 ·show RelO ((Bx f y fs).lookup g) (if g = f then some u else mA g)
  rw[Cu]
  by_cases q:g = f
  ·rw[if_pos q,if_pos q]; exact ry
  ·rw[if_neg q,if_neg q]; exact r g
 ·by_cases q:g = f
  ·rw[q]; exact (Ts f y fs).1
  ·refine (Ts f y fs).2 g (wi g fun z=>hg ?_)
   show (if g = f then some u else mA g) = none
   rw[if_neg q]; exact z
theorem Inv.made (I:Inv X pins σ H s):Inv X pins σ (upd (upd H s.heap.objs.size (.own (s.heap.objs.size + 1))) (s.heap.objs.size + 1) (.ins C s.heap.objs.size []))
  { s with heap:=(s.heap.push emptyDict).push (instObj C s.heap.objs.size) }:=by
 have e1:(s.heap.push emptyDict).get? s.heap.objs.size = some emptyDict:=get?_push_size s.heap rfl
 have e2:((s.heap.push emptyDict).push (instObj C s.heap.objs.size)).get? (s.heap.objs.size + 1) = some (instObj C s.heap.objs.size):=by
  have:=get?_push_size (s.heap.push emptyDict) (o:=instObj C s.heap.objs.size) rfl
  rwa [Heap.size_push] at this
 have e3:(s.heap.push emptyDict).Ns s.heap.objs.size (fun _=>none):=⟨emptyDict,#[],_,e1,rfl,(fun e he=>absurd he (by simp)),fun _=>rfl⟩
 have I1:=I.laid (a:=s.heap.objs.size) (o:=.own (s.heap.objs.size + 1)) (h':=s.heap.push emptyDict) (t':=s.toks) (fun b u q=>get?_push_of_some _ q) (Nat.le_refl _) ⟨_,e1⟩
 refine I1.laid (a:=s.heap.objs.size + 1) (o:=.ins C s.heap.objs.size []) (t':=s.toks) (fun b u q=>get?_push_of_some _ q) (Nat.le_of_eq (Heap.size_push _ _)) ?_
 have ne:s.heap.objs.size ≠ s.heap.objs.size + 1:=ne_of_lt (lt_succ_self _)
 refine⟨by rw[Bk ne,Bp],zero_le _,ne,e2,fun _=>none,(Ns1.of_empty e3).at fun o q=>get?_push_of_some _ q,fun _=>True.intro,fun y hy=>absurd rfl hy⟩
theorem AbI {prog:Program} {w:World} {env:Env} {e:Expr} {f:Str} {pos:Pos} {s:Shared} {Q:Value->Shared->Prop} (hb:attributeBase e f env (eval e env) = eval e env)
  (h:wpAny (model prog w) A (eval e env) (fun o s₁=>wpAny (model prog w) A (getAttr o f true) Q E s₁) E s):wpAny (model prog w) A (eval (.Attribute e f pos) env) Q E s :=
 Attribute_any_ h (by rw[arm_eval_Attribute,hb])
end
def AjO (K:Frag) (ta:TE) (f:Str):TE:=fun σ H Q=>ta σ H fun x H1=>∃ a C dx fs v,x = .ref a/\H1 a = some (.ins C dx fs)/\Cls K C/\NoAttr K C f/\fs.lookup f = some v/\Q v H1
def Ala (K:Frag) (ta tv:TE) (f:Str):TS:=fun D σ H=>tv σ H fun y H1=>ta σ H1 fun x H2=>∃ a C dx fs,x = .ref a/\H2 a = some (.ins C dx fs)/\Cls K C/\NoAttr K C f/\fs.length < 1000 /\
 D.nx σ (upd H2 a (.ins C dx (Bx f y fs)))
section
variable {X:Cx} {o e value:Expr} {f:Str} {pos pos' tpos:Pos} {ta tv:TE}
theorem Qy (he:PE X e ta) (hb:attributeBase e f X.env (eval e X.env) = eval e X.env):PE X (.Attribute e f pos) (AjO X.K ta f):=by
 intro pins s σ H Q I h
 refine AbI hb (thn (he pins s σ H _ I h) fun u s1 ⟨x,H1,I1,rx,a,C,dx,fs,v,ex,ea,c,n,l,q⟩=>?_)
 subst ex
 obtain rfl:u = Value.ref a:=rx
 exact Ado I1 ea c n l fun u' s2 I2 ru=>⟨v,H1,I2,ru,q⟩
theorem Tq (ha:PE X o ta) (hv:PE X value tv) (hs:swapsWith value (some (.Attribute o f pos')) pos.line X.env = pure false):PS X (.Assign [.Attribute o f pos'] value pos) (Ala X.K ta tv f):=by
 intro pins s σ H D I h
 refine plainObj_wpAny_Assign_Attribute (thn (hv pins s σ H _ I h) fun u s1 ⟨y,H1,I1,ry,q⟩=>thn (ha pins s1 σ H1 _ I1 q) fun ov s2 ⟨x,H2,I2,rx,a,C,dx,fs,ex,ea,c,n,l,q2⟩=>?_) hs
 subst ex
 obtain rfl:ov = Value.ref a:=rx
 exact AcD I2 ea c n l ry fun s3 I3=>⟨σ,_,I3,q2⟩
end
section
variable {X:Cx} {pins:List (Addr × Obj)} {σ:St} {H:Hp} {s:Shared} {A:Around} {E:Value->Shared->Prop} {Q:Value->Shared->Prop} {c:Value} {b:Bool}
inductive Gw (K:Frag) (H:Hp):V->Value->Prop where
 | non:Gw K H .non (.type "NoneType")
 | bl (x:Bool):Gw K H (.bl x) (.type "bool")
 | int (i:Int):Gw K H (.int i) (.type "int")
 | str (x:Str):Gw K H (.str x) (.type "str")
 | flt (x:UInt64):Gw K H (.flt x) (.type "float")
 | lst {a:Addr} {xs:List V} (e:H a = some (.lst xs)):Gw K H (.ref a) (.type "list")
 | frz {a:Addr} {o:Obj} {xs:List V} (e:H a = some (.frz o (.lst xs))):Gw K H (.ref a) (.type "list")
 | tup {a:Addr} {xs:List V} (e:H a = some (.tup xs)):Gw K H (.ref a) (.type "tuple")
 | dK {a:Addr} {kvs:List (Key × V)} (e:H a = some (.dK kvs)):Gw K H (.ref a) (.type "dict")
 | dT {a:Addr} {kvs:List (List Key × V)} (e:H a = some (.dT kvs)):Gw K H (.ref a) (.type "dict")
 | ins {a C dx:Addr} {fs:List (Str × V)} (e:H a = some (.ins C dx fs)) (cl:Cls K C) (ha:findIn K (.ref C) "__class__" = some (some (.builtin "object.__class__")))
   (hn:PySem.W.specialIn K (.builtin "object.__class__") "__get__" = some (some (.builtin "getset_descriptor.__get__"))) (htk:PySem.W.takesIn K (.builtin "object.__class__") = some true)
   (hm:mroIn K C (.type "object") = some true):Gw K H (.ref a) (.ref C)
theorem AdO {x:V} {u t:Value} (I:Inv X pins σ H s) (rx:RelV x u) (ty:Gw X.K H x t) (e:kitOne X.K t c = some b) (h:∀ tk,Q (.bool b) { s with toks:=tk }) :
  wpAny (model X.prog X.w) A (call (.builtin "isinstance") [u,c]) Q E s:=by
 cases ty with
 | non=>cases (show u = Value.none from rx); exact kia_one PySem.W.kitx_none I.kIn True.intro e (fun z=>nomatch z) h
 | bl y=>cases (show u = Value.bool y from rx); exact kia_one PySem.W.kitx_bool I.kIn True.intro e (fun z=>nomatch z) h
 | int i=>obtain⟨t,q⟩:=(show ∃ t,u = Value.int i t from rx); cases q; exact kia_one PySem.W.kitx_int I.kIn True.intro e (fun z=>nomatch z) h
 | str y=>obtain⟨t,q⟩:=(show ∃ t,u = Value.str y t from rx); cases q; exact kia_one PySem.W.kitx_str I.kIn True.intro e (fun z=>nomatch z) h
 | flt y=>obtain⟨t,q⟩:=(show ∃ t,u = Value.float y t from rx); cases q; exact kia_one PySem.W.kitx_float I.kIn True.intro e (fun z=>nomatch z) h
 | @lst a xs ea =>
  cases (show u = Value.ref a from rx)
  obtain⟨_,_,n,_,h1⟩:=(show ObjOk X.prog X.w H s.heap a (.lst xs) from I.hok a _ ea)
  exact kia_one kitx_list I.kIn ⟨_,h1,rfl⟩ e (fun z=>nomatch z) h
 | @frz a ob xs ea =>
  cases (show u = Value.ref a from rx)
  obtain⟨_,_,_,n,_,h1⟩:=(show ObjOk X.prog X.w H s.heap a (.frz ob (.lst xs)) from I.hok a _ ea)
  exact kia_one kitx_list I.kIn ⟨_,h1,rfl⟩ e (fun z=>nomatch z) h
 | @tup a xs ea =>
  cases (show u = Value.ref a from rx)
  obtain⟨_,_,_,p⟩:=(show ObjOk X.prog X.w H s.heap a (.tup xs) from I.hok a _ ea)
  obtain⟨o,h1,h2,_⟩:=p
  exact kia_one PySem.W.kitx_tuple I.kIn ⟨o,h1,h2⟩ e (fun z=>nomatch z) h
 | @dK a kvs ea =>
  cases (show u = Value.ref a from rx)
  obtain⟨_,_,vs,_,p⟩:=(show ObjOk X.prog X.w H s.heap a (.dK kvs) from I.hok a _ ea)
  obtain⟨o,es,ep,h1,h2,_⟩:=p
  exact kia_one kitx_dict I.kIn ⟨o,h1,h2.1⟩ e (fun z=>nomatch z) h
 | @dT a kvs ea =>
  cases (show u = Value.ref a from rx)
  obtain⟨_,_,xs,_,o,es,ep,h1,h2,_⟩:=(show ObjOk X.prog X.w H s.heap a (.dT kvs) from I.hok a _ ea)
  exact kia_one kitx_dict I.kIn ⟨o,h1,h2.1⟩ e (fun z=>nomatch z) h
 | @ins a C dx fs ea cl ha hn htk hm =>
  cases (show u = Value.ref a from rx)
  obtain⟨mA,O,_⟩:=Qw I.hok ea
  obtain⟨od,J,_⟩:=O.look
  exact kia_one (PySem.W.kitx_own (cl.get _) cl.hd ha hn htk hm) I.kIn J e (fun z=>nomatch z) h
end
structure Room (k:Nat) (A:Around):Prop where
 hd:A.handled = none
 dp:A.depth + 3 * k + 5 < recursionLimit
 un:A.units + 16 * k + 200 < cLine
theorem Room.mono {j k:Nat} {A:Around} (r:Room k A) (h:j <= k):Room j A:=⟨r.hd,by have:=r.dp; omega,by have:=r.un; omega⟩
theorem Room.deeper {k:Nat} {A:Around} (r:Room (k + 1) A) (env:Env):Room k (A.deeper env) :=
 ⟨r.hd,by have:=r.dp; show A.depth + 1 + 3 * k + 5 < _; omega,by have:=r.un; show A.units + 3 + 16 * k + 200 < _; omega⟩
theorem Room.in1 {k:Nat} {A:Around} (r:Room (k + 1) A):Room k A.in1 :=
 ⟨r.hd,by have:=r.dp; show A.depth + 3 * k + 5 < _; omega,by have:=r.un; show A.units + 1 + 16 * k + 200 < _; omega⟩
theorem AcI {A:Around} {C:Addr} {us:List Value} {kw:List (Str × Value)}:(A.under (.builtin "type.__call__" ⟨.ref C :: us,kw⟩)).depth = A.depth + 1:=by
 first | rfl | simp [Around.under,Code.weight,Code.isCreation,Code.isGuard,Code.isCaller,Code.frames,Code.isFrame,guardIds]
theorem AcT {A:Around} {C:Addr} {us:List Value} {kw:List (Str × Value)}:(A.under (.builtin "type.__call__" ⟨.ref C :: us,kw⟩)).units = A.units + 1:=by
 first | rfl | simp [Around.under,Code.cUnits,Code.frames,Code.isFrame]
theorem Room.make {k:Nat} {A:Around} (r:Room (k + 1) A) (C:Addr) (us:List Value) (kw:List (Str × Value)):Room k (A.under (.builtin "type.__call__" ⟨.ref C :: us,kw⟩)) :=
 ⟨r.hd,by have:=r.dp; rw[AcI]; omega,by have:=r.un; rw[AcT]; omega⟩
theorem Room.depth {k:Nat} {A:Around} (r:Room k A):A.depth < recursionLimit:=by have:=r.dp; omega
theorem Room.units {k:Nat} {A:Around} (r:Room k A):A.units + 64 < cLine:=by have:=r.un; omega
def Ou:TA:=fun _ H Q=>Q [] H
def Go (ta:TE) (tr:TA):TA:=fun σ H Q=>ta σ H fun x H1=>tr σ H1 fun xs H2=>Q (x :: xs) H2
section
variable {X:Cx} {e:Expr} {es:List Expr} {te:TE} {t:TA} {pos:Pos}
theorem Bd:PA X [] Ou:=fun _ _ _ _ H Q I h=>Calls.spliced_nil ⟨[],H,I,.nil,h⟩
theorem Ba (ha:PE X e te) (hr:PA X es t) (hs:starEach (e :: es) X.env = (false,eval e X.env) :: starEach es X.env:=by rfl):PA X (e :: es) (Go te t):=by
 intro pos pins s σ H Q I h
 rw[hs]
 show wpAny _ _ (spliced ((false,eval e X.env) :: backTo pos (starEach es X.env))) _ _ s
 refine Calls.spliced_cons (thn (ha pins s σ H _ I h) fun u s1 ⟨x,H1,I1,r1,q1⟩=>?_)
 exact thn (hr pos pins s1 σ H1 _ I1 q1) fun us s2 ⟨xs,H2,I2,r2,q2⟩=>⟨x :: xs,H2,I2,.cons r1 r2,q2⟩
def AlK (t:TA):TE:=fun σ H Q=>t σ H fun xs H1=>xs.length <= sizeLine/\∀ p,H1 p = none->Q (.ref p) (upd H1 p (.tup xs))
theorem Ads {x1} (h:PA X es t):PE X (.Tuple es x1 pos) (AlK t):=by
 intro pins s σ H Q I hq
 refine wpAny_Tuple_spliced (thn (h pos pins s σ H _ I hq) fun us s1 ⟨xs,H1,I1,r,z,q⟩=>⟨by rw[<- r.length]; exact z,?_⟩)
 have hf:H1 s1.heap.objs.size = none:=I1.hok.fresh (Nat.le_refl _)
 refine⟨.ref s1.heap.objs.size,upd H1 s1.heap.objs.size (.tup xs),I1.laid (t':=s1.toks) (fun b u e=>get?_push_of_some _ e) (Nat.le_refl _) ?_,rfl,q _ hf⟩
 exact⟨z,us,r,⟨_,get?_push_size _ rfl,rfl,_,rfl⟩⟩
end
abbrev Sp:=List V->Hp->VK->XK->Prop
abbrev CXT:=List Env->Hp->Shared->XK->Value->Shared->Prop
structure Env0 (P:Program) (w:World) (K:Frag) (mg:Str->Option Value) (base:Heap) (A:Around) (outer:List Env) (s:Shared) (H:Hp):Prop where
 frames:A.frames = some outer
 mod:Mod K mg base
 bs:∀ b o,base.get? b = some o->s.heap.get? b = some o/\H b = none
 bsz:base.objs.size <= s.heap.objs.size
 funs:s.heap.FunFrames base outer
 frf:∀ b ∈ frs outer,H b = none
 hok:HOk P w H s.heap
 bare:AllBare s.gens
def CE (outer:List Env) (P:Program) (w:World) (H:Hp) (s:Shared) (Q:VK) (u:Value) (s':Shared):Prop :=
 ∃ v H',s'.os = s.os/\AllBare s'.gens/\Un (frs outer) [] H H' s.heap s'.heap/\HOk P w H' s'.heap/\RelV v u/\Q v H'
def CR (CX:CXT) (outer:List Env) (P:Program) (w:World) (H:Hp) (s:Shared) (Q:VK) (E:XK) (r:Result) (s':Shared):Prop :=
 match r with
 | .ok (.ret u)=>CE outer P w H s Q u s'
 | .ok _=>False
 | .error e=>CX outer H s E e s'
structure FnOk (P:Program) (w:World) (K:Frag) (mg:Str->Option Value) (base:Heap) (CX:CXT) (k:Nat) (f:Addr) (fd:FuncData) (ps:List Str) (sp:Sp):Prop where
 len:∀ vs H Q E,sp vs H Q E->vs.length = ps.length
 run:∀ (A:Around) (outer:List Env) (s:Shared) (H:Hp) (args:Args) (us:List Value) (vs:List V) (Q:VK) (E:XK),Room k A->Env0 P w K mg base A outer s H->BindsTo s fd args (ps.zip us)->Vals vs us->sp vs H Q E ->
  codeAny (model P w) A (.call (.ref f) args) (CR CX outer P w H s Q E) s
theorem FnOk.imp {P:Program} {w:World} {K:Frag} {mg:Str->Option Value} {base:Heap} {CX:CXT} {k:Nat} {f:Addr} {fd:FuncData} {ps:List Str} {sp sp':Sp} (F:FnOk P w K mg base CX k f fd ps sp)
  (h:∀ vs H Q E,sp' vs H Q E->sp vs H Q E):FnOk P w K mg base CX k f fd ps sp' :=
 ⟨fun vs H Q E q=>F.len vs H Q E (h _ _ _ _ q),fun A outer s H args us vs Q E hr he hb hv hs=>F.run A outer s H args us vs Q E hr he hb hv (h _ _ _ _ hs)⟩
theorem Env0.make {P:Program} {w:World} {K:Frag} {mg:Str->Option Value} {base:Heap} {A:Around} {outer:List Env} {s:Shared} {H:Hp} (e:Env0 P w K mg base A outer s H) (C:Addr) (us:List Value) (kw:List (Str × Value)) :
  Env0 P w K mg base (A.under (.builtin "type.__call__" ⟨.ref C :: us,kw⟩)) outer s H:=⟨by first | exact e.frames | (simpa [Around.under,Code.envs,Code.isFrame,pushEnvs] using e.frames),e.mod,e.bs,e.bsz,e.funs,e.frf,e.hok,e.bare⟩
theorem Env0.in1 {P:Program} {w:World} {K:Frag} {mg:Str->Option Value} {base:Heap} {A:Around} {outer:List Env} {s:Shared} {H:Hp} (e:Env0 P w K mg base A outer s H) :
  Env0 P w K mg base A.in1 outer s H:=⟨e.frames,e.mod,e.bs,e.bsz,e.funs,e.frf,e.hok,e.bare⟩
section
variable {X:Cx} {pins:List (Addr × Obj)} {σ:St} {H:Hp} {s s':Shared}
theorem Inv.env0 (I:Inv X pins σ H s):Env0 X.prog X.w X.K X.mg X.base X.A X.stack s H :=
 ⟨I.ok.frames,I.ok.mod,I.bs,Nat.le_trans I.ok.bsz I.sz,I.stack,I.stkFree,I.hok,I.bare⟩
theorem Inv.after {Q:VK} {u:Value} (I:Inv X pins σ H s) (h:CE X.stack X.prog X.w H s Q u s'):EP X pins σ Q u s':=by
 obtain⟨v,H',os,bare,un,hok,r,q⟩:=h
 obtain⟨hh,g,d,t,os'⟩:=s'
 obtain rfl:os' = s.os:=os
 exact⟨v,H',I.call (h':=hh) (g':=g) (d':=d) (t':=t) (ch:=[]) un hok bare (fun b z=>absurd z (by simp)),r,q⟩
end
def Ro (sp:Sp) (dvs:List V) (E:XK) (t:TA):TE:=fun σ H Q=>t σ H fun vs H1=>sp (vs ++ dvs) H1 Q E
def Ue (C:Addr) (m:Str) (sp:Sp) (dvs:List V) (E:XK) (ta:TE) (t:TA):TE:=fun σ H Q=>ta σ H fun x H1=>∃ a dx fs,x = .ref a/\H1 a = some (.ins C dx fs)/\fs.lookup m = none /\
 t σ H1 fun vs H2=>sp (x :: (vs ++ dvs)) H2 Q E
def Aif (C:Addr) (sp:Sp) (dvs:List V) (E:XK) (t:TA):TE:=fun σ H Q=>t σ H fun vs H1=>∀ x dx,H1 x = none->H1 dx = none->dx ≠ x ->
 sp (.ref x :: (vs ++ dvs)) (upd (upd H1 dx (.own x)) x (.ins C dx [])) (fun v H2=>v = .non/\Q (.ref x) H2) E
def Binds (K:Frag) (fd:FuncData) (ps:List Str) (ds:List Value):Prop :=
 ∀ (s:Shared) (us:List Value),K.In s.heap->(us ++ ds).length = ps.length->BindsTo s fd ⟨us,[]⟩ (ps.zip (us ++ ds))
theorem Binds.all {K:Frag} {fd:FuncData} {ps:List Str} (h:∀ us:List Value,us.length = ps.length->bindArgs fd ⟨us,[]⟩ = pure (ps.zip us)):Binds K fd ps []:=fun s us _ hl=>by
 rw[append_nil] at hl ⊢
 exact .of_eq (h us hl)
def Qt (CX:CXT) (X:Cx) (E:XK):Prop:=∀ (pins:List (Addr × Obj)) (σ:St) (H:Hp) (s:Shared) (e:Value) (s':Shared),Inv X pins σ H s->CX X.stack H s E e s'->X.xe e s'
section
variable {X:Cx} {CX:CXT} {k:Nat} {f C:Addr} {fd:FuncData} {ps:List Str} {sp:Sp} {dvs:List V} {ds:List Value} {E:XK} {x m:Str} {p pos apos:Pos} {e o:Expr} {es:List Expr} {ta:TE} {t:TA}
theorem Aet {pins:List (Addr × Obj)} {σ:St} {H:Hp} {s:Shared} {Q:VK} {us:List Value} {vs:List V} (F:FnOk X.prog X.w X.K X.mg X.base CX k f fd ps sp) (hr:Room k X.A) (hb:Binds X.K fd ps ds) (hd:Vals dvs ds) (hx:Qt CX X E)
  (I:Inv X pins σ H s) (r:Vals vs us) (h:sp (vs ++ dvs) H Q E):wpAny (model X.prog X.w) X.A (call (.ref f) us) (EP X pins σ Q) X.xe s:=by
 have r2:Vals (vs ++ dvs) (us ++ ds):=r.append hd
 have hl:(us ++ ds).length = ps.length:=by rw[<- r2.length]; exact F.len _ _ _ _ h
 refine wpAny_call (codeAny_mono (F.run X.A X.stack s H ⟨us,[]⟩ (us ++ ds) (vs ++ dvs) Q E hr I.env0 (hb s us I.kIn hl) r2 h) fun r s' hq=>?_)
 cases r with
 | error e=>exact hx pins σ H s e s' I hq
 | ok fl =>
  cases fl with
  | ret u=>exact I.after hq
  | next=>exact False.elim hq
  | brk=>exact False.elim hq
  | cont=>exact False.elim hq
theorem Bm (F:FnOk X.prog X.w X.K X.mg X.base CX k f fd ps sp) (hr:Room k X.A) (hg:Gl X x) (hm:X.mg x = some (.ref f)) (hk:keepIn X.K (.ref f) = true) (hb:Binds X.K fd ps ds) (hd:Vals dvs ds) (hx:Qt CX X E)
  (ha:PA X (e :: es) t) (hdb:(x == ("__debug__" : Str)) = false:=by decide) (he:starEach (e :: es) X.env = (false,eval e X.env) :: starEach es X.env:=by rfl) (hpl:(backTo pos (starEach es X.env)).any (·.1) = false:=by rfl) :
  PE X (.Call (.Name x p) (e :: es) [] pos) (Ro sp dvs E t):=by
 intro pins s σ H Q I h
 refine wpAny_Call_Name_kw (Xf I hg hm ?_ hdb)
 refine callWith_K (h₀:=X.base) I.ok.mod.kin hk (thn (ha pos pins s σ H _ I h) fun us s1 ⟨vs,H1,I1,r,q⟩=>⟨I1.kIn,?_⟩) he hpl
 exact Aet F hr hb hd hx I1 r q
theorem Og {pl:Sem Bool} (he:PE X o ta) (c:Cls X.K C) (hm:Xs X.K C m f) (F:FnOk X.prog X.w X.K X.mg X.base CX k f fd ps sp) (hr:Room k X.A) (hb:Binds X.K fd ps ds) (hd:Vals dvs ds) (hx:Qt CX X E) (ha:PA X (e :: es) t)
  (hst:starEach (e :: es) X.env = (false,eval e X.env) :: starEach es X.env:=by rfl) (hpl:(backTo pos (starEach es X.env)).any (·.1) = false:=by rfl)
  (ht:eval (.Call (.Attribute o m apos) (e :: es) [] pos) X.env = (do
   let ov <- eval o X.env
   standAt apos.atName
   let (f,first) <- holding [ov] (getMethod ov m pl)
   callWith pos f first (backTo pos (starEach (e :: es) X.env)) (backToKw pos (keywordEach [] X.env))):=by rfl) :
  PE X (.Call (.Attribute o m apos) (e :: es) [] pos) (Ue C m sp dvs E ta t):=by
 intro pins s σ H Q I h
 refine PySem.W.methodCall_KW (pl:=pl) (thn (he pins s σ H _ I h) fun u s1 ⟨x,H1,I1,rx,a,dx,fs,ex,ea,l,q⟩=>?_) ht
 subst ex
 obtain rfl:u = Value.ref a:=rx
 refine AcB I1 ea c hm l ?_
 refine callWith_K (first:=[.ref a]) (h₀:=X.base) I.ok.mod.kin hm.kp (thn (ha pos pins s1 σ H1 _ I1 q) fun us s2 ⟨vs,H2,I2,r,q2⟩=>⟨I2.kIn,?_⟩) hst hpl
 exact Aet (us:=.ref a :: us) (vs:=.ref a :: vs) F hr hb hd hx I2 (.cons rfl r) q2
structure Mk (K:Frag) (C f:Addr):Prop where
 makes:makesIn K C = true
 init:findIn K (.ref C) "__init__" = some (some (.ref f))
 fn:isFn K (.ref f) = true
 kp:keepIn K (.ref C) = true
theorem AgG {pins:List (Addr × Obj)} {σ:St} {H:Hp} {s:Shared} {Q:VK} {us:List Value} {vs:List V} (M:Mk X.K C f) (F:FnOk X.prog X.w X.K X.mg X.base CX k f fd ps sp) (hr:Room (k + 1) X.A) (hb:Binds X.K fd ps ds) (hd:Vals dvs ds)
  (hx:Qt CX X E) (I:Inv X pins σ H s) (r:Vals vs us)
  (h:∀ x dx,H x = none->H dx = none->dx ≠ x->sp (.ref x :: (vs ++ dvs)) (upd (upd H dx (.own x)) x (.ins C dx [])) (fun v H2=>v = .non/\Q (.ref x) H2) E) :
  wpAny (model X.prog X.w) X.A (call (.ref C) us) (EP X pins σ Q) X.xe s:=by
 have hq:=h (s.heap.objs.size + 1) s.heap.objs.size (I.hok.fresh (le_succ _)) (I.hok.fresh (Nat.le_refl _)) (ne_of_lt (lt_succ_self _))
 have I2:=Inv.made (C:=C) I
 have r2:Vals (V.ref (s.heap.objs.size + 1) :: (vs ++ dvs)) (Value.ref (s.heap.objs.size + 1) :: (us ++ ds)):=.cons rfl (r.append hd)
 have hl:(Value.ref (s.heap.objs.size + 1) :: us ++ ds).length = ps.length:=by
  have e:=r2.length
  rw[F.len _ _ _ _ hq] at e
  exact e.symm
 refine wpAny_call (AgJ (f:=f) I.kIn M.makes M.init (beq_iff_eq.mp M.fn) (codeAny_mono (F.run _ X.stack _ _ ⟨Value.ref (s.heap.objs.size + 1) :: us,[]⟩ (Value.ref (s.heap.objs.size + 1) :: (us ++ ds)) _ _ E (hr.make C us [])
  (I2.env0.make C us []) (hb _ (Value.ref (s.heap.objs.size + 1) :: us) I2.kIn hl) r2 hq) fun r s' hq'=>?_))
 cases r with
 | error e=>exact hx pins σ _ _ e s' I2 hq'
 | ok fl =>
  cases fl with
  | ret u =>
   obtain⟨v,H',I3,rv,ev,q3⟩:=I2.after hq'
   subst ev
   exact⟨rv,⟨V.ref (s.heap.objs.size + 1),H',I3,rfl,q3⟩⟩
  | next=>exact False.elim hq'
  | brk=>exact False.elim hq'
  | cont=>exact False.elim hq'
theorem AiK (M:Mk X.K C f) (F:FnOk X.prog X.w X.K X.mg X.base CX k f fd ps sp) (hr:Room (k + 1) X.A) (hg:Gl X x) (hm:X.mg x = some (.ref C)) (hb:Binds X.K fd ps ds) (hd:Vals dvs ds) (hx:Qt CX X E)
  (ha:PA X (e :: es) t) (hdb:(x == ("__debug__" : Str)) = false:=by decide) (he:starEach (e :: es) X.env = (false,eval e X.env) :: starEach es X.env:=by rfl) (hpl:(backTo pos (starEach es X.env)).any (·.1) = false:=by rfl) :
  PE X (.Call (.Name x p) (e :: es) [] pos) (Aif C sp dvs E t):=by
 intro pins s σ H Q I h
 refine wpAny_Call_Name_kw (Xf I hg hm ?_ hdb)
 refine callWith_K (h₀:=X.base) I.ok.mod.kin M.kp (thn (ha pos pins s σ H _ I h) fun us s1 ⟨vs,H1,I1,r,q⟩=>⟨I1.kIn,?_⟩) he hpl
 exact AgG M F hr hb hd hx I1 r q
end
def PK (X:Cx) (kws:List Keyword) (t:TA):Prop :=
 ∀ (pos:Pos) (pins:List (Addr × Obj)) (s:Shared) (σ:St) (H:Hp) (Q:List V->Hp->Prop),Inv X pins σ H s->t σ H Q->wpAny (model X.prog X.w) X.A (evalAll ((backToKw pos (keywordEach kws X.env)).map (·.2))) (AP X pins σ Q) X.xe s
section
variable {X:Cx} {CX:CXT} {k:Nat} {f C:Addr} {fd:FuncData} {ps ks:List Str} {sp:Sp} {E:XK} {x m:Str} {p pos apos kpos:Pos} {e o:Expr} {es:List Expr} {kws:List Keyword} {te ta:TE} {t tk:TA} {nm:Option Str}
theorem Akr:PK X [] Ou:=fun _ _ _ _ H Q I h=>wpAny_evalAll_nil ⟨[],H,I,.nil,h⟩
theorem AiO (ha:PE X e te) (hr:PK X kws t):PK X (⟨nm,e,kpos⟩ :: kws) (Go te t):=by
 intro pos pins s σ H Q I h
 show wpAny _ _ (evalAll ((do let v <- eval e X.env; standAt pos; pure v) :: (backToKw pos (keywordEach kws X.env)).map (·.2))) _ _ s
 refine wpAny_evalAll_cons (wpAny_bind (thn (ha pins s σ H _ I h) fun u s1 ⟨x,H1,I1,r1,q1⟩=>wpAny_bind (wpAny_standAt (wpAny_pure ?_))))
 exact thn (hr pos pins s1 σ H1 _ I1 q1) fun us s2 ⟨xs,H2,I2,r2,q2⟩=>⟨x :: xs,H2,I2,.cons r1 r2,q2⟩
variable {g:List Value->List Value->List Value} {gV:List V->List V->List V}
end
structure Cb (N P:List Str) (sc:Scope):Prop where
 kind:sc.kind = .function
 co:sc.isCoroutine = false
 gen:sc.isGenerator = false
 nd:N.Nodup
 pre:N.take P.length = P
 par:∀ x ∈ P,sc.names.lookup x = some .local\/sc.names.lookup x = some .cell
 nofree:∀ y ∈ sc.names,y.2 ≠ .free
theorem Yr {kindOf:Str->Option NameKind} {x:Str}:∀ {binds:List (Str × Value)} {m:Str->Option Value},(∀ v,(x,v) ∉ binds)->bindL kindOf binds m x = m x
 | [],_,_=>rfl
 | (n,v) :: r,m,h=>by
  unfold bindL
  rw[Yr fun w hw=>h w (mem_cons_of_mem _ hw)]
  split
  ·have:x ≠ n:=by rintro rfl; exact h v mem_cons_self
   simp [this]
  ·rfl
theorem Xz {kindOf:Str->Option NameKind} {x:Str}:∀ {binds:List (Str × Value)} {m:Str->Option Value},(∀ v,(x,v) ∉ binds)->bindC kindOf binds m x = m x
 | [],_,_=>rfl
 | (n,v) :: r,m,h=>by
  unfold bindC
  rw[Xz fun w hw=>h w (mem_cons_of_mem _ hw)]
  split
  ·rfl
  ·have:x ≠ n:=by rintro rfl; exact h v mem_cons_self
   simp [this]
theorem Ys {kindOf:Str->Option NameKind} {x:Str} {v:Value}:∀ {P:List Str} {vs:List Value} {i:Nat} {m:Str->Option Value},P.Nodup->P[i]? = some x->vs[i]? = some v->kindOf x = some .local ->
  bindL kindOf (P.zip vs) m x = some v
 | [],_,_,_,_,h,_,_=>by simp at h
 | _ :: _,[],_,_,_,_,h,_=>by simp at h
 | p :: P,w :: vs,0,m,nd,h1,h2,hk=>by
  simp at h1 h2; subst h1; subst h2
  show bindL kindOf ((p,w) :: P.zip vs) m p = _
  unfold bindL
  rw[Yr fun v hv=>(nodup_cons.mp nd).1 (of_mem_zip hv).1,if_pos hk]
  simp
 | p :: P,w :: vs,i + 1,m,nd,h1,h2,hk=>by
  show bindL kindOf ((p,w) :: P.zip vs) m x = _
  unfold bindL
  exact Ys (i:=i) (nodup_cons.mp nd).2 (by simpa using h1) (by simpa using h2) hk
theorem Yb {kindOf:Str->Option NameKind} {x:Str} {v:Value}:∀ {P:List Str} {vs:List Value} {i:Nat} {m:Str->Option Value},P.Nodup->P[i]? = some x->vs[i]? = some v->kindOf x ≠ some .local ->
  bindC kindOf (P.zip vs) m x = some v
 | [],_,_,_,_,h,_,_=>by simp at h
 | _ :: _,[],_,_,_,_,h,_=>by simp at h
 | p :: P,w :: vs,0,m,nd,h1,h2,hk=>by
  simp at h1 h2; subst h1; subst h2
  show bindC kindOf ((p,w) :: P.zip vs) m p = _
  unfold bindC
  rw[Xz fun v hv=>(nodup_cons.mp nd).1 (of_mem_zip hv).1,if_neg hk]
  simp
 | p :: P,w :: vs,i + 1,m,nd,h1,h2,hk=>by
  show bindC kindOf ((p,w) :: P.zip vs) m x = _
  unfold bindC
  exact Yb (i:=i) (nodup_cons.mp nd).2 (by simpa using h1) (by simpa using h2) hk
def Nq (N:List Str) (vs:List V):St:=vs.map some ++ replicate (N.length - vs.length) none
def Ux (CX:CXT) (P:Program) (w:World) (K:Frag) (mg:Str->Option Value) (base:Heap) (N:List Str) (qual:Str) (scope:Scope) (f:Addr) (cd:Value) (A:Around) (outer:List Env) (s:Shared) (H:Hp) (E:XK):Cx where
 prog:=P
 w:=w
 K:=K
 mg:=mg
 base:=base
 A:=A.deeper (envOfC qual scope s.heap.objs.size f cd)
 N:=N
 s₀:=s
 H₀:=H
 env:=envOfC qual scope s.heap.objs.size f cd
 outer:=outer
 stack:=envOfC qual scope s.heap.objs.size f cd :: outer
 ex:=[]
 calm:=true
 fn:=fun _=>true
 pn:=[]
 xe:=fun e s'=>wpAny (model P w) (A.deeper (envOfC qual scope s.heap.objs.size f cd)) (leaving (envOfC qual scope s.heap.objs.size f cd) e) (fun _ s''=>CX outer H s E e s'') (fun e' s''=>CX outer H s E e' s'') s'
theorem AaP {sc:Scope} {n:Nat} {x:Str} (h:sc.names.lookup x = some .cell):∃ c,(cellsFrom n sc.names []).lookup x = some c:=by
 have q:=cellsFrom_some sc.names n [] (.inl h)
 exact Option.isSome_iff_exists.mp q
theorem Aei {CX:CXT} {P:Program} {w:World} {K:Frag} {mg:Str->Option Value} {base:Heap} {N ps:List Str} {qual:Str} {scope:Scope} {f:Addr} {cd:Value} {A:Around} {outer:List Env} {s s1:Shared} {H:Hp} {E:XK} {us:List Value} {vs:List V}
  (S:Cb N ps scope) (hd:A.handled = none) (e0:Env0 P w K mg base A outer s H) (hl:vs.length = ps.length) (r:Vals vs us)
  (x:InCallC s s.heap.objs.size (bindL (envOfC qual scope s.heap.objs.size f cd).kindOf (ps.zip us) fun _=>none) (cellsFrom (s.heap.objs.size + 1) scope.names []) (bindC (envOfC qual scope s.heap.objs.size f cd).kindOf (ps.zip us) fun _=>none) s1) :
  Inv (Ux CX P w K mg base N qual scope f cd A outer s H E) [] (Nq N vs) H s1:=by
 have hpl:ps.length <= N.length:=by have:=congrArg length S.pre; rw[length_take] at this; omega
 obtain⟨h1,tk,rfl,hk⟩:=x.done
 have noA:∀ b:Addr,b ∉ (Ux CX P w K mg base N qual scope f cd A outer s H E).ex:=fun b z=>absurd (show b ∈ ([]:List Addr) from z) (by simp)
 refine⟨⟨e0.mod,S.kind,rfl,rfl,Nat.le_refl _,fun y z c h1 h2=>?_,fun y hy=>?_,fun y c _ h=>?_,fun _=>hd,Around.frames_deeper e0.frames,.inr ⟨rfl,rfl⟩,fun b z=>absurd z (noA b),e0.bs,e0.bsz,fun b _ _=>noA b,fun b z=>absurd z (noA b),e0.funs,e0.frf⟩,
  rfl,e0.bare,Un.kept hk,⟨_,x.toInCall.ns,fun i y v h1 h2 h3=>?_⟩,fun y c h=>⟨_,x.cell y c h⟩,e0.hok.fresh (Nat.le_refl _),fun y c h=>?_,fun p hp=>absurd (show p ∈ ([]:List (Addr × Obj)) from hp) (by simp),e0.hok.kept hk,?_⟩
 ·exact name_of_addr x.apart (PySem.mem_of_lookup h1) (PySem.mem_of_lookup h2)
 ·have hy:scope.names.lookup y = some .cell\/scope.names.lookup y = some .free:=hy
  rcases hy with hy | hy
  ·exact AaP hy
  ·exact absurd rfl (S.nofree _ (PySem.mem_of_lookup hy))
 ·exact Nat.le_of_lt (x.above y c (PySem.mem_of_lookup h))
 ·have hi:i < vs.length:=by
   unfold Nq at h2
   by_cases hi:i < vs.length
   ·exact hi
   ·rw[getElem?_append_right (by simpa using hi)] at h2
    rw[getElem?_replicate] at h2
    split at h2 <;> cases h2
  have ha:vs[i]? = some v:=by
   unfold Nq at h2
   rw[getElem?_append_left (by simpa using hi),getElem?_map] at h2
   cases e:vs[i]? with
   | none=>rw[e] at h2; cases h2
   | some a=>rw[e] at h2; cases h2; rfl
  obtain⟨u,hu,rv⟩:=r.get ha
  have hp:ps[i]? = some y:=by
   rw[<- S.pre,List.getElem?_take_of_lt (by omega)]; exact h1
  have ndP:ps.Nodup:=by rw[<- S.pre]; exact S.nd.sublist (List.take_sublist _ _)
  refine⟨u,rv,?_⟩
  rcases S.par y (mem_of_getElem? hp) with k | k
  ·exact .inl ⟨k,Ys ndP hp hu k⟩
  ·obtain⟨c,e⟩:=AaP (n:=s.heap.objs.size + 1) k
   refine .inr ⟨.inl k,c,e,?_⟩
   have q:=x.cell y c e
   rw[Yb ndP hp hu (by show scope.names.lookup y ≠ _; rw[k]; decide)] at q
   exact q
 ·exact e0.hok.fresh (Nat.le_of_lt (x.above y c (PySem.mem_of_lookup h)))
 ·unfold Nq
  show _ = N.length
  rw[length_append,length_map,length_replicate]
  omega
theorem AnG {CX:CXT} {P:Program} {w:World} {K:Frag} {mg:Str->Option Value} {base:Heap} {k:Nat} {f:Addr} {name qual:Str} {params:Arguments} {body:List Stmt} {scope:Scope} {dV kV doc pm cdv ct oc:Value} {an od:Option Addr}
  {osl:Array (Option Value)} {N ps:List Str} {sp:Sp} (lk:K.lookup f = some ⟨oc,od,.func (fnOf name qual params body scope dV kV doc pm an cdv ct),osl⟩) (hcd:codeIn K cdv qual = true) (S:Cb N ps scope)
  (len:∀ vs H Q E,sp vs H Q E->vs.length = ps.length)
  (hbody:∀ (A:Around) (outer:List Env) (s:Shared) (H:Hp) (vs:List V) (Q:VK) (E:XK),Room k (A.deeper (envOfC qual scope s.heap.objs.size f cdv))->sp vs H Q E ->
   ∃ t,PSs (Ux CX P w K mg base N qual scope f cdv A outer s H E) body t/\t { nx:=fun _ H'=>Q .non H',rt:=Q } (Nq N vs) H) :
  FnOk P w K mg base CX (k + 1) f (fnOf name qual params body scope dV kV doc pm an cdv ct) ps sp:=by
 refine⟨len,fun A outer s H args us vs Q E hr e0 hb r hsp=>?_⟩
 have hl:=len _ _ _ _ hsp
 have KX:K.In s.heap:=e0.mod.kin.keeps fun b o e=>(e0.bs b o e).1
 have lim:s.heap.NoLimit:=e0.mod.nolimit.keeps fun b o e=>(e0.bs b o e).1
 have hkind:∀ y ∈ ps.zip us,scope.names.lookup y.1 = some .local\/(scope.names.lookup y.1 = some .cell/\((cellsFrom (s.heap.objs.size + 1) scope.names []).lookup y.1).isSome = true):=fun⟨n,v⟩ hy=>by
  rcases S.par n (of_mem_zip hy).1 with q | q
  ·exact .inl q
  ·exact .inr ⟨q,cellsFrom_some _ _ _ (.inl q)⟩
 refine codeAny_call_function hr.depth (KX _ _ lk) rfl S.co S.gen rfl (PySem.W.codeRec_of KX hcd) (hb _ _ _ _ ?_)
 refine wpAny_newFunctionEnv_cells S.kind hkind fun env he s1 x=>?_
 subst he
 refine⟨lim.keeps x.toInCall.keep,codeAny_func ?_⟩
 obtain⟨t,ht,hq⟩:=hbody A outer s H vs Q E (hr.deeper _) hsp
 have I:Inv (Ux CX P w K mg base N qual scope f cdv A outer s H E) [] (Nq N vs) H s1:=Aei S hr.hd e0 hl r x
 refine wpAny_mono (ht [] s1 (Nq N vs) H _ I hq) (fun fl s' hs=>?_) fun e s' hs=>hs
 have fin:∀ {σ':St} {H':Hp} {v:V} {u:Value},Inv (Ux CX P w K mg base N qual scope f cdv A outer s H E) [] σ' H' s'->RelV v u->Q v H'->CE outer P w H s Q u s' :=
  fun {σ' H' v u} J rv q=>⟨v,H',J.os,J.bare,J.base,J.hok,rv,q⟩
 cases fl with
 | ret u =>
  obtain⟨v,σ',H',J,rv,q⟩:=hs
  exact fin J rv q
 | next =>
  obtain⟨σ',H',J,q⟩:=hs
  exact fin (v:=V.non) (u:=Value.none) J rfl q
 | brk =>
  obtain⟨_,_,_,q⟩:=hs
  exact False.elim q
 | cont =>
  obtain⟨_,_,_,q⟩:=hs
  exact False.elim q
section
variable {X:Cx} {x:Str} {p pos:Pos} {e:Expr} {es:List Expr} {t:TA} {id T:String} {r:List V->Hp->VK->Prop}
def tCB (r:List V->Hp->VK->Prop) (t:TA):TE:=fun σ H Q=>t σ H fun vs H1=>r vs H1 Q
theorem Ch (hc:Lr X (.builtin id) r) (hg:Gl X x) (hm:X.mg x = none) (hv:bootBuiltins x = some (.builtin id)) (ha:PA X (e :: es) t) (hn:x ≠ "__name__":=by decide) (hdb:(x == ("__debug__" : Str)) = false:=by decide)
  (he:starEach (e :: es) X.env = (false,eval e X.env) :: starEach es X.env:=by rfl) (hpl:(backTo pos (starEach es X.env)).any (·.1) = false:=by rfl):PE X (.Call (.Name x p) (e :: es) [] pos) (tCB r t):=by
 intro pins s σ H Q I h
 refine wpAny_Call_Name_kw (Qn I hg hm hv ?_ hn hdb)
 exact PyProof.Rows.callWith_builtin1 (thn (ha pos pins s σ H _ I h) fun us s1 ⟨vs,H1,I1,r1,q1⟩=>hc pins s1 σ H1 vs us Q I1 r1 q1) he hpl
theorem Lj (hc:Lr X (.type T) r) (hg:Gl X x) (hm:X.mg x = none) (hv:bootBuiltins x = some (.type T)) (ha:PA X (e :: es) t) (hn:x ≠ "__name__":=by decide) (hdb:(x == ("__debug__" : Str)) = false:=by decide)
  (he:starEach (e :: es) X.env = (false,eval e X.env) :: starEach es X.env:=by rfl) (hpl:(backTo pos (starEach es X.env)).any (·.1) = false:=by rfl):PE X (.Call (.Name x p) (e :: es) [] pos) (tCB r t):=by
 intro pins s σ H Q I h
 refine wpAny_Call_Name_kw (Qn I hg hm hv ?_ hn hdb)
 exact PyProof.Rows.callWith_type1 (thn (ha pos pins s σ H _ I h) fun us s1 ⟨vs,H1,I1,r1,q1⟩=>hc pins s1 σ H1 vs us Q I1 r1 q1) he hpl
end
end L2
namespace HT
open PySem PyProof.Rows
section
open PySem.SeqAt
open PySem.AutoSeq1 (wpAny_loadPart')
open PySem.MeetsSeq PySem.MeetsSeq2 PySem.MeetsSeq3
end
section
variable {prog:Program} {w:World} {A:Around} {E:Value->Shared->Prop} {s:Shared}
def sIx (n d:Nat):Option Int->Nat
 | none=>d
 | some v=>if v < 0 then (v + (n:Int)).toNat else min v.toNat n
theorem sIx_none (n d:Nat):sIx n d none = d:=rfl
theorem sIx_nat (n d k:Nat):sIx n d (some (k:Int)) = min k n:=by
 show (if (k:Int) < 0 then ((k:Int) + (n:Int)).toNat else min (k:Int).toNat n) = min k n
 rw[if_neg (by omega),Int.toNat_natCast]
end
end HT
namespace L2
open PySem PySem.Spec PyProof.Rows
abbrev TO:=St->Hp->(Option Int->Hp->Prop)->Prop
def PO (X:Cx) (e:Option Expr) (t:TO):Prop :=
 ∀ (pins:List (Addr × Obj)) (s:Shared) (σ:St) (H:Hp) (Q:Option Int->Hp->Prop),Inv X pins σ H s->t σ H Q ->
  wpAny (model X.prog X.w) X.A (evalPart e X.env) (fun u s'=>∃ o H',Inv X pins σ H' s'/\IsPart u o/\Q o H') X.xe s
def AbQ:TO:=fun _ H Q=>Q none H
def Ahp (t:TE):TO:=fun σ H Q=>t σ H fun x H1=>∃ i,x = .int i/\Q (some i) H1
section
variable {X:Cx} {e:Expr} {te:TE} {lo hi:Option Expr} {tl th:TO} {pos p2:Pos}
theorem Fi:PO X none AbQ:=by
 intro pins s σ H Q I h
 rw[evalPart_none]
 exact wpAny_pure ⟨none,H,I,.none,h⟩
theorem Cw (h:PE X e te):PO X (some e) (Ahp te):=by
 intro pins s σ H Q I hw
 rw[evalPart_some]
 refine thn (h pins s σ H _ I hw) fun u s1 ⟨x,H1,I1,r1,q1⟩=>?_
 obtain⟨i,rfl,q⟩:=q1
 obtain⟨t,rfl⟩:=r1
 exact⟨some i,H1,I1,.int i t,q⟩
def SlR (X:Cx) (r:V->Option Int->Option Int->Hp->VK->Prop):Prop :=
 ∀ (pins:List (Addr × Obj)) (s:Shared) (σ:St) (H:Hp) (x:V) (v vl vu:Value) (lo hi:Option Int) (sl:Addr) (Q:VK),Inv X pins σ H s->RelV x v->s.heap.IsSliceOf sl vl vu .none->IsPart vl lo->IsPart vu hi->r x lo hi H Q ->
  ∃ T id,typeLookup (.type T) "__getitem__" = pure (some (.builtin id))/\s.TypeIs v T/\wpAny (model X.prog X.w) X.A (getItem v (.ref sl)) (EP X pins σ Q) X.xe s
def tSl (r:V->Option Int->Option Int->Hp->VK->Prop) (te:TE) (tl th:TO):TE:=fun σ H Q=>te σ H fun x H1=>tl σ H1 fun l H2=>th σ H2 fun u H3=>r x l u H3 Q
theorem Dh {r:V->Option Int->Option Int->Hp->VK->Prop} (hr:SlR X r) (he:PE X e te) (hl:PO X lo tl) (hu:PO X hi th):PE X (.Subscript e (.Slice lo hi none p2) pos) (tSl r te tl th):=by
 intro pins s σ H Q I h
 refine Subscript_ (thn (he pins s σ H _ I h) fun v s1 ⟨x,H1,I1,r1,q1⟩=>?_)
 refine wpAny_Slice (thn (hl pins s1 σ H1 _ I1 q1) fun vl s2 ⟨l,H2,I2,pl,q2⟩=>thn (hu pins s2 σ H2 _ I2 q2) fun vu s3 ⟨u,H3,I3,pu,q3⟩=>?_)
 rw[evalPart_none]
 refine wpAny_pure ?_
 have I4:Inv X pins σ H3 { s3 with heap:=s3.heap.push { cls:=.type "slice",data:=.fields #[vl,vu,.none] } }:=I3.kept (t':=s3.toks) fun b ob q=>get?_push_of_some _ q
 obtain⟨T,id,hT,ht,hg⟩:=hr pins { s3 with heap:=s3.heap.push { cls:=.type "slice",data:=.fields #[vl,vu,.none] } } σ H3 x v vl vu l u s3.heap.objs.size Q I4 r1 (Heap.IsSliceOf.new ..) pl pu q3
 show wpAny (model X.prog X.w) X.A (subscriptTail e (.Slice lo hi none p2) v (.ref s3.heap.objs.size)) (EP X pins σ Q) X.xe { s3 with heap:=s3.heap.push { cls:=.type "slice",data:=.fields #[vl,vu,.none] } }
 exact tail_any (ops:=[.ref s3.heap.objs.size,v]) ht hT hg (by with_unfolding_all rfl)
def Vn (xs:List V) (lo hi:Option Int):List V:=(xs.drop (HT.sIx xs.length 0 lo)).take (HT.sIx xs.length xs.length hi - HT.sIx xs.length 0 lo)
theorem Abe (xs:List V) (lo hi:Option Int):(Vn xs lo hi).length <= xs.length:=by
 unfold Vn
 rw[length_take,length_drop]
 omega
end
def ixN (n:Nat) (i:Int):Option Nat:=if 0 <= i then (if i < n then some i.toNat else none) else if -(n:Int) <= i then some (i + n).toNat else none
def atI {α:Type} (xs:List α) (i:Int):Option α:=(ixN xs.length i).bind fun j=>xs[j]?
theorem Ai3 {n:Nat} {i:Int} {j:Nat} (h:ixN n i = some j):seqIndex? i n = some j/\j < n/\-(n:Int) <= i/\i < n:=by
 unfold ixN at h
 by_cases h0:0 <= i
 ·rw[if_pos h0] at h
  by_cases h1:i < n
  ·rw[if_pos h1] at h
   have e:i.toNat = j:=Option.some.inj h
   exact⟨by rw[seqIndex_of h0 h1,e],by omega,by omega,h1⟩
  ·rw[if_neg h1] at h; cases h
 ·rw[if_neg h0] at h
  by_cases h1:-(n:Int) <= i
  ·rw[if_pos h1] at h
   have e:(i + n).toNat = j:=Option.some.inj h
   exact⟨by rw[seqIndex_neg (by omega) h1,e],by omega,h1,by omega⟩
  ·rw[if_neg h1] at h; cases h
theorem AbD {α:Type} {xs:List α} {i:Int} {v:α} (h:atI xs i = some v):∃ j,seqIndex? i xs.length = some j/\xs[j]? = some v/\j < xs.length/\-(xs.length:Int) <= i/\i < xs.length:=by
 unfold atI at h
 cases e:ixN xs.length i with
 | none=>rw[e] at h; cases h
 | some j =>
  rw[e] at h
  obtain⟨h1,h2,h3,h4⟩:=Ai3 e
  exact⟨j,h1,h,h2,h3,h4⟩
theorem Gk {α:Type} {xs:List α} {j:Nat} {v:α} (h:xs[j]? = some v):atI xs (j:Int) = some v:=by
 have hj:j < xs.length:=(List.getElem?_eq_some_iff.mp h).1
 have e:ixN xs.length (j:Int) = some j:=by
  unfold ixN
  rw[if_pos (by omega),if_pos (by omega)]; simp
 unfold atI; rw[e]; exact h
def AiZ (b:Expr):Prop:=∀ o i,subscripted b false o i = operate [o,i] (getItem o i)
def IxR (X:Cx) (r:R2):Prop :=
 ∀ (value slice:Expr) (pins:List (Addr × Obj)) (s:Shared) (σ:St) (H:Hp) (x y:V) (v u:Value) (Q:VK),Inv X pins σ H s->RelV x v->RelV y u->r x y H Q ->
  subscripted slice false v u = operate [v,u] (getItem v u)->wpAny (model X.prog X.w) X.A (subscriptTail value slice v u) (EP X pins σ Q) X.xe s
def MtR (X:Cx) (id:String) (r:V->List V->Hp->VK->Prop):Prop :=
 ∀ (pins:List (Addr × Obj)) (s:Shared) (σ:St) (H:Hp) (x:V) (xs:List V) (v:Value) (us:List Value) (Q:VK),Inv X pins σ H s->RelV x v->Vals xs us->r x xs H Q ->
  wpAny (model X.prog X.w) X.A (call (.builtin id) (v :: us)) (EP X pins σ Q) X.xe s
section
variable {X:Cx} {a b:Expr} {ta tb:TE} {pos:Pos}
theorem Ck {r:R2} (hr:IxR X r) (ha:PE X a ta) (hb:PE X b tb) (hs:AiZ b):PE X (.Subscript a b pos) (tOp r ta tb):=by
 intro pins s σ H Q I h
 exact Subscript_ (AfN ha hb I h fun v u s2 x y H2 I2 rx ry q=>hr a b pins s2 σ H2 x y v u Q I2 rx ry q (hs _ _))
def Adf (K:Frag):R2:=fun x y H Q=>∃ p xs i v,x = .ref p/\y = .int i/\SqL K H p xs/\atI xs i = some v/\Q v H
def Adk (K:Frag):R2:=fun x y H Q=>∃ p xs i v,x = .ref p/\y = .int i/\SqT K H p xs/\atI xs i = some v/\Q v H
theorem Xo:IxR X (Adf X.K):=by
 intro value slice pins s σ H x y v u Q I rx ry h hs
 obtain⟨p,xs,i,z,rfl,rfl,hq,he,q⟩:=h
 cases rx
 obtain⟨t,rfl⟩:=ry
 obtain⟨its,r,pl,hz⟩:=I.list hq
 obtain⟨j,h1,h2,h3,h4,h5⟩:=AbD he
 obtain⟨w,ew,rw'⟩:=r.get h2
 have hl:=r.length
 have hn:=Aat
 have fin:EP X pins σ Q w s:=⟨z,H,I,rw',q⟩
 by_cases h0:0 <= i
 ·have hj:i.toNat = j:=by
   rw[seqIndex_of h0 h5] at h1
   exact Option.some.inj h1
  exact item_listR pl.isList h0 (by omega) (by rw[hj]; simpa using ew) fin hs
 ·have hj:(i + (its.toArray.size:Int)).toNat = j:=by
   rw[seqIndex_neg (by omega) h4] at h1
   rw[size_toArray,<- hl]
   exact Option.some.inj h1
  exact subscriptTail_builtinR (x:=w) pl.isList.typeIs slot_list_getitem.lookup
   (wpAny_getItem_list_neg (Q:=fun r s'=>r = w/\EP X pins σ Q r s') pl.isList (by omega) (by rw[size_toArray] <;> omega) (by omega) (by rw[hj]; simpa using ew) ⟨rfl,fin⟩) hs
theorem Aed:IxR X (Adk X.K):=by
 intro value slice pins s σ H x y v u Q I rx ry h hs
 obtain⟨p,xs,i,z,rfl,rfl,hq,he,q⟩:=h
 cases rx
 obtain⟨t,rfl⟩:=ry
 obtain⟨its,r,pl,hz⟩:=I.tuple hq
 obtain⟨j,h1,h2,h3,h4,h5⟩:=AbD he
 obtain⟨w,ew,rw'⟩:=r.get h2
 have hl:=r.length
 have hn:=Aat
 have fin:EP X pins σ Q w s:=⟨z,H,I,rw',q⟩
 exact subscriptTail_builtinR (x:=w) pl.typeIs slot_tuple_getitem.lookup
  (getItem_tuple (j:=j) (Q:=fun r s'=>r = w/\EP X pins σ Q r s') pl (by omega) (by omega) (by rw[size_toArray,<- hl]; exact h1) (by simpa using ew) ⟨rfl,fin⟩) hs
theorem AaB (lo hi:Option Int) (n:Nat):(sliceBounds lo hi none n).1 = ((HT.sIx n 0 lo:Nat):Int)/\(sliceBounds lo hi none n).2.1 = ((HT.sIx n n hi:Nat):Int)/\(sliceBounds lo hi none n).2.2 = 1:=by
 refine⟨?_,?_,rfl⟩
 ·cases lo with
  | none=>simp [sliceBounds,HT.sIx]
  | some i =>
   simp only [sliceBounds,HT.sIx,getD_none,show (1:Int) > 0 by decide,if_true]
   by_cases h:i < 0
   ·simp only [h,if_true] <;> omega
   ·simp only [h,if_false] <;> omega
 ·cases hi with
  | none=>simp [sliceBounds,HT.sIx]
  | some i =>
   simp only [sliceBounds,HT.sIx,getD_none,show (1:Int) > 0 by decide,if_true]
   by_cases h:i < 0
   ·simp only [h,if_true] <;> omega
   ·simp only [h,if_false] <;> omega
theorem Yx (its:List Value) (lo hi:Option Int):slicePick its.toArray lo hi none = ((its.drop (HT.sIx its.length 0 lo)).take (HT.sIx its.length its.length hi - HT.sIx its.length 0 lo)).toArray:=by
 obtain⟨h1,h2,h3⟩:=AaB lo hi its.toArray.size
 unfold slicePick
 rw[h1,h2,h3]
 simp only [sliceRange_one,pick_run,size_toArray] <;> rfl
def An5 (K:Frag):V->Option Int->Option Int->Hp->VK->Prop:=fun x lo hi H Q=>∃ a xs,x = .ref a/\SqL K H a xs/\∀ p,H p = none->Q (.ref p) (upd H p (.lst (Vn xs lo hi)))
theorem Ajx:SlR X (An5 X.K):=by
 intro pins s σ H x v vl vu lo hi sl Q I rx hs pl pu h
 obtain⟨a,xs,rfl,hx,q⟩:=h
 cases rx
 obtain⟨its,r,ht,hz⟩:=I.list hx
 have hlen:=r.length
 refine⟨"list",_,slot_list_getitem.lookup,ht.isList.typeIs,?_⟩
 refine wpAny_getItem_list_slice ht.isList hs pl pu .none (by simp) ?_ (by rw[size_toArray] <;> omega)
 rw[Yx,<- hlen]
 refine⟨.ref s.heap.objs.size,_,I.laid (t':=s.toks) (o:=.lst (Vn xs lo hi)) (fun b ob q=>get?_push_of_some _ q) (Nat.le_refl _) ?_,rfl,q _ (I.hok.fresh (Nat.le_refl _))⟩
 exact⟨Nat.le_trans (Abe xs lo hi) hz,_,0,(r.drop (HT.sIx xs.length 0 lo)).take (HT.sIx xs.length xs.length hi - HT.sIx xs.length 0 lo),get?_push_size _ rfl⟩
def Ly:V->Bool
 | .non=>true
 | .bl _=>true
 | .int _=>true
 | .str _=>true
 | _=>false
def eqV:V->V->Bool
 | .non,.non=>true
 | .bl a,.bl b=>a == b
 | .bl a,.int b=>(if a then 1 else 0) == b
 | .int a,.bl b=>a == (if b then 1 else 0)
 | .int a,.int b=>a == b
 | .str a,.str b=>a == b
 | _,_=>false
theorem Ad7 {A:Around} {s:Shared} {y x:V} {u v:Value} (ry:RelV y u) (rx:RelV x v) (fy:Ly y = true) (fx:Ly x = true):SeqAt.EqAt A s u v (eqV y x):=by
 cases y with
 | non =>
  cases ry
  cases x with
  | non=>cases rx; exact SeqAt.EqAt.same _
  | bl b=>cases rx; exact SeqAt.EqAt.none_bool b
  | int b=>obtain⟨t,rfl⟩:=rx; exact SeqAt.EqAt.none_int b t
  | str b=>obtain⟨t,rfl⟩:=rx; exact SeqAt.EqAt.none_str b t
  | _=>exact absurd (show false = true from fx) Bool.false_ne_true
 | bl a =>
  cases ry
  cases x with
  | non=>cases rx; exact SeqAt.EqAt.bool_none a
  | bl b=>cases rx; exact SeqAt.EqAt.bool_bool a b
  | int b=>obtain⟨t,rfl⟩:=rx; exact SeqAt.EqAt.bool_int a b t
  | str b=>obtain⟨t,rfl⟩:=rx; exact SeqAt.EqAt.bool_str a b t
  | _=>exact absurd (show false = true from fx) Bool.false_ne_true
 | int a =>
  obtain⟨t',rfl⟩:=ry
  cases x with
  | non=>cases rx; exact SeqAt.EqAt.int_none a t'
  | bl b=>cases rx; exact SeqAt.EqAt.int_bool a t' b
  | int b=>obtain⟨t,rfl⟩:=rx; exact SeqAt.EqAt.int_int a t' b t
  | str b=>obtain⟨t,rfl⟩:=rx; exact SeqAt.EqAt.int_str a t' b t
  | _=>exact absurd (show false = true from fx) Bool.false_ne_true
 | str a =>
  obtain⟨t',rfl⟩:=ry
  cases x with
  | non=>cases rx; exact SeqAt.EqAt.str_none a t'
  | bl b=>cases rx; exact SeqAt.EqAt.str_bool a t' b
  | int b=>obtain⟨t,rfl⟩:=rx; exact SeqAt.EqAt.str_int a t' b t
  | str b=>obtain⟨t,rfl⟩:=rx; exact SeqAt.EqAt.str_str a t' b t
  | _=>exact absurd (show false = true from fx) Bool.false_ne_true
 | _=>exact absurd (show false = true from fy) Bool.false_ne_true
def eqU (x:V) (u:Value):Bool:=match u with
 | .none=>eqV .non x
 | .bool b=>eqV (.bl b) x
 | .int i _=>eqV (.int i) x
 | .str z _=>eqV (.str z) x
 | _=>false
theorem Ae4 {x y:V} {u:Value} (r:RelV y u) (f:Ly y = true):eqU x u = eqV y x:=by
 cases y with
 | non=>cases r; rfl
 | bl b=>cases r; rfl
 | int i=>obtain⟨t,rfl⟩:=r; rfl
 | str z=>obtain⟨t,rfl⟩:=r; rfl
 | _=>exact absurd (show false = true from f) Bool.false_ne_true
theorem Xw {x:V}:∀ {xs:List V} {us:List Value},Vals xs us->xs.all Ly = true->us.any (eqU x) = xs.any fun y=>eqV y x
 | _,_,.nil,_=>rfl
 | y :: xs,u :: us,.cons r t,f=>by
  rw[all_cons,and_eq_true] at f
  rw[any_cons,any_cons,Ae4 r f.1,Xw t f.2]
theorem Va {A:Around} {s:Shared} {x:V} {v:Value} (rx:RelV x v) (fx:Ly x = true):∀ {xs:List V} {us:List Value},Vals xs us->xs.all Ly = true->∀ u ∈ us,SeqAt.EqAt A s u v (eqU x u)
 | _,_,.nil,_=>fun u hu=>by cases hu
 | y :: xs,u :: us,.cons r t,f=>fun u' hu=>by
  rw[all_cons,and_eq_true] at f
  rcases mem_cons.mp hu with rfl | hu
  ·rw[Ae4 r f.1]; exact Ad7 r rx f.1 fx
  ·exact Va rx fx t f.2 u' hu
def inV (x:V) (xs:List V):Bool:=xs.any fun y=>eqV y x
def rIn (K:Frag) (neg:Bool):R2:=fun x y H Q=>∃ p xs,y = .ref p/\(SqL K H p xs\/SqT K H p xs)/\Ly x = true/\xs.all Ly = true/\Q (.bl (if neg then !inV x xs else inV x xs)) H
theorem Tb:OpR X (compareOp .In) (rIn X.K false):=by
 intro pins s σ H x y v u Q I rx ry h
 obtain⟨p,xs,rfl,hq,fx,fs,q⟩:=h
 cases ry
 rcases hq with hq | hq
 ·obtain⟨its,r,pl,hz⟩:=I.list hq
  refine SeqAt.in_listAt (eqU x) pl.isList (fun w hw=>Va rx fx r fs w (by simpa using hw)) ⟨.bl _,H,I,rfl,?_⟩
  rw[show its.toArray.any (eqU x) = its.any (eqU x) by simp,Xw r fs]
  exact q
 ·obtain⟨its,r,pl,hz⟩:=I.tuple hq
  refine SeqAt.in_tupleAt (eqU x) pl (fun w hw=>Va rx fx r fs w (by simpa using hw)) ⟨.bl _,H,I,rfl,?_⟩
  rw[show its.toArray.any (eqU x) = its.any (eqU x) by simp,Xw r fs]
  exact q
theorem Lx:Lr X (.builtin "len") (fun xs H Q=>∃ p ys,xs = [.ref p]/\(SqL X.K H p ys\/SqT X.K H p ys)/\Q (.int ys.length) H):=by
 intro pins s σ H xs us Q I r h
 obtain⟨p,ys,rfl,hq,q⟩:=h
 obtain⟨u,rfl,rx⟩:=Rn r
 cases rx
 have hn:=Aat
 rcases hq with hq | hq
 ·obtain⟨its,r',pl,hz⟩:=I.list hq
  have hlen:=r'.length
  exact Calls.call_len_list pl.isList (by simp only [size_toArray] <;> omega) ⟨.int ys.length,H,I.tok _,⟨s.toks + 1,by rw[size_toArray,hlen]⟩,q⟩
 ·obtain⟨its,r',pl,hz⟩:=I.tuple hq
  have hlen:=r'.length
  exact len_tuple pl (by simp only [size_toArray] <;> omega) ⟨.int ys.length,H,I.tok _,⟨s.toks + 1,by rw[size_toArray,hlen]⟩,q⟩
theorem Aag:Lr X (.type "list") (fun xs H Q=>∃ p ys,xs = [.ref p]/\(SqL X.K H p ys\/SqT X.K H p ys)/\∀ l,H l = none->Q (.ref l) (upd H l (.lst ys))):=by
 intro pins s σ H xs us Q I r h
 obtain⟨p,ys,rfl,hq,q⟩:=h
 obtain⟨u,rfl,rx⟩:=Rn r
 cases rx
 have fin:∀ (its:List Value),Vals ys its->ys.length <= sizeLine->∀ (h':Heap) (c':Nat),(∀ b o',s.heap.get? b = some o'->h'.get? b = some o') ->
   h'.get? s.heap.objs.size = some { cls:=.type "list",dict:=none,data:=.seq its.toArray c',slots:=#[] }->EP X pins σ Q (.ref s.heap.objs.size) { s with heap:=h' }:=fun its r' hz h' c' kp e =>
  ⟨.ref s.heap.objs.size,_,I.laid (t':=s.toks) kp (Nat.le_refl _) (show ObjOk X.prog X.w _ h' _ (.lst ys) from ⟨hz,its,c',r',e⟩),rfl,q _ (I.hok.fresh (Nat.le_refl _))⟩
 rcases hq with hq | hq
 ·obtain⟨its,r',pl,hz⟩:=I.list hq
  have hlen:=r'.length
  obtain⟨o,ho,hc,n,hd⟩:=pl.isList
  exact call_list_seq p (.inl rfl) ho hc hd (fun h' c' kp e=>fin its r' hz h' c' kp e) (by simp only [size_toArray] <;> omega)
 ·obtain⟨its,r',pl,hz⟩:=I.tuple hq
  have hlen:=r'.length
  obtain⟨o,ho,hc,n,hd⟩:=pl
  exact call_list_seq p (.inr rfl) ho hc hd (fun h' c' kp e=>fin its r' hz h' c' kp e) (by simp only [size_toArray] <;> omega)
def tyV (K:Frag) (T:String) (x:V) (H:Hp):Prop:=match x with
 | .str _=>T = "str"
 | .int _=>T = "int"
 | .ref p=>(T = "list"/\∃ xs,SqL K H p xs)\/(T = "tuple"/\∃ o,K.lookup p = some o/\o.cls = .type "tuple"/\o.dict = none) \/
   (T = "dict"/\((∃ kvs,H p = some (.dK kvs))\/∃ kvs,H p = some (.dT kvs)))\/(T = "set"/\∃ S n,H p = some (.set S n))
 | _=>False
theorem AkI {pins:List (Addr × Obj)} {σ:St} {H:Hp} {s:Shared} {T:String} {x:V} {v:Value} (I:Inv X pins σ H s) (r:RelV x v) (ty:tyV X.K T x H) :
  s.TypeIs v T/\∀ a,v = .ref a->∃ ob,s.heap.get? a = some ob/\ob.dict = none:=by
 cases x with
 | str z =>
  obtain⟨t,rfl⟩:=r
  cases (show T = "str" from ty)
  exact⟨typeIs_str s z t,fun _ e=>nomatch e⟩
 | int i =>
  obtain⟨t,rfl⟩:=r
  cases (show T = "int" from ty)
  exact⟨typeIs_int s i t,fun _ e=>nomatch e⟩
 | ref p =>
  cases r
  rcases ty with ⟨rfl,xs,hq⟩ | ⟨rfl,o,hk,hc,hd⟩ | ⟨rfl,hk⟩ | ⟨rfl,S,n,hk⟩
  ·obtain⟨its,_,pl,_⟩:=I.list hq
   refine⟨pl.isList.typeIs,fun a e=>?_⟩
   cases e
   obtain⟨o,n,e,c,hd,_⟩:=pl
   exact⟨o,e,hd⟩
  ·refine⟨⟨o,I.kIn p o hk,hc⟩,fun a e=>?_⟩
   cases e
   exact⟨o,I.kIn _ o hk,hd⟩
  ·have z:∃ o,s.heap.get? p = some o/\o.ExactDict:=by
    rcases hk with ⟨kvs,hk⟩ | ⟨kvs,hk⟩
    ·obtain⟨_,_,_,_,o,_,_,e,ex,_⟩:=I.hok p _ hk
     exact⟨o,e,ex⟩
    ·obtain⟨_,_,_,_,o,_,_,e,ex,_⟩:=I.hok p _ hk
     exact⟨o,e,ex⟩
   obtain⟨o,e,ex⟩:=z
   refine⟨⟨o,e,ex.1⟩,fun a e2=>?_⟩
   cases e2
   exact⟨o,e,ex.2.1⟩
  ·obtain⟨o,_,_,_,e,ex,_⟩:=I.hok p _ hk
   refine⟨⟨o,e,ex.1⟩,fun a e2=>?_⟩
   cases e2
   exact⟨o,e,ex.2.1⟩
 | _=>exact False.elim ty
def tBM (K:Frag) (T:String) (r:V->List V->Hp->VK->Prop) (to:TE) (t:TA):TE:=fun σ H Q=>to σ H fun x H1=>tyV K T x H1/\t σ H1 fun xs H2=>r x xs H2 Q
variable {o e:Expr} {es:List Expr} {to:TE} {t:TA} {name:Str} {apos cpos:Pos} {T id:String} {r:V->List V->Hp->VK->Prop}
theorem Fv (pa:PlainAttrs T) (slot:Slot T name id) (hty:typeOf (.builtin id) = pure (.type "method_descriptor")) (hm:MtR X id r) (ho:PE X o to) (ha:PA X (e :: es) t)
  (hbase:attributeBase o name X.env (eval o X.env) = eval o X.env:=by rfl)
  (hfew:((backTo cpos (starEach (e :: es) X.env)).all (fun x=>!x.1) && (backToKw cpos (keywordEach [] X.env)).all (fun x=>x.1.isSome)
   && decide ((e :: es).length + ([]:List Keyword).length + (if ([]:List Keyword).isEmpty then 0 else 1) < 30)) = true:=by rfl)
  (hline:(apos.endLine == cpos.line) = true:=by rfl) (hs:starEach (e :: es) X.env = (false,eval e X.env) :: starEach es X.env:=by rfl) (hplain:(backTo cpos (starEach es X.env)).any (·.1) = false:=by rfl) :
  PE X (.Call (.Attribute o name apos) (e :: es) [] cpos) (tBM X.K T r to t):=by
 intro pins s σ H Q I h
 refine wpAny_Call_method_late hbase hfew hline rfl (thn (ho pins s σ H _ I h) fun v s1 ⟨x,H1,I1,r1,ty,q1⟩=>?_)
 obtain⟨h1,h2⟩:=AkI I1 r1 ty
 refine⟨T,id,pa,slot,hty,h1,h2,?_⟩
 have hA:=ha cpos pins s1 σ H1 _ I1 q1
 rw[hs] at hA ⊢
 refine Calls.callWith_builtin (by show (false || (backTo cpos (starEach es X.env)).any (·.1)) = false; rw[hplain] <;> rfl) (Calls.evalArgs_plain ?_)
 exact thn hA fun us s2 ⟨vs,H2,I2,r2,q2⟩=>hm pins s2 σ H2 x vs v us Q I2 r1 r2 q2
end
def MtM (X:Cx) (id:String) (r:V->List V->Hp->VK->Prop):Prop :=
 ∀ (pins:List (Addr × Obj)) (s:Shared) (σ:St) (H:Hp) (x:V) (xs:List V) (v:Value) (us:List Value) (Q:VK),Inv X pins σ H s->RelV x v->Vals xs us->r x xs H Q ->
  wpAny (model X.prog X.w) X.A (call (.builtin id) (v :: us)) (EP X pins σ Q) X.xe s
theorem Vals.one:∀ {x:V} {us:List Value},Vals [x] us->∃ u,us = [u]/\RelV x u
 | _,_,.cons r .nil=>⟨_,rfl,r⟩
theorem Vals.two:∀ {x y:V} {us:List Value},Vals [x,y] us->∃ u v,us = [u,v]/\RelV x u/\RelV y v
 | _,_,_,.cons r (.cons q .nil)=>⟨_,_,rfl,r,q⟩
section
variable {X:Cx} {pins:List (Addr × Obj)} {σ:St} {H:Hp} {s:Shared} {l b:Addr} {xs ys zs:List V}
theorem Inv.lset {its its':List Value} {n:Nat} {f:Array Value->Array Value} {t':Nat} (I:Inv X pins σ H s) (hH:H l = some (.lst xs))
  (e:s.heap.get? l = some { cls:=.type "list",data:=.seq its.toArray n }) (hf:f its.toArray = its'.toArray) (hv:Vals ys its') (hz:ys.length <= sizeLine) :
  Inv X pins σ (upd H l (.lst ys)) { s with heap:=s.heap.update l (Obj.mapSeq f),toks:=t' }:=by
 have q:=PySem.IsL.update e f
 rw[hf] at q
 refine I.write (x:=l) (e:=l) (by rw[hH]; exact trivial) (.inl rfl) (fun b' u hb hu=>(Heap.get?_update_other s.heap (Obj.mapSeq f) (Ne.symm hb)).trans hu) ⟨_,q⟩ ?_
 exact⟨hz,its',_,hv,q⟩
theorem Inv.lnew {its:List Value} {t':Nat} (I:Inv X pins σ H s) (hv:Vals ys its) (hz:ys.length <= sizeLine) :
  Inv X pins σ (upd H s.heap.objs.size (.lst ys)) { s with heap:=s.heap.push { cls:=.type "list",data:=.seq its.toArray },toks:=t' } :=
 I.laid (fun _ _ q=>get?_push_of_some _ q) (Nat.le_refl _) ⟨hz,its,0,hv,get?_push_size _ rfl⟩
theorem Inv.fresh (I:Inv X pins σ H s):H s.heap.objs.size = none:=I.hok.fresh (Nat.le_refl _)
theorem Inv.lstM (I:Inv X pins σ H s) (hH:H l = some (.lst xs)):xs.length <= sizeLine/\∃ (its:List Value) (n:Nat),Vals xs its/\xs.length = its.length/\s.heap.get? l = some { cls:=.type "list",data:=.seq its.toArray n }:=by
 obtain⟨z,its,n,r,e⟩:=I.hok l _ hH
 exact⟨z,its,n,r,r.length,e⟩
theorem AfZ {n:Nat} (h:n <= sizeLine):Builtin.List.listTooLong n = false:=by
 unfold Builtin.List.listTooLong
 exact decide_eq_false (by omega)
end
section
variable {X:Cx}
def AiM:V->List V->Hp->VK->Prop:=fun x vs H Q=>∃ l xs y,x = .ref l/\vs = [y]/\H l = some (.lst xs)/\xs.length < sizeLine/\Q .non (upd H l (.lst (xs ++ [y])))
theorem Ya:MtM X "list.append" AiM:=by
 intro pins s σ H x vs v us Q I rx rv h
 obtain⟨l,xs,y,rfl,rfl,hH,hz,q⟩:=h
 cases rx
 obtain⟨u,rfl,ru⟩:=rv.one
 obtain⟨z,its,n,r,hl,e⟩:=I.lstM hH
 refine call_meets F.slot_list_append ⟨_,e,rfl⟩ F.entry_list_append (F.args_list_append_2 _ _) (PySem.list_append l its.toArray n u (by rw[size_toArray]; omega)) ⟨e,?_⟩
 refine⟨.non,_,I.lset (its':=its ++ [u]) hH e (by simp) (r.append (.cons ru .nil)) ?_,rfl,q⟩
 rw[length_append,List.length_singleton]
 omega
def Ai5:V->List V->Hp->VK->Prop:=fun x vs H Q=>∃ l b xs zs,x = .ref l/\vs = [.ref b]/\H l = some (.lst xs)/\H b = some (.lst zs)/\xs.length + zs.length <= sizeLine/\Q .non (upd H l (.lst (xs ++ zs)))
theorem Aec:MtM X "list.extend" Ai5:=by
 intro pins s σ H x vs v us Q I rx rv h
 obtain⟨l,b,xs,zs,rfl,rfl,hH,hB,hz,q⟩:=h
 cases rx
 obtain⟨u,rfl,ru⟩:=rv.one
 cases ru
 obtain⟨z,its,n,r,hl,e⟩:=I.lstM hH
 obtain⟨z2,its2,n2,r2,hl2,e2⟩:=I.lstM hB
 have hsz:its.toArray.size + its2.toArray.size <= sizeLine:=by rw[size_toArray,size_toArray]; omega
 have hlong:¬ (!its.toArray.isEmpty && Builtin.List.listTooLong (its.toArray.size + its2.toArray.size)) = true:=by
  rw[AfZ hsz,Bool.and_false]
  exact Bool.false_ne_true
 refine call_meets F.slot_list_extend ⟨_,e,rfl⟩ F.entry_list_extend (F.args_list_extend_2 _ _)
  (AutoSeq1.list_extend_list_list_0 l its.toArray n b its2.toArray n2 hlong (by rw[size_toArray]; omega) (by omega)) ⟨e,e2,?_⟩
 refine⟨.non,_,I.lset (its':=its ++ its2) hH e (by simp) (r.append r2) ?_,rfl,q⟩
 rw[length_append]
 omega
def Aoc:R2:=fun x y H Q=>∃ l b xs zs,x = .ref l/\y = .ref b/\H l = some (.lst xs)/\H b = some (.lst zs)/\xs.length + zs.length <= sizeLine/\∀ p,H p = none->Q (.ref p) (upd H p (.lst (xs ++ zs)))
theorem Aka:OpR X (binaryOp .Add) Aoc:=by
 intro pins s σ H x y v u Q I rx ry h
 obtain⟨l,b,xs,zs,rfl,rfl,hH,hB,hz,q⟩:=h
 cases rx
 cases ry
 obtain⟨z,its,n,r,hl,e⟩:=I.lstM hH
 obtain⟨z2,its2,n2,r2,hl2,e2⟩:=I.lstM hB
 refine PySem.P.add_list e e2 ?_ (by rw[size_toArray,size_toArray]; omega)
 have ea:its.toArray ++ its2.toArray = (its ++ its2).toArray:=by simp
 rw[ea]
 exact⟨.ref _,_,I.lnew (t':=s.toks) (r.append r2) (by rw[length_append]; omega),rfl,q _ I.fresh⟩
end
section
variable {prog:Program} {w:World} {A:Around} {E:Value->Shared->Prop} {s:Shared}
set_option maxRecDepth 100000 in
end
section
variable {X:Cx}
end
section
variable {κ:Type} [DecidableEq κ]
def Cp (kvs:List (κ × V)) (k:κ):Option V:=(kvs.find? fun kv=>decide (kv.1 = k)).map (·.2)
def Jp (kvs:List (κ × V)) (k:κ) (v:V):List (κ × V) :=
 if (kvs.any fun kv=>decide (kv.1 = k)) = true then kvs.map (fun kv=>if kv.1 = k then (kv.1,v) else kv) else kvs ++ [(k,v)]
theorem Jr {p:κ × V} {r:List (κ × V)} {k:κ} (e:p.1 = k):Cp (p :: r) k = some p.2:=by simp [Cp,find?_cons,e]
theorem Js {p:κ × V} {r:List (κ × V)} {k:κ} (e:¬ p.1 = k):Cp (p :: r) k = Cp r k:=by simp [Cp,find?_cons,e]
theorem Sd (k:κ):∀ kvs:List (κ × V),(kvs.any fun kv=>decide (kv.1 = k)) = (Cp kvs k).isSome
 | []=>rfl
 | p :: r=>by
  rw[any_cons]
  by_cases e:p.1 = k
  ·simp only [Jr e,decide_eq_true e,Bool.true_or,isSome_some]
  ·rw[Js e,decide_eq_false e,Bool.false_or]; exact Sd k r
theorem Up (kvs:List (κ × V)) (k:κ) (v:V):(Jp kvs k v).length <= kvs.length + 1:=by
 unfold Jp
 split
 ·rw[length_map]; omega
 ·rw[length_append,length_cons,length_nil]; omega
theorem Nh {kvs:List (κ × V)} {k:κ} (v:V) (h:Cp kvs k = none):Jp kvs k v = kvs ++ [(k,v)]:=by
 unfold Jp
 rw[Sd,h]
 exact if_neg (by decide)
theorem RelO.isSome_eq {o:Option V} {u:Option Value} (r:RelO o u):o.isSome = u.isSome:=by
 cases o with
 | none=>cases u with
  | none=>rfl
  | some _=>exact (show False from r).elim
 | some _=>cases u with
  | none=>exact (show False from r).elim
  | some _=>rfl
theorem RelO.getD {o:Option V} {u:Option Value} {d:V} {d':Value} (r:RelO o u) (rd:RelV d d'):RelV (o.getD d) (u.getD d'):=by
 cases o with
 | none=>cases u with
  | none=>exact rd
  | some _=>exact (show False from r).elim
 | some _=>cases u with
  | none=>exact (show False from r).elim
  | some _=>exact r
theorem KV.val {kvs:List (κ × V)} {vs:List (κ × Value)} (r:KV kvs vs) (k:κ):RelO (Cp kvs k) (valueAt vs k):=by
 unfold KV at r
 induction r with
 | nil=>exact True.intro
 | @cons p q ps qs h t ih =>
  obtain⟨h1,h2⟩:=h
  by_cases e:p.1 = k
  ·have e':q.1 = k:=h1.symm.trans e
   have b:valueAt (q :: qs) k = some q.2:=by simp [valueAt,find?_cons,e']
   rw[Jr e,b]; exact h2
  ·have e':¬ q.1 = k:=fun z=>e (h1.trans z)
   have b:valueAt (q :: qs) k = valueAt qs k:=by simp [valueAt,find?_cons,e']
   rw[Js e,b]; exact ih
theorem KV.any {kvs:List (κ × V)} {vs:List (κ × Value)} (r:KV kvs vs) (k:κ):(kvs.any fun kv=>decide (kv.1 = k)) = vs.any fun kv=>decide (kv.1 = k):=by
 unfold KV at r
 induction r with
 | nil=>rfl
 | cons h t ih=>rw[any_cons,any_cons,ih,h.1]
theorem KV.repl {kvs:List (κ × V)} {vs:List (κ × Value)} (r:KV kvs vs) (k:κ) {y:V} {u:Value} (ry:RelV y u) :
  KV (kvs.map fun kv=>if kv.1 = k then (kv.1,y) else kv) (vs.map fun kv=>if kv.1 = k then (kv.1,u) else kv):=by
 unfold KV at r ⊢
 induction r with
 | nil=>exact .nil
 | @cons p q ps qs h t ih =>
  rw[map_cons,map_cons]
  refine .cons ?_ ih
  obtain⟨h1,h2⟩:=h
  by_cases e:p.1 = k
  ·rw[if_pos e,if_pos (h1.symm.trans e)]; exact⟨h1,ry⟩
  ·rw[if_neg e,if_neg (fun z=>e (h1.trans z))]; exact⟨h1,h2⟩
theorem KV.put {kvs:List (κ × V)} {vs:List (κ × Value)} (r:KV kvs vs) (k:κ) {y:V} {u:Value} (ry:RelV y u):KV (Jp kvs k y) (stored vs k u):=by
 unfold Jp stored
 rw[r.any k]
 by_cases e:(vs.any fun kv=>decide (kv.1 = k)) = true
 ·rw[if_pos e,if_pos e]; exact r.repl k ry
 ·rw[if_neg e,if_neg e]; exact Paired.snoc r ⟨rfl,ry⟩
theorem KV.keys {kvs:List (κ × V)} {vs:List (κ × Value)} (r:KV kvs vs):kvs.map (·.1) = vs.map (·.1):=by
 unfold KV at r
 induction r with
 | nil=>rfl
 | cons h t ih=>rw[map_cons,map_cons,ih,h.1]
theorem KV.length {kvs:List (κ × V)} {vs:List (κ × Value)} (r:KV kvs vs):kvs.length = vs.length:=Paired.length r
end
theorem Sh {P:Program} {w:World} {k:Key} {u:Value} (r:RelV (kV k) u):(Dq P w).is k u = true:=by
 cases k with
 | inl i=>obtain⟨t,e⟩:=(show ∃ t,u = Value.int i t from r); subst e; exact Abc P w i t
 | inr x=>obtain⟨t,e⟩:=(show ∃ t,u = Value.str x t from r); subst e; exact Abb P w x t
theorem Yp {P:Program} {w:World}:∀ {ks:List Key} {us:List Value},Vals (ks.map kV) us->ItemsAre (Dq P w) ks us
 | [],_,r=>by rw[map_nil] at r; cases r; exact .nil
 | k :: ks,_,r=>by
  rw[map_cons] at r
  cases r with
  | cons h t=>exact .cons (Sh h) (Yp t)
abbrev KT (H:Hp):List (List Key × V)->List (List Key × Addr × Value)->Prop:=Paired fun p q=>p.1 = q.1/\H q.2.1 = some (.tup (p.1.map kV))/\RelV p.2 q.2.2
theorem KT.val {H:Hp} {kvs:List (List Key × V)} {xs:List (List Key × Addr × Value)} (r:KT H kvs xs) (k:List Key):RelO (Cp kvs k) ((atKey xs k).map (·.2)):=by
 induction r with
 | nil=>exact True.intro
 | @cons p q ps qs h t ih =>
  obtain⟨h1,_,h2⟩:=h
  by_cases e:p.1 = k
  ·have e':q.1 = k:=h1.symm.trans e
   have b:atKey (q :: qs) k = some q.2:=by simp [atKey,find?_cons,e']
   rw[Jr e,b]; exact h2
  ·have e':¬ q.1 = k:=fun z=>e (h1.trans z)
   have b:atKey (q :: qs) k = atKey qs k:=by simp [atKey,find?_cons,e']
   rw[Js e,b]; exact ih
theorem KT.repl {H:Hp} {kvs:List (List Key × V)} {xs:List (List Key × Addr × Value)} (r:KT H kvs xs) (k:List Key) {y:V} {u:Value} (ry:RelV y u) :
  KT H (kvs.map fun kv=>if kv.1 = k then (kv.1,y) else kv) (xs.map (putAt k u)):=by
 induction r with
 | nil=>exact .nil
 | @cons p q ps qs h t ih =>
  rw[map_cons,map_cons]
  refine .cons ?_ ih
  obtain⟨h1,h2,h3⟩:=h
  unfold putAt
  by_cases e:p.1 = k
  ·rw[if_pos e,if_pos (h1.symm.trans e)]; exact⟨h1,h2,ry⟩
  ·rw[if_neg e,if_neg (fun z=>e (h1.trans z))]; exact⟨h1,h2,h3⟩
theorem KT.put {H:Hp} {kvs:List (List Key × V)} {xs:List (List Key × Addr × Value)} (r:KT H kvs xs) (k:List Key) {b:Addr} {y:V} {u:Value} (hb:H b = some (.tup (k.map kV))) (ry:RelV y u) :
  KT H (Jp kvs k y) (storedH xs k b u):=by
 have e:(kvs.any fun kv=>decide (kv.1 = k)) = (atKey xs k).isSome:=by
  rw[Sd,(r.val k).isSome_eq,isSome_map]
 unfold Jp storedH
 rw[e]
 by_cases q:(atKey xs k).isSome = true
 ·rw[if_pos q,if_pos q]; exact r.repl k ry
 ·rw[if_neg q,if_neg q]; exact Paired.snoc r ⟨rfl,hb,ry⟩
theorem KT.keeps {H H':Hp} {kvs:List (List Key × V)} {xs:List (List Key × Addr × Value)} (r:KT H kvs xs) (ht:∀ b ys,H b = some (.tup ys)->H' b = some (.tup ys)):KT H' kvs xs :=
 Paired.mapP r fun _ _ z=>⟨z.1,ht _ _ z.2.1,z.2.2⟩
section
variable {P:Program} {w:World} {H:Hp} {h:Heap} {a:Addr}
theorem AhB {u:HO} (ok:HOk P w H h) (e:Rd H a u):ObjOk P w H h a u:=e.ok ok
theorem Qf {kvs:List (Key × V)} (ok:HOk P w H h) (e:Rd H a (.dK kvs)):kvs.length <= sizeLine/\(a == sysModules) = false/\∃ vs,KV kvs vs/\h.DictOf (Dq P w) a vs :=
 show ObjOk P w H h a (.dK kvs) from AhB ok e
theorem Am4 {kvs:List (Key × V)} (ok:HOk P w H h) (e:H a = some (.dK kvs)):kvs.length <= sizeLine/\(a == sysModules) = false/\∃ vs,KV kvs vs/\h.DictOf (Dq P w) a vs:=Qf ok (.inl e)
theorem Oq {ks:List Key} (ok:HOk P w H h) (e:H a = some (.tup (ks.map kV))):(tupleKind (Dq P w)).is h ks a:=by
 obtain⟨_,its,r,o,h1,h2,n,h3⟩:=(show ObjOk P w H h a (.tup (ks.map kV)) from ok a _ e)
 exact⟨o,its.toArray,n,h1,h2,h3,by simpa using Yp r⟩
theorem Qd {kvs:List (List Key × V)} (ok:HOk P w H h) (e:Rd H a (.dT kvs)):kvs.length <= sizeLine/\(a == sysModules) = false /\
  ∃ xs,KT H kvs xs/\h.DictOfH (tupleKind (Dq P w)) a xs:=by
 obtain⟨z,y,xs,r,o,es,ep,h1,h2,h3,h4,h5⟩:=(show ObjOk P w H h a (.dT kvs) from AhB ok e)
 refine⟨z,y,xs,r,o,es,ep,h1,h2,h3,h4,fun x hx=>?_,h5⟩
 have all:∀ {l:List (List Key × V)} {m:List (List Key × Addr × Value)},KT H l m->∀ x ∈ m,(tupleKind (Dq P w)).is h x.1 x.2.1:=by
  intro l m q
  induction q with
  | nil=>intro x hx; exact nomatch hx
  | @cons p q ps qs hq t ih =>
   intro x hx
   rcases mem_cons.mp hx with e | hx
   ·subst e
    exact Oq ok (by rw[<- hq.1]; exact hq.2.1)
   ·exact ih x hx
 exact all r x hx
theorem Ani {kvs:List (List Key × V)} (ok:HOk P w H h) (e:H a = some (.dT kvs)):kvs.length <= sizeLine/\(a == sysModules) = false /\
  ∃ xs,KT H kvs xs/\h.DictOfH (tupleKind (Dq P w)) a xs:=Qd ok (.inl e)
end
def DGet (H:Hp) (a:Addr) (y:V) (r:Option V):Prop :=
 (∃ kvs k,Rd H a (.dK kvs)/\y = kV k/\r = Cp kvs k)\/∃ kvs k b,Rd H a (.dT kvs)/\y = .ref b/\H b = some (.tup (k.map kV))/\r = Cp kvs k
def DPut (H:Hp) (a:Addr) (y v:V) (H':Hp):Prop :=
 (∃ kvs k,H a = some (.dK kvs)/\y = kV k/\kvs.length < sizeLine/\H' = upd H a (.dK (Jp kvs k v))) \/
 ∃ kvs k b,H a = some (.dT kvs)/\y = .ref b/\H b = some (.tup (k.map kV))/\kvs.length < sizeLine/\H' = upd H a (.dT (Jp kvs k v))
theorem DGet.k {H:Hp} {a:Addr} {kvs:List (Key × V)} {k:Key} (e:H a = some (.dK kvs)):DGet H a (kV k) (Cp kvs k):=.inl ⟨kvs,k,.inl e,rfl,rfl⟩
theorem DGet.t {H:Hp} {a b:Addr} {kvs:List (List Key × V)} {k:List Key} (e:H a = some (.dT kvs)) (eb:H b = some (.tup (k.map kV))):DGet H a (.ref b) (Cp kvs k):=.inr ⟨kvs,k,b,.inl e,rfl,eb,rfl⟩
theorem DPut.k {H:Hp} {a:Addr} {kvs:List (Key × V)} {k:Key} {v:V} (e:H a = some (.dK kvs)) (hl:kvs.length < sizeLine):DPut H a (kV k) v (upd H a (.dK (Jp kvs k v))):=.inl ⟨kvs,k,e,rfl,hl,rfl⟩
theorem DPut.t {H:Hp} {a b:Addr} {kvs:List (List Key × V)} {k:List Key} {v:V} (e:H a = some (.dT kvs)) (eb:H b = some (.tup (k.map kV))) (hl:kvs.length < sizeLine) :
  DPut H a (.ref b) v (upd H a (.dT (Jp kvs k v))):=.inr ⟨kvs,k,b,e,rfl,eb,hl,rfl⟩
section
variable {X:Cx} {pins:List (Addr × Obj)} {σ:St} {H:Hp} {s:Shared} {a:Addr} {y v:V} {u r:Value} {o:Option V} {A:Around} {E:Value->Shared->Prop}
theorem Inv.big (I:Inv X pins σ H s):sysModules < s.heap.objs.size:=by
 have h:mainGlobals < s.heap.objs.size:=(I.mod.glob.keeps I.bk).lt
 exact Nat.lt_trans (by decide) h
theorem AdE {Q:Value->Shared->Prop} (hu:A.units + 1 < cLine) (I:Inv X pins σ H s) (g:DGet H a y (some v)) (ry:RelV y u) (h:∀ w' s',Inv X pins σ H s'->RelV v w'->Q w' s') :
  wpAny (model X.prog X.w) A (getItem (.ref a) u) Q E s:=by
 rcases g with ⟨kvs,k,e,ey,l⟩ | ⟨kvs,k,b,e,ey,eb,l⟩
 ·subst ey
  obtain⟨z,hd,vs,rel,dd⟩:=Qf I.hok e
  obtain⟨w',hw,rw'⟩:=RelO.some_of (v:=v) (o:=valueAt vs k) (by rw[l]; exact rel.val k)
  exact wpAny_getItem_of (Sh ry) dd.mapOf hw (h w' _ (I.tok _) rw')
 ·subst ey
  cases (show u = Value.ref b from ry)
  obtain⟨z,hd,xs,rel,dd⟩:=Qd I.hok e
  obtain⟨w',hw,rw'⟩:=RelO.some_of (v:=v) (o:=(atKey xs k).map (·.2)) (by rw[l]; exact rel.val k)
  obtain⟨p,hp,hp2⟩:=map_eq_some_iff.mp hw
  refine wpAny_getItem_heap (tupleKind_room_in1 hu) (Oq I.hok eb) dd hp ?_
  rw[hp2]
  exact h w' _ (I.tok _) rw'
theorem AnY {Q:Value->Shared->Prop} (hu:A.units + 1 < cLine) (I:Inv X pins σ H s) (g:DGet H a y o) (ry:RelV y u) (h:∀ s',Inv X pins σ H s'->Q (.bool o.isSome) s') :
  wpAny (model X.prog X.w) A (compareOp .In u (.ref a)) Q E s:=by
 rcases g with ⟨kvs,k,e,ey,l⟩ | ⟨kvs,k,b,e,ey,eb,l⟩
 ·subst ey
  obtain⟨z,hd,vs,rel,dd⟩:=Qf I.hok e
  refine wpAny_in_of (Sh ry) hd dd.mapOf ?_
  rw[<- (rel.val k).isSome_eq,<- l]
  exact h _ (I.tok _)
 ·subst ey
  cases (show u = Value.ref b from ry)
  obtain⟨z,hd,xs,rel,dd⟩:=Qd I.hok e
  refine wpAny_in_heap (tupleKind_room_in1 hu) (Oq I.hok eb) hd dd ?_
  have q:=(rel.val k).isSome_eq
  rw[isSome_map] at q
  rw[<- q,<- l]
  exact h _ (I.tok _)
theorem Ai1 {Q:Value->Shared->Prop} (hu:A.units + 1 < cLine) (I:Inv X pins σ H s) (g:DGet H a y o) (ry:RelV y u) (h:∀ s',Inv X pins σ H s'->Q (.bool (!o.isSome)) s') :
  wpAny (model X.prog X.w) A (compareOp .NotIn u (.ref a)) Q E s:=by
 rcases g with ⟨kvs,k,e,ey,l⟩ | ⟨kvs,k,b,e,ey,eb,l⟩
 ·subst ey
  obtain⟨z,hd,vs,rel,dd⟩:=Qf I.hok e
  refine wpAny_notIn_of (Sh ry) hd dd.mapOf ?_
  rw[<- (rel.val k).isSome_eq,<- l]
  exact h _ (I.tok _)
 ·subst ey
  cases (show u = Value.ref b from ry)
  obtain⟨z,hd,xs,rel,dd⟩:=Qd I.hok e
  refine wpAny_notIn_heap (tupleKind_room_in1 hu) (Oq I.hok eb) hd dd ?_
  have q:=(rel.val k).isSome_eq
  rw[isSome_map] at q
  rw[<- q,<- l]
  exact h _ (I.tok _)
theorem Abl {h':Heap} {t':Nat} {ob:HO} (I:Inv X pins σ H s) (mu:Mut (H a)) (hs:SameBut a s.heap h') (he:∃ q,h'.get? a = some q) (new:ObjOk X.prog X.w (upd H a ob) h' a ob) :
  Inv X pins σ (upd H a ob) { s with heap:=h',toks:=t' } :=
 I.write (x:=a) (e:=a) mu (.inl rfl) (fun b q hb z=>(hs.2 b hb).trans z) he new
theorem Ak9 {P:Program} {w:World} {H':Hp} {h':Heap} {kvs:List (Key × V)} {vs:List (Key × Value)} (z:kvs.length <= sizeLine) (hd:(a == sysModules) = false) (rel:KV kvs vs) (dd:h'.DictOf (Dq P w) a vs) :
  ObjOk P w H' h' a (.dK kvs):=⟨z,hd,vs,rel,dd⟩
theorem AeV {H':Hp} {Q:Unit->Shared->Prop} (hu:A.units + 1 < cLine) (I:Inv X pins σ H s) (g:DPut H a y v H') (ry:RelV y u) (rv:RelV v r) (h:∀ s',Inv X pins σ H' s'->Q () s') :
  wpAny (model X.prog X.w) A (setItem (.ref a) u r) Q E s:=by
 rcases g with ⟨kvs,k,e,ey,l,eH⟩ | ⟨kvs,k,b,e,ey,eb,l,eH⟩
 ·subst ey eH
  obtain⟨z,hd,vs,rel,dd⟩:=Am4 I.hok e
  have hz:vs.length <= sizeLine:=by rw[<- rel.length]; exact z
  have hl:(Jp kvs k v).length <= sizeLine:=by have:=Up kvs k v; omega
  refine wpAny_setItem_pairs (hsz:=hz) (Sh ry) dd fun h' dd' hs=>h _ ?_
  have he:∃ q,h'.get? a = some q:=let ⟨q,_,_,hq,_⟩:=dd'; ⟨q,hq⟩
  exact Abl I (by rw[e]; exact True.intro) hs he (Ak9 hl hd (rel.put k rv) dd')
 ·subst ey eH
  cases (show u = Value.ref b from ry)
  obtain⟨z,hd,xs,rel,dd⟩:=Ani I.hok e
  have hz:xs.length <= sizeLine:=by rw[<- Paired.length rel]; exact z
  have hl:(Jp kvs k v).length <= sizeLine:=by have:=Up kvs k v; omega
  refine wpAny_setItem_heap (hsz:=hz) (tupleKind_room_in1 hu) (Oq I.hok eb) dd fun h' dd' hs=>h _ ?_
  obtain⟨q,es,ep,hq,h2,h3,h4,_,h5⟩:=dd'
  refine Abl I (by rw[e]; exact True.intro) hs ⟨q,hq⟩ ⟨hl,hd,_,(rel.put k eb rv).keeps fun c ys ec=>?_,q,es,ep,hq,h2,h3,h4,h5⟩
  rw[Bk (Fk ec e (fun z=>nomatch z))]
  exact ec
end
section
variable {X:Cx} {pins:List (Addr × Obj)} {σ:St} {H:Hp} {s:Shared} {a:Addr} {kvs:List (Key × V)} {k:Key} {u:Value} {A:Around} {E:Value->Shared->Prop}
end
def Al3 (i:Expr):Prop:=∀ ov iv,subscripted i false ov iv = operate [ov,iv] (getItem ov iv)
theorem AjJ {prog:Program} {w:World} {A:Around} {E:Value->Shared->Prop} {s:Shared} {env:Env} {value slice:Expr} {pos:Pos} {T id:String} {Q:Value->Shared->Prop}
  (hl:typeLookup (.type T) "__getitem__" = pure (some (.builtin id))) (hs:Al3 slice)
  (h:wpAny (model prog w) A (eval value env) (fun o s₁=>wpAny (model prog w) A (eval slice env) (fun i s₂=>s₂.TypeIs o T/\wpAny (model prog w) A (getItem o i) Q E s₂) E s₁) E s) :
  wpAny (model prog w) A (eval (.Subscript value slice pos) env) Q E s:=by
 refine Subscript_ (wpAny_mono h (fun o s₁ h₁=>wpAny_mono h₁ (fun i s₂ h₂=>?_) fun _ _ x=>x) fun _ _ x=>x)
 obtain⟨hT,h₂⟩:=h₂
 unfold subscriptTail
 refine wpAny_bind ?_
 rw[getitemInPython_of_ne hT.not_modules]
 refine wpAny_bind (wpAny_specialOf hT hl ?_)
 have fin:wpAny (model prog w) A (subscripted slice false o i) (fun r s₃=>wpAny (model prog w) A (letTemporaryGo value o r >>= fun _=>pure r) Q E s₃) E s₂:=by
  rw[hs o i]
  exact wpAny_operating (wpAny_mono h₂ (fun r s₃ h₃=>wpAny_bind (wpAny_letTemporaryGo (wpAny_pure h₃))) fun _ _ x=>x)
 first
  | exact wpAny_pure (wpAny_bind fin)
  | exact wpAny_bind (wpAny_pure (wpAny_bind fin))
  | exact wpAny_bind fin
theorem Abd {X:Cx} {pins:List (Addr × Obj)} {σ:St} {H:Hp} {s:Shared} {a:Addr} {y:V} {o:Option V} (I:Inv X pins σ H s) (g:DGet H a y o):s.TypeIs (.ref a) "dict":=by
 rcases g with ⟨kvs,k,e,_,_⟩ | ⟨kvs,k,b,e,_,_,_⟩
 ·obtain⟨_,_,vs,_,dd⟩:=Qf I.hok e
  exact dd.typeIs
 ·obtain⟨_,_,xs,_,dd⟩:=Qd I.hok e
  exact dd.typeIs
def Zb (td ty:TE):TE:=fun σ H Q=>td σ H fun x H1=>ty σ H1 fun y H2=>∃ a v,x = .ref a/\DGet H2 a y (some v)/\Q v H2
def AgK (ty td:TE):TE:=fun σ H Q=>ty σ H fun y H1=>td σ H1 fun x H2=>∃ a o,x = .ref a/\DGet H2 a y o/\Q (.bl o.isSome) H2
def AbN (ty td:TE):TE:=fun σ H Q=>ty σ H fun y H1=>td σ H1 fun x H2=>∃ a o,x = .ref a/\DGet H2 a y o/\Q (.bl (!o.isSome)) H2
def AcF (td ty tv:TE):TS:=fun D σ H=>tv σ H fun v H1=>td σ H1 fun x H2=>ty σ H2 fun y H3=>∃ a H4,x = .ref a/\DPut H3 a y v H4/\D.nx σ H4
section
variable {X:Cx} {o i e value:Expr} {pos pos' tpos:Pos} {td ty tv:TE}
theorem No (hu:X.A.units + 1 < cLine) (ho:PE X o td) (hi:PE X i ty) (hs:Al3 i):PE X (.Subscript o i pos) (Zb td ty):=by
 intro pins s σ H Q I h
 refine AjJ PySem.F.slot_dict_getitem.lookup hs (thn (ho pins s σ H _ I h) fun u s1 ⟨x,H1,I1,rx,q1⟩=>thn (hi pins s1 σ H1 _ I1 q1) fun iv s2 ⟨y,H2,I2,ry,a,v,ex,g,q2⟩=>?_)
 subst ex
 obtain rfl:u = Value.ref a:=rx
 exact⟨Abd I2 g,AdE hu I2 g ry fun w' s3 I3 rw'=>⟨v,H2,I3,rw',q2⟩⟩
theorem AaT (hu:X.A.units + 1 < cLine) (hi:PE X i ty) (ho:PE X o td):PC X .In i o (AgK ty td):=by
 intro pins s σ H Q I h
 refine thn (hi pins s σ H _ I h) fun iv s1 ⟨y,H1,I1,ry,q1⟩=>thn (ho pins s1 σ H1 _ I1 q1) fun u s2 ⟨x,H2,I2,rx,a,ov,ex,g,q2⟩=>?_
 subst ex
 obtain rfl:u = Value.ref a:=rx
 exact AnY hu I2 g ry fun s3 I3=>⟨.bl ov.isSome,H2,I3,rfl,q2⟩
theorem Qa (hu:X.A.units + 1 < cLine) (hi:PE X i ty) (ho:PE X o td):PC X .NotIn i o (AbN ty td):=by
 intro pins s σ H Q I h
 refine thn (hi pins s σ H _ I h) fun iv s1 ⟨y,H1,I1,ry,q1⟩=>thn (ho pins s1 σ H1 _ I1 q1) fun u s2 ⟨x,H2,I2,rx,a,ov,ex,g,q2⟩=>?_
 subst ex
 obtain rfl:u = Value.ref a:=rx
 exact Ai1 hu I2 g ry fun s3 I3=>⟨.bl (!ov.isSome),H2,I3,rfl,q2⟩
theorem Gj (hu:X.A.units + 1 < cLine) (ho:PE X o td) (hi:PE X i ty) (hv:PE X value tv) (hs:swapsWith value (some (.Subscript o i pos')) pos.line X.env = pure false) :
  PS X (.Assign [.Subscript o i pos'] value pos) (AcF td ty tv):=by
 intro pins s σ H D I h
 refine wpAny_Assign_Subscript (thn (hv pins s σ H _ I h) fun r s1 ⟨v,H1,I1,rv,q1⟩=>thn (ho pins s1 σ H1 _ I1 q1) fun u s2 ⟨x,H2,I2,rx,q2⟩=>thn (hi pins s2 σ H2 _ I2 q2) fun iv s3 ⟨y,H3,I3,ry,a,H4,ex,g,q3⟩=>?_) hs
 subst ex
 obtain rfl:u = Value.ref a:=rx
 exact AeV hu I3 g ry rv fun s4 I4=>⟨σ,H4,I4,q3⟩
end
theorem AgY {P:Program} {w:World} {H:Hp} (h:Heap) (hb:sysModules < h.objs.size):ObjOk P w H (h.push { cls:=.type "dict",data:=.dict #[] }) h.objs.size (.dK []) :=
 ⟨zero_le _,beq_eq_false_iff_ne.mpr (Ne.symm (ne_of_lt hb)),[],.nil,Heap.DictOf.new h⟩
theorem Afy {P:Program} {w:World} {H:Hp} (h:Heap) (hb:sysModules < h.objs.size):ObjOk P w H (h.push { cls:=.type "dict",data:=.dict #[] }) h.objs.size (.dT []) :=
 ⟨zero_le _,beq_eq_false_iff_ne.mpr (Ne.symm (ne_of_lt hb)),[],.nil,_,#[],0,get?_push_size _ rfl,⟨rfl,rfl,rfl⟩,rfl,rfl,nodup_nil⟩
def Zn:TE:=fun _ H Q=>∀ p,H p = none->Q (.ref p) (upd H p (.dK []))
def Ae9:TE:=fun _ H Q=>∀ p,H p = none->Q (.ref p) (upd H p (.dT []))
section
variable {X:Cx} {pos:Pos}
theorem Jv:PE X (.Dict [] [] pos) Zn:=fun pins s σ H Q I h =>
 wpAny_Dict_empty ⟨.ref s.heap.objs.size,_,I.laid (a:=s.heap.objs.size) (o:=.dK []) (t':=s.toks) (fun _ _ q=>get?_push_of_some _ q) (Nat.le_refl _) (AgY s.heap I.big),rfl,h _ (I.hok.fresh (Nat.le_refl _))⟩
theorem Afx:PE X (.Dict [] [] pos) Ae9:=fun pins s σ H Q I h =>
 wpAny_Dict_empty ⟨.ref s.heap.objs.size,_,I.laid (a:=s.heap.objs.size) (o:=.dT []) (t':=s.toks) (fun _ _ q=>get?_push_of_some _ q) (Nat.le_refl _) (Afy s.heap I.big),rfl,h _ (I.hok.fresh (Nat.le_refl _))⟩
end
structure M1 (X:Cx) (o:Expr) (m:Str) (apos:Pos) (e:Expr) (cpos:Pos):Prop where
 base:attributeBase o m X.env (eval o X.env) = eval o X.env
 few:((backTo cpos (starEach [e] X.env)).all (fun x=>!x.1) && (backToKw cpos (keywordEach [] X.env)).all (fun x=>x.1.isSome)
  && decide (([e]:List Expr).length + ([]:List Keyword).length + (if ([]:List Keyword).isEmpty then 0 else 1) < 30)) = true
 line:(apos.endLine == cpos.line) = true
 trees:backTo cpos (starEach [e] X.env) = [(false,eval e X.env)]
structure M2 (X:Cx) (o:Expr) (m:Str) (apos:Pos) (e f:Expr) (cpos:Pos):Prop where
 base:attributeBase o m X.env (eval o X.env) = eval o X.env
 few:((backTo cpos (starEach [e,f] X.env)).all (fun x=>!x.1) && (backToKw cpos (keywordEach [] X.env)).all (fun x=>x.1.isSome)
  && decide (([e,f]:List Expr).length + ([]:List Keyword).length + (if ([]:List Keyword).isEmpty then 0 else 1) < 30)) = true
 line:(apos.endLine == cpos.line) = true
 trees:backTo cpos (starEach [e,f] X.env) = [(false,eval e X.env),(false,eval f X.env)]
def IsD (H:Hp) (a:Addr):Prop:=(∃ kvs,Rd H a (.dK kvs))\/∃ kvs,Rd H a (.dT kvs)
theorem Ad5 {X:Cx} {pins:List (Addr × Obj)} {σ:St} {H:Hp} {s:Shared} {a:Addr} (I:Inv X pins σ H s) (d:IsD H a) :
  s.TypeIs (.ref a) "dict"/\(∀ b,Value.ref a = .ref b->∃ ob,s.heap.get? b = some ob/\ob.dict = none)/\(a == sysModules) = false:=by
 rcases d with ⟨kvs,e⟩ | ⟨kvs,e⟩
 ·obtain⟨_,hd,vs,_,dd⟩:=Qf I.hok e
  refine⟨dd.typeIs,fun b q=>?_,hd⟩
  cases q
  obtain⟨ob,_,_,h1,h2,_⟩:=dd
  exact⟨ob,h1,h2.2.1⟩
 ·obtain⟨_,hd,xs,_,dd⟩:=Qd I.hok e
  refine⟨dd.typeIs,fun b q=>?_,hd⟩
  cases q
  obtain⟨ob,_,_,h1,h2,_⟩:=dd
  exact⟨ob,h1,h2.2.1⟩
section
variable {X:Cx} {pins:List (Addr × Obj)} {σ:St} {H:Hp} {s:Shared} {a:Addr} {y d:V} {u r:Value} {o:Option V} {A:Around} {E:Value->Shared->Prop}
theorem AlZ {Q:Value->Shared->Prop} (hu:A.units + 1 < cLine) (I:Inv X pins σ H s) (g:DGet H a y o) (ry:RelV y u) (h:∀ w' s',Inv X pins σ H s'->RelV (o.getD .non) w'->Q w' s') :
  wpAny (model X.prog X.w) A (call (.builtin "dict.get") [.ref a,u]) Q E s:=by
 rcases g with ⟨kvs,k,e,ey,l⟩ | ⟨kvs,k,b,e,ey,eb,l⟩
 ·subst ey
  obtain⟨z,hd,vs,rel,dd⟩:=Qf I.hok e
  refine call_meetsIn slot_dict_get dd.typeIs entry_dict_get (PySem.F.args_dict_get_2 _ _) (meets_dict_get (Dq X.prog X.w) a (Sh ry) hd) ⟨_,dd.mapOf,h _ _ (I.tok _) ?_⟩
  rw[l]
  exact (rel.val k).getD rfl
 ·subst ey
  cases (show u = Value.ref b from ry)
  obtain⟨z,hd,xs,rel,dd⟩:=Qd I.hok e
  refine call_meetsIn slot_dict_get dd.typeIs entry_dict_get (PySem.F.args_dict_get_2 _ _) (meetsH_dict_get (tupleKind (Dq X.prog X.w)) a b hd) ⟨tupleKind_room_in1 hu,k,xs,Oq I.hok eb,dd,h _ _ (I.tok _) ?_⟩
  rw[l]
  exact (rel.val k).getD rfl
theorem AkZ {Q:Value->Shared->Prop} (hu:A.units + 1 < cLine) (I:Inv X pins σ H s) (g:DGet H a y o) (ry:RelV y u) (rd:RelV d r) (h:∀ w' s',Inv X pins σ H s'->RelV (o.getD d) w'->Q w' s') :
  wpAny (model X.prog X.w) A (call (.builtin "dict.get") [.ref a,u,r]) Q E s:=by
 rcases g with ⟨kvs,k,e,ey,l⟩ | ⟨kvs,k,b,e,ey,eb,l⟩
 ·subst ey
  obtain⟨z,hd,vs,rel,dd⟩:=Qf I.hok e
  refine call_meetsIn slot_dict_get dd.typeIs entry_dict_get (PySem.F.args_dict_get_3 _ _ _) (meets_dict_get_default (Dq X.prog X.w) a (Sh ry) hd r) ⟨_,dd.mapOf,h _ _ (I.tok _) ?_⟩
  rw[l]
  exact (rel.val k).getD rd
 ·subst ey
  cases (show u = Value.ref b from ry)
  obtain⟨z,hd,xs,rel,dd⟩:=Qd I.hok e
  refine call_meetsIn slot_dict_get dd.typeIs entry_dict_get (PySem.F.args_dict_get_3 _ _ _) (meetsH_dict_get_default (tupleKind (Dq X.prog X.w)) a b hd r) ⟨tupleKind_room_in1 hu,k,xs,Oq I.hok eb,dd,h _ _ (I.tok _) ?_⟩
  rw[l]
  exact (rel.val k).getD rd
end
def AeH (td ty:TE):TE:=fun σ H Q=>td σ H fun x H1=>∃ a,x = .ref a/\IsD H1 a/\ty σ H1 fun y H2=>∃ o,DGet H2 a y o/\Q (o.getD .non) H2
def AaO (td ty tx:TE):TE:=fun σ H Q=>td σ H fun x H1=>∃ a,x = .ref a/\IsD H1 a/\ty σ H1 fun y H2=>tx σ H2 fun z H3=>∃ o,DGet H3 a y o/\Q (o.getD z) H3
section
variable {X:Cx} {o e f:Expr} {apos cpos:Pos} {td ty tx:TE}
theorem Zq (hu:X.A.units + 1 < cLine) (ho:PE X o td) (he:PE X e ty) (m:M1 X o "get" apos e cpos):PE X (.Call (.Attribute o "get" apos) [e] [] cpos) (AeH td ty):=by
 intro pins s σ H Q I h
 refine wpAny_Call_method m.base m.few m.line plainAttrs_dict slot_dict_get type_dict_get (thn (ho pins s σ H _ I h) fun u s1 ⟨x,H1,I1,rx,a,ex,d,q1⟩=>?_)
 subst ex
 obtain rfl:u = Value.ref a:=rx
 obtain⟨t1,t2,_⟩:=Ad5 I1 d
 refine⟨t1,t2,?_⟩
 rw[m.trees]
 refine Calls.callWith_builtin rfl (Calls.evalArgs_plain (Calls.spliced_cons (thn (he pins s1 σ H1 _ I1 q1) fun iv s2 ⟨y,H2,I2,ry,ov,g,q2⟩=>Calls.spliced_nil ?_)))
 exact AlZ hu I2 g ry fun w' s3 I3 rw'=>⟨_,H2,I3,rw',q2⟩
theorem Oo (hu:X.A.units + 1 < cLine) (ho:PE X o td) (he:PE X e ty) (hf:PE X f tx) (m:M2 X o "get" apos e f cpos):PE X (.Call (.Attribute o "get" apos) [e,f] [] cpos) (AaO td ty tx):=by
 intro pins s σ H Q I h
 refine wpAny_Call_method m.base m.few m.line plainAttrs_dict slot_dict_get type_dict_get (thn (ho pins s σ H _ I h) fun u s1 ⟨x,H1,I1,rx,a,ex,d,q1⟩=>?_)
 subst ex
 obtain rfl:u = Value.ref a:=rx
 obtain⟨t1,t2,_⟩:=Ad5 I1 d
 refine⟨t1,t2,?_⟩
 rw[m.trees]
 refine Calls.callWith_builtin rfl (Calls.evalArgs_plain (Calls.spliced_cons (thn (he pins s1 σ H1 _ I1 q1) fun iv s2 ⟨y,H2,I2,ry,q2⟩ =>
  Calls.spliced_cons (thn (hf pins s2 σ H2 _ I2 q2) fun fv s3 ⟨z,H3,I3,rz,ov,g,q3⟩=>Calls.spliced_nil ?_))))
 exact AkZ hu I3 g ry rz fun w' s4 I4 rw'=>⟨_,H3,I4,rw',q3⟩
end
section
variable {X:Cx} {pins:List (Addr × Obj)} {σ:St} {H:Hp} {s:Shared} {a:Addr} {kvs:List (Key × V)} {A:Around} {E:Value->Shared->Prop}
end
section
variable {X:Cx} {pins:List (Addr × Obj)} {σ:St} {H:Hp} {s:Shared} {a:Addr} {y:V} {u:Value} {A:Around} {E:Value->Shared->Prop}
end
end L2
namespace Att
open PySem PySem.W PySem.Calls PyProof.Rows
theorem Wh {P:Params} {h:Heap}:∀ (ns:List Int) (vs:List Value),WellAll P h vs (ns.map WData.int)->IntsAre vs ns:=by
 intro ns
 induction ns with
 | nil =>
  intro vs w
  rw[map_nil] at w
  cases w
  exact .nil
 | cons n ns ih =>
  intro vs w
  rw[map_cons] at w
  cases w with
  | cons a b =>
   cases a
   exact .cons _ _ (ih _ b)
theorem AeZ {l:OpenLaw} {n:Nat} (hn:l.most = some n) {P:Params} {h:Heap} {args:List WData} {vals:List Value}
  (hpre:l.row.toRowW.claim.pre args = true) (hwl:WellAll P h vals args) :
  ∃ a vs ns,vals = [Value.ref a]/\args = [WData.list (ns.map WData.int)]/\h.get? a = some { cls:=.type "list",data:=.seq vs.toArray }/\IntsAre vs ns/\ns.length <= n:=by
 have hsh:WShape.hasAll [] args [.list .int] = true:=(pre_splitW hpre).1
 have hc:l.pre.holds [] { args:=args } = true:=(pre_splitW hpre).2
 obtain⟨d,r,rfl,h1,h2⟩:=hasAllW_cons hsh
 obtain rfl:=hasAllW_nil h2
 obtain⟨xs,rfl,h3⟩:=hasW_list h1
 obtain⟨ns,rfl⟩:=items_int h3
 have hlen:ns.length <= n:=by
  unfold OpenLaw.pre at hc
  have h4:(WTm.not (.lt (.lit (.int (n:Int))) (.len (.arg 0)))).holds [] { args:=[.list (ns.map .int)] } = true:=by
   have h4:=(holds_andW hc).1
   rw[hn] at h4
   exact h4
  have h5:=condW_of h4 (w_not (w_lt w_lit (w_len_list (w_arg rfl))))
  rw[length_map] at h5
  refine Nat.le_of_not_lt fun q=>?_
  have q':(n:Int) < ((ns.length:Nat):Int):=by omega
  first
   | (rw[decide_eq_true q'] at h5; exact absurd h5 (by decide))
   | (simp at h5; omega)
 cases hwl with
 | cons w1 w2 =>
  cases w2
  cases w1 with
  | list ho hall=>exact⟨_,_,ns,rfl,rfl,ho,Wh ns _ hall,hlen⟩
theorem Aex (l:OpenLaw) (args:List WData):l.row.toRowW.claim.post args (.bool true) args = true :=
 postW_of (r:=l.row.toRowW) (X:=(true == true))
  (show WShape.has [] (.bool true) .bool = true by first | rfl | decide | simp [WShape.has,WShape.arms,WShape.armsAll])
  (show (WTm.eq .res (.lit (.bool true))).value [] { args:=args,res:=some (.bool true),after:=args } = some (.bool (true == true)) from w_eq_bool (w_res rfl) w_lit) rfl
theorem attach_call {l:OpenLaw} {n:Nat} {q:Program} {loose:List Str} {XP:(Str->Option Value)->Heap->Prop} {YP:World->Heap->Prop} {d:DefRec}
  (hn:l.most = some n) (hdf:d.params.defaults = [])
  (call:∀ (w:World) (s₀ s₁:Shared) (mg mb:Str->Option Value) (fa:Addr) (o:Obj) (pm cd doc:Value) (a:Addr) (vs:List Value) (ns:List Int),
   Ground q loose [] XP w s₀ mg mb s₁.heap->YP w s₁.heap ->
   s₁.heap.get? fa = some o->o.data = .func (docDef d.name d.params d.body d.scope pm cd doc)->s₁.heap.CodeRec cd d.name->mg d.name = some (.ref fa) ->
   s₁.heap.get? a = some { cls:=.type "list",data:=.seq vs.toArray }->IntsAre vs ns->ns.length <= n->s₁.gens = #[] ->
   codeAny (model l.prog w) callerA (.call (.ref fa) ⟨[.ref a],[]⟩) (fun r s'=>r = .ok (.ret (.bool true))/\OldK s₁.heap s'.heap/\s'.os = s₁.os/\AllBare s'.gens) s₁) :
  WalkO q loose XP YP l.row.toRowW d [] (fun f vs=>PySem.call f vs):=by
 intro w s₀ s₁ mg mb G Y fa o pm cd doc dV kV ho hd hcd hD hmg hg args vals as hpre hlay hrd hwl hlo
 obtain rfl:dV = .none:=Dflts.none hD hdf
 obtain rfl:kV = .none:=Dflts.noKw hD
 obtain⟨a,vs,ns,rfl,rfl,hobj,hints,hlen⟩:=AeZ hn hpre hwl
 refine enter_call (codeAny_mono (call w s₀ s₁ mg mb fa o pm cd doc a vs ns G Y ho (fd_plain hd) hcd hmg hobj hints hlen hg) fun r s' hq=>?_)
 obtain⟨rfl,h2,h3,h4⟩:=hq
 exact⟨.inl ⟨.bool true,.bool true,[],rfl,fun _=>rfl,.bool true,Aex l _,fun _=>⟨Pairwise.nil,fun _ hm=>(nomatch hm)⟩⟩,h2,h3,h4⟩
section
variable {prog:Program} {w:World} {A:Around} {E:Value->Shared->Prop} {s:Shared} {K:Frag}
end
end Att
namespace L2
open PySem PySem.Spec PyProof.Rows
theorem Yk:∀ {vs:List Value} {ns:List Int},IntsAre vs ns->Vals (ns.map V.int) vs
 | _,_,.nil=>.nil
 | _,_,.cons n t h=>.cons ⟨t,rfl⟩ (Yk h)
def AgF (H:Hp):Prop:=∀ b,H b = none\/∃ o xs,H b = some (.frz o (.lst xs))
theorem Af8 {P:Program} {w:World} {K:Frag} {mg mb:Str->Option Value} {CX:CXT} {k:Nat} {fa a:Addr} {fd:FuncData} {x:Str} {sp:Sp} {s₁:Shared} {vs:List Value} {ns:List Int}
  (KX:K.In s₁.heap) (hns:s₁.heap.Ns mainGlobals mg) (hb:s₁.heap.Ns builtinsNs mb) (hbb:∀ x:Str,x ≠ "__name__"->mb x = bootBuiltins x) (hlim:s₁.heap.NoLimit) (hg:s₁.gens = #[])
  (ha:s₁.heap.get? a = some { cls:=.type "list",data:=.seq vs.toArray }) (hi:IntsAre vs ns) (hl:ns.length <= sizeLine) (hr:Room k callerA)
  (F:∀ base:Heap,K.In base->base.Ns mainGlobals mg->FnOk P w K mg base CX k fa fd [x] sp) (hbind:∀ (s:Shared) (u:Value),BindsTo s fd ⟨[u],[]⟩ [(x,u)])
  (hsp:∀ H:Hp,AgF H->SqL K H a (ns.map V.int)->sp [.ref a] H (fun v _=>v = .bl true) fun _ _ _=>False)
  (hCX:∀ H e s',CX [] H s₁ (fun _ _ _=>False) e s'->False) :
  codeAny (model P w) callerA (.call (.ref fa) ⟨[.ref a],[]⟩) (fun r s'=>r = .ok (.ret (.bool true))/\OldK s₁.heap s'.heap/\s'.os = s₁.os/\AllBare s'.gens) s₁:=by
 have rv:=Yk hi
 have lenV:=hi.length
 -- from an abstract heap in which nothing but the script may be tracked
 have core:∀ H:Hp,AgF H->SqL K H a (ns.map V.int)->HOk P w H s₁.heap->(∀ b,H b ≠ none->b = a)->(H a ≠ none->K.lookup a = none) ->
   codeAny (model P w) callerA (.call (.ref fa) ⟨[.ref a],[]⟩) (fun r s'=>r = .ok (.ret (.bool true))/\OldK s₁.heap s'.heap/\s'.os = s₁.os/\AllBare s'.gens) s₁:=by
  intro H hO hS hok hA hK
  have base_of:∀ {b:Addr} {o:Obj},s₁.heap.get? b = some o->H b = none->(Rw s₁.heap H).get? b = some o:=fun e n=>Agd e n
  have noA:∀ {b:Addr} {o:Obj} {es:Array DictEntry} {ep:Nat},s₁.heap.get? b = some o->o.data = .dict es ep->H b = none:=fun {b o es ep} e d=>by
   cases q:H b with
   | none=>rfl
   | some u =>
    have e':b = a:=hA b (by rw[q]; simp)
    subst e'
    rw[ha] at e; cases e
    have d':Data.seq vs.toArray _ = Data.dict es ep:=d
    cases d'
  have nsK:∀ {b:Addr} {m:Str->Option Value},s₁.heap.Ns b m->(Rw s₁.heap H).Ns b m:=fun {b m} ⟨o,es,ep,e,d,r⟩=>⟨o,es,ep,base_of e (noA e d),d,r⟩
  have hKb:K.In (Rw s₁.heap H):=fun b o e=>base_of (KX b o e) (by
   cases q:H b with
   | none=>rfl
   | some u =>
    have e':b = a:=hA b (by rw[q]; simp)
    subst e'
    rw[hK (by rw[q]; simp)] at e; cases e)
  have hM:Mod K mg (Rw s₁.heap H):=⟨hKb,nsK hns,⟨mb,nsK hb,hbb⟩,let ⟨mc,h1,h2⟩:=hlim; ⟨mc,nsK h1,h2⟩⟩
  have e0:Env0 P w K mg (Rw s₁.heap H) callerA [] s₁ H:=⟨rfl,hM,fun b o e=>Ajh e,Nat.le_of_eq (Afc _ _),trivial,fun b hb=>absurd (show b ∈ ([]:List Addr) from hb) (by simp),hok,.of_eq hg⟩
  refine codeAny_mono ((F _ hKb (nsK hns)).run callerA [] s₁ H ⟨[.ref a],[]⟩ [.ref a] [.ref a] _ _ hr e0 (hbind s₁ (.ref a)) (.cons rfl .nil) (hsp H hO hS)) fun r s' h=>?_
  cases r with
  | error e=>exact (hCX H e s' h).elim
  | ok fl =>
   cases fl with
   | next=>exact False.elim h
   | brk=>exact False.elim h
   | cont=>exact False.elim h
   | ret u =>
    obtain⟨v,H',os,bare,un,hok',r',q⟩:=h
    have q':v = .bl true:=q
    subst q'
    obtain rfl:u = Value.bool true:=r'
    refine⟨rfl,OldK.of_keep fun b o e=>?_,os,bare⟩
    cases q:H b with
    | none=>exact un.keep b o e q (by intro z; exact absurd (show b ∈ ([]:List Addr) from z) (by simp)) (by simp)
    | some u =>
     rcases hO b with z | ⟨ob,xs,z⟩
     ·rw[q] at z; cases z
     ·have z2:=un.frzs b ob _ z
      obtain⟨e1,_⟩:=hok b _ z
      obtain⟨e2,_⟩:=hok' b _ z2
      rw[e] at e1; cases e1
      exact e2
 cases hk:K.lookup a with
 | some o =>
  -- the script is one of the module's own objects
  have e:=KX a o hk
  rw[ha] at e
  cases e
  refine core (fun _=>none) (fun _=>.inl rfl) (.inr ⟨_,vs.toArray,_,hk,rfl,rfl,rfl,by rw[size_toArray,lenV]; exact hl,by simpa using rv⟩) (fun b u z=>by have z':(none:Option HO) = some u:=z; cases z') (fun b z=>absurd rfl z) fun z=>absurd rfl z
 | none =>
  refine core (fun b=>if b = a then some (.frz { cls:=.type "list",data:=.seq vs.toArray } (.lst (ns.map V.int))) else none) (fun b=>?_) (.inl (.inr ⟨{ cls:=.type "list",data:=.seq vs.toArray },if_pos rfl⟩)) (fun b u z=>?_) (fun b z=>?_) fun _=>hk
  ·by_cases hb:b = a
   ·exact .inr ⟨_,_,if_pos hb⟩
   ·exact .inl (if_neg hb)
  ·by_cases hb:b = a
   ·have z':=(if_pos hb).symm.trans z
    cases z'
    subst hb
    exact⟨ha,by rw[length_map]; exact hl,vs,_,rv,ha⟩
   ·have z':=(if_neg hb).symm.trans z
    cases z'
  ·by_cases hb:b = a
   ·exact hb
   ·exact absurd (if_neg hb) z
theorem Aoo {l:PySem.W.OpenLaw} {n k:Nat} {q:Program} {loose:List Str} {XP:(Str->Option Value)->Heap->Prop} {YP:World->Heap->Prop} {d:DefRec} {K:Params->Frag} {CX:World->CXT} {sp:World->Sp} {x:Str}
  (hn:l.most = some n) (hn2:n <= sizeLine) (hdf:d.params.defaults = []) (hr:Room k callerA)
  (hY:∀ (w:World) (h:Heap),YP w h->(K w.params).In h)
  (F:∀ (w:World) (mg:Str->Option Value) (fa:Addr) (h:Heap),(K w.params).In h->h.Ns mainGlobals mg->mg d.name = some (.ref fa) ->
   ∃ fd:FuncData,(∀ (s:Shared) (u:Value),BindsTo s fd ⟨[u],[]⟩ [(x,u)]) /\
    ∀ base:Heap,(K w.params).In base->base.Ns mainGlobals mg->FnOk l.prog w (K w.params) mg base (CX w) k fa fd [x] (sp w))
  (hsp:∀ (w:World) (H:Hp) (a:Addr) (ns:List Int),ns.length <= n->AgF H->SqL (K w.params) H a (ns.map V.int)->sp w [.ref a] H (fun v _=>v = .bl true) fun _ _ _=>False)
  (hCX:∀ (w:World) (H:Hp) (s:Shared) (e:Value) (s':Shared),CX w [] H s (fun _ _ _=>False) e s'->False) :
  PySem.W.WalkO q loose XP YP l.row.toRowW d [] (fun f vs=>PySem.call f vs):=by
 refine Att.attach_call hn hdf fun w s₀ s₁ mg mb fa o pm cd doc a vs ns G Y ho hd hcd hmg hobj hints hlen hg=>?_
 have KX:=hY w _ Y
 obtain⟨fd,hb,hF⟩:=F w mg fa _ KX G.T.g hmg
 exact Af8 KX G.T.g G.T.b G.T.builtins G.T.nolimit hg hobj hints (Nat.le_trans hlen hn2) hr hF hb (fun H hO hS=>hsp w H a ns hlen hO hS) fun H e s'=>hCX w H s₁ e s'
def Qu (s:Stmt) (j:Nat):Stmt:=match s with
 | .ClassDef _ _ _ body _ _ _ _ _ _ _=>body.getD j (.Pass ⟨0,0,0,0⟩)
 | _=>.Pass ⟨0,0,0,0⟩
def Rc (s:Stmt):Arguments:=match s with
 | .FunctionDef _ a _ _ _ _ _ _ _ _=>a
 | _=>{ posonlyargs:=[],args:=[],vararg:=none,kwonlyargs:=[],kw_defaults:=[],kwarg:=none,defaults:=[] }
def Oj (s:Stmt):List Stmt:=match s with
 | .FunctionDef _ _ b _ _ _ _ _ _ _=>b
 | _=>[]
def Bt (s:Stmt):Scope:=match s with
 | .FunctionDef _ _ _ _ _ _ sc _ _ _=>sc
 | _=>{ kind:=.function,names:=[],isGenerator:=false,isCoroutine:=false }
abbrev CX0:CXT:=fun _ _ _ _ _ _=>False
abbrev E0:XK:=fun _ _ _=>False
theorem Br {X:Cx}:Qt CX0 X E0:=fun _ _ _ _ _ _ _ h=>h.elim
structure Fun (K:Frag) (x qual:Str) (st:Stmt) (f:Addr) (fd:FuncData):Prop where
 ex:∃ (oc:Value) (od:Option Addr) (kV doc pm:Value) (an:Option Addr) (cdv ct:Value) (osl:Array (Option Value)),
  fd = fnOf x qual (Rc st) (Oj st) (Bt st) .none kV doc pm an cdv ct/\K.lookup f = some ⟨oc,od,.func fd,osl⟩/\codeIn K cdv qual = true
 kp:keepIn K (.ref f) = true
section
variable {P:Program} {w:World} {K:Frag} {mg:Str->Option Value} {base:Heap}
theorem Fun.ok {x qual:Str} {st:Stmt} {f:Addr} {fd:FuncData} {N ps:List Str} {k:Nat} {sp:Sp} (F:Fun K x qual st f fd) (S:Cb N ps (Bt st)) (len:∀ vs H Q E,sp vs H Q E->vs.length = ps.length)
  (hbody:∀ (cdv:Value) (A:Around) (outer:List Env) (s:Shared) (H:Hp) (vs:List V) (Q:VK) (E:XK),Room k (A.deeper (envOfC qual (Bt st) s.heap.objs.size f cdv))->sp vs H Q E ->
   ∃ t,PSs (Ux CX0 P w K mg base N qual (Bt st) f cdv A outer s H E).nox (Oj st) t/\t { nx:=fun _ H'=>Q .non H',rt:=Q } (Nq N vs) H):FnOk P w K mg base CX0 (k + 1) f fd ps sp:=by
 obtain⟨oc,od,kV,doc,pm,an,cdv,ct,osl,rfl,lk,hcd⟩:=F.ex
 refine AnG lk hcd S len fun A outer s H vs Q E hr hsp=>?_
 obtain⟨t,h,q⟩:=hbody cdv A outer s H vs Q E hr hsp
 exact⟨t,h.nox,q⟩
theorem Fun.binds {x qual:Str} {st:Stmt} {f:Addr} {fd:FuncData} {ps:List Str} (F:Fun K x qual st f fd)
  (h:∀ (kV doc pm:Value) (an:Option Addr) (cdv ct:Value) (us:List Value),us.length = ps.length->bindArgs (fnOf x qual (Rc st) (Oj st) (Bt st) .none kV doc pm an cdv ct) ⟨us,[]⟩ = pure (ps.zip us)):Binds K fd ps []:=by
 obtain⟨oc,od,kV,doc,pm,an,cdv,ct,osl,rfl,lk,hcd⟩:=F.ex
 exact .all (h kV doc pm an cdv ct)
theorem Ox {x qual:Str} {st:Stmt} {f:Addr} {oc:Value} {od an:Option Addr} {osl:Array (Option Value)} {kV doc pm cdv ct:Value} (l:K.lookup f = some ⟨oc,od,.func (fnOf x qual (Rc st) (Oj st) (Bt st) .none kV doc pm an cdv ct),osl⟩)
  (c:codeIn K cdv qual = true) (k:keepIn K (.ref f) = true):Fun K x qual st f (fnOf x qual (Rc st) (Oj st) (Bt st) .none kV doc pm an cdv ct):=⟨⟨oc,od,kV,doc,pm,an,cdv,ct,osl,rfl,l,c⟩,k⟩
end
theorem Cy {A:Around} {k:Nat} (hr:Room k A):A.units + 1 < cLine:=Nat.lt_of_le_of_lt (Nat.add_le_add_left (by decide:1 <= 64) _) hr.units
theorem Qe {n:Nat} (h:n <= 1000):n < sizeLine:=Nat.lt_of_le_of_lt h (by decide)
section
variable {X:Cx}
theorem pv (i:Nat) {x:Str} {pos:Pos} (hN:X.N[i]? = some x:=by rfl) (hv:Vis X.env.scope x:=by first | exact Or.inl rfl | exact Or.inr (Or.inl rfl) | exact Or.inr (Or.inr rfl)) (hd:(x == ("__debug__" : Str)) = false:=by decide)
  (hcd:(x == ("__classdict__" : Str)) = false:=by decide):PE X (.Name x pos) (Gq i):=Alq hN hv hd hcd
end
theorem Jy {A B:Prop} (h:B):if false = true then A else B:=by
 rw[if_neg Bool.false_ne_true]
 exact h
theorem Jq {A B:Prop} (h:A):if true = true then A else B:=by
 rw[if_pos rfl]
 exact h
theorem Te {c A B:Prop} [Decidable c] (h1:c->A) (h2:¬ c->B):if c then A else B:=by
 by_cases h:c
 ·rw[if_pos h]
  exact h1 h
 ·rw[if_neg h]
  exact h2 h
def Same (H H':Hp):Prop:=∀ b o,H b = some o->H' b = some o
theorem Same.refl (H:Hp):Same H H:=fun _ _ h=>h
theorem Same.trans {H H1 H2:Hp} (a:Same H H1) (b:Same H1 H2):Same H H2:=fun c o h=>b c o (a c o h)
theorem Same.free {H H':Hp} (e:Same H H') {l:Addr} (h:H' l = Option.none):H l = Option.none:=by
 cases q:H l with
 | none=>rfl
 | some o =>
  rw[e l o q] at h
  cases h
theorem Same.seq {K:Frag} {H H':Hp} {a:Addr} {xs:List V} (e:Same H H') (h:SqL K H a xs):SqL K H' a xs:=by
 rcases h with (h | ⟨o,h⟩) | h
 ·exact .inl (.inl (e _ _ h))
 ·exact .inl (.inr ⟨o,e _ _ h⟩)
 ·exact .inr h
section
variable {κ:Type} [DecidableEq κ]
theorem AbB {kvs:List (κ × V)} {k:κ} {v:V} (h:Cp kvs k = some v):k ∈ kvs.map (·.1):=by
 have q:(kvs.any fun kv=>decide (kv.1 = k)) = true:=by
  rw[Sd,h]
  all_goals rfl
 obtain⟨p,hp,e⟩:=any_eq_true.mp q
 exact mem_map.mpr ⟨p,hp,of_decide_eq_true e⟩
end
section
variable {X:Cx}
theorem Jj:Lr X (.builtin "isinstance") (fun vs H Q=>∃ x n t b,vs = [x,.ty n]/\Gw X.K H x t/\kitOne X.K t (.type n) = some b/\Q (.bl b) H):=by
 intro pins s σ H vs us Q I r h
 obtain⟨x,n,t,b,rfl,ty,e,q⟩:=h
 obtain⟨u,w',rfl,rx,ry⟩:=Ahv r
 cases ry
 exact AdO I rx ty e fun tk=>⟨.bl b,H,I.tok tk,rfl,q⟩
end
theorem Rf {K:Frag} {T S:String} {b:Bool} (h:(if (Value.type T == Value.type S) = true then some true else if kitMeta S = true then (fastBuiltinMro T).map (·.contains (Value.type S)) else none) = some b):kitOne K (.type T) (.type S) = some b:=h
theorem Aa9 {K:Frag}:kitOne K (.type "int") (.type "int") = some true:=Rf (by decide +kernel)
theorem Aan {K:Frag}:kitOne K (.type "int") (.type "bool") = some false:=Rf (by decide +kernel)
theorem Abf {K:Frag}:kitOne K (.type "str") (.type "str") = some true:=Rf (by decide +kernel)
theorem Yw {K:Frag}:kitOne K (.type "list") (.type "list") = some true:=Rf (by decide +kernel)
theorem Aba {K:Frag}:kitOne K (.type "tuple") (.type "tuple") = some true:=Rf (by decide +kernel)
inductive EqD (K:Frag) (H:Hp):Nat->V->V->Bool->Prop where
 | flat {n:Nat} {x y:V} (hx:Ly x = true) (hy:Ly y = true):EqD K H n x y (eqV x y)
 | same {n:Nat} (a:Addr):EqD K H n (.ref a) (.ref a) true
 | lst {n:Nat} {a b:Addr} {xs ys:List V} (e:Nat->Bool) (ne:a ≠ b) (hx:SqL K H a xs) (hy:SqL K H b ys) (hl:xs.length = ys.length)
   (he:∀ (i:Nat) (x y:V),xs[i]? = some x->ys[i]? = some y->EqD K H n x y (e i)):EqD K H (n + 1) (.ref a) (.ref b) ((range xs.length).all e)
 | lstN {n:Nat} {a b:Addr} {xs ys:List V} (ne:a ≠ b) (hx:SqL K H a xs) (hy:SqL K H b ys) (hl:¬ xs.length = ys.length):EqD K H (n + 1) (.ref a) (.ref b) false
 | tup {n:Nat} {a b:Addr} {xs ys:List V} (e:Nat->Bool) (ne:a ≠ b) (hx:SqT K H a xs) (hy:SqT K H b ys)
   (he:∀ (i:Nat) (x y:V),xs[i]? = some x->ys[i]? = some y->EqD K H n x y (e i)):EqD K H (n + 1) (.ref a) (.ref b) ((range (min xs.length ys.length)).all e && xs.length == ys.length)
section
variable {X:Cx} {pins:List (Addr × Obj)} {σ:St} {H:Hp} {s:Shared}
theorem Ob (A:Around):A.in1.units = A.units + 1:=rfl
theorem Si {xs ys:List V} {us vs:List Value} {R:Nat->Value->Value->Prop} (r1:Vals xs us) (r2:Vals ys vs)
  (h:∀ (i:Nat) (x y:V) (u v:Value),xs[i]? = some x->ys[i]? = some y->RelV x u->RelV y v->R i u v) :
  ∀ j (h1:j < us.toArray.size) (h2:j < vs.toArray.size),R j us.toArray[j] vs.toArray[j]:=by
 intro j h1 h2
 have h1':j < us.length:=by simpa using h1
 have h2':j < vs.length:=by simpa using h2
 have l1:j < xs.length:=by rw[r1.length]; exact h1'
 have l2:j < ys.length:=by rw[r2.length]; exact h2'
 obtain⟨u,eu,ru⟩:=r1.get (i:=j) (x:=xs[j]) (by simp [l1])
 obtain⟨v,ev,rv⟩:=r2.get (i:=j) (x:=ys[j]) (by simp [l2])
 have eu':us[j] = u:=by simpa [h1'] using eu
 have ev':vs[j] = v:=by simpa [h2'] using ev
 have q:=h j xs[j] ys[j] u v (by simp [l1]) (by simp [l2]) ru rv
 simpa [eu',ev'] using q
theorem EqD.at (I:Inv X pins σ H s):∀ {n:Nat} {x y:V} {b:Bool},EqD X.K H n x y b->∀ {A:Around} {u v:Value},A.units + n < cLine->RelV x u->RelV y v->SeqAt.EqAt A s u v b:=by
 intro n x y b h
 induction h with
 | flat hx hy=>intro A u v _ ru rv; exact Ad7 ru rv hx hy
 | same a=>intro A u v _ ru rv; cases ru; cases rv; exact SeqAt.EqAt.same _
 | @lst n a b xs ys e ne hx hy hl he ih =>
  intro A u v hu ru rv
  cases ru; cases rv
  obtain⟨us,r1,p1,_⟩:=I.list hx
  obtain⟨vs,r2,p2,_⟩:=I.list hy
  have es:us.toArray.size = xs.length:=by rw[size_toArray]; exact r1.length.symm
  have es2:us.toArray.size = vs.toArray.size:=by rw[es,size_toArray,<- r2.length]; exact hl
  refine SeqAt.EqAt.of_refs ne ?_
  rw[<- es]
  exact SeqAt.RcAt.lists p1.isList p2.isList es2 (by omega) (Si r1 r2 fun i x y u v hx hy ru rv=>ih i x y hx hy (by rw[Ob]; omega) ru rv)
 | @lstN n a b xs ys ne hx hy hl =>
  intro A u v hu ru rv
  cases ru; cases rv
  obtain⟨us,r1,p1,_⟩:=I.list hx
  obtain⟨vs,r2,p2,_⟩:=I.list hy
  refine SeqAt.EqAt.of_refs ne (SeqAt.RcAt.lists_lengths p1.isList p2.isList ?_ (by omega))
  rw[size_toArray,size_toArray,<- r1.length,<- r2.length]
  simpa using hl
 | @tup n a b xs ys e ne hx hy he ih =>
  intro A u v hu ru rv
  cases ru; cases rv
  obtain⟨us,r1,p1,_⟩:=I.tuple hx
  obtain⟨vs,r2,p2,_⟩:=I.tuple hy
  have es:us.toArray.size = xs.length:=by rw[size_toArray]; exact r1.length.symm
  have es2:vs.toArray.size = ys.length:=by rw[size_toArray]; exact r2.length.symm
  refine SeqAt.EqAt.of_refs ne ?_
  rw[<- es,<- es2]
  exact SeqAt.RcAt.tuples p1 p2 (by omega) (Si r1 r2 fun i x y u v hx hy ru rv=>ih i x y hx hy (by rw[Ob]; omega) ru rv)
def LEq (K:Frag) (H:Hp) (xs ys:List V) (k:Bool):Prop :=
 (¬ xs.length = ys.length/\k = false)\/(xs.length = ys.length/\∃ e:Nat->Bool,(∀ (i:Nat) (x y:V),xs[i]? = some x->ys[i]? = some y->EqD K H 40 x y (e i))/\k = (range xs.length).all e)
def Aa2 (K:Frag) (neg:Bool):R2:=fun x y H Q=>∃ a b xs ys k,x = .ref a/\y = .ref b/\SqL K H a xs/\SqL K H b ys/\LEq K H xs ys k/\Q (.bl (if neg then !k else k)) H
theorem Amt (hu:X.A.units + 64 < cLine):OpR X (compareOp .Eq) (Aa2 X.K false):=by
 intro pins s σ H x y v u Q I rx ry h
 obtain⟨a,b,xs,ys,k,rfl,rfl,hx,hy,hk,q⟩:=h
 cases rx; cases ry
 obtain⟨us,r1,p1,_⟩:=I.list hx
 obtain⟨vs,r2,p2,_⟩:=I.list hy
 have fin:EP X pins σ Q (.bool k) s:=⟨.bl k,H,I,rfl,q⟩
 rcases hk with ⟨hl,rfl⟩ | ⟨hl,e,he,rfl⟩
 ·refine SeqAt.eq_list_lengthsAt p1.isList p2.isList ?_ (by omega) fin
  rw[size_toArray,size_toArray,<- r1.length,<- r2.length]
  simpa using hl
 ·have es:us.toArray.size = xs.length:=by rw[size_toArray]; exact r1.length.symm
  have es2:us.toArray.size = vs.toArray.size:=by rw[es,size_toArray,<- r2.length]; exact hl
  rw[<- es] at fin
  exact SeqAt.eq_listAt p1.isList p2.isList es2 (by omega) (Si r1 r2 fun i x y u v hx hy ru rv=>(he i x y hx hy).at I (by rw[Ob]; omega) ru rv) fin
theorem Ak3 (hu:X.A.units + 64 < cLine):OpR X (compareOp .NotEq) (Aa2 X.K true):=by
 intro pins s σ H x y v u Q I rx ry h
 obtain⟨a,b,xs,ys,k,rfl,rfl,hx,hy,hk,q⟩:=h
 cases rx; cases ry
 obtain⟨us,r1,p1,_⟩:=I.list hx
 obtain⟨vs,r2,p2,_⟩:=I.list hy
 have fin:EP X pins σ Q (.bool (!k)) s:=⟨.bl (!k),H,I,rfl,q⟩
 rcases hk with ⟨hl,rfl⟩ | ⟨hl,e,he,rfl⟩
 ·refine SeqAt.RcNeAt.lists_lengths p1.isList p2.isList ?_ (by omega) _ _ _ _ fin
  rw[size_toArray,size_toArray,<- r1.length,<- r2.length]
  simpa using hl
 ·have es:us.toArray.size = xs.length:=by rw[size_toArray]; exact r1.length.symm
  have es2:us.toArray.size = vs.toArray.size:=by rw[es,size_toArray,<- r2.length]; exact hl
  rw[<- es] at fin
  exact SeqAt.RcNeAt.lists p1.isList p2.isList es2 (by omega) (Si r1 r2 fun i x y u v hx hy ru rv=>(he i x y hx hy).at I (by rw[Ob]; omega) ru rv) _ _ _ _ fin
end
section
variable {X:Cx} {pins:List (Addr × Obj)} {σ:St} {H:Hp} {s:Shared} {a:Addr}
def Frb:HO->Prop
 | .dK _=>True
 | .dT _=>True
 | _=>False
theorem Frb.notup {u:HO} (h:Frb u) (xs:List V):u ≠ .tup xs:=by intro e; subst e; exact h
theorem Frb.nofrz {u:HO} (h:Frb u) (o:Obj) (v:HO):u ≠ .frz o v:=by intro e; subst e; exact h
theorem Frb.noown {u:HO} (h:Frb u) (x:Addr):u ≠ .own x:=by intro e; subst e; exact h
theorem Frb.notbl {u:HO} (h:Frb u) (ps:Array Value):u ≠ .tbl ps:=by intro e; subst e; exact h
def AcX (X:Cx) (a:Addr):Prop:=(∀ xs,X.H₀ a ≠ some (.tup xs))/\(∀ o v,X.H₀ a ≠ some (.frz o v))/\∀ ps,X.H₀ a ≠ some (.tbl ps)
theorem Inv.free0 (I:Inv X pins σ H s) {u:HO} (hu:Frb u) (e:H a = some u):AcX X a:=by
 refine⟨fun xs q=>?_,fun o v q=>?_,fun ps q=>?_⟩
 ·have:=I.base.tups a xs q; rw[e] at this; exact hu.notup xs (Option.some.inj this)
 ·have:=I.base.frzs a o v q; rw[e] at this; exact hu.nofrz o v (Option.some.inj this)
 ·obtain⟨m,this⟩:=I.base.tbls a ps q; rw[e] at this; exact hu.notbl _ (Option.some.inj this)
theorem Inv.swap {u v:HO} (I:Inv X pins σ H s) (hu:∀ x,u ≠ .own x) (hu2:∀ xs,u ≠ .tup xs) (e:H a = some u) (f:AcX X a) (ok:ObjOk X.prog X.w (upd H a v) s.heap a v):Inv X pins σ (upd H a v) s:=by
 have nown:∀ b x,H b = some (.own x)->b ≠ a:=fun b x q z=>by subst z; rw[e] at q; exact hu x (Option.some.inj q)
 have ntup:∀ b xs,H b = some (.tup xs)->b ≠ a:=fun b xs q z=>by subst z; rw[e] at q; exact hu2 xs (Option.some.inj q)
 have nnone:∀ b,H b = none->b ≠ a:=fun b q z=>by subst z; rw[e] at q; cases q
 refine⟨I.ok,I.os,I.bare,⟨I.base.keep,I.base.slot,fun b o h1 h2 h3=>?_,I.base.there,fun b xs q=>?_,fun b o w q=>?_,fun b ps q=>?_⟩,I.loc,I.cell,?_,fun x c q=>?_,fun p hp=>?_,fun b o q=>?_,I.len⟩
 ·have q:=I.base.free b o h1 h2 h3
  rw[Bk (nnone b q)]; exact q
 ·have h:b ≠ a:=fun z=>by subst z; exact f.1 xs q
  rw[Bk h]; exact I.base.tups b xs q
 ·have h:b ≠ a:=fun z=>by subst z; exact f.2.1 o w q
  rw[Bk h]; exact I.base.frzs b o w q
 ·have h:b ≠ a:=fun z=>by subst z; exact f.2.2 ps q
  rw[Bk h]; exact I.base.tbls b ps q
 ·rw[Bk (nnone _ I.free)]; exact I.free
 ·rw[Bk (nnone _ (I.freeC x c q))]; exact I.freeC x c q
 ·obtain⟨h1,h2,h3⟩:=I.pin p hp
  exact⟨h1,by rw[Bk (nnone _ h2)]; exact h2,h3⟩
 ·by_cases hb:b = a
  ·subst hb; rw[Bp] at q; cases q; exact ok
  ·rw[Bk hb] at q
   exact (I.hok b o q).stay (fun _ _ _ z=>z) (fun c z=>by rw[Bk (nown c b z)]; exact z) fun c xs z=>by rw[Bk (ntup c xs z)]; exact z
theorem ObjOk.heap {P:Program} {w:World} {h:Heap} {H':Hp} {u:HO} (x:ObjOk P w H h a u) (hd:∀ b xs,H b = some (.tup xs)->H' b = some (.tup xs)) (ho:∀ b,H b = some (.own a)->H' b = some (.own a)):ObjOk P w H' h a u :=
 x.stay (fun _ _ _ z=>z) ho hd
theorem Inv.freeze {u:HO} (I:Inv X pins σ H s) (hu:Frb u) (e:H a = some u):∃ o,Inv X pins σ (upd H a (.frz o u)) s:=by
 have ok:=I.hok a u e
 obtain⟨o,ho⟩:∃ o,s.heap.get? a = some o:=by
  cases u with
  | dK kvs=>obtain⟨_,_,_,_,o,_,_,h,_⟩:=ok; exact⟨o,h⟩
  | dT kvs=>obtain⟨_,_,_,_,o,_,_,h,_⟩:=ok; exact⟨o,h⟩
  | _=>exact hu.elim
 refine⟨o,I.swap (fun x=>hu.noown x) (fun xs=>hu.notup xs) e (I.free0 hu e) ⟨ho,ok.heap (fun b xs q=>?_) fun b q=>?_⟩⟩
 ·rw[Bk (fun z=>by subst z; rw[e] at q; exact hu.notup xs (Option.some.inj q))]; exact q
 ·rw[Bk (fun z=>by subst z; rw[e] at q; exact hu.noown _ (Option.some.inj q))]; exact q
theorem Inv.thaw {u:HO} {o:Obj} (I:Inv X pins σ H s) (f:AcX X a) (e:H a = some (.frz o u)):Inv X pins σ (upd H a u) s:=by
 obtain⟨ho,ok⟩:=(show ObjOk X.prog X.w H s.heap a (.frz o u) from I.hok a _ e)
 refine I.swap (by intro x z; cases z) (by intro xs z; cases z) e f (ok.heap (fun b xs q=>?_) fun b q=>?_)
 ·rw[Bk (fun z=>by subst z; rw[e] at q; cases q)]; exact q
 ·rw[Bk (fun z=>by subst z; rw[e] at q; cases q)]; exact q
def Rh (a:Addr) (u:HO) (D:Ends):Ends where
 nx:=fun σ H=>∃ o,H a = some (.frz o u)/\D.nx σ (upd H a u)
 rt:=fun v H=>∃ o,H a = some (.frz o u)/\D.rt v (upd H a u)
 bk:=fun σ H=>∃ o,H a = some (.frz o u)/\D.bk σ (upd H a u)
 ct:=fun σ H=>∃ o,H a = some (.frz o u)/\D.ct σ (upd H a u)
def AcE (t:TS):TS:=fun D σ H=>∃ a u,Frb u/\H a = some u/\∀ o,t (Rh a u D) σ (upd H a (.frz o u))
theorem Ws {st:Stmt} {t:TS} (h:PS X st t):PS X st (AcE t):=by
 intro pins s σ H D I q
 obtain⟨a,u,hu,e,q⟩:=q
 have f:=I.free0 hu e
 obtain⟨o,I1⟩:=I.freeze hu e
 refine thn (h pins s σ _ _ I1 (q o)) fun fl s' hs=>?_
 cases fl with
 | next=>obtain⟨σ',H',I',o',e',q'⟩:=hs; exact⟨σ',_,I'.thaw f e',q'⟩
 | brk=>obtain⟨σ',H',I',o',e',q'⟩:=hs; exact⟨σ',_,I'.thaw f e',q'⟩
 | cont=>obtain⟨σ',H',I',o',e',q'⟩:=hs; exact⟨σ',_,I'.thaw f e',q'⟩
 | ret v=>obtain⟨x,σ',H',I',r,o',e',q'⟩:=hs; exact⟨x,σ',_,I'.thaw f e',r,q'⟩
end
def Itd (a:Addr) (o:Obj) (kvs:List (Key × V)):It :=
 ⟨fun i H=>H a = some (.frz o (.dK kvs))/\i < kvs.length,fun i H x H'=>H' = H/\∃ kv,kvs[i]? = some kv/\x = kV kv.1,fun i H=>H a = some (.frz o (.dK kvs))/\kvs.length <= i⟩
theorem AbM {P:Program} {w:World} {k:Key} {u:Value} (h:(Dq P w).is k u = true):RelV (kV k) u:=by
 rcases Fp h with ⟨i,t,rfl,rfl⟩ | ⟨x,t,rfl,rfl⟩
 ·exact⟨t,rfl⟩
 ·exact⟨t,rfl⟩
theorem Rr {P:Program} {w:World} {H:Hp} {h:Heap} {a:Addr} {o:Obj} {kvs:List (Key × V)} {es:Array DictEntry} {ep:Nat} (ok:HOk P w H h) (e:H a = some (.frz o (.dK kvs))) (hd:o.data = .dict es ep) :
  (a == sysModules) = false/\∃ vs,KV kvs vs/\h.DictAt (Dq P w) a vs ep:=by
 obtain⟨ho,_,hm,vs,r,o',es',ep',h1,h2,h3,h4⟩:=(show ObjOk P w H h a (.frz o (.dK kvs)) from ok a _ e)
 rw[ho] at h1
 cases h1
 rw[hd] at h3
 cases h3
 exact⟨hm,vs,r,o,es,ho,h2,hd,h4⟩
theorem Afl {P:Program} {w:World} {K:Frag} {tg:Expr} (a it:Addr) (o:Obj) (kvs:List (Key × V)) (es:Array DictEntry) (ep:Nat) (hd:o.data = .dict es ep) :
  Aaf P w K tg (Itd a o kvs) [it] it (fun i h=>h.IsKeyIter it a i kvs.length ep) where
 mem:=by simp
 obj:=fun i h st b hb=>by
  have e:b = it:=by simpa using hb
  subst e
  obtain⟨o,e,c,d⟩:=st
  exact⟨o,e,fun v z=>by rw[d] at z; cases z⟩
 keep:=fun i h h' st k=>by
  obtain⟨o,e,r⟩:=st
  exact⟨o,k it (by simp) o e,r⟩
 item:=by
  intro X hP hw hK hc i pins s σ H E I hf st hg
  subst hP hw hK
  obtain⟨hz,hi⟩:=hg
  obtain⟨hm,vs,r,da⟩:=Rr I.hok hz hd
  have hl:kvs.length = vs.length:=Paired.length r
  obtain⟨f0,f1,f2,f3,f4,f5⟩:=hf it (by simp)
  have hiv:i < vs.length:=by omega
  have ek:(kvs[i]).1 = (vs[i]).1:=by
   have q:=KV.keys r
   have q1:=congrArg (fun l=>l[i]?) q
   simp only [getElem?_map,getElem?_eq_getElem hi,getElem?_eq_getElem hiv,Option.map_some,Option.some.injEq] at q1
   exact q1
  refine wpAny_pyNext_dict_item (k:=(vs[i]).1) (v:=(vs[i]).2) (kvs:=vs) (by rw[<- hl]; exact st) da (by rw[getElem?_eq_getElem hiv]) fun key h' hkey st' sb=>?_
  have I1:Inv X pins σ H { s with heap:=h' }:=I.turned (t':=s.toks) (fun b o hb e=>(sb.2 b hb).trans e) f0 f1 f3 f4 f5
  rw[<- hl] at st'
  obtain⟨o',e',c',d'⟩:=id st'
  exact⟨key,rfl,Ac5 (s:={ s with heap:=h' }) e' c' d' (by decide) ⟨kV (kvs[i]).1,H,I1,by rw[ek]; exact AbM hkey,⟨rfl,kvs[i],getElem?_eq_getElem hi,rfl⟩,st',fun b hb=>(hf b hb).1⟩⟩
 done:=by
  intro X hP hw hK hc i pins s σ H E I hf st hg
  subst hP hw hK
  obtain⟨hz,hi⟩:=hg
  obtain⟨hm,vs,r,da⟩:=Rr I.hok hz hd
  have hl:kvs.length = vs.length:=Paired.length r
  obtain⟨f0,f1,f2,f3,f4,f5⟩:=hf it (by simp)
  exact wpAny_pyNext_dict_end (kvs:=vs) (I.ok.hd hc) (by rw[<- hl]; exact st) da (getElem?_eq_none (by omega)) fun h' eb=>⟨rfl,I.turned (t':=s.toks) (fun b o hb e=>eb b o hb e) f0 f1 f3 f4 f5⟩
 self:=fun _ _ _ _ _ st h=>wpAny_pyIter_keyiter st h
section
variable {X:Cx} {tg:Expr}
def iDk (tl:TE):TI:=fun σ H R=>tl σ H fun x H1=>∃ a o kvs,x = .ref a/\H1 a = some (.frz o (.dK kvs))/\R (Itd a o kvs) H1
theorem Vk {l:Expr} {tl:TE} (hl:PE X l tl):PI X tg l (iDk tl):=by
 intro pins s σ H R I h
 refine thn (hl pins s σ H _ I h) fun v s1 ⟨x,H1,I1,r1,q1⟩=>?_
 obtain⟨a,o,kvs,e,hz,q⟩:=q1
 subst e
 cases r1
 obtain⟨ho,_,hm,vs,r,o',es,ep,h1,h2,h3,h4⟩:=(show ObjOk X.prog X.w H1 s1.heap a (.frz o (.dK kvs)) from I1.hok a _ hz)
 rw[ho] at h1
 cases h1
 have hl:kvs.length = vs.length:=Paired.length r
 refine wpAny_pyIter_dict (knd:=Dq X.prog X.w) (kvs:=vs) (ep:=ep) hm ⟨o,es,ho,h2,h3,h4⟩ ?_
 refine⟨s1.heap.objs.size,[s1.heap.objs.size],_,_,H1,rfl,I1.kept (t':=s1.toks) fun b o e=>get?_push_of_some _ e,Afl a _ o kvs es ep h3,⟨_,get?_push_size _ rfl,rfl,by rw[hl]; rfl⟩,fun b hb=>?_,q⟩
 have e:b = s1.heap.objs.size:=by simpa using hb
 subst e
 exact I1.fpOk (Nat.le_refl _) (I1.hok.fresh (Nat.le_refl _))
theorem AdQ {a:Addr} {o:Obj} {kvs:List (Key × V)} {g:TG} {tb:TS} {D:Ends} {σ:St} {H:Hp} (Pv:Nat->St->Hp->Prop) (h0:Pv 0 σ H) (hl:∀ i σ H,i <= kvs.length->Pv i σ H->H a = some (.frz o (.dK kvs)))
  (hs:∀ i kv σ H,kvs[i]? = some kv->Pv i σ H->g (kV kv.1) σ H fun σ2 H2=>tb { D with nx:=Pv (i + 1),ct:=Pv (i + 1),bk:=D.nx } σ2 H2) (hd:∀ σ H,Pv kvs.length σ H->D.nx σ H) :
  ∃ W:Nat->Nat->St->Hp->Prop,(∃ m,W 0 m σ H)/\∀ i m σ H,W i m σ H ->
   ((Itd a o kvs).stop i H/\D.nx σ H)\/((Itd a o kvs).go i H/\∃ N:St->Hp->Prop,(∀ σ' H',N σ' H'->∃ m',m' < m/\W (i + 1) m' σ' H')/\∀ x H',(Itd a o kvs).yld i H x H'->g x σ H' fun σ2 H2=>tb { D with nx:=N,ct:=N,bk:=D.nx } σ2 H2):=by
 refine⟨fun i m σ H=>m = kvs.length - i/\i <= kvs.length/\Pv i σ H,⟨kvs.length,by simp,zero_le _,h0⟩,?_⟩
 rintro i m σ H ⟨rfl,hi,p⟩
 have q:=hl i σ H hi p
 by_cases hlt:i < kvs.length
 ·refine .inr ⟨⟨q,hlt⟩,Pv (i + 1),fun σ' H' p'=>⟨kvs.length - (i + 1),by omega,rfl,hlt,p'⟩,fun x H' y=>?_⟩
  obtain⟨e,kv,y1,y2⟩:=y
  subst e y2
  exact hs i kv σ _ y1 p
 ·have e:i = kvs.length:=by omega
  subst e
  exact .inl ⟨⟨q,Nat.le_refl _⟩,hd σ H p⟩
end
def Iti (a:Addr) (o:Obj) (kvs:List (Key × V)):It :=
 ⟨fun i H=>H a = some (.frz o (.dK kvs))/\i < kvs.length,fun i H x H'=>∃ t kv,H t = none/\kvs[i]? = some kv/\x = .ref t/\H' = upd H t (.tup [kV kv.1,kv.2]),fun i H=>H a = some (.frz o (.dK kvs))/\kvs.length <= i⟩
theorem Aes {κ:Type}:∀ {kvs:List (κ × V)} {vs:List (κ × Value)} {i:Nat} {kv:κ × V},KV kvs vs->kvs[i]? = some kv->∃ v,vs[i]? = some (kv.1,v)/\RelV kv.2 v
 | _,_,_,_,.nil,e=>by simp at e
 | _,(k',v') :: _,0,_,.cons r _,e=>by
  simp at e; subst e
  obtain⟨h1,h2⟩:=r
  exact⟨v',by simp [h1],h2⟩
 | _,_,i + 1,kv,.cons _ t,e=>by
  obtain⟨v,h1,h2⟩:=Aes (i:=i) (kv:=kv) t (by simpa using e)
  exact⟨v,by simpa using h1,h2⟩
theorem Acx {P:Program} {w:World} {K:Frag} {elts:List Expr} {x1:Nat} {tp:Pos} (a it:Addr) (o:Obj) (kvs:List (Key × V)) (es:Array DictEntry) (ep:Nat) (hd:o.data = .dict es ep) :
  Aaf P w K (.Tuple elts x1 tp) (Iti a o kvs) [it] it (fun i h=>∃ ok ov,IsItemIter h it a i kvs.length ep ok ov) where
 mem:=by simp
 obj:=fun i h st b hb=>by
  have e:b = it:=by simpa using hb
  subst e
  obtain⟨ok,ov,e⟩:=st
  exact⟨_,e,fun v z=>nomatch z⟩
 keep:=fun i h h' st k=>by
  obtain⟨ok,ov,e⟩:=st
  exact⟨ok,ov,k it (by simp) _ e⟩
 item:=by
  intro X hP hw hK hc i pins s σ H E I hf st hg
  subst hP hw hK
  obtain⟨hz,hi⟩:=hg
  obtain⟨ok,ov,st⟩:=st
  obtain⟨hm,vs,r,da⟩:=Rr I.hok hz hd
  have hl:kvs.length = vs.length:=Paired.length r
  obtain⟨f0,f1,f2,f3,f4,f5⟩:=hf it (by simp)
  obtain⟨v,hv,rv⟩:=Aes (i:=i) (kv:=kvs[i]) r (getElem?_eq_getElem hi)
  have hit:it < s.heap.objs.size:=lt_size st
  have hne:s.heap.objs.size ≠ it:=Nat.ne_of_gt hit
  have hfr:H s.heap.objs.size = none:=I.hok.fresh (Nat.le_refl _)
  rw[hl] at st
  refine wpAny_pyNext_items_item st da hv fun key h' hkey ho hT hsz hk=>⟨_,rfl,?_⟩
  refine wpAny_letOwnedTupleGo_items (s:={ s with heap:=h' }) ho fun h2 he hs=>?_
  have hs2:∀ b,b ≠ it->h2.get? b = h'.get? b:=hs.2
  have kp:∀ b o,b ≠ it->s.heap.get? b = some o->h2.get? b = some o:=fun b o hb e=>(hs2 b hb).trans (hk b o hb e)
  have hT2:h2.get? s.heap.objs.size = some { cls:=.type "tuple",data:=.seq #[key,v] }:=(hs2 _ hne).trans hT
  have nt:∀ b u,H b = some u->b ≠ s.heap.objs.size:=fun b u e=>Bu e hfr
  rw[<- hl] at he
  refine⟨.ref s.heap.objs.size,upd H s.heap.objs.size (.tup [kV (kvs[i]).1,(kvs[i]).2]),?_,rfl,⟨_,_,hfr,getElem?_eq_getElem hi,rfl,rfl⟩,⟨_,_,he⟩,fun b hb=>?_⟩
  ·refine Inv.step (s:=s) (h':=h2) I (g':=s.gens) (d':=s.drawn) (t':=s.toks) (ch:=[it]) (fun b hb=>?_) (fun b o _ _ hc e _=>kp b o (fun z=>hc (by simp [z])) e) (fun b o _ _ hc e _=>⟨o.slots,kp b o (fun z=>hc (by simp [z])) e⟩)
    (fun b o hc e n=>by rw[Bk (ne_of_lt (lt_size e))]; exact n) (fun b o hc e=>⟨o,kp b o (fun z=>hc (by simp [z])) e⟩) (fun b xs e=>by rw[Bk (nt b _ e)]; exact e) (fun b o u e=>by rw[Bk (nt b _ e)]; exact e)
    (fun b ps e=>⟨#[],by rw[Bk (nt b _ e),e]; simp⟩) (fun m hm=>?_) (fun b u e=>?_) I.bare
   ·have e:b = it:=by simpa using hb
    subst e
    exact⟨f3,f1,f4,f5⟩
   ·obtain⟨o,es,ep,ho,r⟩:=hm
    exact⟨o,es,ep,kp _ o (Ne.symm f1) ho,r⟩
   ·by_cases hb:b = s.heap.objs.size
    ·subst hb
     rw[Bp] at e
     cases e
     exact⟨by show 2 <= sizeLine; decide,[key,v],.cons (AbM hkey) (.cons rv .nil),_,hT2,rfl,_,rfl⟩
    ·rw[Bk hb] at e
     have nit:∀ c w,H c = some w->c ≠ it:=fun c w e z=>by rw[z,f0] at e; cases e
     refine (I.hok b u e).stay (fun c v hc q=>kp c v ?_ q) (fun c q=>by rw[Bk (nt c _ q)]; exact q) fun c xs q=>by rw[Bk (nt c _ q)]; exact q
     rcases hc with z | z
     ·rw[z]; exact nit b u e
     ·exact nit c _ z
  ·have e:b = it:=by simpa using hb
   rw[e,Bk (Ne.symm hne)]
   exact f0
 done:=by
  intro X hP hw hK hc i pins s σ H E I hf st hg
  subst hP hw hK
  obtain⟨hz,hi⟩:=hg
  obtain⟨ok,ov,st⟩:=st
  obtain⟨hm,vs,r,da⟩:=Rr I.hok hz hd
  have hl:kvs.length = vs.length:=Paired.length r
  obtain⟨f0,f1,f2,f3,f4,f5⟩:=hf it (by simp)
  rw[hl] at st
  exact wpAny_pyNext_items_end (I.ok.hd hc) st da (getElem?_eq_none (by omega)) fun h' eb=>⟨rfl,I.turned (t':=s.toks) (fun b o hb e=>eb b o hb e) f0 f1 f3 f4 f5⟩
 self:=fun A i s Q E st h=>by
  obtain⟨ok,ov,e⟩:=st
  exact PySem.W.kcp_self e h
section
variable {X:Cx} {elts:List Expr} {x1:Nat} {tp apos cpos:Pos}
def iDi (tl:TE):TI:=fun σ H R=>tl σ H fun x H1=>∃ a o kvs,x = .ref a/\H1 a = some (.frz o (.dK kvs))/\R (Iti a o kvs) H1
theorem Aew {l:Expr} {tl:TE} (hl:PE X l tl) (hbase:attributeBase l "items" X.env (eval l X.env) = eval l X.env:=by rfl) (hline:(apos.endLine == cpos.line) = true:=by rfl) :
  PI X (.Tuple elts x1 tp) (.Call (.Attribute l "items" apos) [] [] cpos) (iDi tl):=by
 intro pins s σ H R I h
 refine wpAny_Call_method0_late hbase hline (thn (hl pins s σ H _ I h) fun v s1 ⟨x,H1,I1,r1,q1⟩=>?_)
 obtain⟨a,o,kvs,e,hz,q⟩:=q1
 subst e
 cases r1
 obtain⟨ho,_,hm,vs,r,o',es,ep,h1,h2,h3,h4⟩:=(show ObjOk X.prog X.w H1 s1.heap a (.frz o (.dK kvs)) from I1.hok a _ hz)
 rw[ho] at h1
 cases h1
 have hlen:kvs.length = vs.length:=Paired.length r
 have da:s1.heap.DictAt (Dq X.prog X.w) a vs ep:=⟨o,es,ho,h2,h3,h4⟩
 refine⟨"dict","dict.items",plainAttrs_dict,PySem.F.slot_dict_items,PySem.F.type_dict_items,⟨o,ho,h2.1⟩,fun b eb=>?_,Calls.callWith_builtin rfl (PySem.evalArgs_none ?_)⟩
 ·cases eb
  exact⟨o,ho,h2.2.1⟩
 refine call_meetsIn PySem.F.slot_dict_items da.dictOf.typeIs PySem.F.entry_dict_items (PySem.F.args_dict_items_1 _) (meets_dict_items (Dq X.prog X.w) a hm) ⟨⟨vs,da.dictOf⟩,?_⟩
 refine wpAny_pyIter_items (s:={ s1 with heap:=s1.heap.push { cls:=.type "dict_items",data:=.fields #[.ref a] } }) (knd:=Dq X.prog X.w) (kvs:=vs) (ep:=ep) ⟨_,get?_push_size _ rfl,rfl,rfl⟩ (da.push _) ?_
 have I2:Inv X pins σ H1 { s1 with heap:=s1.heap.push { cls:=.type "dict_items",data:=.fields #[.ref a] } }:=I1.kept (t':=s1.toks) fun b o e=>get?_push_of_some _ e
 refine⟨_,[_],_,_,H1,rfl,I2.kept (t':=s1.toks) fun b o e=>get?_push_of_some _ e,Acx a _ o kvs es ep h3,⟨.none,.none,by rw[hlen]; exact get?_push_size _ rfl⟩,fun b hb=>?_,q⟩
 have e:=mem_singleton.mp hb
 subst e
 exact I2.fpOk (Nat.le_refl _) (I2.hok.fresh (Nat.le_refl _))
theorem AcL {a:Addr} {o:Obj} {kvs:List (Key × V)} {g:TG} {tb:TS} {D:Ends} {σ:St} {H:Hp} (Pv:Nat->St->Hp->Prop) (h0:Pv 0 σ H) (hl:∀ i σ H,i <= kvs.length->Pv i σ H->H a = some (.frz o (.dK kvs)))
  (hs:∀ i kv t σ H,kvs[i]? = some kv->H t = none->Pv i σ H->g (.ref t) σ (upd H t (.tup [kV kv.1,kv.2])) fun σ2 H2=>tb { D with nx:=Pv (i + 1),ct:=Pv (i + 1),bk:=D.nx } σ2 H2) (hd:∀ σ H,Pv kvs.length σ H->D.nx σ H) :
  ∃ W:Nat->Nat->St->Hp->Prop,(∃ m,W 0 m σ H)/\∀ i m σ H,W i m σ H ->
   ((Iti a o kvs).stop i H/\D.nx σ H)\/((Iti a o kvs).go i H/\∃ N:St->Hp->Prop,(∀ σ' H',N σ' H'->∃ m',m' < m/\W (i + 1) m' σ' H')/\∀ x H',(Iti a o kvs).yld i H x H'->g x σ H' fun σ2 H2=>tb { D with nx:=N,ct:=N,bk:=D.nx } σ2 H2):=by
 refine⟨fun i m σ H=>m = kvs.length - i/\i <= kvs.length/\Pv i σ H,⟨kvs.length,by simp,zero_le _,h0⟩,?_⟩
 rintro i m σ H ⟨rfl,hi,p⟩
 have q:=hl i σ H hi p
 by_cases hlt:i < kvs.length
 ·refine .inr ⟨⟨q,hlt⟩,Pv (i + 1),fun σ' H' p'=>⟨kvs.length - (i + 1),by omega,rfl,hlt,p'⟩,fun x H' y=>?_⟩
  obtain⟨t,kv,ht,y1,y2,y3⟩:=y
  subst y2 y3
  exact hs i kv t σ _ y1 ht p
 ·have e:i = kvs.length:=by omega
  subst e
  exact .inl ⟨⟨q,Nat.le_refl _⟩,hd σ H p⟩
end
section
variable {σ:St} {H:Hp} {Q:VK} {B:Bool->Hp->Prop} {v x y:V} {ta tb tc:TE} {tA tB':TT} {D:Ends} {t u:TS} {K:Frag}
theorem AmC {i:Nat} (h:σ[i]? = some (some v)) (q:Q v H):Gq i σ H Q:=⟨v,h,q⟩
theorem i_c (q:Q v H):tC v σ H Q:=q
theorem An4 {r:R2} (q:ta σ H fun x H1=>tb σ H1 fun y H2=>r x y H2 Q):tOp r ta tb σ H Q:=q
theorem AnR {r:V->Hp->VK->Prop} (q:ta σ H fun x H1=>r x H1 Q):tUn r ta σ H Q:=q
theorem Aok {g:Int->V} {i:Int} (q:Q (g i) H):rU g (.int i) H Q:=⟨i,rfl,q⟩
theorem Am3 {g:Int->Int->V} {i j:Int} (q:Q (g i j) H):rI0 g (.int i) (.int j) H Q:=⟨i,j,rfl,rfl,q⟩
theorem AhF {i j:Int}:decide (V.int i = V.int j) = decide (i = j):=by
 by_cases h:i = j
 ·subst h; simp
 ·rw[decide_eq_false h,decide_eq_false fun e=>h (V.int.inj e)]
theorem Ahl {i j:Str}:decide (V.str i = V.str j) = decide (i = j):=by
 by_cases h:i = j
 ·subst h; simp
 ·rw[decide_eq_false h,decide_eq_false fun e=>h (V.str.inj e)]
theorem AhJ {i j:Int} (q:Q (.bl (decide (i = j))) H):rEq (.int i) (.int j) H Q:=⟨rfl,by rw[AhF]; exact q⟩
theorem Ais {i j:Str} (q:Q (.bl (decide (i = j))) H):rEq (.str i) (.str j) H Q:=⟨rfl,by rw[Ahl]; exact q⟩
theorem Ahz {i j:Int} (q:Q (.bl (!decide (i = j))) H):rNe (.int i) (.int j) H Q:=⟨rfl,by rw[AhF]; exact q⟩
theorem Ahw {i j:Str} (q:Q (.bl (!decide (i = j))) H):rNe (.str i) (.str j) H Q:=⟨rfl,by rw[Ahl]; exact q⟩
theorem Aom {t:TE} (q:t σ H fun x H1=>∃ c,x = .bl c/\B c H1):tB t σ H B:=q
theorem AlR {t:TE} (q:t σ H fun x H1=>∃ c,x = .bl c/\B c H1):Acl t σ H B:=q
theorem Ant {b:Bool} {P:Bool->Prop} (q:P b):∃ c,V.bl b = V.bl c/\P c:=⟨b,rfl,q⟩
theorem Any (q:tA σ H fun c H1=>if c = true then tB' σ H1 B else B false H1):AgE tA tB' σ H B:=q
theorem An1 (q:tA σ H fun c H1=>if c = true then B true H1 else tB' σ H1 B):tOr tA tB' σ H B:=q
theorem Anp (q:tA σ H fun c H1=>B (!c) H1):AgD tA σ H B:=q
theorem AlQ (q:ta σ H fun x H1=>∃ c,x = .bl c/\if c = true then tb σ H1 Q else Q (.bl false) H1):Acn ta tb σ H Q:=q
theorem Akl (q:ta σ H fun x H1=>∃ c,x = .bl c/\Q (.bl (!c)) H1):Ahm ta σ H Q:=q
theorem Ab9 (q:t { D with nx:=u D } σ H):AfX t u D σ H:=q
theorem An9 (q:D.nx σ H):Adg D σ H:=q
theorem Alj (q:ta σ H fun _ H1=>D.nx σ H1):Vw ta D σ H:=q
theorem Anl (q:ta σ H D.rt):Xh ta D σ H:=q
theorem AnU (q:tA σ H fun b H1=>if b = true then t D σ H1 else u D σ H1):Af5 tA t u D σ H:=q
theorem AmU {g:TG} (q:ta σ H fun x H1=>g x σ H1 D.nx):Th ta g D σ H:=q
theorem Ajl {i:Nat} {R:St->Hp->Prop} (q:R (σ.set i (some v)) H):Na i v σ H R:=q
theorem Akz {n:Nat} {a:Addr} {xs:List V} {g:TGs} {R:St->Hp->Prop} (h:SqT K H a xs) (hl:xs.length = n) (q:g xs σ H R):AaC K n g (.ref a) σ H R:=⟨a,xs,rfl,h,hl,q⟩
theorem AiY {g:TG} {gs:TGs} {vs:List V} {R:St->Hp->Prop} (q:g v σ H fun σ' H'=>gs vs σ' H' R):Ac6 g gs (v :: vs) σ H R:=⟨v,vs,rfl,q⟩
theorem Amg {R:St->Hp->Prop} (q:R σ H):Agp [] σ H R:=⟨rfl,q⟩
theorem Aj9 {sp:Sp} {dvs:List V} {E:XK} {t:TA} (q:t σ H fun vs H1=>sp (vs ++ dvs) H1 Q E):Ro sp dvs E t σ H Q:=q
theorem Amh {C:Addr} {m:Str} {sp:Sp} {dvs:List V} {E:XK} {t:TA} (q:ta σ H fun x H1=>∃ a dx fs,x = .ref a/\H1 a = some (.ins C dx fs)/\fs.lookup m = none/\t σ H1 fun vs H2=>sp (x :: (vs ++ dvs)) H2 Q E):Ue C m sp dvs E ta t σ H Q:=q
theorem AmW {R:List V->Hp->Prop} (q:R [] H):Ou σ H R:=q
theorem AjV {tr:TA} {R:List V->Hp->Prop} (q:ta σ H fun x H1=>tr σ H1 fun xs H2=>R (x :: xs) H2):Go ta tr σ H R:=q
theorem AmF {t:TA} (q:t σ H fun xs H1=>xs.length <= sizeLine/\∀ p,H1 p = none->Q (.ref p) (upd H1 p (.tup xs))):AlK t σ H Q:=q
theorem Anw {f:Str} (q:ta σ H fun x H1=>∃ a C dx fs v,x = .ref a/\H1 a = some (.ins C dx fs)/\Cls K C/\NoAttr K C f/\fs.lookup f = some v/\Q v H1):AjO K ta f σ H Q:=q
theorem Aol {r:List V->Hp->VK->Prop} {t:TA} (q:t σ H fun vs H1=>r vs H1 Q):tCB r t σ H Q:=q
theorem AmL (q:ta σ H fun y H1=>tb σ H1 fun x H2=>∃ a o,x = .ref a/\DGet H2 a y o/\Q (.bl o.isSome) H2):AgK ta tb σ H Q:=q
theorem AgU (q:ta σ H fun y H1=>tb σ H1 fun x H2=>∃ a o,x = .ref a/\DGet H2 a y o/\Q (.bl (!o.isSome)) H2):AbN ta tb σ H Q:=q
theorem AkG (q:ta σ H fun x H1=>tb σ H1 fun y H2=>∃ a v,x = .ref a/\DGet H2 a y (some v)/\Q v H2):Zb ta tb σ H Q:=q
theorem AiP (q:ta σ H fun x H1=>∃ a,x = .ref a/\IsD H1 a/\tb σ H1 fun y H2=>∃ o,DGet H2 a y o/\Q (o.getD .non) H2):AeH ta tb σ H Q:=q
theorem AjI (q:ta σ H fun x H1=>∃ a,x = .ref a/\IsD H1 a/\tb σ H1 fun y H2=>tc σ H2 fun z H3=>∃ o,DGet H3 a y o/\Q (o.getD z) H3):AaO ta tb tc σ H Q:=q
theorem AjP (q:tc σ H fun v H1=>ta σ H1 fun x H2=>tb σ H2 fun y H3=>∃ a H4,x = .ref a/\DPut H3 a y v H4/\D.nx σ H4):AcF ta tb tc D σ H:=q
theorem Akt {f:Str} (q:tb σ H fun y H1=>ta σ H1 fun x H2=>∃ a C dx fs,x = .ref a/\H2 a = some (.ins C dx fs)/\Cls K C/\NoAttr K C f/\fs.length < 1000/\D.nx σ (upd H2 a (.ins C dx (Bx f y fs)))):Ala K ta tb f D σ H:=q
theorem AnZ {T:String} {r:V->List V->Hp->VK->Prop} {t:TA} (q:ta σ H fun x H1=>tyV K T x H1/\t σ H1 fun xs H2=>r x xs H2 Q):tBM K T r ta t σ H Q:=q
theorem Ale (q:∀ p,H p = none->Q (.ref p) (upd H p (.dK []))):Zn σ H Q:=q
theorem Ak1 (q:∀ p,H p = none->Q (.ref p) (upd H p (.dT []))):Ae9 σ H Q:=q
theorem Nv {i:Nat} {a:Addr} {xs:List V} {g:TG} (hv:σ[i]? = some (some (.ref a))) (hS:SqL K H a xs) (Pv:Nat->St->Hp->Prop) (h0:Pv 0 σ H) (hl:∀ i σ H,i <= xs.length->Pv i σ H->SqL K H a xs)
  (hs:∀ i x σ H,xs[i]? = some x->Pv i σ H->g x σ H fun σ2 H2=>t { D with nx:=Pv (i + 1),ct:=Pv (i + 1),bk:=D.nx } σ2 H2) (hd:∀ σ H,Pv xs.length σ H->D.nx σ H):Qk (Sc K (Gq i)) g t D σ H :=
 ⟨_,hv,a,rfl,⟨_,hS⟩,Sb Pv h0 hl hs hd⟩
theorem AmR {ta:TA} {R:It->Hp->Prop} (q:ta σ H fun vs H1=>∃ j:Int,vs = [.int j]/\-(2 ^ 62) <= j/\j < 2 ^ 62/\R (Itr 0 j.toNat) H1):Vq ta σ H R:=q
theorem Aof {R:It->Hp->Prop} (q:ta σ H fun x H1=>∃ a,x = .ref a/\(∃ xs,SqL K H1 a xs)/\R (Itl K a) H1):Sc K ta σ H R:=q
theorem AjK {i:Nat} {a:Addr} {kvs:List (Key × V)} {g:TG} (hv:σ[i]? = some (some (.ref a))) (hS:H a = some (.dK kvs)) (Pv:Nat->St->Hp->Prop) (h0:Pv 0 σ H)
  (hl:∀ i σ H,i <= kvs.length->Pv i σ H->H a = some (.dK kvs))
  (hs:∀ o i kv σ H,kvs[i]? = some kv->Pv i σ H->g (kV kv.1) σ (upd H a (.frz o (.dK kvs))) fun σ2 H2=>t (Ends.mk (fun σ H=>H a = some (.frz o (.dK kvs))/\Pv (i + 1) σ (upd H a (.dK kvs))) (Rh a (.dK kvs) D).rt (Rh a (.dK kvs) D).nx (fun σ H=>H a = some (.frz o (.dK kvs))/\Pv (i + 1) σ (upd H a (.dK kvs)))) σ2 H2)
  (hd:∀ σ H,Pv kvs.length σ H->D.nx σ H):AcE (Qk (iDk (Gq i)) g t) D σ H:=by
 refine⟨a,.dK kvs,trivial,hS,fun o=>⟨_,hv,a,o,kvs,rfl,Bp,AdQ (fun i σ H=>H a = some (.frz o (.dK kvs))/\Pv i σ (upd H a (.dK kvs))) ⟨Bp,?_⟩ (fun i σ H _ p=>p.1) (fun i kv σ H e p=>?_) fun σ H p=>⟨o,p.1,hd σ _ p.2⟩⟩⟩
 ·have e:upd (upd H a (.frz o (.dK kvs))) a (.dK kvs) = H:=by
   rw[Gz]; funext b; unfold upd; split
   ·rename_i h; rw[h,hS]
   ·rfl
  rw[e]; exact h0
 ·have e2:upd (upd H a (.dK kvs)) a (.frz o (.dK kvs)) = H:=by
   rw[Gz]; funext b; unfold upd; split
   ·rename_i h; rw[h,p.1]
   ·rfl
  have q:=hs o i kv σ _ e p.2
  rw[e2] at q
  exact q
theorem AjX {i:Nat} {a:Addr} {kvs:List (Key × V)} {g:TG} (hv:σ[i]? = some (some (.ref a))) (hS:H a = some (.dK kvs)) (Pv:Nat->St->Hp->Prop) (h0:Pv 0 σ H)
  (hs:∀ o i kv p σ H,kvs[i]? = some kv->H p = none->p ≠ a->Pv i σ H->g (.ref p) σ (upd (upd H a (.frz o (.dK kvs))) p (.tup [kV kv.1,kv.2])) fun σ2 H2=>t (Ends.mk (fun σ H=>H a = some (.frz o (.dK kvs))/\Pv (i + 1) σ (upd H a (.dK kvs))) (Rh a (.dK kvs) D).rt (Rh a (.dK kvs) D).nx (fun σ H=>H a = some (.frz o (.dK kvs))/\Pv (i + 1) σ (upd H a (.dK kvs)))) σ2 H2)
  (hd:∀ σ H,Pv kvs.length σ H->D.nx σ H):AcE (Qk (iDi (Gq i)) g t) D σ H:=by
 refine⟨a,.dK kvs,trivial,hS,fun o=>⟨_,hv,a,o,kvs,rfl,Bp,AcL (fun i σ H=>H a = some (.frz o (.dK kvs))/\Pv i σ (upd H a (.dK kvs))) ⟨Bp,?_⟩ (fun i σ H _ p=>p.1) (fun i kv p σ H e hp w=>?_) fun σ H p=>⟨o,p.1,hd σ _ p.2⟩⟩⟩
 ·have e:upd (upd H a (.frz o (.dK kvs))) a (.dK kvs) = H:=by
   rw[Gz]; funext b; unfold upd; split
   ·rename_i h; rw[h,hS]
   ·rfl
  rw[e]; exact h0
 ·have e2:upd (upd H a (.dK kvs)) a (.frz o (.dK kvs)) = H:=by
   rw[Gz]; funext b; unfold upd; split
   ·rename_i h; rw[h,w.1]
   ·rfl
  have ne:p ≠ a:=fun z=>by rw[z,w.1] at hp; cases hp
  have q:=hs o i kv p σ (upd H a (.dK kvs)) e (by rw[Bk ne]; exact hp) ne w.2
  rw[e2] at q
  exact q
theorem AiN {ta:TA} {g:TG} {hi:Int} {n:Nat} (hargs:∀ R:List V->Hp->Prop,R [.int hi] H->ta σ H R) (hb:-(2 ^ 62) <= hi/\hi < 2 ^ 62) (hn:hi.toNat = n) (Pv:Nat->St->Hp->Prop) (h0:Pv 0 σ H)
  (hs:∀ i σ H,i < n->Pv i σ H->g (.int (0 + i)) σ H fun σ2 H2=>t { D with nx:=Pv (i + 1),ct:=Pv (i + 1),bk:=D.nx } σ2 H2) (hd:∀ σ H,Pv n σ H->D.nx σ H):Qk (Vq ta) g t D σ H :=
 hargs _ ⟨hi,rfl,hb.1,hb.2,by rw[hn]; exact Yq Pv h0 hs hd⟩
end
def Fh (fn:List Str) (env:Env):List (Str × Addr):=fn.map fun x=>(x,(env.cells.lookup x).getD 0)
theorem Ur {env:Env}:∀ {fn:List Str} {x:Str} {c:Addr},(Fh fn env).lookup x = some c->x ∈ fn/\c = (env.cells.lookup x).getD 0
 | [],_,_,h=>by cases h
 | y :: r,x,c,h=>by
  unfold Fh at h
  rw[map_cons,lookup_cons] at h
  cases e:x == y with
  | true =>
   rw[e] at h
   have:x = y:=eq_of_beq e
   subst this
   cases h
   exact⟨mem_cons_self,rfl⟩
  | false =>
   rw[e] at h
   obtain⟨h1,h2⟩:=Ur (fn:=r) (x:=x) (c:=c) h
   exact⟨mem_cons_of_mem _ h1,h2⟩
theorem Vb {env:Env}:∀ {fn:List Str} {x:Str},x ∈ fn->(Fh fn env).lookup x = some ((env.cells.lookup x).getD 0)
 | [],_,h=>by cases h
 | y :: r,x,h=>by
  unfold Fh
  rw[map_cons,lookup_cons]
  cases e:x == y with
  | true =>
   have:x = y:=eq_of_beq e
   subst this
   rfl
  | false =>
   rcases mem_cons.mp h with z | z
   ·subst z; rw[beq_self_eq_true] at e; cases e
   ·exact Vb z
def Dz (X:Cx) (scope:Scope) (N' fn:List Str) (C:Addr) (fp:List Addr) (s:Shared) (H:Hp):Cx :=
 { X with N:=N',s₀:=s,H₀:=H,env:=compEnvC scope (Fh fn X.env) C X.env,outer:=X.stack,stack:=X.stack,ex:=fp,fn:=fun _=>false,pn:=[],xe:=fun _ _=>False }
def compσ (k:Nat) (fr:List Nat) (σ:St):St:=replicate k none ++ fr.map fun i=>(σ[i]?).join
def Lw (wi:TI) (g:TG) (tc:TT) (te:TE) (k:Nat) (fr:List Nat):TE:=fun σ H Q=>wi σ H fun J H1=>∀ D,H1 D = none ->
 ∃ W:Nat->Nat->Hp->Prop,(∃ m,W 0 m (upd H1 D (.lst [])))/\∀ i m H,W i m H->(J.stop i H/\Q (.ref D) H)\/(J.go i H/\∀ x H',J.yld i H x H'->g x (compσ k fr σ) H' fun σ2 H2 =>
  σ2.drop k = (compσ k fr σ).drop k/\tc σ2 H2 fun b H3=>if b = true then te σ2 H3 (fun y H4=>∃ ys,H4 D = some (.lst ys)/\ys.length < sizeLine/\∃ m',m' < m/\W (i + 1) m' (upd H4 D (.lst (ys ++ [y])))) else ∃ m',m' < m/\W (i + 1) m' H3)
def Qi (X:Cx) (ifs:List Expr) (t:TT):Prop :=
 ∀ (pins:List (Addr × Obj)) (s:Shared) (σ:St) (H:Hp) (Q:Bool->Hp->Prop),Inv X pins σ H s->t σ H Q ->
  wpAny (model X.prog X.w) X.A (forIn ifs true fun c r=>if r = true then do let ok <- isTrue c X.env (eval c X.env); pure (ForInStep.yield ok) else pure (ForInStep.yield r)) (TP X pins σ Q) X.xe s
def Ahr:TT:=fun _ H Q=>Q true H
theorem Jo {X:Cx}:Qi X [] Ahr:=fun _ _ _ H _ I h=>wpAny_tests_nil ⟨H,I,h⟩
theorem Nc {X:Cx} {c:Expr} {t:TT} (h:PT X c t):Qi X [c] t:=fun pins s σ H Q I q=>wpAny_tests_one (h pins s σ H Q I q)
theorem AeJ {prog:Program} {w:World} {A:Around} {R:Result->Shared->Prop} {s:Shared} {elt target iter:Expr} {ifs:List Expr} {scope:Scope} {pos:Pos} {it acc:Value} {env:Env} (I:Nat->Shared->Prop)
  (turn:∀ n s,I n s->wpAny (model prog w) A (pyNext it) (fun r s₁=>match r with
   | none=>R (.ok .next) s₁
   | some v=>wpAny (model prog w) A (letOwnedTupleGo target it v) (fun _ s₁'=>wpAny (model prog w) A (assign target env v) (fun _ s₂ =>
     wpAny (model prog w) A (forIn ifs true fun c r=>if r = true then do let ok <- isTrue c env (eval c env); pure (ForInStep.yield ok) else pure (ForInStep.yield r)) (fun ok s₃ =>
      if ok = true then wpAny (model prog w) A (eval elt env) (fun x s₄ =>
       wpAny (model prog w) A (call (.builtin "list.append") [acc,x]) (fun _ s₅=>∃ m,m < n/\I m s₅) (fun _ _=>False) s₄) (fun _ _=>False) s₃
      else ∃ m,m < n/\I m s₃) (fun _ _=>False) s₂) (fun _ _=>False) s₁') (fun _ _=>False) s₁) (fun _ _=>False) s)
  (n:Nat) (h:I n s) :
  codeAny (model prog w) A (.compLoop (.ListComp elt [⟨target,iter,ifs,0⟩] scope pos) 0 it acc env) R s:=by
 refine codeAny_loop rfl I (fun n s hI=>?_) n h
 show wpAny _ A ((compTurn (.ListComp elt [⟨target,iter,ifs,0⟩] scope pos) 0 it acc env).onRaise (fun x=>do noteFrame x env; theTreesLotGoes x)) _ _ s
 refine wpAny_noted ?_
 rw[compTurn_list]
 refine wpAny_bind (wpAny_standAt (wpAny_bind (wpAny_mono (turn n s hI) (fun r s₁ h₁=>?_) fun _ _ h'=>h'.elim)))
 cases r with
 | none=>exact wpAny_pure h₁
 | some v =>
  refine wpAny_bind (wpAny_mono h₁ (fun _ s₁' h₁'=>?_) fun _ _ h'=>h'.elim)
  refine wpAny_bind (wpAny_mono h₁' (fun _ s₂ h₂=>wpAny_bind (wpAny_mono h₂ (fun ok s₃ h₃=>?_) fun _ _ h'=>h'.elim)) fun _ _ h'=>h'.elim)
  cases ok with
  | false=>exact wpAny_pure ⟨rfl,h₃⟩
  | true =>
   exact wpAny_bind (wpAny_bind (wpAny_mono h₃ (fun x s₄ h₄=>wpAny_bind (wpAny_mono h₄ (fun _ s₅ h₅=>wpAny_pure (wpAny_pure ⟨rfl,h₅⟩)) fun _ _ h'=>h'.elim)) fun _ _ h'=>h'.elim))
theorem compσ_len (k:Nat) (fr:List Nat) (σ:St):(compσ k fr σ).length = k + fr.length:=by
 unfold compσ; rw[length_append,length_replicate,length_map]
theorem compσ_weak {k:Nat} {fr:List Nat} {σ σ2:St} (hd:σ2.drop k = (compσ k fr σ).drop k):∀ (i:Nat) v,(compσ k fr σ)[i]? = some (some v)->σ2[i]? = some (some v):=by
 intro i v h
 by_cases hi:i < k
 ·unfold compσ at h
  rw[getElem?_append_left (by rw[length_replicate]; exact hi),getElem?_replicate] at h
  rw[if_pos hi] at h; cases h
 ·have e:∀ l:St,l[i]? = (l.drop k)[i - k]?:=fun l=>by rw[List.getElem?_drop]; congr 1; omega
  rw[e] at h ⊢
  rw[hd]; exact h
theorem Inv.nsch {X:Cx} {pins:List (Addr × Obj)} {σ:St} {H:Hp} {s:Shared} {C:Addr} {h':Heap} (I:Inv X pins σ H s) (sb:SameBut C s.heap h') (hC:H C = none) (h1:X.s₀.heap.objs.size <= C) (h2:C ≠ X.env.locals)
  (h3:∀ x c,X.env.cells.lookup x = some c->c ≠ C) (h4:∀ p ∈ X.pn ++ pins,p.1 ≠ C):Inv X pins σ H { s with heap:=h' }:=by
 have nc:∀ b:Addr,b ∉ [C]->b ≠ C:=fun b z w=>z (by rw[w]; exact mem_cons_self)
 refine Inv.call (s:=s) I (h':=h') (g':=s.gens) (d':=s.drawn) (t':=s.toks) (ch:=[C]) ⟨fun b o e n _ hx=>(sb.2 b (nc b hx)).trans e,fun b o e n _ hx=>⟨o.slots,(sb.2 b (nc b hx)).trans e⟩,fun _ _ _ n _=>n,fun b o e hx=>⟨o,(sb.2 b (nc b hx)).trans e⟩,fun _ _ e=>e,fun _ _ _ e=>e,fun b ps e=>⟨#[],by rw[Array.append_empty]; exact e⟩⟩ (fun b u e=>?_) I.bare (fun b hb=>?_)
 ·refine (I.hok b u e).stay (fun c v hc' q'=>(sb.2 c ?_).trans q') (fun _ q'=>q') fun _ _ q'=>q'
  rcases hc' with w | w
  ·rw[w]; exact Bu e hC
  ·exact Bu w hC
 ·rw[mem_singleton.mp hb]
  exact⟨.inr h1,h2,h3,h4⟩
theorem Xy {X:Cx} {elt tg iter:Expr} {ifs:List Expr} {scope:Scope} {pos:Pos} {wi:TI} {g:TG} {tc:TT} {te:TE} {k:Nat} {fr:List Nat} {N' fn:List Str} (hc:X.calm = true)
  (hi:PI X tg iter wi) (hN:N'.length = k + fr.length)
  (hfr:∀ j y,N'[k + j]? = some y->∀ i,fr[j]? = some i->X.N[i]? = some y/\X.env.kindOf y = some .cell/\(compEnvC scope (Fh fn X.env) 0 X.env).kindOf y = some .cell/\y ∈ fn)
  (hfn:∀ y ∈ fn,X.env.kindOf y = some .cell)
  (hkd:∀ y,((compEnvC scope (Fh fn X.env) 0 X.env).kindOf y = some .cell\/(compEnvC scope (Fh fn X.env) 0 X.env).kindOf y = some .free)->y ∈ fn)
  (hg:∀ C fp s H,PG (Dz X scope N' fn C fp s H) tg g) (ht:∀ C fp s H,Qi (Dz X scope N' fn C fp s H) ifs tc) (he:∀ C fp s H,PE (Dz X scope N' fn C fp s H) elt te)
  (hclos:closureFor scope X.env = pure (Fh fn X.env)) (hcell:∀ y ∈ scope.names,y.2 ≠ .cell) (hkind:scope.kind = .function) (hnames:∀ y ∈ scope.names,y.2 = .local->scope.names.lookup y.1 = some .local)
  (hs:∀ x,foldedSetIterable iter X.env x = pure x:=by intro _; rfl) {pins:List (Addr × Obj)} {s:Shared} {σ:St} {H:Hp} {Q:VK} {use:Option (Value->Sem Unit)} {Qc:Value->Shared->Prop} {cpos:Pos} (I:Inv X pins σ H s) (h:Lw wi g tc te k fr σ H Q)
  (fin:∀ (H3:Hp) (s4:Shared) (D C:Addr) (m:Str->Option Value),s4.heap.Ns C m->Inv X pins σ H3 s4->H3 C = none->X.s₀.heap.objs.size <= C->C ≠ X.env.locals->(∀ x c,X.env.cells.lookup x = some c->c ≠ C)->(∀ p ∈ X.pn ++ pins,p.1 ≠ C)->Q (.ref D) H3 ->
   compPost (model X.prog X.w) X.A X.xe use Qc (.ref D) C (.ok .next) s4) :
  wpAny (model X.prog X.w) X.A (comprehension (.ListComp elt [⟨tg,iter,ifs,0⟩] scope pos) scope X.env cpos (newList []) false (eval iter X.env) use) Qc X.xe s:=by
 refine wpAny_comprehension_free (use:=use) rfl hs hclos hkind hnames (thn (hi pins s σ H _ I h) fun v s1 h1=>thn h1 fun itv s2 h2=>?_)
 obtain⟨it,fp,tn,J,H2,e,I2,T,st2,f2,q⟩:=h2
 subst e
 have hfr2:H2 s2.heap.objs.size = none:=I2.hok.fresh (Nat.le_refl _)
 obtain⟨W,⟨m0,w0⟩,turn⟩:=q s2.heap.objs.size hfr2
 refine wpAny_newObj_type (wpAny_newFunctionEnv hcell (by intro y hy; simp at hy) (fun h₁ hns₁ hsb₁=>?_) hkind)
 dsimp only at hns₁ hsb₁ ⊢
 generalize hHH:s2.heap.push { cls:=.type "list",dict:=none,data:=.seq ([]:List Value).toArray } = HH at hns₁ hsb₁ ⊢
 have hC:HH.objs.size = s2.heap.objs.size + 1:=by rw[<- hHH,Heap.size_push]
 have hDC:s2.heap.objs.size ≠ HH.objs.size:=by rw[hC]; exact ne_of_lt (lt_succ_self _)
 have hCle:s2.heap.objs.size <= HH.objs.size:=by rw[hC]; exact le_succ _
 have below:∀ b,b < s2.heap.objs.size->b ≠ HH.objs.size:=fun b hb=>by rw[hC]; exact ne_of_lt (Nat.lt_succ_of_lt hb)
 have old:∀ b o,s2.heap.get? b = some o->h₁.get? b = some o:=fun b o e=>hsb₁.extBut b o (below b (lt_size e)) (get?_push_of_some _ (hHH ▸ get?_push_of_some _ e))
 have hacc:h₁.get? s2.heap.objs.size = some { cls:=.type "list",dict:=none,data:=.seq ([]:List Value).toArray }:=hsb₁.extBut _ _ hDC (get?_push_of_some _ (hHH ▸ get?_push_size _ rfl))
 have hst₁:tn 0 h₁:=T.keep _ _ _ st2 fun b _ o e=>old b o e
 -- the cells from around
 have hcl:∀ x c,(Fh fn X.env).lookup x = some c->X.env.cells.lookup x = some c:=fun x c e=>by
  obtain⟨h1,h2⟩:=Ur e
  obtain⟨c',e'⟩:=I2.ok.has x (.inl (hfn x h1))
  rw[h2,e']; rfl
 have kd0:∀ C y,(compEnvC scope (Fh fn X.env) C X.env).kindOf y = (compEnvC scope (Fh fn X.env) 0 X.env).kindOf y:=fun _ _=>rfl
 have fpLt:∀ b ∈ fp,b < s2.heap.objs.size:=fun b hb=>by obtain⟨o,e,_⟩:=T.obj _ _ st2 b hb; exact lt_size e
 have cLt:∀ x c,(Fh fn X.env).lookup x = some c->c < s2.heap.objs.size:=fun x c e=>by obtain⟨v,z⟩:=I2.cell x c (hcl x c e); exact z.lt
 -- the block's context
 generalize hX:Dz X scope N' fn HH.objs.size fp s2 H2 = X'
 have ok:X'.Ok:=by
  subst hX
  exact {
   mod:=I2.ok.mod
   kind:=hkind
   glob:=I2.ok.glob
   blt:=I2.ok.blt
   above:=hCle
   inj:=fun x y c h1 h2=>I2.ok.inj x y c (hcl x c h1) (hcl y c h2)
   has:=fun x hx=>⟨_,Vb (hkd x hx)⟩
   cab:=fun x c z=>by cases z
   hd:=fun _=>I2.ok.hd hc
   frames:=I2.ok.frames
   stk:=.inl rfl
   exf:=fun b hb=>⟨ne_of_lt (Nat.lt_of_lt_of_le (fpLt b hb) hCle),fun x c e z=>by
    obtain⟨_,_,_,_,f4,_⟩:=f2 b hb
    exact f4 x c (hcl x c e) z⟩
   bs:=I2.bs
   bsz:=Nat.le_trans I2.ok.bsz I2.sz
   noex:=fun b o e z=>by
    obtain⟨_,_,_,f3,_,_⟩:=f2 b z
    rcases f3 with w | w
    ·exact I2.ok.noex b o e w
    ·have h1:=(I2.ok.bs b o e).1
     exact absurd (Nat.lt_of_lt_of_le (lt_size h1) w) (Nat.lt_irrefl _)
   exfs:=fun b z hb=>by
    obtain⟨_,f1,f2',_⟩:=f2 b z
    rcases mem_cons.mp (I2.stkSub b hb) with w | w
    ·exact f1 w
    ·exact f2' w
   funs:=I2.stack
   frf:=I2.stkFree }
 have un1:Un X'.fs X'.ex H2 (upd H2 s2.heap.objs.size (.lst [])) s2.heap h₁:=Un.laid old (Nat.le_refl _) hfr2
 have hok1:HOk X.prog X.w (upd H2 s2.heap.objs.size (.lst [])) h₁:=I2.hok.laid old (Nat.le_refl _) ⟨zero_le _,[],0,.nil,hacc⟩
 have nC:H2 HH.objs.size = none:=I2.hok.fresh hCle
 have I0:∀ tk,Inv X' [] (compσ k fr σ) (upd H2 s2.heap.objs.size (.lst [])) { s2 with heap:=h₁,toks:=tk }:=fun tk=>by
  have ex:X'.env = compEnvC scope (Fh fn X.env) HH.objs.size X.env:=by subst hX; rfl
  refine⟨ok,by subst hX; rfl,I2.bare,by subst hX; exact un1,?_,?_,?_,?_,?_,by subst hX; exact hok1,?_⟩
  ·obtain⟨m,hn,hl⟩:=I2.loc
   refine⟨_,by rw[ex]; exact hns₁,fun i x v e1 e2 e3=>?_⟩
   have e1':N'[i]? = some x:=by subst hX; exact e1
   have hik:k <= i:=by
    rcases Nat.lt_or_ge i k with z | z
    ·unfold compσ at e2
     rw[getElem?_append_left (by rw[length_replicate]; exact z),getElem?_replicate,if_pos z] at e2
     cases e2
    ·exact z
   obtain⟨j,rfl⟩:=Nat.exists_eq_add_of_le hik
   have e2':(fr.map fun i=>(σ[i]?).join)[j]? = some (some v):=by
    unfold compσ at e2
    rw[getElem?_append_right (by rw[length_replicate]; omega),length_replicate] at e2
    simpa using e2
   rw[getElem?_map] at e2'
   cases ef:fr[j]? with
   | none=>rw[ef] at e2'; cases e2'
   | some i0 =>
    rw[ef] at e2'
    have e4:(σ[i0]?).join = some v:=Option.some.inj e2'
    obtain⟨a1,a2,a3,a4⟩:=hfr j x e1' i0 ef
    have e5:σ[i0]? = some (some v):=by
     cases z:σ[i0]? with
     | none=>rw[z] at e4; cases e4
     | some o=>rw[z] at e4; have:o = some v:=e4; rw[this]
    obtain⟨u,ru,l⟩:=hl i0 x v a1 e5 (.inr (.inl a2))
    refine⟨u,ru,.inr ⟨.inl (by rw[ex,kd0]; exact a3),?_⟩⟩
    rcases l with ⟨lk,_⟩ | ⟨_,c,lc,lcell⟩
    ·rw[a2] at lk; cases lk
    ·refine⟨c,by rw[ex]; show (Fh fn X.env).lookup x = some c; rw[Vb a4,lc]; rfl,?_⟩
     obtain⟨o,ho,hd⟩:=lcell
     exact⟨o,old c o ho,hd⟩
  ·intro x c e
   rw[ex] at e
   obtain⟨v,o,ho,hd⟩:=I2.cell x c (hcl x c e)
   exact⟨v,o,old c o ho,hd⟩
  ·rw[ex]
   show (upd H2 s2.heap.objs.size (.lst [])) HH.objs.size = none
   rw[Bk hDC.symm]; exact nC
  ·intro x c e
   rw[ex] at e
   rw[Bk (ne_of_lt (cLt x c e))]
   exact I2.freeC x c (hcl x c e)
  ·intro p hp
   subst hX
   exact absurd (show p ∈ ([]:List (Addr × Obj)) from hp) (by simp)
  ·rw[compσ_len]; subst hX; exact hN.symm
 have fpOk:∀ {H':Hp} {pins':List (Addr × Obj)},(∀ b ∈ fp,H' b = none)->pins' = []->∀ b ∈ fp,Uw X' pins' H' b:=fun {H' pins'} hn e b hb=>by
  subst e
  obtain⟨_,f1,f2',f3,f4,f5⟩:=f2 b hb
  subst hX
  refine⟨hn b hb,ne_of_lt (Nat.lt_of_lt_of_le (fpLt b hb) hCle),fun z=>?_,.inl hb,fun x c e=>f4 x c (hcl x c e),fun p hp=>absurd (show p ∈ ([]:List (Addr × Obj)) from hp) (by simp)⟩
  rcases mem_cons.mp (I2.stkSub b z) with w | w
  ·exact f1 w
  ·exact f2' w
 have eqP:X'.prog = X.prog/\X'.w = X.w/\X'.K = X.K/\X'.calm = true/\X'.A = X.A/\X'.env = compEnvC scope (Fh fn X.env) HH.objs.size X.env/\X'.N = N':=by subst hX; exact⟨rfl,rfl,rfl,hc,rfl,rfl,rfl⟩
 obtain⟨eP,eW,eK,eC,eA,eE,eN⟩:=eqP
 have hg':PG X' tg g:=by subst hX; exact hg _ _ _ _
 have ht':Qi X' ifs tc:=by subst hX; exact ht _ _ _ _
 have he':PE X' elt te:=by subst hX; exact he _ _ _ _
 have eX:X'.xe = fun _ _=>False:=by subst hX; rfl
 have loop:∀ s₃:Shared,s₃ = { s2 with heap:=h₁,toks:=s2.toks + ([]:List (Str × Value)).length } ->
   codeAny (model X.prog X.w) X.A (.compLoop (.ListComp elt [⟨tg,iter,ifs,0⟩] scope pos) 0 (.ref it) (.ref s2.heap.objs.size) (compEnvC scope (Fh fn X.env) HH.objs.size X.env))
    (compPost (model X.prog X.w) X.A X.xe use Qc (.ref s2.heap.objs.size) HH.objs.size) s₃:=by
  rintro s₃ rfl
  refine AeJ (fun n s'=>∃ i H',Inv X' [] (compσ k fr σ) H' s'/\tn i s'.heap/\(∀ b ∈ fp,H' b = none)/\W i n H') ?_ m0 ⟨0,_,I0 _,hst₁,fun b hb=>by rw[Bk (ne_of_lt (fpLt b hb))]; exact (f2 b hb).1,w0⟩
  rintro n s3 ⟨i,H3,I3,st3,fr3,w3⟩
  rcases turn i n H3 w3 with ⟨stop,qn⟩ | ⟨go,step⟩
  ·have d:=T.done X' eP eW eK eC i [] s3 (compσ k fr σ) H3 (fun _ _=>False) I3 (fpOk fr3 rfl) st3 stop
   rw[eA] at d
   refine thn d fun r s4 ⟨hr,I4⟩=>?_
   subst hr
   obtain⟨m,hn,_⟩:=I4.loc
   rw[eE] at hn
   have u4:Un (frs X.stack) fp H2 H3 s2.heap s4.heap:=by have:=I4.base; subst hX; exact this
   have nC3:H3 HH.objs.size = none:=by have:=I4.free; rw[eE] at this; exact this
   have hok5:HOk X.prog X.w H3 s4.heap:=fun b u e=>by
    have z:=I4.hok b u e
    rw[eP,eW] at z
    exact z
   have os4:s4.os = s2.os:=by have:=I4.os; subst hX; exact this
   obtain⟨hh,gg,dd,tt,oo⟩:=s4
   obtain rfl:oo = s2.os:=os4
   have Ix:Inv X pins σ H3 ⟨hh,gg,dd,tt,s2.os⟩:=Inv.call (s:=s2) I2 (h':=hh) (g':=gg) (d':=dd) (t':=tt) (ch:=fp) u4 hok5 I4.bare fun b hb=>by
    obtain⟨_,f1,_,f3,f4,f5⟩:=f2 b hb
    exact⟨f3,f1,f4,f5⟩
   refine fin H3 _ _ _ m hn Ix nC3 (Nat.le_trans I2.sz hCle) ?_ (fun x c e=>?_) (fun p hp=>?_) qn
   ·obtain⟨_,⟨o,_,_,ho,_⟩,_⟩:=I2.loc
    exact (below _ (lt_size ho)).symm
   ·obtain⟨v,z⟩:=I2.cell x c e
    exact below _ z.lt
   ·exact below _ (lt_size (I2.pin p hp).1)
  ·have d:=T.item X' eP eW eK eC i [] s3 (compσ k fr σ) H3 (fun _ _=>False) I3 (fpOk fr3 rfl) st3 go
   rw[eA] at d
   refine thn d fun r s4 ⟨u,hr,h4⟩=>?_
   subst hr
   refine thn h4 fun _ s5 ⟨x,H5,I5,r5,y5,st5,fr5⟩=>?_
   have I5':=I5.pinned (fpOk fr5 rfl) (T.obj _ _ st5)
   have a1:=hg' _ s5 (compσ k fr σ) H5 x u _ I5' r5 (step x H5 y5)
   rw[eP,eW,eA,eE,eX] at a1
   refine thn a1 fun _ s6 ⟨σ6,H6,I6,q6a,q6⟩=>?_
   have a2:=ht' _ s6 σ6 H6 _ I6 q6
   rw[eP,eW,eA,eE,eX] at a2
   refine thn a2 fun b s7 ⟨H7,I7,q7⟩=>?_
   have again:∀ {H8:Hp} {s8:Shared},Inv X' ([] ++ Sq fp s5.heap) σ6 H8 s8->(∃ m',m' < n/\W (i + 1) m' H8)->∃ m,m < n/\∃ i H',Inv X' [] (compσ k fr σ) H' s8/\tn i s8.heap/\(∀ b ∈ fp,H' b = none)/\W i m H':=fun {H8 s8} I8 ⟨m',hm,w8⟩=>by
    refine⟨m',hm,i + 1,H8,I8.unpinned.weak ?_ (compσ_weak q6a),T.keep _ _ _ st5 fun b hb o e=>(I8.pin (b,o) (mem_append_right _ (mem_append_right _ (Oe hb e)))).1,fun b hb=>?_,w8⟩
    ·rw[compσ_len,I8.len,eN,hN]
    ·obtain⟨o,e,_⟩:=T.obj _ _ st5 b hb
     exact (I8.pin (b,o) (mem_append_right _ (mem_append_right _ (Oe hb e)))).2.1
   cases b with
   | false =>
    rw[if_neg Bool.false_ne_true] at q7 ⊢
    exact again I7 q7
   | true =>
    rw[if_pos rfl] at q7 ⊢
    have a3:=he' _ s7 σ6 H7 _ I7 q7
    rw[eP,eW,eA,eE,eX] at a3
    refine thn a3 fun yv s8 ⟨y,H8,I8,r8,ys,hD,hz,q8⟩=>?_
    have a4:=Ya (X:=X') _ s8 σ6 H8 (.ref s2.heap.objs.size) [y] (.ref s2.heap.objs.size) [yv] (fun _ H9=>∃ m',m' < n/\W (i + 1) m' H9) I8 rfl (.cons r8 .nil) ⟨_,ys,y,rfl,rfl,hD,hz,q8⟩
    rw[eP,eW,eA,eX] at a4
    exact thn a4 fun _ s9 ⟨_,H9,I9,_,q9⟩=>again I9 q9
 exact codeAny_compStart_list (loop _ rfl) (T.self _ 0 _ _ _ hst₁ (loop _ rfl))
theorem Ab0 {X:Cx} {elt tg iter:Expr} {ifs:List Expr} {scope:Scope} {pos:Pos} {wi:TI} {g:TG} {tc:TT} {te:TE} {k:Nat} {fr:List Nat} {N' fn:List Str} (hc:X.calm = true)
  (hi:PI X tg iter wi) (hN:N'.length = k + fr.length)
  (hfr:∀ j y,N'[k + j]? = some y->∀ i,fr[j]? = some i->X.N[i]? = some y/\X.env.kindOf y = some .cell/\(compEnvC scope (Fh fn X.env) 0 X.env).kindOf y = some .cell/\y ∈ fn)
  (hfn:∀ y ∈ fn,X.env.kindOf y = some .cell)
  (hkd:∀ y,((compEnvC scope (Fh fn X.env) 0 X.env).kindOf y = some .cell\/(compEnvC scope (Fh fn X.env) 0 X.env).kindOf y = some .free)->y ∈ fn)
  (hg:∀ C fp s H,PG (Dz X scope N' fn C fp s H) tg g) (ht:∀ C fp s H,Qi (Dz X scope N' fn C fp s H) ifs tc) (he:∀ C fp s H,PE (Dz X scope N' fn C fp s H) elt te)
  (hclos:closureFor scope X.env = pure (Fh fn X.env)) (hcell:∀ y ∈ scope.names,y.2 ≠ .cell) (hkind:scope.kind = .function) (hnames:∀ y ∈ scope.names,y.2 = .local->scope.names.lookup y.1 = some .local)
  (hs:∀ x,foldedSetIterable iter X.env x = pure x:=by intro _; rfl):PE X (.ListComp elt [⟨tg,iter,ifs,0⟩] scope pos) (Lw wi g tc te k fr):=by
 intro pins s σ H Q I h
 rw[eval_ListComp]
 refine Xy hc hi hN hfr hfn hkd hg ht he hclos hcell hkind hnames hs I h fun H3 s4 D C m hn Ix hC h1 h2 h3 h4 q=>?_
 exact⟨m,hn,fun h' sb=>⟨.ref D,H3,Inv.nsch Ix sb hC h1 h2 h3 h4,rfl,q⟩⟩
theorem Ab4 {X:Cx} {elt tg iter:Expr} {ifs:List Expr} {scope:Scope} {pos px spos:Pos} {i:Nat} {x:Str} {wi:TI} {g:TG} {tc:TT} {te:TE} {k:Nat} {fr:List Nat} {N' fn:List Str} (hc:X.calm = true)
  (hi:PI X tg iter wi) (hN:N'.length = k + fr.length)
  (hfr:∀ j y,N'[k + j]? = some y->∀ i,fr[j]? = some i->X.N[i]? = some y/\X.env.kindOf y = some .cell/\(compEnvC scope (Fh fn X.env) 0 X.env).kindOf y = some .cell/\y ∈ fn)
  (hfn:∀ y ∈ fn,X.env.kindOf y = some .cell)
  (hkd:∀ y,((compEnvC scope (Fh fn X.env) 0 X.env).kindOf y = some .cell\/(compEnvC scope (Fh fn X.env) 0 X.env).kindOf y = some .free)->y ∈ fn)
  (hg:∀ C fp s H,PG (Dz X scope N' fn C fp s H) tg g) (ht:∀ C fp s H,Qi (Dz X scope N' fn C fp s H) ifs tc) (he:∀ C fp s H,PE (Dz X scope N' fn C fp s H) elt te)
  (hclos:closureFor scope X.env = pure (Fh fn X.env)) (hcell:∀ y ∈ scope.names,y.2 ≠ .cell) (hkind:scope.kind = .function) (hnames:∀ y ∈ scope.names,y.2 = .local->scope.names.lookup y.1 = some .local)
  (hs:∀ x,foldedSetIterable iter X.env x = pure x:=by intro _; rfl) (hNd:X.N.Nodup) (hix:X.N[i]? = some x) (hx:Loc X.env.scope x) (hsw:swapsWith (.ListComp elt [⟨tg,iter,ifs,0⟩] scope pos) (some (.Name x px)) spos.line X.env = pure true)
  (hf:X.fn x = true\/X.env.scope.names.lookup x = some .local:=by first | exact .inl rfl | exact .inr rfl | assumption):PS X (.Assign [.Name x px] (.ListComp elt [⟨tg,iter,ifs,0⟩] scope pos) spos) (Th (Lw wi g tc te k fr) (Na i)):=by
 intro pins s σ H D I h
 rw[exec_Assign_Name_used _ _ _ _ hsw]
 refine wpAny_bind (wpAny_standAt (wpAny_bind ?_))
 show wpAny _ X.A (do let _ <- comprehension (.ListComp elt [⟨tg,iter,ifs,0⟩] scope pos) scope X.env _ (newList []) false (eval iter X.env) (some (assign (.Name x px) X.env))) _ _ s
 refine wpAny_bind (wpAny_mono (Xy (use:=some (assign (.Name x px) X.env)) (Qc:=fun _ s'=>SP X pins D .next s') hc hi hN hfr hfn hkd hg ht he hclos hcell hkind hnames hs I h fun H3 s4 D' C m hn Ix hC h1 h2 h3 h4 q=>?_) (fun _ s' hq=>wpAny_pure (wpAny_pure hq)) fun _ _ e=>e)
 show wpAny _ X.A (assign (.Name x px) X.env (.ref D')) _ _ _
 refine wpAny_assign_Name (Yf Ix hNd hix hx (v:=.ref D') rfl (fun s' I' ⟨a,sb,ha⟩=>?_) hf)
 have nCa:C ≠ a:=by
  rcases ha with w | w
  ·rw[w]; exact h2
  ·exact (h3 _ _ w).symm
 exact⟨m,hn.sameBut sb nCa,fun h' sb'=>⟨_,H3,Inv.nsch I' sb' hC h1 h2 h3 h4,q⟩⟩
theorem By {X:Cx} {scope:Scope} {N' fn:List Str} {C:Addr} {fp:List Addr} {s:Shared} {H:Hp}:(Dz X scope N' fn C fp s H).K = X.K:=rfl
theorem Lm {X:Cx} {pos:Pos} {K':Frag} (hK:X.K = K') {es:List Expr} {k:Nat} {t:TGs} {n:Nat} (hc:X.calm = true) (h:PGs X es t)
  (hn:(assignEach es X.env).length = n:=by rfl) (hst:(assignEach es X.env).findIdx? (·.1) = none:=by rfl):PG X (.Tuple es k pos) (AaC K' n t):=by
 subst hK
 exact Os hc h hn hst
theorem Ld:∀ {l:List (Str × NameKind)} {y:Str} {k:NameKind},l.lookup y = some k->(y,k) ∈ l
 | [],_,_,h=>by cases h
 | (x,j) :: r,y,k,h=>by
  rw[lookup_cons] at h
  cases e:y == x with
  | true =>
   rw[e] at h
   cases h
   rw[eq_of_beq e]; exact mem_cons_self
  | false =>
   rw[e] at h
   exact mem_cons_of_mem _ (Ld h)
theorem Ot {X:Cx} {elt tg iter:Expr} {ifs:List Expr} {scope:Scope} {pos:Pos} {wi:TI} {g:TG} {tc:TT} {te:TE} (k:Nat) (N':List Str) (hN:N'.length = k) (hc:X.calm = true)
  (hi:PI X tg iter wi)
  (hg:∀ C fp s H,PG (Dz X scope N' [] C fp s H) tg g) (ht:∀ C fp s H,Qi (Dz X scope N' [] C fp s H) ifs tc) (he:∀ C fp s H,PE (Dz X scope N' [] C fp s H) elt te)
  (hfree:∀ y ∈ scope.names,y.2 ≠ .free) (hcell:∀ y ∈ scope.names,y.2 ≠ .cell) (hkind:scope.kind = .function) (hnames:∀ y ∈ scope.names,y.2 = .local->scope.names.lookup y.1 = some .local)
  (hs:∀ x,foldedSetIterable iter X.env x = pure x:=by intro _; rfl):PE X (.ListComp elt [⟨tg,iter,ifs,0⟩] scope pos) (Lw wi g tc te k []):=by
 refine Ab0 (fn:=[]) (fr:=[]) (k:=k) hc hi hN (fun j y _ i e=>by simp at e) (fun y hy=>by cases hy) (fun y h=>?_) hg ht he (PySem.closureFor_none hfree) hcell hkind hnames hs
 have e:∀ k,(compEnvC scope (Fh [] X.env) 0 X.env).kindOf y = some k->∃ p ∈ scope.names,p.2 = .free\/p.2 = k:=by
  intro k h
  have m:=Ld (show (relabel scope X.env).names.lookup y = some k from h)
  obtain⟨p,hp,ep⟩:=mem_map.mp (show (y,k) ∈ scope.names.map _ from m)
  obtain⟨n,kd⟩:=p
  refine⟨(n,kd),hp,?_⟩
  dsimp only at ep
  split at ep
  ·rename_i c
   simp only [and_eq_true,beq_iff_eq] at c
   exact .inl c.1.1
  ·exact .inr (Prod.mk.inj ep).2
 rcases h with h | h
 ·obtain⟨p,hp,z⟩:=e _ h
  rcases z with z | z
  ·exact (hfree p hp z).elim
  ·exact (hcell p hp z).elim
 ·obtain⟨p,hp,z⟩:=e _ h
  rcases z with z | z
  ·exact (hfree p hp z).elim
  ·exact (hfree p hp z).elim
theorem Af6 {X:Cx} {elt tg iter:Expr} {ifs:List Expr} {scope:Scope} {pos px spos:Pos} {i:Nat} {x:Str} {wi:TI} {g:TG} {tc:TT} {te:TE} (k:Nat) (N':List Str) (hN:N'.length = k) (hc:X.calm = true)
  (hi:PI X tg iter wi)
  (hg:∀ C fp s H,PG (Dz X scope N' [] C fp s H) tg g) (ht:∀ C fp s H,Qi (Dz X scope N' [] C fp s H) ifs tc) (he:∀ C fp s H,PE (Dz X scope N' [] C fp s H) elt te)
  (hfree:∀ y ∈ scope.names,y.2 ≠ .free) (hcell:∀ y ∈ scope.names,y.2 ≠ .cell) (hkind:scope.kind = .function) (hnames:∀ y ∈ scope.names,y.2 = .local->scope.names.lookup y.1 = some .local)
  (hs:∀ x,foldedSetIterable iter X.env x = pure x:=by intro _; rfl) (hNd:X.N.Nodup) (hix:X.N[i]? = some x) (hx:Loc X.env.scope x) (hsw:swapsWith (.ListComp elt [⟨tg,iter,ifs,0⟩] scope pos) (some (.Name x px)) spos.line X.env = pure true)
  (hf:X.fn x = true\/X.env.scope.names.lookup x = some .local:=by first | exact .inl rfl | exact .inr rfl | assumption):PS X (.Assign [.Name x px] (.ListComp elt [⟨tg,iter,ifs,0⟩] scope pos) spos) (Th (Lw wi g tc te k []) (Na i)):=by
 refine Ab4 (fn:=[]) (fr:=[]) (k:=k) hc hi hN (fun j y _ i e=>by simp at e) (fun y hy=>by cases hy) (fun y h=>?_) hg ht he (PySem.closureFor_none hfree) hcell hkind hnames hs hNd hix hx hsw hf
 have e:∀ k,(compEnvC scope (Fh [] X.env) 0 X.env).kindOf y = some k->∃ p ∈ scope.names,p.2 = .free\/p.2 = k:=by
  intro k h
  have m:=Ld (show (relabel scope X.env).names.lookup y = some k from h)
  obtain⟨p,hp,ep⟩:=mem_map.mp (show (y,k) ∈ scope.names.map _ from m)
  obtain⟨n,kd⟩:=p
  refine⟨(n,kd),hp,?_⟩
  dsimp only at ep
  split at ep
  ·rename_i c
   simp only [and_eq_true,beq_iff_eq] at c
   exact .inl c.1.1
  ·exact .inr (Prod.mk.inj ep).2
 rcases h with h | h
 ·obtain⟨p,hp,z⟩:=e _ h
  rcases z with z | z
  ·exact (hfree p hp z).elim
  ·exact (hcell p hp z).elim
 ·obtain⟨p,hp,z⟩:=e _ h
  rcases z with z | z
  ·exact (hfree p hp z).elim
  ·exact (hfree p hp z).elim
theorem Jt {X:Cx} {elt tg iter:Expr} {ifs:List Expr} {scope:Scope} {pos:Pos} {wi:TI} {g:TG} {tc:TT} {te:TE} (k:Nat) (fr:List Nat) (N' fn:List Str) (hc:X.calm = true)
  (hi:PI X tg iter wi) (hN:N'.length = k + fr.length)
  (hfr:∀ j y,N'[k + j]? = some y->∀ i,fr[j]? = some i->X.N[i]? = some y/\X.env.kindOf y = some .cell/\(compEnvC scope (Fh fn X.env) 0 X.env).kindOf y = some .cell/\y ∈ fn)
  (hfn:∀ y ∈ fn,X.env.kindOf y = some .cell) (hkd:∀ p ∈ scope.names,(p.2 = .cell\/p.2 = .free)->p.1 ∈ fn)
  (hg:∀ C fp s H,PG (Dz X scope N' fn C fp s H) tg g) (ht:∀ C fp s H,Qi (Dz X scope N' fn C fp s H) ifs tc) (he:∀ C fp s H,PE (Dz X scope N' fn C fp s H) elt te)
  (hclos:closureFor scope X.env = pure (Fh fn X.env)) (hcell:∀ y ∈ scope.names,y.2 ≠ .cell) (hkind:scope.kind = .function) (hnames:∀ y ∈ scope.names,y.2 = .local->scope.names.lookup y.1 = some .local)
  (hs:∀ x,foldedSetIterable iter X.env x = pure x:=by intro _; rfl):PE X (.ListComp elt [⟨tg,iter,ifs,0⟩] scope pos) (Lw wi g tc te k fr):=by
 refine Ab0 hc hi hN hfr hfn (fun y h=>?_) hg ht he hclos hcell hkind hnames hs
 have e:∀ k,(compEnvC scope (Fh fn X.env) 0 X.env).kindOf y = some k->∃ p ∈ scope.names,p.1 = y/\(p.2 = .free\/p.2 = k):=by
  intro k h
  have m:=Ld (show (relabel scope X.env).names.lookup y = some k from h)
  obtain⟨p,hp,ep⟩:=mem_map.mp (show (y,k) ∈ scope.names.map _ from m)
  obtain⟨n,kd⟩:=p
  refine⟨(n,kd),hp,?_⟩
  dsimp only at ep
  split at ep
  ·rename_i c
   simp only [and_eq_true,beq_iff_eq] at c
   exact⟨(Prod.mk.inj ep).1,.inl c.1.1⟩
  ·exact⟨(Prod.mk.inj ep).1,.inr (Prod.mk.inj ep).2⟩
 rcases h with h | h
 ·obtain⟨p,hp,z1,z⟩:=e _ h
  rw[<- z1]; exact hkd p hp (z.elim .inr .inl)
 ·obtain⟨p,hp,z1,z⟩:=e _ h
  rw[<- z1]; exact hkd p hp (.inr (z.elim id id))
theorem Ut {X:Cx} {elt tg iter:Expr} {ifs:List Expr} {scope:Scope} {pos px spos:Pos} {i:Nat} {x:Str} {wi:TI} {g:TG} {tc:TT} {te:TE} (k:Nat) (fr:List Nat) (N' fn:List Str) (hc:X.calm = true)
  (hi:PI X tg iter wi) (hN:N'.length = k + fr.length)
  (hfr:∀ j y,N'[k + j]? = some y->∀ i,fr[j]? = some i->X.N[i]? = some y/\X.env.kindOf y = some .cell/\(compEnvC scope (Fh fn X.env) 0 X.env).kindOf y = some .cell/\y ∈ fn)
  (hfn:∀ y ∈ fn,X.env.kindOf y = some .cell) (hkd:∀ p ∈ scope.names,(p.2 = .cell\/p.2 = .free)->p.1 ∈ fn)
  (hg:∀ C fp s H,PG (Dz X scope N' fn C fp s H) tg g) (ht:∀ C fp s H,Qi (Dz X scope N' fn C fp s H) ifs tc) (he:∀ C fp s H,PE (Dz X scope N' fn C fp s H) elt te)
  (hclos:closureFor scope X.env = pure (Fh fn X.env)) (hcell:∀ y ∈ scope.names,y.2 ≠ .cell) (hkind:scope.kind = .function) (hnames:∀ y ∈ scope.names,y.2 = .local->scope.names.lookup y.1 = some .local)
  (hs:∀ x,foldedSetIterable iter X.env x = pure x:=by intro _; rfl) (hNd:X.N.Nodup) (hix:X.N[i]? = some x) (hx:Loc X.env.scope x) (hsw:swapsWith (.ListComp elt [⟨tg,iter,ifs,0⟩] scope pos) (some (.Name x px)) spos.line X.env = pure true)
  (hf:X.fn x = true\/X.env.scope.names.lookup x = some .local:=by first | exact .inl rfl | exact .inr rfl | assumption):PS X (.Assign [.Name x px] (.ListComp elt [⟨tg,iter,ifs,0⟩] scope pos) spos) (Th (Lw wi g tc te k fr) (Na i)):=by
 refine Ab4 hc hi hN hfr hfn (fun y h=>?_) hg ht he hclos hcell hkind hnames hs hNd hix hx hsw hf
 have e:∀ k,(compEnvC scope (Fh fn X.env) 0 X.env).kindOf y = some k->∃ p ∈ scope.names,p.1 = y/\(p.2 = .free\/p.2 = k):=by
  intro k h
  have m:=Ld (show (relabel scope X.env).names.lookup y = some k from h)
  obtain⟨p,hp,ep⟩:=mem_map.mp (show (y,k) ∈ scope.names.map _ from m)
  obtain⟨n,kd⟩:=p
  refine⟨(n,kd),hp,?_⟩
  dsimp only at ep
  split at ep
  ·rename_i c
   simp only [and_eq_true,beq_iff_eq] at c
   exact⟨(Prod.mk.inj ep).1,.inl c.1.1⟩
  ·exact⟨(Prod.mk.inj ep).1,.inr (Prod.mk.inj ep).2⟩
 rcases h with h | h
 ·obtain⟨p,hp,z1,z⟩:=e _ h
  rw[<- z1]; exact hkd p hp (z.elim .inr .inl)
 ·obtain⟨p,hp,z1,z⟩:=e _ h
  rw[<- z1]; exact hkd p hp (.inr (z.elim id id))
theorem AeF {K:Frag} {σ:St} {H:Hp} {Q:VK} {D a:Addr} {xs:List V} {g:TG} {tc:TT} {te:TE} {k:Nat} {fr:List Nat} (Pv:Nat->Hp->Prop)
  (h0:Pv 0 H) (hl:∀ i H',i <= xs.length->Pv i H'->SqL K H' a xs)
  (hs:∀ i x H' (N:Hp->Prop),xs[i]? = some x->Pv i H'->(∀ H'',Pv (i + 1) H''->N H'')->g x (compσ k fr σ) H' fun σ2 H2=>σ2.drop k = (compσ k fr σ).drop k/\tc σ2 H2 fun b H3 =>
   if b = true then te σ2 H3 (fun y H4=>∃ ys,H4 D = some (.lst ys)/\ys.length < sizeLine/\N (upd H4 D (.lst (ys ++ [y])))) else N H3)
  (hd:∀ H',Pv xs.length H'->Q (.ref D) H') :
  ∃ W:Nat->Nat->Hp->Prop,(∃ m,W 0 m H)/\∀ i m H,W i m H->((Itl K a).stop i H/\Q (.ref D) H)\/((Itl K a).go i H/\∀ x H',(Itl K a).yld i H x H'->g x (compσ k fr σ) H' fun σ2 H2 =>
  σ2.drop k = (compσ k fr σ).drop k/\tc σ2 H2 fun b H3=>if b = true then te σ2 H3 (fun y H4=>∃ ys,H4 D = some (.lst ys)/\ys.length < sizeLine/\∃ m',m' < m/\W (i + 1) m' (upd H4 D (.lst (ys ++ [y])))) else ∃ m',m' < m/\W (i + 1) m' H3):=by
 refine⟨fun i m H=>m = xs.length - i/\i <= xs.length/\Pv i H,⟨xs.length,by simp,zero_le _,h0⟩,?_⟩
 rintro i m H' ⟨rfl,hi,p⟩
 have q:=hl i H' hi p
 by_cases hlt:i < xs.length
 ·refine .inr ⟨⟨xs,xs[i],q,by simp [hlt]⟩,fun x H'' y=>?_⟩
  obtain⟨e,y⟩:=y
  subst e
  exact hs i x _ (fun H''=>∃ m',m' < xs.length - i/\m' = xs.length - (i + 1)/\i + 1 <= xs.length/\Pv (i + 1) H'') (y xs q) p fun H'' p'=>⟨_,by omega,rfl,hlt,p'⟩
 ·have e:i = xs.length:=by omega
  subst e
  exact .inl ⟨⟨xs,q,Nat.le_refl _⟩,hd H' p⟩
theorem AcU {σ:St} {H:Hp} {Q:VK} {D:Addr} {lo:Int} {n:Nat} {g:TG} {tc:TT} {te:TE} {k:Nat} {fr:List Nat} (Pv:Nat->Hp->Prop) (h0:Pv 0 H)
  (hs:∀ i H' (N:Hp->Prop),i < n->Pv i H'->(∀ H'',Pv (i + 1) H''->N H'')->g (.int (lo + i)) (compσ k fr σ) H' fun σ2 H2=>σ2.drop k = (compσ k fr σ).drop k/\tc σ2 H2 fun b H3 =>
   if b = true then te σ2 H3 (fun y H4=>∃ ys,H4 D = some (.lst ys)/\ys.length < sizeLine/\N (upd H4 D (.lst (ys ++ [y])))) else N H3)
  (hd:∀ H',Pv n H'->Q (.ref D) H') :
  ∃ W:Nat->Nat->Hp->Prop,(∃ m,W 0 m H)/\∀ i m H,W i m H->((Itr lo n).stop i H/\Q (.ref D) H)\/((Itr lo n).go i H/\∀ x H',(Itr lo n).yld i H x H'->g x (compσ k fr σ) H' fun σ2 H2 =>
  σ2.drop k = (compσ k fr σ).drop k/\tc σ2 H2 fun b H3=>if b = true then te σ2 H3 (fun y H4=>∃ ys,H4 D = some (.lst ys)/\ys.length < sizeLine/\∃ m',m' < m/\W (i + 1) m' (upd H4 D (.lst (ys ++ [y])))) else ∃ m',m' < m/\W (i + 1) m' H3):=by
 refine⟨fun i m H=>m = n - i/\i <= n/\Pv i H,⟨n,by simp,zero_le _,h0⟩,?_⟩
 rintro i m H' ⟨rfl,hi,p⟩
 by_cases hlt:i < n
 ·refine .inr ⟨hlt,fun x H'' y=>?_⟩
  obtain⟨e,y⟩:=y
  subst e
  subst y
  exact hs i _ (fun H''=>∃ m',m' < n - i/\m' = n - (i + 1)/\i + 1 <= n/\Pv (i + 1) H'') hlt p fun H'' p'=>⟨_,by omega,rfl,hlt,p'⟩
 ·have e:i = n:=by omega
  subst e
  exact .inl ⟨Nat.le_refl _,hd H' p⟩
section
variable {X:Cx} {K':Frag}
theorem Dt (K':Frag) (h:X.K = K':=by rfl):IxR X (Adk K'):=by subst h; exact Aed
theorem Cq (K':Frag) (h:X.K = K':=by rfl):IxR X (Adf K'):=by subst h; exact Xo
theorem Vv (K':Frag) (h:X.K = K':=by rfl):OpR X (compareOp .In) (rIn K' false):=by subst h; exact Tb
theorem Ng (K':Frag) (hu:X.A.units + 64 < cLine) (h:X.K = K':=by rfl):OpR X (compareOp .Eq) (Aa2 K' false):=by subst h; exact Amt hu
theorem Re (K':Frag) (hu:X.A.units + 64 < cLine) (h:X.K = K':=by rfl):OpR X (compareOp .NotEq) (Aa2 K' true):=by subst h; exact Ak3 hu
theorem Tg (K':Frag) (h:X.K = K':=by rfl):Lr X (.builtin "isinstance") (fun vs H Q=>∃ x n t b,vs = [x,.ty n]/\Gw K' H x t/\kitOne K' t (.type n) = some b/\Q (.bl b) H):=by subst h; exact Jj
theorem Ce (K':Frag) (h:X.K = K':=by rfl):Lr X (.builtin "len") (fun xs H Q=>∃ p ys,xs = [.ref p]/\(SqL K' H p ys\/SqT K' H p ys)/\Q (.int ys.length) H):=by subst h; exact Lx
end
theorem Same.laid {H:Hp} {p:Addr} {o:HO} (h:H p = none):Same H (upd H p o):=fun q u e=>by rw[Bk (by intro z; subst z; rw[h] at e; cases e)]; exact e
def Chg (a:Addr) (H H':Hp):Prop:=∀ q o,H q = some o->q ≠ a->H' q = some o
theorem Chg.put {H:Hp} {a:Addr} {o:HO}:Chg a H (upd H a o):=fun q u e n=>by rw[Bk n]; exact e
theorem Same.chg {a:Addr} {H H1 H2:Hp} (x:Same H H1) (y:Chg a H1 H2) (f:H a = none):Same H H2:=fun q o h=>y q o (x q o h) (by intro z; subst z; rw[f] at h; cases h)
section
variable {X:Cx} {es:List Expr} {t:TA} {pos:Pos}
def AhX (t:TA):TE:=fun σ H Q=>t σ H fun xs H1=>xs.length <= sizeLine/\∀ p H2,H1 p = none->Same H1 H2->H2 p = some (.tup xs)->Q (.ref p) H2
def AcZ (t:TA):TE:=fun σ H Q=>t σ H fun xs H1=>xs.length <= sizeLine/\∀ p H2,H1 p = none->Same H1 H2->H2 p = some (.lst xs)->Q (.ref p) H2
theorem Lb {x1} (h:PA X es t):PE X (.Tuple es x1 pos) (AhX t):=by
 intro pins s σ H Q I hq
 refine wpAny_Tuple_spliced (thn (h pos pins s σ H _ I hq) fun us s1 ⟨xs,H1,I1,r,z,q⟩=>⟨by rw[<- r.length]; exact z,?_⟩)
 have hf:H1 s1.heap.objs.size = none:=I1.hok.fresh (Nat.le_refl _)
 refine⟨.ref s1.heap.objs.size,upd H1 s1.heap.objs.size (.tup xs),I1.laid (t':=s1.toks) (fun b u e=>get?_push_of_some _ e) (Nat.le_refl _) ?_,rfl,q _ _ hf (Same.laid hf) Bp⟩
 exact⟨z,us,r,⟨_,get?_push_size _ rfl,rfl,_,rfl⟩⟩
theorem Cn (h:PA X es t):PE X (.List es pos) (AcZ t):=by
 intro pins s σ H Q I hq
 refine wpAny_List_spliced (thn (h pos pins s σ H _ I hq) fun us s1 ⟨xs,H1,I1,r,z,q⟩=>⟨by rw[<- r.length]; exact z,?_⟩)
 have hf:H1 s1.heap.objs.size = none:=I1.hok.fresh (Nat.le_refl _)
 refine⟨.ref s1.heap.objs.size,upd H1 s1.heap.objs.size (.lst xs),I1.laid (t':=s1.toks) (fun b u e=>get?_push_of_some _ e) (Nat.le_refl _) ?_,rfl,q _ _ hf (Same.laid hf) Bp⟩
 exact⟨z,us,0,r,get?_push_size _ rfl⟩
def Ah7:R2:=fun x y H Q=>∃ l b xs zs,x = .ref l/\y = .ref b/\H l = some (.lst xs)/\H b = some (.lst zs)/\xs.length + zs.length <= sizeLine/\∀ p H',H p = none->Same H H'->H' p = some (.lst (xs ++ zs))->Q (.ref p) H'
theorem Fu:OpR X (binaryOp .Add) Ah7:=fun pins s σ H x y v u Q I r1 r2 ⟨l,b,xs,zs,e1,e2,h1,h2,hz,q⟩=>Aka pins s σ H x y v u Q I r1 r2 ⟨l,b,xs,zs,e1,e2,h1,h2,hz,fun p hp=>q p _ hp (Same.laid hp) Bp⟩
def Rk:V->List V->Hp->VK->Prop:=fun x vs H Q=>∃ l xs y,x = .ref l/\vs = [y]/\H l = some (.lst xs)/\xs.length < sizeLine/\∀ H',Chg l H H'->H' l = some (.lst (xs ++ [y]))->Q .non H'
theorem Do:MtR X "list.append" Rk:=fun pins s σ H x vs v us Q I rx rv ⟨l,xs,y,e1,e2,h1,hz,q⟩=>Ya pins s σ H x vs v us Q I rx rv ⟨l,xs,y,e1,e2,h1,hz,q _ Chg.put Bp⟩
variable {K':Frag}
def AhN (K:Frag):V->Option Int->Option Int->Hp->VK->Prop:=fun x lo hi H Q=>∃ a xs,x = .ref a/\SqL K H a xs/\∀ p H',H p = none->Same H H'->H' p = some (.lst (Vn xs lo hi))->Q (.ref p) H'
theorem Di (K':Frag) (h:X.K = K':=by rfl):SlR X (AhN K'):=by
 subst h
 exact fun pins s σ H x v vl vu lo hi sl Q I rx hs pl pu ⟨a,xs,e,hx,q⟩=>Ajx pins s σ H x v vl vu lo hi sl Q I rx hs pl pu ⟨a,xs,e,hx,fun p hp=>q p _ hp (Same.laid hp) Bp⟩
theorem Jf (K':Frag) (h:X.K = K':=by rfl):Lr X (.type "list") (fun xs H Q=>∃ p ys,xs = [.ref p]/\(SqL K' H p ys\/SqT K' H p ys)/\∀ l H',H l = none->Same H H'->H' l = some (.lst ys)->Q (.ref l) H'):=by
 subst h
 exact fun pins s σ H xs us Q I r ⟨p,ys,e,hx,q⟩=>Aag pins s σ H xs us Q I r ⟨p,ys,e,hx,fun l hl=>q l _ hl (Same.laid hl) Bp⟩
end
section
variable {σ:St} {H:Hp} {Q:VK} {K:Frag}
theorem Aj6 {t:TA} (q:t σ H fun xs H1=>xs.length <= sizeLine/\∀ p H2,H1 p = none->Same H1 H2->H2 p = some (.lst xs)->Q (.ref p) H2):AcZ t σ H Q:=q
theorem Ja {a:Addr} {xs:List V} {y:V} (h:H a = some (.lst xs)) (hl:xs.length < sizeLine) (q:∀ H',Chg a H H'->H' a = some (.lst (xs ++ [y]))->Q .non H'):Rk (.ref a) [y] H Q:=⟨a,xs,y,rfl,rfl,h,hl,q⟩
end
def CP (J:It) (D:Addr) (g:TG) (tc:TT) (te:TE) (k:Nat) (fr:List Nat) (σ:St) (H1:Hp) (Q:VK):Prop :=
 ∃ W:Nat->Nat->Hp->Prop,(∃ m,W 0 m H1)/\∀ i m H,W i m H->(J.stop i H/\Q (.ref D) H)\/(J.go i H/\∀ x H',J.yld i H x H'->g x (compσ k fr σ) H' fun σ2 H2 =>
  σ2.drop k = (compσ k fr σ).drop k/\tc σ2 H2 fun b H3=>if b = true then te σ2 H3 (fun y H4=>∃ ys,H4 D = some (.lst ys)/\ys.length < sizeLine/\∃ m',m' < m/\W (i + 1) m' (upd H4 D (.lst (ys ++ [y])))) else ∃ m',m' < m/\W (i + 1) m' H3)
theorem Xn {σ:St} {H:Hp} {Q:VK} {wi:TI} {g:TG} {tc:TT} {te:TE} {k:Nat} {fr:List Nat} (q:wi σ H fun J H1=>∀ D,H1 D = none->CP J D g tc te k fr σ (upd H1 D (.lst [])) Q):Lw wi g tc te k fr σ H Q:=q
theorem CP.list {K:Frag} {σ:St} {H:Hp} {Q:VK} {D a:Addr} {g:TG} {tc:TT} {te:TE} {k:Nat} {fr:List Nat} (xs:List V) (Pv:Nat->Hp->Prop)
  (h0:Pv 0 H) (hl:∀ i H',i <= xs.length->Pv i H'->SqL K H' a xs)
  (hs:∀ i x H' (N:Hp->Prop),xs[i]? = some x->Pv i H'->(∀ H'',Pv (i + 1) H''->N H'')->g x (compσ k fr σ) H' fun σ2 H2=>σ2.drop k = (compσ k fr σ).drop k/\tc σ2 H2 fun b H3 =>
   if b = true then te σ2 H3 (fun y H4=>∃ ys,H4 D = some (.lst ys)/\ys.length < sizeLine/\N (upd H4 D (.lst (ys ++ [y])))) else N H3)
  (hd:∀ H',Pv xs.length H'->Q (.ref D) H'):CP (Itl K a) D g tc te k fr σ H Q:=AeF Pv h0 hl hs hd
theorem CP.range {σ:St} {H:Hp} {Q:VK} {D:Addr} {lo:Int} {n:Nat} {g:TG} {tc:TT} {te:TE} {k:Nat} {fr:List Nat} (Pv:Nat->Hp->Prop) (h0:Pv 0 H)
  (hs:∀ i H' (N:Hp->Prop),i < n->Pv i H'->(∀ H'',Pv (i + 1) H''->N H'')->g (.int (lo + i)) (compσ k fr σ) H' fun σ2 H2=>σ2.drop k = (compσ k fr σ).drop k/\tc σ2 H2 fun b H3 =>
   if b = true then te σ2 H3 (fun y H4=>∃ ys,H4 D = some (.lst ys)/\ys.length < sizeLine/\N (upd H4 D (.lst (ys ++ [y])))) else N H3)
  (hd:∀ H',Pv n H'->Q (.ref D) H'):CP (Itr lo n) D g tc te k fr σ H Q:=AcU Pv h0 hs hd
def Aa7 (e:Addr->Bool):V->Bool
 | .ref p=>e p
 | _=>false
def Adl (e:Addr->Bool):Value->Bool
 | .ref p=>e p
 | _=>false
theorem Aa0 {e:Addr->Bool}:∀ {xs:List V} {us:List Value},Vals xs us->(∀ x ∈ xs,∃ p,x = V.ref p)->us.any (Adl e) = xs.any (Aa7 e)
 | _,_,.nil,_=>rfl
 | y :: xs,u :: us,.cons r t,f=>by
  obtain⟨p,rfl⟩:=f y mem_cons_self
  cases r
  rw[any_cons,any_cons,Aa0 t fun x hx=>f x (mem_cons_of_mem _ hx)]
  rfl
theorem AgZ {xs:List V} {us:List Value} (r:Vals xs us):∀ u ∈ us,∃ x ∈ xs,RelV x u:=by
 induction r with
 | nil=>intro u hu; cases hu
 | cons r t ih =>
  intro u hu
  rcases mem_cons.mp hu with e | hu
  ·subst e; exact⟨_,mem_cons_self,r⟩
  ·obtain⟨x,hx,rx⟩:=ih u hu
   exact⟨x,mem_cons_of_mem _ hx,rx⟩
def AkU (K:Frag) (neg:Bool):R2:=fun x y H Q=>∃ p xs e,y = .ref p/\SqL K H p xs/\(∀ x ∈ xs,∃ r,x = V.ref r)/\(∀ r,V.ref r ∈ xs->EqD K H 40 (.ref r) x (e r))/\Q (.bl (if neg then !(xs.any (Aa7 e)) else xs.any (Aa7 e))) H
theorem Yy {X:Cx} (hu:X.A.units + 64 < cLine):OpR X (compareOp .NotIn) (AkU X.K true):=by
 intro pins s σ H x y v u Q I rx ry h
 obtain⟨p,xs,e,rfl,hq,fr,he,q⟩:=h
 cases ry
 obtain⟨its,r,pl,hz⟩:=I.list hq
 refine SeqAt.notIn_listAt (Adl e) pl.isList (fun w hw=>?_) ⟨.bl _,H,I,rfl,?_⟩
 ·obtain⟨z,hz,rz⟩:=AgZ r w (by simpa using hw)
  obtain⟨a,rfl⟩:=fr z hz
  have:=(he a hz).at I (A:=X.A.in1) (by rw[Ob]; omega) rz rx
  cases rz
  exact this
 ·rw[show its.toArray.any (Adl e) = its.any (Adl e) by simp,Aa0 r fr]
  exact q
theorem Lv:∀ {ns:List Int} {us:List Value},Vals (ns.map V.int) us->IntsAre us ns
 | [],_,.nil=>.nil
 | n :: ns,_,.cons r t=>by
  obtain⟨k,rfl⟩:=(show ∃ t,_ = Value.int n t from r)
  exact .cons n k (Lv t)
theorem Ss:∀ {ns:List Int} {us:List Value},IntsAre us ns->Vals (ns.map V.int) us
 | _,_,.nil=>.nil
 | _,_,.cons n t h=>.cons ⟨t,rfl⟩ (Ss h)
section
variable {X:Cx}
end
section
variable {X:Cx}
end
section
variable {M:Model} {A:Around} {E:Value->Shared->Prop} {s:Shared} {base:Heap} {env:Env} {outer:List Env} {L e:Addr} {Q:Unit->Shared->Prop}
end
section
variable {P:Program} {w:World} {H:Hp} {h h':Heap} {a:Addr} {o:HO}
end
section
variable {P:Program} {w:World} {K:Frag} {mg:Str->Option Value} {base:Heap} {N:List Str} {qual:Str} {scope:Scope} {f:Addr} {cd:Value} {A:Around} {outer:List Env} {s0:Shared} {H0:Hp} {E:XK}
end
section
variable {P:Program} {w:World} {K:Frag} {mg:Str->Option Value} {base:Heap} {N:List Str} {qual:Str} {scope:Scope} {f:Addr} {cd:Value} {A:Around} {outer:List Env} {s0:Shared} {H0:Hp} {E:XK}
end
def Nw (X:Cx) (pins:List (Addr × Obj)) (b:Addr):Prop:=X.s₀.heap.get? b = none/\b ≠ X.env.locals/\(∀ y c,X.env.cells.lookup y = some c->c ≠ b)/\∀ p ∈ X.pn ++ pins,p.1 ≠ b
section
variable {X:Cx} {pins:List (Addr × Obj)} {σ:St} {H:Hp} {s:Shared}
end
def Aoj (x C:Addr):Heap->Prop:=fun h=>∃ o vs,h.get? x = some o/\o.cls = .ref C/\o.dict = none/\o.data = .fields vs
section
variable {X:Cx} {pins:List (Addr × Obj)} {σ:St} {H:Hp} {s:Shared}
end
section
variable {X:Cx} {k:Nat} {f C:Addr} {fd:FuncData} {ps:List Str} {sp:Sp} {dvs:List V} {ds:List Value} {x m:Str} {p pos apos:Pos} {e o:Expr} {es:List Expr} {ta:TE} {t:TA}
end
section
variable {σ:St} {H:Hp} {Q:VK} {D:Ends} {Ex:Addr->Hp->Prop}
end
section
variable {X:Cx} {pos:Pos} {a b:Expr} {op op' op2:CmpOp} {ops:List CmpOp} {es:List Expr} {e2:Expr} {ta tb:TE} {r:R2} {u:V->TE}
end
abbrev flt (k:Int) (l:List Keyed):List Keyed:=l.filter fun p=>decide (numOf p.1 = k)
def Stb (l0 l:List Keyed):Prop:=∀ k,flt k l = flt k l0
def RevTo (l0 l:List Keyed) (c:Nat):Prop:=(∀ k,flt k (l.take c) = (flt k (l0.take c)).reverse)/\l.drop c = l0.drop c
section
variable {a:Array Keyed}
theorem Alg {l k:Nat} {p:Keyed} (hk:a[k]? = some p) (hl:l <= k) :
  ∃ xs ys zs,a.toList = xs ++ (ys ++ p :: zs)/\xs.length = l/\ys.length = k - l/\(bubble a k (k - l)).toList = xs ++ (p :: (ys ++ zs)):=by
 have hs:k < a.size:=by
  rcases Nat.lt_or_ge k a.size with h | h
  ·exact h
  ·rw[Array.getElem?_eq_none h] at hk; cases hk
 have hkl:a.toList[k]? = some p:=by rw[Array.getElem?_toList]; exact hk
 have hsl:k < a.toList.length:=by simpa using hs
 refine⟨a.toList.take l,(a.toList.drop l).take (k - l),a.toList.drop (k + 1),?_,by rw[length_take]; omega,by rw[length_take,length_drop]; omega,?_⟩
 ·have e1:a.toList.drop k = p :: a.toList.drop (k + 1):=by
   rw[drop_eq_getElem_cons hsl]
   rw[getElem?_eq_getElem hsl] at hkl
   rw[Option.some.inj hkl]
  have e2:(a.toList.drop l).drop (k - l) = a.toList.drop k:=by rw[List.drop_drop]; congr 1; omega
  rw[<- e1,<- e2,take_append_drop,take_append_drop]
 ·have hlt:(a.toList.take l).length = l:=by rw[length_take]; omega
  have hly:((a.toList.drop l).take (k - l)).length = k - l:=by rw[length_take,length_drop]; omega
  apply ext_getElem?
  intro i
  rw[Array.getElem?_toList,getElem?_bubble hs (k - l) (by omega),show k - (k - l) = l by omega]
  rcases Nat.lt_trichotomy i l with h | h | h
  ·rw[if_neg (by omega),if_neg (by omega),getElem?_append_left (by omega),List.getElem?_take_of_lt h,Array.getElem?_toList]
  ·subst h
   rw[if_pos rfl,getElem?_append_right (by omega),hlt,Nat.sub_self,hk]; rfl
  ·rw[if_neg (by omega),getElem?_append_right (by omega),hlt,show i - l = (i - l - 1) + 1 by omega,List.getElem?_cons_succ]
   by_cases h2:i <= k
   ·rw[if_pos ⟨h,h2⟩,getElem?_append_left (by omega),List.getElem?_take_of_lt (by omega),List.getElem?_drop,<- Array.getElem?_toList]
    congr 1; omega
   ·rw[if_neg (by omega),getElem?_append_right (by omega),hly,List.getElem?_drop,<- Array.getElem?_toList]
    congr 1; omega
theorem AiR {k:Int} {xs ys zs:List Keyed} {p:Keyed} (h:∀ q ∈ ys,numOf q.1 ≠ numOf p.1):flt k (xs ++ (p :: (ys ++ zs))) = flt k (xs ++ (ys ++ p :: zs)):=by
 simp only [flt,filter_append,List.filter_cons]
 by_cases e:numOf p.1 = k
 ·have z:ys.filter (fun q=>decide (numOf q.1 = k)) = []:=List.filter_eq_nil_iff.mpr fun q hq=>by
   simpa using fun z=>h q hq (z.trans e.symm)
  simp [e,z]
 ·simp [e]
theorem Aa4 {i j:Nat} (hij:i <= j) (hj:j <= a.size):(mirror a i j ((j - i) / 2)).toList = a.toList.take i ++ (((a.toList.drop i).take (j - i)).reverse ++ a.toList.drop j):=by
 have hsl:j <= a.toList.length:=by simpa using hj
 have hlt:(a.toList.take i).length = i:=by rw[length_take]; omega
 have hly:(((a.toList.drop i).take (j - i)).reverse).length = j - i:=by rw[length_reverse,length_take,length_drop]; omega
 have hly2:((a.toList.drop i).take (j - i)).length = j - i:=by rw[length_take,length_drop]; omega
 apply ext_getElem?
 intro k
 rw[Array.getElem?_toList,getElem?_mirror_all hj]
 by_cases h:k < i
 ·rw[if_neg (by omega),getElem?_append_left (by omega),List.getElem?_take_of_lt h,Array.getElem?_toList]
 ·rw[getElem?_append_right (by omega),hlt]
  by_cases h2:k < j
  ·rw[if_pos (by omega),getElem?_append_left (by omega),List.getElem?_reverse (by omega),hly2,List.getElem?_take_of_lt (by omega),List.getElem?_drop,<- Array.getElem?_toList]
   congr 1; omega
  ·rw[if_neg (by omega),getElem?_append_right (by omega),hly,List.getElem?_drop,<- Array.getElem?_toList]
   congr 1; omega
theorem Xj {c m:Nat} {p:Keyed} (h:p ∈ (a.toList.drop c).take m):∃ i,c <= i/\i < c + m/\i < a.size/\K a i = numOf p.1:=by
 obtain⟨i,hi,e⟩:=List.mem_iff_getElem.mp h
 rw[length_take,length_drop,Array.length_toList] at hi
 refine⟨c + i,by omega,by omega,by omega,?_⟩
 rw[K_eq (by omega),<- e,List.getElem_take,List.getElem_drop,Array.getElem_toList]
end
theorem Stb.of_rev {l0 l:List Keyed} {n:Nat} (h:RevTo l0 l n):Stb l0 ((l.take n).reverse ++ l.drop n):=fun k=>by
 have e:flt k ((l.take n).reverse) = (flt k (l.take n)).reverse:=List.filter_reverse ..
 show flt k _ = _
 rw[flt,filter_append]
 show flt k _ ++ flt k _ = _
 rw[e,h.1 k,List.reverse_reverse,h.2,flt,flt,<- filter_append,take_append_drop]
theorem RevTo.step {l0 l:List Keyed} {c x:Nat} {κ:Int} (h:RevTo l0 l c) (hx:c <= x) (hl:x <= l.length) (hB:∀ p ∈ (l.drop c).take (x - c),numOf p.1 = κ) (hA:∀ p ∈ l.take c,numOf p.1 ≠ κ) :
  RevTo l0 (l.take c ++ (((l.drop c).take (x - c)).reverse ++ l.drop x)) x:=by
 have l1:(l.take c ++ ((l.drop c).take (x - c)).reverse).length = x:=by
  rw[length_append,length_reverse,length_take,length_take,length_drop]; omega
 have e0:l0.take x = l0.take c ++ (l.drop c).take (x - c):=by
  rw[h.2,show x = c + (x - c) by omega,List.take_add]
  congr 2; omega
 rw[<- append_assoc]
 refine⟨fun k=>?_,?_⟩
 ·rw[List.take_left' l1,e0]
  have r1:flt k ((l.drop c).take (x - c)).reverse = (flt k ((l.drop c).take (x - c))).reverse:=List.filter_reverse ..
  have r2:flt k (l.take c ++ ((l.drop c).take (x - c)).reverse) = flt k (l.take c) ++ flt k ((l.drop c).take (x - c)).reverse:=filter_append ..
  have r3:flt k (l0.take c ++ (l.drop c).take (x - c)) = flt k (l0.take c) ++ flt k ((l.drop c).take (x - c)):=filter_append ..
  rw[r2,r3,r1,List.reverse_append,h.1 k]
  by_cases e:k = κ
  ·have z:flt k (l.take c) = []:=List.filter_eq_nil_iff.mpr fun p hp=>by simpa using fun z=>hA p hp (z.trans e)
   have z2:=h.1 k
   rw[z] at z2
   rw[<- z2]; simp
  ·have z:flt k ((l.drop c).take (x - c)) = []:=List.filter_eq_nil_iff.mpr fun p hp=>by
    rw[hB p hp]; simpa using fun z=>e z.symm
   rw[z]; simp
 ·rw[List.drop_left' l1]
  have q:(l.drop c).drop (x - c) = (l0.drop c).drop (x - c):=by rw[h.2]
  rw[List.drop_drop,List.drop_drop,show c + (x - c) = x by omega] at q
  exact q
theorem AiW {l:List Keyed} {c:Nat} (hl:c < l.length):l.take c ++ (((l.drop c).take (c + 1 - c)).reverse ++ l.drop (c + 1)) = l:=by
 have e:(l.drop c).take (c + 1 - c) = [l[c]]:=by
  rw[drop_eq_getElem_cons hl,show c + 1 - c = 1 by omega]; rfl
 rw[e]
 show l.take c ++ (l[c] :: l.drop (c + 1)) = l
 rw[<- drop_eq_getElem_cons hl,take_append_drop]
theorem RevTo.one {l0 l:List Keyed} {c:Nat} {κ:Int} (h:RevTo l0 l c) (hl:c < l.length) (hB:∀ p ∈ (l.drop c).take (c + 1 - c),numOf p.1 = κ) (hA:∀ p ∈ l.take c,numOf p.1 ≠ κ):RevTo l0 l (c + 1):=by
 have q:=h.step (x:=c + 1) (by omega) (by omega) hB hA
 rw[AiW hl] at q
 exact q
theorem RevTo.zero {l0:List Keyed}:RevTo l0 l0 0:=⟨fun k=>by simp,rfl⟩
section
variable {prog:Program} {w:World} {A:Around} {E:Value->Shared->Prop} {s:Shared} {z:Array Keyed}
theorem Aa6 {st:SortSt} (b:SBase z st):(arrOf st).toList.length = z.size:=by rw[Array.length_toList]; exact b.size
theorem Age {st:SortSt} {n ok:Nat} {R:Bool->SortSt->Prop} (hz:IntKeys z) (hn:n <= z.size) (ho:ok <= n) (b:SBase z st) (so:SortedTo (arrOf st) ok) (sb:Stb z.toList (arrOf st).toList)
  (fin:∀ st',SBase z st'->SortedTo (arrOf st') n->Stb z.toList (arrOf st').toList->R true st'):wpS (model prog w) A E s (binarySort' 0 n ok) R st:=by
 rw[binarySort'_eq]
 simp only [Nat.zero_add]
 have W:∀ (k:Nat) (c:Option Bool × Unit) (t:SortSt),Prop:=fun _ _ _=>True
 refine wpS_bind (wpS_mono (wpS_forRange (I:=fun k c t=>c = (none,())/\SBase z t/\SortedTo (arrOf t) (min k n)/\Stb z.toList (arrOf t).toList) (Q:=fun c t=>c = (none,())/\SBase z t/\SortedTo (arrOf t) n/\Stb z.toList (arrOf t).toList) ?turn ?all ?go) ?out)
 case out =>
  rintro c t ⟨rfl,b1,so1,sb1⟩
  exact wpS_pure (fin t b1 so1 sb1)
 case go =>
  refine⟨rfl,b,fun i j hij hj=>?_,sb⟩
  by_cases q:ok = 0
  ·have:i = j:=by omega
   rw[this]; exact Int.le_refl _
  ·exact so i j hij (by omega)
 case all =>
  rintro c t ⟨q,b1,so1,sb1⟩
  rw[show min (max (max ok 1) n) n = n by omega] at so1
  exact⟨q,b1,so1,sb1⟩
 case turn =>
  rintro k c t q1 q2 ⟨rfl,b1,so1,sb1⟩
  rw[show min k n = k by omega] at so1
  have kz:k < z.size:=by omega
  refine wpS_bind (wpS_mono (wpS_forRange (I:=fun x c t2=>t2 = t/\∃ lo hi,c = (none,lo,hi)/\lo <= hi/\hi <= k/\hi - lo <= k - x/\(∀ i,i < lo->K (arrOf t) i <= K (arrOf t) k)/\∀ i,hi <= i->i < k->K (arrOf t) k < K (arrOf t) i)
   (Q:=fun c t2=>t2 = t/\∃ lo hi,c = (none,lo,hi)/\lo <= k/\(∀ i,i < lo->K (arrOf t) i <= K (arrOf t) k)/\∀ i,lo <= i->i < k->K (arrOf t) k < K (arrOf t) i) ?half ?done ?first) ?move)
  case first=>exact⟨rfl,0,k,rfl,zero_le _,Nat.le_refl _,by omega,fun i h=>absurd h (Nat.not_lt_zero _),fun i h h2=>absurd h2 (Nat.not_lt.mpr h)⟩
  case done =>
   rintro c t2 ⟨rfl,lo,hi,rfl,a1,a2,a3,a4,a5⟩
   have e:hi = lo:=by omega
   rw[e] at a2 a5 ⊢
   exact⟨rfl,lo,lo,rfl,a2,a4,a5⟩
  case half =>
   rintro x c t2 _ xk ⟨rfl,lo,hi,rfl,a1,a2,a3,a4,a5⟩
   dsimp only
   by_cases ge:lo >= hi
   ·rw[if_pos ge]
    have e:hi = lo:=by omega
    rw[e] at a2 a5 ⊢
    exact wpS_pure ⟨rfl,lo,lo,rfl,a2,a4,a5⟩
   ·rw[if_neg ge]
    refine wpS_bind (wpS_ltK b1 hz kz (by omega) ?_)
    by_cases ls:K (arrOf t2) k < K (arrOf t2) ((lo + hi) / 2)
    ·simp only [ls,decide_true,if_true]
     exact wpS_pure ⟨rfl,lo,(lo + hi) / 2,rfl,by omega,by omega,by omega,a4,fun i h1 h2=>Int.lt_of_lt_of_le ls (so1 _ _ h1 h2)⟩
    ·simp only [ls,decide_false,false_eq_true,if_false]
     exact wpS_pure ⟨rfl,(lo + hi) / 2 + 1,hi,rfl,by omega,by omega,by omega,fun i h1=>Int.le_trans (so1 i ((lo + hi) / 2) (by omega) (by omega)) (Int.not_lt.mp ls),a5⟩
  case move =>
   rintro c t2 ⟨rfl,lo,hi,rfl,a2,a4,a5⟩
   show wpS _ _ _ _ (do moveDown' k lo; pure (ForInStep.yield (none,()))) _ _
   rw[moveDown'_eq]
   have ks:k < (arrOf t2).size:=by rw[b1.size]; exact kz
   refine wpS_bind (wpS_modify (wpS_pure ⟨rfl,b1.setArr (bubble_perm _ _ _),?_,?_⟩))
   ·rw[show min (k + 1) n = k + 1 by omega]
    intro i j ij jk
    show K (bubble (arrOf t2) k (k - lo)) i <= K (bubble (arrOf t2) k (k - lo)) j
    rw[K_bubble ks (by omega),K_bubble ks (by omega),show k - (k - lo) = lo by omega]
    repeat' split
    all_goals first | (exfalso; omega) | exact Int.le_refl _ | exact a4 _ (by omega) | exact Int.le_of_lt (a5 _ (by omega) (by omega)) | exact so1 _ _ (by omega) (by omega)
   ·show Stb z.toList (bubble (arrOf t2) k (k - lo)).toList
    obtain⟨xs,ys,zs,e1,e2,e3,e4⟩:=Alg (Array.getElem?_eq_getElem ks) a2
    intro κ
    rw[e4,AiR,<- e1]
    ·exact sb1 κ
    ·intro p hp
     have hq:p ∈ ((arrOf t2).toList.drop lo).take (k - lo):=by
      rw[e1,List.drop_left' e2,List.take_left' e3]; exact hp
     obtain⟨i,i1,i2,i3,i4⟩:=Xj hq
     have q:=a5 i i1 (by omega)
     rw[<- i4,<- K_eq ks]
     omega
theorem Zs {st:SortSt} {n nrem:Nat} {R:Option Nat->SortSt->Prop} (hz:IntKeys z) (hn:nrem <= z.size) (h1:1 <= n) (h2:n <= nrem) (b:SBase z st) (ni:NonInc (arrOf st) n) (rv:RevTo z.toList (arrOf st).toList n)
  (fin:∀ m st',SBase z st'->1 <= m->m <= nrem->SortedTo (arrOf st') m->Stb z.toList (arrOf st').toList->R (some m) st'):wpS (model prog w) A E s (tail3 n nrem) R st:=by
 unfold tail3
 have sz:n <= (arrOf st).size:=by rw[b.size]; omega
 refine wpS_bind (wpS_reverse ?_)
 have b1:SBase z (setArr st (mirror (arrOf st) 0 n ((n - 0) / 2))):=b.setArr (mirror_perm _ _ _ _)
 have sb1:Stb z.toList (mirror (arrOf st) 0 n ((n - 0) / 2)).toList:=by
  rw[Aa4 (zero_le _) sz]
  exact Stb.of_rev rv
 refine wpS_bind (wpS_ascLoop hz hn h1 h2 b1 (fun i j ij jn=>?_) fun m m1 m2 so _=>wpS_pure (fin m _ b1 (by omega) m2 so sb1))
 show K (mirror (arrOf st) 0 n ((n - 0) / 2)) i <= K (mirror (arrOf st) 0 n ((n - 0) / 2)) j
 rw[K_mirror sz,K_mirror sz,if_pos (by omega),if_pos (by omega)]
 exact ni _ _ (by omega) (by omega)
theorem Xx {st:SortSt} {x q:Nat} (b:SBase z st) (hx:x <= z.size) (hq:q + 1 <= x) (eq:∀ i,x - (q + 1) <= i->i < x->K (arrOf st) i = K (arrOf st) (x - 1)) (gt:∀ i,i < x - (q + 1)->K (arrOf st) (x - 1) < K (arrOf st) i)
  (rv:RevTo z.toList (arrOf st).toList (x - (q + 1))):RevTo z.toList (mirror (arrOf st) (x - (q + 1)) x ((x - (x - (q + 1))) / 2)).toList x:=by
 have sz:x <= (arrOf st).size:=by rw[b.size]; exact hx
 rw[Aa4 (by omega) sz]
 refine rv.step (κ:=K (arrOf st) (x - 1)) (by omega) (by rw[Aa6 b]; exact hx) (fun p hp=>?_) fun p hp=>?_
 ·obtain⟨i,i1,i2,i3,i4⟩:=Xj hp
  rw[<- i4]; exact eq i i1 (by omega)
 ·obtain⟨i,i1,i2,i3,i4⟩:=Xj (c:=0) (m:=x - (q + 1)) hp
  have:=gt i (by omega)
  rw[<- i4]; omega
theorem Sk {st:SortSt} {x:Nat} (b:SBase z st) (hx:x <= z.size) (hq:1 <= x) (gt:∀ i,i < x - 1->K (arrOf st) (x - 1) < K (arrOf st) i) (rv:RevTo z.toList (arrOf st).toList (x - 1)):RevTo z.toList (arrOf st).toList x:=by
 obtain⟨y,rfl⟩:∃ y,x = y + 1:=⟨x - 1,by omega⟩
 rw[Nat.add_sub_cancel] at gt rv
 refine rv.one (κ:=K (arrOf st) y) (by rw[Aa6 b]; omega) (fun p hp=>?_) fun p hp=>?_
 ·obtain⟨i,i1,i2,i3,i4⟩:=Xj hp
  rw[<- i4]; congr 1; omega
 ·obtain⟨i,i1,i2,i3,i4⟩:=Xj (c:=0) (m:=y) hp
  have:=gt i (by omega)
  rw[<- i4]; omega
theorem AfQ {st:SortSt} {n nrem:Nat} {R:DescSt->SortSt->Prop} (hz:IntKeys z) (hn:nrem <= z.size) (h1:1 <= n) (h2:n <= nrem) (b:SBase z st) (ni:NonInc (arrOf st) n) (gt0:∀ i,i < n - 1->K (arrOf st) (n - 1) < K (arrOf st) i) (rv:RevTo z.toList (arrOf st).toList (n - 1))
  (fin:∀ m q st',SBase z st'->n <= m->m <= nrem->NonInc (arrOf st') m->q + 1 <= m->(∀ i,m - (q + 1) <= i->i < m->K (arrOf st') i = K (arrOf st') (m - 1))->(∀ i,i < m - (q + 1)->K (arrOf st') (m - 1) < K (arrOf st') i) ->
   RevTo z.toList (arrOf st').toList (m - (q + 1))->R (none,m,q) st'):wpS (model prog w) A E s (descLoop n nrem) R st:=by
 unfold descLoop
 refine wpS_forRange (I:=fun x c t=>∃ q,c = (none,x,q)/\SBase z t/\NonInc (arrOf t) x/\q + 1 <= x/\(∀ i,x - (q + 1) <= i->i < x->K (arrOf t) i = K (arrOf t) (x - 1))/\(∀ i,i < x - (q + 1)->K (arrOf t) (x - 1) < K (arrOf t) i)/\RevTo z.toList (arrOf t).toList (x - (q + 1))) ?turn ?all
  ⟨0,rfl,b,ni,by omega,fun i i1 i2=>by rw[show i = n - 1 by omega],gt0,rv⟩
 case all =>
  rintro c t ⟨q,rfl,b1,ni1,q1,eq1,gt1,rv1⟩
  rw[show max n nrem = nrem by omega] at ni1 q1 eq1 gt1 rv1 ⊢
  exact fin nrem q t b1 h2 (Nat.le_refl _) ni1 q1 eq1 gt1 rv1
 case turn =>
  rintro x c t nx xn ⟨q,rfl,b1,ni1,q1,eq1,gt1,rv1⟩
  dsimp only
  have sz:x <= (arrOf t).size:=by rw[b1.size]; omega
  refine wpS_bind (wpS_ltK b1 hz (by omega) (by omega) ?_)
  by_cases ls:K (arrOf t) x < K (arrOf t) (x - 1)
  ·simp only [ls,decide_true,if_true]
   have all:∀ i,i < x->K (arrOf t) x < K (arrOf t) i:=fun i hi=>Int.lt_of_lt_of_le ls (ni1 i (x - 1) (by omega) (by omega))
   have nx1:∀ y:Array Keyed,(∀ k,K y k = K (arrOf t) k)->NonInc y (x + 1):=fun y hy i j ij jx=>by
    rw[hy,hy]
    by_cases e:j < x
    ·exact ni1 i j ij e
    ·rw[show j = x by omega]
     by_cases e2:i = x
     ·rw[e2]; exact Int.le_refl _
     ·exact Int.le_of_lt (all i (by omega))
   by_cases pos:q > 0
   ·rw[if_pos pos]
    have hK:=K_mirror_equal sz eq1
    refine wpS_bind (wpS_reverse (wpS_pure ⟨0,rfl,b1.setArr (mirror_perm _ _ _ _),nx1 _ hK,by omega,fun i i1 i2=>by rw[show i = x + 1 - 1 by omega],fun i hi=>?_,?_⟩))
    ·show K (mirror (arrOf t) _ _ _) _ < K (mirror (arrOf t) _ _ _) _
     rw[hK,hK]; exact all i (by omega)
    ·exact Xx b1 (by omega) q1 eq1 gt1 rv1
   ·rw[if_neg pos]
    have q0:q = 0:=by omega
    subst q0
    exact wpS_pure ⟨0,rfl,b1,nx1 _ (fun _=>rfl),by omega,fun i i1 i2=>by rw[show i = x + 1 - 1 by omega],fun i hi=>all i (by omega),Sk b1 (by omega) q1 gt1 rv1⟩
  ·simp only [ls,decide_false,false_eq_true,if_false]
   refine wpS_bind (wpS_ltK b1 hz (by omega) (by omega) ?_)
   by_cases lg:K (arrOf t) (x - 1) < K (arrOf t) x
   ·simp only [lg,decide_true,if_true]
    exact wpS_pure (fin x q t b1 nx (by omega) ni1 q1 eq1 gt1 rv1)
   ·simp only [lg,decide_false,false_eq_true,if_false]
    have ex:K (arrOf t) x = K (arrOf t) (x - 1):=by omega
    refine wpS_pure ⟨q + 1,rfl,b1,fun i j ij jx=>?_,by omega,fun i i1 i2=>?_,fun i hi=>?_,?_⟩
    ·by_cases e:j < x
     ·exact ni1 i j ij e
     ·rw[show j = x by omega]
      by_cases e2:i = x
      ·rw[e2]; exact Int.le_refl _
      ·rw[ex]; exact ni1 i (x - 1) (by omega) (by omega)
    ·rw[Nat.add_sub_cancel]
     by_cases e:i = x
     ·rw[e]
     ·rw[ex]; exact eq1 i (by omega) (by omega)
    ·rw[Nat.add_sub_cancel,ex]; exact gt1 i (by omega)
    ·rw[show x + 1 - (q + 1 + 1) = x - (q + 1) by omega]; exact rv1
theorem AaD {st:SortSt} {n nrem:Nat} {R:Option Nat->SortSt->Prop} (hz:IntKeys z) (hn:nrem <= z.size) (h2:n + 1 <= nrem) (b:SBase z st) (ni:NonInc (arrOf st) (n + 1)) (gt0:∀ i,i < n->K (arrOf st) n < K (arrOf st) i) (rv:RevTo z.toList (arrOf st).toList n)
  (fin:∀ m st',SBase z st'->1 <= m->m <= nrem->SortedTo (arrOf st') m->Stb z.toList (arrOf st').toList->R (some m) st'):wpS (model prog w) A E s (descPart n nrem) R st:=by
 unfold descPart
 refine wpS_bind (wpS_lift (wpAny_rule ⟨rfl,?_⟩))
 refine wpS_bind (AfQ hz hn (by omega) h2 b ni (by rw[Nat.add_sub_cancel]; exact gt0) (by rw[Nat.add_sub_cancel]; exact rv) fun m q t b1 m1 m2 ni1 q1 eq1 gt1 rv1=>?_)
 dsimp only
 have sz:m <= (arrOf t).size:=by rw[b1.size]; omega
 by_cases pos:q > 0
 ·rw[if_pos pos]
  have hK:=K_mirror_equal sz eq1
  refine wpS_bind (wpS_reverse (Zs hz hn (by omega) m2 (b1.setArr (mirror_perm _ _ _ _)) (fun i j ij jm=>?_) (Xx b1 (by omega) q1 eq1 gt1 rv1) fin))
  show K (mirror (arrOf t) _ _ _) j <= K (mirror (arrOf t) _ _ _) i
  rw[hK,hK]
  exact ni1 i j ij jm
 ·rw[if_neg pos]
  have q0:q = 0:=by omega
  subst q0
  exact Zs hz hn (by omega) m2 b1 ni1 (Sk b1 (by omega) q1 gt1 rv1) fin
theorem AdF {st:SortSt} {nrem:Nat} {R:Option Nat->SortSt->Prop} (hz:IntKeys z) (hn:nrem <= z.size) (h1:1 <= nrem) (b:SBase z st) (e0:arrOf st = z)
  (fin:∀ m st',SBase z st'->1 <= m->m <= nrem->SortedTo (arrOf st') m->Stb z.toList (arrOf st').toList->R (some m) st'):wpS (model prog w) A E s (countRun' 0 nrem) R st:=by
 rw[countRun0_eq]
 refine wpS_bind (wpS_ascLoop hz hn (Nat.le_refl 1) h1 b (fun i j ij j1=>by rw[show i = j by omega]; exact Int.le_refl _) fun n n1 n2 so or=>?_)
 dsimp only
 have sb0:Stb z.toList (arrOf st).toList:=fun k=>by rw[e0]
 by_cases e:n = nrem
 ·rw[if_pos (by simpa using e)]
  exact wpS_pure (fin n st b n1 n2 so sb0)
 ·rw[if_neg (by simpa using e)]
  have lt:K (arrOf st) n < K (arrOf st) (n - 1):=or.resolve_left e
  have rv0:RevTo z.toList (arrOf st).toList 0:=by rw[e0]; exact RevTo.zero
  by_cases big:n > 1
  ·rw[if_pos big]
   refine wpS_bind (wpS_ltK b hz (by omega) (by omega) ?_)
   by_cases rose:K (arrOf st) 0 < K (arrOf st) (n - 1)
   ·simp only [rose,decide_true,if_true]
    exact wpS_pure (fin n st b n1 n2 so sb0)
   ·simp only [rose,decide_false,false_eq_true,if_false]
    have sz:n <= (arrOf st).size:=by rw[b.size]; omega
    have eq1:∀ k,0 <= k->k < n->K (arrOf st) k = K (arrOf st) (n - 1):=fun k _ hk=>by
     have x1:=so 0 k (by omega) hk
     have x2:=so k (n - 1) (by omega) (by omega)
     omega
    have hK:=K_mirror_equal sz eq1
    have rv1:RevTo z.toList (mirror (arrOf st) 0 n ((n - 0) / 2)).toList n:=by
     rw[Aa4 (zero_le _) sz]
     refine rv0.step (κ:=K (arrOf st) (n - 1)) (zero_le _) (by rw[Aa6 b]; omega) (fun p hp=>?_) fun p hp=>absurd hp (by simp)
     obtain⟨i,i1,i2,i3,i4⟩:=Xj hp
     rw[<- i4]; exact eq1 i i1 (by omega)
    refine wpS_bind (wpS_reverse (AaD hz hn (by omega) (b.setArr (mirror_perm _ _ _ _)) (fun i j ij jn=>?_) (fun i hi=>?_) rv1 fin))
    ·show K (mirror (arrOf st) _ _ _) j <= K (mirror (arrOf st) _ _ _) i
     rw[hK,hK]
     by_cases jn2:j < n
     ·rw[eq1 i (by omega) (by omega),eq1 j (by omega) jn2]; exact Int.le_refl _
     ·rw[show j = n by omega]
      by_cases i2:i = n
      ·rw[i2]; exact Int.le_refl _
      ·rw[eq1 i (by omega) (by omega)]; exact Int.le_of_lt lt
    ·show K (mirror (arrOf st) _ _ _) n < K (mirror (arrOf st) _ _ _) i
     rw[hK,hK,eq1 i (by omega) hi]; exact lt
  ·rw[if_neg big]
   have n0:n = 1:=by omega
   subst n0
   have lt':K (arrOf st) 1 < K (arrOf st) 0:=lt
   refine AaD hz hn (by omega) b (fun i j ij j2=>?_) (fun i hi=>?_) (Sk b (by omega) (Nat.le_refl 1) (fun i hi=>absurd hi (by omega)) rv0) fin
   ·by_cases i2:i = j
    ·rw[i2]; exact Int.le_refl _
    ·rw[show i = 0 by omega,show j = 1 by omega]; exact Int.le_of_lt lt'
   ·rw[show i = 0 by omega]; exact lt'
def AgM (z:Array Keyed) (t:SortSt):Prop:=(arrOf t).Perm z/\failedOf t = none/\SortedTo (arrOf t) z.size/\Stb z.toList (arrOf t).toList/\pendingOf t = #[(0,z.size,0)]
theorem Af3 {st:SortSt} {R:Unit->SortSt->Prop} (hz:IntKeys z) (b:SBase z st) (e0:arrOf st = z) (h2:2 <= z.size) (h64:z.size < 64)
  (fin:∀ t,(arrOf t).Perm z->failedOf t = none->SortedTo (arrOf t) z.size->Stb z.toList (arrOf t).toList->R () t):wpS (model prog w) A E s sortRuns' R st:=by
 rw[sortRuns'_eq]
 refine wpS_bind (wpS_get ?_)
 dsimp only
 have mr:minRun' z.size z.size 0 = z.size:=by
  obtain⟨f,hf⟩:∃ f,z.size = f + 1:=⟨z.size - 1,by omega⟩
  have:minRun' (f + 1) z.size 0 = z.size:=by rw[minRun'_succ,if_pos h64]; rfl
  rwa [<- hf] at this
 have close:∀ {t:SortSt},SBase z t->SortedTo (arrOf t) z.size->Stb z.toList (arrOf t).toList->AgM z (setPending t ((pendingOf t).push (0,z.size,0))):=fun {t} b1 so1 sb1 =>
  ⟨b1.perm,b1.failed,so1,sb1,by show (pendingOf t).push _ = _; rw[b1.pend]; rfl⟩
 simp only [b.size,mr]
 refine wpS_bind (wpS_mono (wpS_forRange (I:=fun x c t=>(x = 0/\c = (none,0)/\SBase z t/\arrOf t = z)\/(1 <= x/\c = (none,z.size)/\AgM z t)) (Q:=fun c t=>c = (none,z.size)/\AgM z t) ?turn ?all (.inl ⟨rfl,rfl,b,e0⟩)) ?out)
 case all =>
  rintro c t (⟨hx,_⟩ | ⟨_,hc,d⟩)
  ·omega
  ·exact⟨hc,d⟩
 case turn =>
  rintro x c t _ hx (⟨rfl,rfl,b1,e1⟩ | ⟨x1,rfl,d⟩)
  ·dsimp only
   rw[if_neg (by omega)]
   simp only [Nat.sub_zero,Nat.min_self,Nat.zero_add]
   refine wpS_bind (AdF hz (Nat.le_refl _) (by omega) b1 e1 fun m t2 b2 m1 m2 so2 sb2=>?_)
   dsimp only
   by_cases lt:m < z.size
   ·rw[if_pos lt]
    refine wpS_bind (wpS_lift (wpAny_rule ⟨rfl,?_⟩))
    refine wpS_bind (Age hz (Nat.le_refl _) m2 b2 so2 sb2 fun t3 b3 so3 sb3=>?_)
    simp only [Bool.not_true,false_eq_true,if_false]
    refine wpS_bind (wpS_get ?_)
    rw[show (pendingOf t3).back? = none by rw[b3.pend]; rfl]
    dsimp only
    exact wpS_bind (wpS_modify (wpS_pure (.inr ⟨by omega,rfl,close b3 so3 sb3⟩)))
   ·rw[if_neg lt]
    have em:m = z.size:=by omega
    rw[em] at so2 ⊢
    refine wpS_bind (wpS_get ?_)
    rw[show (pendingOf t2).back? = none by rw[b2.pend]; rfl]
    dsimp only
    exact wpS_bind (wpS_modify (wpS_pure (.inr ⟨by omega,rfl,close b2 so2 sb2⟩)))
  ·dsimp only
   rw[if_pos (Nat.le_refl _)]
   exact wpS_pure ⟨rfl,d⟩
 case out =>
  rintro c t ⟨rfl,d⟩
  dsimp only
  refine wpS_bind (wpS_mono (wpS_forRange (I:=fun _ c t2=>t2 = t/\c = (none,())) (Q:=fun c t2=>t2 = t/\c = (none,())) ?_ (fun _ _ hh=>hh) ⟨rfl,rfl⟩) ?_)
  ·rintro x c t2 _ _ ⟨rfl,rfl⟩
   refine wpS_bind (wpS_get ?_)
   rw[if_pos (by rw[d.2.2.2.2]; exact Nat.le_refl 1)]
   exact wpS_pure ⟨rfl,rfl⟩
  ·rintro c t2 ⟨rfl,rfl⟩
   exact wpS_pure (fin _ d.1 d.2.1 d.2.2.1 d.2.2.2.1)
end
structure Rl (g:Int->Int) (ns ns':List Int):Prop where
 up:ns'.Pairwise fun x y=>g x <= g y
 fl:∀ r,ns'.filter (fun x=>decide (g x = r)) = ns.filter fun x=>decide (g x = r)
section
variable {X:Cx} {pins:List (Addr × Obj)} {σ:St} {H:Hp} {s:Shared}
theorem Inv.nwOf (I:Inv X pins σ H s) {b:Addr} (hb:s.heap.objs.size <= b):Nw X pins b :=
 have f:=I.fpOk hb (I.hok.fresh hb)
 ⟨Heap.get?_none_of_le (Nat.le_trans I.sz hb),f.2.1,f.2.2.2.2.1,f.2.2.2.2.2⟩
theorem Inv.adopt (I:Inv X pins σ H s) {x:Addr} {o:HO} (nw:Nw X pins x) (hx:H x = none) (ok:ObjOk X.prog X.w (upd H x o) s.heap x o):Inv X pins σ (upd H x o) s:=by
 have ne:∀ b u,H b = some u->b ≠ x:=fun b u e z=>by rw[z,hx] at e; cases e
 refine⟨I.ok,I.os,I.bare,⟨I.base.keep,I.base.slot,fun b o e n z=>?_,I.base.there,fun b xs e=>?_,fun b o u e=>?_,fun b ps e=>?_⟩,I.loc,I.cell,?_,fun y c l=>?_,fun p hp=>?_,fun b u e=>?_,I.len⟩
 ·rw[Bk (fun w=>by rw[w,nw.1] at e; cases e)]
  exact I.base.free b o e n z
 ·have z:=I.base.tups b xs e
  rw[Bk (ne _ _ z)]; exact z
 ·have z:=I.base.frzs b o u e
  rw[Bk (ne _ _ z)]; exact z
 ·obtain⟨more,z⟩:=I.base.tbls b ps e
  exact⟨more,by rw[Bk (ne _ _ z)]; exact z⟩
 ·rw[Bk nw.2.1.symm]; exact I.free
 ·rw[Bk (nw.2.2.1 y c l)]; exact I.freeC y c l
 ·obtain⟨p1,p2,p3⟩:=I.pin p hp
  exact⟨p1,by rw[Bk (nw.2.2.2 p hp)]; exact p2,p3⟩
 ·by_cases z:b = x
  ·subst z
   rw[Bp] at e
   cases e
   exact ok
  ·rw[Bk z] at e
   exact (I.hok b u e).stay (fun c v _ q'=>q') (fun c q'=>by rw[Bk (ne _ _ q')]; exact q') fun c xs q'=>by rw[Bk (ne _ _ q')]; exact q'
theorem Inv.wrote (I:Inv X pins σ H s) {b:Addr} {h':Heap} (nw:Nw X pins b) (hx:H b = none) (hs:X.s₀.heap.objs.size <= b) (k:∀ c o,c ≠ b->s.heap.get? c = some o->h'.get? c = some o):Inv X pins σ H { s with heap:=h' } :=
 I.turned (t':=s.toks) k hx nw.2.1 (.inr hs) nw.2.2.1 nw.2.2.2
end
theorem AlW {g:Int->Int} {ns:List Int} {vs:List Value} {keys:Array Value} (hv:IntsAre vs ns) (hk:IntsAre keys.toList (ns.map g)) {xs:Array Keyed} (hp:xs.Perm (keys.zip vs.toArray)) (hs:SortedTo xs xs.size) (hb:Stb (keys.zip vs.toArray).toList xs.toList) :
  ∃ ns',IntsAre (xs.map (·.2)).toList ns'/\Rl g ns ns'/\ns'.length = ns.length:=by
 have hl:xs.toList.Perm (keys.toList.zip vs):=by rw[<- ksk_zip]; exact Array.perm_iff_toList_perm.mp hp
 rw[ksk_zip] at hb
 have rel:∀ p ∈ keys.toList.zip vs,numOf p.1 = g (numOf p.2)/\p.2 ∈ vs:=by
  intro p hp
  obtain⟨i,hi,e⟩:=List.mem_iff_getElem.mp hp
  have l1:=hk.length
  have l2:=hv.length
  rw[List.length_zip] at hi
  rw[List.getElem_zip] at e
  have e1:numOf keys.toList[i] = g (numOf vs[i]):=by
   have q1:(keys.toList.map numOf)[i]? = (ns.map g)[i]?:=by rw[hk.nums]
   have q2:(vs.map numOf)[i]? = ns[i]?:=by rw[hv.nums]
   rw[getElem?_map,getElem?_map,getElem?_eq_getElem (by omega),<- q2,getElem?_map,getElem?_eq_getElem (by omega)] at q1
   exact Option.some.inj q1
  subst e
  exact⟨e1,getElem_mem ..⟩
 have relx:∀ p ∈ xs.toList,numOf p.1 = g (numOf p.2)/\p.2 ∈ vs:=fun p hp=>rel p (hl.mem_iff.mp hp)
 have ev:(keys.toList.zip vs).map (fun p:Keyed=>numOf p.2) = ns:=by
  have l1:=hk.length
  have l2:=hv.length
  rw[length_map] at l1
  have:(keys.toList.zip vs).map (fun p:Keyed=>numOf p.2) = ((keys.toList.zip vs).map Prod.snd).map numOf:=by rw[map_map]; rfl
  rw[this,List.map_snd_zip (by omega),hv.nums]
 have mf:∀ (l:List Keyed) (r:Int),(∀ p ∈ l,numOf p.1 = g (numOf p.2))->(l.map fun p:Keyed=>numOf p.2).filter (fun x=>decide (g x = r)) = (flt r l).map fun p:Keyed=>numOf p.2:=by
  intro l r h
  induction l with
  | nil=>rfl
  | cons p l ih =>
   have e:=h p mem_cons_self
   rw[map_cons,List.filter_cons,ih fun q hq=>h q (mem_cons_of_mem _ hq)]
   show _ = map _ (List.filter _ (p :: l))
   rw[List.filter_cons,e]
   by_cases d:g (numOf p.2) = r <;> simp [d]
 refine⟨xs.toList.map fun p:Keyed=>numOf p.2,?_,⟨?_,fun r=>?_⟩,?_⟩
 ·rw[Array.toList_map]
  have q:=intsAre_map (xs.toList.map (·.2)) fun v hv'=>by
   obtain⟨p,hp',rfl⟩:=mem_map.mp hv'
   exact hv.all _ (relx p hp').2
  rwa [map_map] at q
 ·rw[List.pairwise_map,List.pairwise_iff_getElem]
  intro i j hi hj ij
  have hi':i < xs.size:=by simpa using hi
  have hj':j < xs.size:=by simpa using hj
  have q:=hs i j (Nat.le_of_lt ij) hj'
  rw[K_eq hi',K_eq hj'] at q
  have e1:=(relx _ (getElem_mem hi)).1
  have e2:=(relx _ (getElem_mem hj)).1
  rw[<- e1,<- e2]
  simpa using q
 ·rw[mf _ r fun p hp=>(relx p hp).1,hb r,<- mf _ r fun p hp=>(rel p hp).1,ev]
 ·rw[length_map,hl.length_eq,<- ev,length_map]
section
variable {X:Cx} {CX:CXT} {pins:List (Addr × Obj)} {σ:St} {H:Hp} {s:Shared} {k:Nat} {f:Addr} {fd:FuncData} {ps:List Str} {sp:Sp}
theorem AfI {g:Int->Int} {ns:List Int} {vs:List Value} {A:Around} {E:Value->Shared->Prop} {P:PySem.Fin->Shared->Prop} {D kS:Addr} {keys:Array Value} {e e1:Nat} (I:Inv X pins σ H s) (nD:Nw X pins D) (nK:Nw X pins kS) (hD:H D = none) (hK:H kS = none) (sD:X.s₀.heap.objs.size <= D) (sK:X.s₀.heap.objs.size <= kS) (ne:kS ≠ D)
  (gK:s.heap.get? kS = some (seqObj "list" keys e)) (gD:s.heap.get? D = some (seqObj "list" #[] e1)) (hv:IntsAre vs ns) (hk:IntsAre keys.toList (ns.map g)) (h64:ns.length < 64)
  (fin:∀ s' ns',Inv X pins σ (upd H D (.lst (ns'.map V.int))) s'->Rl g ns ns'->P (.done (.ret .none)) s'):wpAny (model X.prog X.w) A (ksk_end D false vs.toArray e1 (.ref kS) keys) P E s:=by
 have l2:=hv.length
 have hsz:keys.size = vs.length:=by
  have h1:=hk.length
  rw[Array.length_toList,length_map] at h1
  omega
 have hzs:(keys.zip vs.toArray).size = vs.length:=by rw[Array.size_zip,hsz,size_toArray,Nat.min_self]
 have close:∀ st:SortSt,(arrOf st).Perm (keys.zip vs.toArray)->failedOf st = none->SortedTo (arrOf st) (arrOf st).size->Stb (keys.zip vs.toArray).toList (arrOf st).toList->wpAny (model X.prog X.w) A (ksk_tail D false e1 (.ref kS) st) P E s:=by
  intro st hp hf hs hb
  have hout:((arrOf st).map (·.2)).size = vs.length:=by rw[Array.size_map,hp.size_eq,hzs]
  have gD1:(s.heap.update kS (Obj.mapSeq fun _=>(#[]:Array Value))).get? D = some (seqObj "list" #[] e1):=by rw[Heap.get?_update_ne _ _ _ _ ne.symm]; exact gD
  obtain⟨c2,hc2⟩:∃ c2,((s.heap.update kS (Obj.mapSeq fun _=>(#[]:Array Value))).update D (Obj.mapSeq fun _=>(arrOf st).map (·.2))).get? D = some (seqObj "list" ((arrOf st).map (·.2)) c2):=⟨_,get?_update_seq gD1 fun _=>(arrOf st).map (·.2)⟩
  unfold ksk_tail
  dsimp only
  refine wpAny_bind (listUpdate_at gK rfl ?_ (by rw[sizeLine_eq]; omega) (zero_le _))
  refine wpAny_bind (wpAny_letGo (wpAny_bind (seqEpoch_at gD1 rfl ?_)))
  refine wpAny_bind (listUpdate_at gD1 rfl ?_ (zero_le _) (Nat.le_trans (Nat.le_of_eq hout) (by rw[sizeLine_eq]; omega)))
  rw[hf]
  simp only [bne_self_eq_false,false_eq_true,if_false]
  refine wpAny_pure ?_
  obtain⟨ns',i1,i2,i3⟩:=AlW hv hk hp hs hb
  refine fin _ ns' ?_ i2
  have I1:Inv X pins σ H { s with heap:=s.heap.update kS (Obj.mapSeq fun _=>(#[]:Array Value)) }:=I.wrote nK hK sK fun c o hc e=>by rw[Heap.get?_update_ne _ _ _ _ hc]; exact e
  have I2:Inv X pins σ H { s with heap:=(s.heap.update kS (Obj.mapSeq fun _=>(#[]:Array Value))).update D (Obj.mapSeq fun _=>(arrOf st).map (·.2)) }:=I1.wrote nD hD sD fun c o hc e=>by rw[Heap.get?_update_ne _ _ _ _ hc]; exact e
  exact I2.adopt nD hD ⟨by rw[length_map,i3,sizeLine_eq]; omega,_,c2,Ss i1,by rw[Array.toArray_toList]; exact hc2⟩
 unfold ksk_end
 dsimp only
 simp only [false_eq_true,if_false]
 by_cases h2:vs.toArray.size < 2
 ·rw[if_pos h2,if_pos h2]
  refine wpAny_bind (wpAny_pure ?_)
  rw[StateT.run_pure]
  refine wpAny_bind (wpAny_pure ?_)
  refine close (SortSt.mk' general' (keys.zip vs.toArray) #[] 7 none) (Array.Perm.refl _) rfl (fun i j ij hj=>?_) fun _=>rfl
  have hj2:j < (keys.zip vs.toArray).size:=hj
  rw[hzs] at hj2
  rw[size_toArray] at h2
  rw[show i = j by omega]
  exact Int.le_refl _
 ·rw[if_neg h2,if_neg h2]
  rw[size_toArray] at h2
  rw[ksk_kind hk (by rw[hsz]; omega)]
  refine wpAny_bind (wpAny_pure ?_)
  refine wpAny_bind (wpAny_mono (Af3 (z:=keys.zip vs.toArray) (st:=SortSt.mk' oneType' (keys.zip vs.toArray) #[] 7 none)
   (R:=fun _ t=>(arrOf t).Perm (keys.zip vs.toArray)/\failedOf t = none/\SortedTo (arrOf t) (keys.zip vs.toArray).size/\Stb (keys.zip vs.toArray).toList (arrOf t).toList)
   (ksk_intKeys hk) ⟨Array.Perm.refl _,rfl,rfl,rfl⟩ rfl (by rw[hzs]; omega) (by rw[hzs]; omega) fun t a1 a2 a3 a4=>⟨a1,a2,a3,a4⟩) ?_ fun _ _ e=>e)
  rintro ⟨⟨⟩,t⟩ s' ⟨rfl,hp,hf,hs,hb⟩
  exact close t hp hf (by rw[hp.size_eq]; exact hs) hb
theorem Ae2 {g:Int->Int} {ns:List Int} {vs:List Value} {A:Around} {E:Value->Shared->Prop} {P:PySem.Fin->Shared->Prop} {D q a:Addr} {n:Nat} (F:FnOk X.prog X.w X.K X.mg X.base CX k f fd ps sp) (hr:Room k A) (hA:∀ {s' H'},Env0 X.prog X.w X.K X.mg X.base X.A X.stack s' H'->Env0 X.prog X.w X.K X.mg X.base A X.stack s' H')
  (hb:Binds X.K fd ps []) (hno:∀ outer H s e s',CX outer H s E0 e s'->False) (I:Inv X pins σ H s) (nD:Nw X pins D) (hD:H D = none) (sD:X.s₀.heap.objs.size <= D) (fD:D ∉ X.fs) (gD:s.heap.get? D = some (seqObj "list" vs.toArray n)) (hv:IntsAre vs ns) (h64:ns.length < 64) (hm:H q = some (.met f a))
  (key:∀ n ∈ ns,sp [.ref a,.int n] H (fun v H'=>v = .int (g n)/\H' = H) E0)
  (fin:∀ s' ns',Inv X pins σ (upd H D (.lst (ns'.map V.int))) s'->Rl g ns ns'->P (.done (.ret .none)) s'):wpAny (model X.prog X.w) A (ksk_tree D (.ref q) false) P E s:=by
 have l2:=hv.length
 have ltD:=lt_size gD
 obtain⟨e1,gD1⟩:∃ e1,(s.heap.update D (Obj.mapSeq fun _=>(#[]:Array Value))).get? D = some (seqObj "list" #[] e1):=⟨_,get?_update_seq gD fun _=>#[]⟩
 have I1:Inv X pins σ H { s with heap:=s.heap.update D (Obj.mapSeq fun _=>(#[]:Array Value)) }:=I.wrote nD hD sD fun c o hc e=>by rw[Heap.get?_update_ne _ _ _ _ hc]; exact e
 unfold ksk_tree
 refine wpAny_bind (listItems_at gD rfl ?_)
 refine wpAny_bind (listUpdate_at gD rfl ?_ (by rw[size_toArray,sizeLine_eq]; omega) (zero_le _))
 refine wpAny_bind (seqEpoch_at gD1 rfl ?_)
 refine wpAny_bind (wpAny_newTuple ?_ (by show vs.length <= _; rw[sizeLine_eq]; omega))
 have I2:Inv X pins σ H { s with heap:=(s.heap.update D (Obj.mapSeq fun _=>(#[]:Array Value))).push (seqObj "tuple" vs.toArray 0) }:=I1.kept (t':=s.toks) fun b o e=>get?_push_of_some _ e
 have gD2:((s.heap.update D (Obj.mapSeq fun _=>(#[]:Array Value))).push (seqObj "tuple" vs.toArray 0)).get? D = some (seqObj "list" #[] e1):=get?_push_of_some _ gD1
 refine wpAny_bind (wpAny_newList ?_ (zero_le _))
 show wpAny _ _ (holding _ (ksk_rest D (.ref q) false vs.toArray e1 (.ref _))) _ _ { s with heap:=((s.heap.update D (Obj.mapSeq fun _=>(#[]:Array Value))).push (seqObj "tuple" vs.toArray 0)).push (seqObj "list" #[] 0) }
 generalize ((s.heap.update D (Obj.mapSeq fun _=>(#[]:Array Value))).push (seqObj "tuple" vs.toArray 0)) = h2 at I2 gD2 ⊢
 have I3:Inv X pins σ H { s with heap:=h2.push (seqObj "list" #[] 0) }:=I2.kept (t':=s.toks) fun b o e=>get?_push_of_some _ e
 have gD3:(h2.push (seqObj "list" #[] 0)).get? D = some (seqObj "list" #[] e1):=get?_push_of_some _ gD2
 have gK3:(h2.push (seqObj "list" #[] 0)).get? h2.objs.size = some (seqObj "list" #[] 0):=get?_push_size _ rfl
 have nK:Nw X pins h2.objs.size:=I2.nwOf (Nat.le_refl _)
 have hK:H h2.objs.size = none:=I2.hok.fresh (Nat.le_refl _)
 have sK:X.s₀.heap.objs.size <= h2.objs.size:=I2.sz
 have fK:h2.objs.size ∉ X.fs:=I2.nofs (Nat.le_refl _)
 have ne:h2.objs.size ≠ D:=Nat.ne_of_gt (lt_size gD2)
 generalize h2.objs.size = kS at nK hK sK fK ne gK3 ⊢
 refine wpAny_holding ?_
 unfold ksk_rest
 refine wpAny_bind (wpAny_rule ?_)
 first
  | rw[List.forIn_toArray]
  | (rw[<- Array.forIn_toList]; simp only [List.toList_toArray])
  | rw[<- Array.forIn_toList]
 refine wpAny_bind (ksk_fold (fun i s'=>∃ kA e,Inv X pins σ H s'/\s'.heap.get? kS = some (seqObj "list" kA e)/\s'.heap.get? D = some (seqObj "list" #[] e1)/\IntsAre kA.toList ((ns.map g).take i)) vs 0 _ ⟨#[],0,I3,gK3,gD3,by simpa using IntsAre.nil⟩ ?turn ?out)
 case turn =>
  rintro j x s' hx ⟨kA,e,J,gK,gD',ik⟩
  simp only [Nat.zero_add] at ik ⊢
  have hj:j < vs.length:=(List.getElem?_eq_some_iff.mp hx).1
  obtain⟨m,hm'⟩:∃ m,ns[j]? = some m:=⟨_,getElem?_eq_getElem (by omega)⟩
  obtain⟨t,ht⟩:=hv.get j m hm'
  rw[ht] at hx; cases hx
  have hz:kA.size <= vs.length:=by
   have h1:=ik.length
   rw[Array.length_toList,length_take,length_map] at h1
   omega
  have J':Inv X (pins ++ [(kS,seqObj "list" kA e),(D,seqObj "list" #[] e1)]) σ H s':=J.pins_of fun p hp=>by
   rcases mem_append.mp hp with z | z
   ·exact J.pin p (mem_append_right _ z)
   ·rcases mem_cons.mp z with rfl | z
    ·exact⟨gK,hK,nK.2.1,fK,fun _ w=>nomatch w⟩
    ·rw[mem_singleton.mp z]
     exact⟨gD',hD,nD.2.1,fD,fun _ w=>nomatch w⟩
  have gq:s'.heap.get? q = some (methodObj (.ref f) (.ref a)):=J.hok q _ hm
  have rvals:Vals [.ref a,.int m] ([Value.ref a,Value.int m t] ++ []):=.cons (show RelV (.ref a) (.ref a) from rfl) (.cons (show RelV (.int m) (.int m t) from ⟨t,rfl⟩) .nil)
  have hl:([Value.ref a,Value.int m t] ++ []).length = ps.length:=F.len [.ref a,.int m] H _ E0 (key m (mem_of_getElem? hm'))
  refine wpAny_bind (wpAny_attempt (wpAny_call (PySem.W.method_call gq (codeAny_mono (F.run A X.stack s' H ⟨[.ref a,.int m t],[]⟩ ([.ref a,.int m t] ++ []) [.ref a,.int m] _ E0 hr (hA J'.env0) (hb s' [.ref a,.int m t] J.kIn hl) rvals (key m (mem_of_getElem? hm'))) fun r s2 hq=>?_))))
  cases r with
  | error e=>exact (hno _ _ _ _ _ hq).elim
  | ok fl =>
   cases fl with
   | next=>exact False.elim hq
   | brk=>exact False.elim hq
   | cont=>exact False.elim hq
   | ret u =>
    obtain⟨v,H',J2,rv,rfl,rfl⟩:=J'.after hq
    obtain⟨t2,rfl⟩:=(show ∃ t2,u = Value.int (g m) t2 from rv)
    have gK2:s2.heap.get? kS = some (seqObj "list" kA e):=(J2.pin (kS,seqObj "list" kA e) (mem_append_right _ (mem_append_right _ mem_cons_self))).1
    have gD2':s2.heap.get? D = some (seqObj "list" #[] e1):=(J2.pin (D,seqObj "list" #[] e1) (mem_append_right _ (mem_append_right _ (mem_cons_of_mem _ mem_cons_self)))).1
    have J3:Inv X pins σ H' s2:=J2.unpinned
    dsimp only
    obtain⟨c2,hc2⟩:∃ c2,(s2.heap.update kS (Obj.mapSeq (·.push (.int (g m) t2)))).get? kS = some (seqObj "list" (kA.push (.int (g m) t2)) c2):=⟨_,get?_update_seq gK2 (·.push (.int (g m) t2))⟩
    refine wpAny_bind (listUpdate_at gK2 rfl ?_ (by rw[sizeLine_eq]; omega) (Nat.le_trans (Nat.le_of_eq (Array.size_push ..)) (by rw[sizeLine_eq]; omega)))
    refine wpAny_pure ⟨rfl,kA.push (.int (g m) t2),c2,J3.wrote nK hK sK fun c o hc e=>by rw[Heap.get?_update_ne _ _ _ _ hc]; exact e,hc2,by rw[Heap.get?_update_ne _ _ _ _ ne.symm]; exact gD2',?_⟩
    have ek:(ns.map g).take (j + 1) = (ns.map g).take j ++ [g m]:=by rw[List.take_add_one,getElem?_map,hm']; rfl
    rw[ek,Array.toList_push]
    exact ksk_snoc ik
 case out =>
  rintro s' ⟨kA,e,J,gK,gD',ik⟩
  rw[List.take_of_length_le (by rw[length_map]; omega)] at ik
  refine wpAny_bind (listItems_at gK rfl ?_)
  exact AfI J nD nK hD hK sD sK ne gK gD' hv ik h64 fin
def Ad1 (K:Frag) (sp:Sp) (f:Addr) (xs ks:List V) (H:Hp) (Q:VK):Prop:=∃ (p q a:Addr) (ns:List Int) (g:Int->Int),xs = [.ref p]/\ks = [.ref q]/\SqL K H p (ns.map V.int)/\H q = some (.met f a)/\ns.length < 64 /\
 (∀ n ∈ ns,sp [.ref a,.int n] H (fun v H'=>v = .int (g n)/\H' = H) E0)/\∀ (l:Addr) (H':Hp) (ns':List Int),H l = none->Same H H'->H' l = some (.lst (ns'.map V.int))->Rl g ns ns'->Q (.ref l) H'
theorem Ack {xs ks:List V} {us ws:List Value} {Q:VK} (F:FnOk X.prog X.w X.K X.mg X.base CX k f fd ps sp) (hr:Room (k + 2) X.A) (hb:Binds X.K fd ps []) (hno:∀ outer H s e s',CX outer H s E0 e s'->False) (I:Inv X pins σ H s) (rx:Vals xs us) (rk:Vals ks ws) (h:Ad1 X.K sp f xs ks H Q) :
  wpAny (model X.prog X.w) X.A (call (.builtin "sorted") us ([Str.ofString "key"].zip ws)) (EP X pins σ Q) X.xe s:=by
 obtain⟨p,q,a,ns,g,rfl,rfl,sq,hm,h64,key,fin⟩:=h
 obtain⟨u,rfl,ru⟩:=Rn rx
 obtain⟨w,rfl,rw'⟩:=Rn rk
 cases ru
 cases rw'
 obtain⟨its,r',pl,hz⟩:=I.list sq
 have hv:IntsAre its ns:=Lv r'
 have l2:=hv.length
 refine call_function_entry_kw kind_sorted plain_sorted entry_sorted (ksk_s1 _ _) ?_
 unfold Builtin.«sorted»
 refine wpAny_bind (m:=checkCount "sorted" 1 1 _) (wpAny_pure ?_)
 refine wpAny_bind (collect_list pl.isList ?_ (by rw[sizeLine_eq]; omega))
 have I1:Inv X pins σ H { s with heap:=(s.heap.push (seqObj "list" #[] 0)).update s.heap.objs.size (Obj.mapSeq (· ++ its.toArray)) }:=I.kept (t':=s.toks) fun b o e=>by
  rw[Heap.get?_update_ne _ _ _ _ (ne_of_lt (lt_size e))]; exact get?_push_of_some _ e
 refine wpAny_bind (wpAny_newList ?_ (by rw[sizeLine_eq]; omega))
 show wpAny _ _ _ _ _ { s with heap:=((s.heap.push (seqObj "list" #[] 0)).update s.heap.objs.size (Obj.mapSeq (· ++ its.toArray))).push (seqObj "list" its.toArray 0) }
 generalize (s.heap.push (seqObj "list" #[] 0)).update s.heap.objs.size (Obj.mapSeq (· ++ its.toArray)) = h1 at I1 ⊢
 have I2:Inv X pins σ H { s with heap:=h1.push (seqObj "list" its.toArray 0) }:=I1.kept (t':=s.toks) fun b o e=>get?_push_of_some _ e
 have gD:(h1.push (seqObj "list" its.toArray 0)).get? h1.objs.size = some (seqObj "list" its.toArray 0):=get?_push_size _ rfl
 have hD:H h1.objs.size = none:=I1.hok.fresh (Nat.le_refl _)
 refine wpAny_bind (wpAny_holding (wpAny_call_entry_kw slot_list_sort ⟨_,gD,rfl⟩ entry_list_sort ?_ (ksk_l1 _ _)))
 show wpAny (model X.prog X.w) X.A.in1.in1 (Builtin.«list.sort» ⟨[.ref h1.objs.size],[(Str.ofString "key",.ref q)]⟩) _ _ _
 rw[ksk_t1]
 refine Ae2 F hr.in1.in1 (fun e0=>e0.in1.in1) hb hno I2 (I1.nwOf (Nat.le_refl _)) hD I1.sz (I1.nofs (Nat.le_refl _)) gD hv h64 hm key fun s' ns' J sb=>⟨_,rfl,?_⟩
 exact wpAny_pure ⟨_,rfl,.ref h1.objs.size,_,J,rfl,fin _ _ ns' hD (Same.laid hD) Bp sb⟩
end
structure Bnd (K:Frag) (C:Addr) (m:Str) (f:Addr):Prop where
 at_:findIn K (.ref C) m = some (some (.ref f))
 fn:isFn K (.ref f) = true
 gg:PySem.W.specialIn K (.ref f) "__get__" = some (some (.builtin "function.__get__"))
 tk:PySem.W.takesIn K (.ref f) = some false
 cp:PySem.W.copiedNames.contains m = false
section
variable {X:Cx} {CX:CXT} {pins:List (Addr × Obj)} {σ:St} {H:Hp} {s:Shared} {k:Nat} {f C a dx:Addr} {fd:FuncData} {ps:List Str} {sp:Sp} {fs:List (Str × V)} {m x:Str} {A:Around} {E:Value->Shared->Prop} {o e ke:Expr} {to te:TE} {t tk:TA} {pos p kpos:Pos}
theorem AgL {b:Bool} {Q:Value->Shared->Prop} (I:Inv X pins σ H s) (e:H a = some (.ins C dx fs)) (c:Cls X.K C) (k:Bnd X.K C m f) (l:fs.lookup m = none)
  (h:Q (.ref s.heap.objs.size) { s with heap:=s.heap.push (methodObj (.ref f) (.ref a)),toks:=s.toks + 1 }):wpAny (model X.prog X.w) A (getAttr (.ref a) m b) Q E s:=by
 obtain⟨mA,O,r,_,_,_⟩:=Qw I.hok e
 have hn:mA m = none:=RelO.none_of (by rw[<- l]; exact r m)
 obtain⟨od,J,hl⟩:=O.look
 exact PySem.W.get_bind I.kIn J (plainGet_of (c.get m)).1 (PySem.W.findObj_fn c.hd k.at_ k.gg k.tk k.cp (by rw[hl,hn])) (plainGet_of (c.get m)).2
  (wpAny_call (PySem.W.fn_get (s:={ s with toks:=s.toks + 1 }) I.kIn (beq_iff_eq.mp k.fn) (PySem.W.handed_on rfl h)))
def Afi (C:Addr) (m:Str) (f:Addr) (to:TE):TE:=fun σ H Q=>to σ H fun x H1=>∃ a dx fs,x = .ref a/\H1 a = some (.ins C dx fs)/\fs.lookup m = none/\∀ (q:Addr) (H2:Hp),H1 q = none->Same H1 H2->H2 q = some (.met f a)->Q (.ref q) H2
theorem Afv (he:PE X o to) (c:Cls X.K C) (k:Bnd X.K C m f) (hb:attributeBase o m X.env (eval o X.env) = eval o X.env:=by rfl):PE X (.Attribute o m pos) (Afi C m f to):=by
 intro pins s σ H Q I h
 refine AbI hb (thn (he pins s σ H _ I h) fun u s1 ⟨x,H1,I1,rx,a,dx,fs,ex,ea,l,q⟩=>?_)
 subst ex
 obtain rfl:u = Value.ref a:=rx
 have hf:H1 s1.heap.objs.size = none:=I1.fresh
 refine AgL I1 ea c k l ⟨.ref s1.heap.objs.size,upd H1 s1.heap.objs.size (.met f a),I1.laid (t':=s1.toks + 1) (fun b o e=>get?_push_of_some _ e) (Nat.le_refl _) ?_,rfl,q _ _ hf (Same.laid hf) Bp⟩
 show (s1.heap.push (methodObj (.ref f) (.ref a))).get? s1.heap.objs.size = some (methodObj (.ref f) (.ref a))
 exact get?_push_size _ rfl
def AeL (K:Frag) (sp:Sp) (f:Addr) (t tk:TA):TE:=fun σ H Q=>t σ H fun xs H1=>tk σ H1 fun ks H2=>Ad1 K sp f xs ks H2 Q
theorem AfB (F:FnOk X.prog X.w X.K X.mg X.base CX k f fd ps sp) (hr:Room (k + 2) X.A) (hb:Binds X.K fd ps []) (hno:∀ outer H s e s',CX outer H s E0 e s'->False) (hg:Gl X "sorted") (hm:X.mg "sorted" = none) (ha:PA X [e] t) (hk:PK X [⟨some "key",ke,kpos⟩] tk)
  (he:backTo pos (starEach [e] X.env) = (false,eval e X.env) :: backTo pos (starEach [] X.env):=by rfl) (hp:(backTo pos (starEach [e] X.env)).any (·.1) = false:=by rfl) :
  PE X (.Call (.Name "sorted" p) [e] [⟨some "key",ke,kpos⟩] pos) (AeL X.K sp f t tk):=by
 intro pins s σ H Q I h
 refine wpAny_Call_Name_kw (Qn I hg hm PyProof.Rows.boot_sorted ?_ (by decide) (by decide))
 refine PyProof.Rows.callWith_kw (thn (ha pos pins s σ H _ I h) fun us s1 ⟨vs,H1,I1,r1,q1⟩=>thn (hk pos pins s1 σ H1 _ I1 q1) fun ws s2 ⟨zs,H2,I2,r2,q2⟩=>?_) he hp rfl rfl
 exact Ack F hr hb hno I2 r1 r2 q2
def Aae:V->List V->Hp->VK->Prop:=fun x vs H Q=>∃ l b xs zs,x = .ref l/\vs = [.ref b]/\H l = some (.lst xs)/\H b = some (.lst zs)/\xs.length + zs.length <= sizeLine/\∀ H',Chg l H H'->H' l = some (.lst (xs ++ zs))->Q .non H'
end
theorem Ls {X:Cx}:MtR X "list.extend" Aae:=fun pins s σ H x vs v us Q I rx rv ⟨l,b,xs,zs,e1,e2,h1,h2,hz,q⟩=>Aec pins s σ H x vs v us Q I rx rv ⟨l,b,xs,zs,e1,e2,h1,h2,hz,q _ Chg.put Bp⟩
theorem no0:∀ outer H s e s',CX0 outer H s E0 e s'->False:=fun _ _ _ _ _ h=>h
def Od (n:Nat) (lo hi st:Option Int):List Nat:=sliceRange (sliceBounds lo hi st n).1 (sliceBounds lo hi st n).2.1 (sliceBounds lo hi st n).2.2
def pick {α:Type} (is:List Nat) (xs:List α):List α:=is.filterMap (xs[·]?)
theorem Af2 {α β:Type} (f:α->β) (is:List Nat) (xs:List α):pick is (xs.map f) = (pick is xs).map f:=by
 unfold pick
 induction is with
 | nil=>rfl
 | cons i is ih =>
  rw[filterMap_cons,filterMap_cons,getElem?_map,ih]
  cases xs[i]? <;> rfl
theorem Vd {α:Type} (is:List Nat) (xs:List α):(pick is xs).length <= is.length:=by unfold pick; exact List.length_filterMap_le ..
theorem Vals.pick {xs:List V} {us:List Value} (r:Vals xs us):∀ is:List Nat,Vals (pick is xs) (pick is us)
 | []=>.nil
 | i :: is=>by
  have ih:=Vals.pick r is
  unfold L2.pick at ih ⊢
  rw[filterMap_cons,filterMap_cons]
  cases e:xs[i]? with
  | none =>
   have:us[i]? = none:=by
    rw[List.getElem?_eq_none_iff] at e ⊢
    rw[<- r.length]; exact e
   rw[this]; exact ih
  | some x =>
   obtain⟨u,hu,ru⟩:=r.get e
   rw[hu]; exact .cons ru ih
theorem Yc (lo hi st:Option Int) (n:Nat):((sliceBounds lo hi st n).2.2 > 0->0 <= (sliceBounds lo hi st n).1/\(sliceBounds lo hi st n).2.1 <= n)/\(¬ (sliceBounds lo hi st n).2.2 > 0->(sliceBounds lo hi st n).1 <= (n:Int) - 1/\-1 <= (sliceBounds lo hi st n).2.1):=by
 unfold sliceBounds
 dsimp only
 constructor
 ·intro h
  cases lo <;> cases hi <;> simp only [h,if_true] <;> omega
 ·intro h
  cases lo <;> cases hi <;> simp only [h,if_false] <;> omega
theorem Afr (n:Nat) (lo hi st:Option Int):(Od n lo hi st).length <= n:=sliceRange_length_le _ _ _ n (Yc lo hi st n).1 (Yc lo hi st n).2
def Aoe (K:Frag):V->Option Int->Option Int->Option Int->Hp->VK->Prop:=fun x lo hi st H Q=>∃ a xs,x = .ref a/\SqL K H a xs/\st ≠ some 0/\∀ p H',H p = none->Same H H'->H' p = some (.lst (pick (Od xs.length lo hi st) xs))->Q (.ref p) H'
def AgN (K:Frag) (te:TE) (tl th ts:TO):TE:=fun σ H Q=>te σ H fun x H1=>tl σ H1 fun l H2=>th σ H2 fun u H3=>ts σ H3 fun st H4=>Aoe K x l u st H4 Q
theorem Afa {X:Cx} {e:Expr} {te:TE} {lo hi:Option Expr} {st:Expr} {tl th ts:TO} {pos p2:Pos} (he:PE X e te) (hl:PO X lo tl) (hu:PO X hi th) (hs:PO X (some st) ts):PE X (.Subscript e (.Slice lo hi (some st) p2) pos) (AgN X.K te tl th ts):=by
 intro pins s σ H Q I h
 refine Subscript_ (thn (he pins s σ H _ I h) fun v s1 ⟨x,H1,I1,r1,q1⟩=>?_)
 refine wpAny_Slice (thn (hl pins s1 σ H1 _ I1 q1) fun vl s2 ⟨l,H2,I2,pl,q2⟩=>thn (hu pins s2 σ H2 _ I2 q2) fun vu s3 ⟨u,H3,I3,pu,q3⟩=>thn (hs pins s3 σ H3 _ I3 q3) fun vs s4 ⟨w,H4,I4,pw,q4⟩=>?_)
 have I5:Inv X pins σ H4 { s4 with heap:=s4.heap.push { cls:=.type "slice",data:=.fields #[vl,vu,vs] } }:=I4.kept (t':=s4.toks) fun b ob q=>get?_push_of_some _ q
 obtain⟨a,xs,rfl,hx,h0,q⟩:=q4
 cases r1
 obtain⟨its,r,ht,hz⟩:=I5.list hx
 have hlen:=r.length
 show wpAny (model X.prog X.w) X.A (subscriptTail e (.Slice lo hi (some st) p2) (.ref a) (.ref s4.heap.objs.size)) (EP X pins σ Q) X.xe { s4 with heap:=s4.heap.push { cls:=.type "slice",data:=.fields #[vl,vu,vs] } }
 refine tail_any (ops:=[.ref a,.ref s4.heap.objs.size]) ht.isList.typeIs slot_list_getitem.lookup ?_ (by with_unfolding_all rfl)
 refine wpAny_getItem_list_slice ht.isList (Heap.IsSliceOf.new ..) pl pu pw h0 ?_ (by rw[size_toArray]; omega)
 have hf:H4 (s4.heap.push { cls:=.type "slice",data:=.fields #[vl,vu,vs] }).objs.size = none:=I5.hok.fresh (Nat.le_refl _)
 have ep:slicePick its.toArray l u w = (pick (Od xs.length l u w) its).toArray:=by
  unfold slicePick pick Od
  rw[hlen,size_toArray]
  congr 2
  funext i
  simp
 rw[ep]
 refine⟨.ref (s4.heap.push { cls:=.type "slice",data:=.fields #[vl,vu,vs] }).objs.size,_,I5.laid (t':=s4.toks) (o:=.lst (pick (Od xs.length l u w) xs)) (fun b ob q=>get?_push_of_some _ q) (Nat.le_refl _) ?_,rfl,q _ _ hf (Same.laid hf) Bp⟩
 exact⟨Nat.le_trans (Vd _ _) (Nat.le_trans (Afr _ _ _ _) hz),_,0,Vals.pick r _,get?_push_size _ rfl⟩
section
variable {X:Cx} {elts:List Expr} {x1:Nat} {tp p pos:Pos}
end
section
variable {X:Cx} {e de:Expr} {t tk:TA} {pos p kpos:Pos}
end
section
variable {prog:Program} {w:World} {A:Around} {E:Value->Shared->Prop} {s:Shared} {R:Result->Shared->Prop} {I:Addr} {fp wr:List Addr} {G:Array GenState->Array GenState->Prop} {n:Nat} {P:Nat->Value->Prop} {St:Nat->Shared->Prop}
end
section
variable {X:Cx} {p p2 pos pos2:Pos} {tg:Expr}
end
theorem Wd {X:Cx} (K':Frag) {e:Expr} {te:TE} {lo hi:Option Expr} {st:Expr} {tl th ts:TO} {pos p2:Pos} (he:PE X e te) (hl:PO X lo tl) (hu:PO X hi th) (hs:PO X (some st) ts) (h:X.K = K':=by rfl):PE X (.Subscript e (.Slice lo hi (some st) p2) pos) (AgN K' te tl th ts):=by
 subst h
 exact Afa he hl hu hs
section
variable {X:Cx} {elts:List Expr} {x1:Nat} {tp p pos:Pos}
end
theorem Agl {X:Cx} {es':List Expr} {pos:Pos} {es:List Expr} {te:TE} {t:TA} (h:PE X (.List es' pos) te) (h2:PA X es t):PA X (.List es' pos :: es) (Go te t):=Ba h h2 rfl
theorem Gx {X:Cx} {c:Const} {n:Nat} {pos:Pos} {es:List Expr} {te:TE} {t:TA} (h:PE X (.Constant c n pos) te) (h2:PA X es t):PA X (.Constant c n pos :: es) (Go te t):=Ba h h2 rfl
section
variable {X:Cx}
end
theorem CP.dkeys {σ:St} {H:Hp} {Q:VK} {D a:Addr} {o:Obj} {kvs:List (Key × V)} {g:TG} {tc:TT} {te:TE} {k:Nat} {fr:List Nat} (Pv:Nat->Hp->Prop)
  (h0:Pv 0 H) (hl:∀ i H',Pv i H'->H' a = some (.frz o (.dK kvs)))
  (hs:∀ i kv H' (N:Hp->Prop),kvs[i]? = some kv->Pv i H'->(∀ H'',Pv (i + 1) H''->N H'')->g (kV kv.1) (compσ k fr σ) H' fun σ2 H2=>σ2.drop k = (compσ k fr σ).drop k/\tc σ2 H2 fun b H3 =>
   if b = true then te σ2 H3 (fun y H4=>∃ ys,H4 D = some (.lst ys)/\ys.length < sizeLine/\N (upd H4 D (.lst (ys ++ [y])))) else N H3)
  (hd:∀ H',Pv kvs.length H'->Q (.ref D) H'):CP (Itd a o kvs) D g tc te k fr σ H Q:=by
 refine⟨fun i m H=>m = kvs.length - i/\i <= kvs.length/\Pv i H,⟨kvs.length,by simp,zero_le _,h0⟩,?_⟩
 rintro i m H ⟨rfl,hi,p⟩
 have q:=hl i H p
 by_cases hlt:i < kvs.length
 ·refine .inr ⟨⟨q,hlt⟩,fun x H' y=>?_⟩
  obtain⟨rfl,kv,hy,rfl⟩:=y
  exact hs i kv H' (fun H''=>∃ m',m' < kvs.length - i/\m' = kvs.length - (i + 1)/\i + 1 <= kvs.length/\Pv (i + 1) H'') hy p fun H'' p''=>⟨kvs.length - (i + 1),by omega,rfl,hlt,p''⟩
 ·have e:i = kvs.length:=by omega
  subst e
  exact .inl ⟨⟨q,Nat.le_refl _⟩,hd H p⟩
section
variable {P:Program} {w:World} {K:Frag} {mg:Str->Option Value} {base:Heap}
end
end L2
namespace L2
open PySem PySem.Spec PyProof.Rows PySem.W
section
variable {n:Nat} {lt:Nat->Nat->Bool} {cmp:Nat->Nat->(Bool->Shared->Prop)->Shared->Prop} {s:Shared} {p:Array Nat}
structure Td (n:Nat) (lt:Nat->Nat->Bool):Prop where
 tr:∀ a b c,a < n->b < n->c < n->lt a b = true->lt b c = true->lt a c = true
 to:∀ a b,a < n->b < n->a ≠ b->lt a b = false->lt b a = true
 ir:∀ a,a < n->lt a a = false
def Sj (n:Nat) (lt:Nat->Nat->Bool) (cmp:Nat->Nat->(Bool->Shared->Prop)->Shared->Prop) (s:Shared):Prop:=∀ i j (C:Bool->Shared->Prop),i < n->j < n->C (lt i j) s->cmp i j C s
def PmT (n:Nat) (p:Array Nat):Prop:=p.toList.Perm (range n)
def AsT (lt:Nat->Nat->Bool) (p:Array Nat) (m:Nat):Prop:=∀ i j,i < j->j < m->lt (p.getD i 0) (p.getD j 0) = true
def DeT (lt:Nat->Nat->Bool) (p:Array Nat) (m:Nat):Prop:=∀ i j,i < j->j < m->lt (p.getD j 0) (p.getD i 0) = true
theorem PmT.size (h:PmT n p):p.size = n:=by
 have:=h.length_eq
 simpa using this
theorem PmT.get (h:PmT n p) {i:Nat} (hi:i < n):p.toList[i]? = some (p.getD i 0):=by
 have hs:i < p.size:=by rw[h.size]; exact hi
 rw[Array.getElem?_toList,Array.getElem?_eq_getElem hs]
 simp [Array.getD,hs]
theorem PmT.bd (h:PmT n p) {i:Nat} (hi:i < n):p.getD i 0 < n:=mem_range.mp (h.mem_iff.mp (mem_of_getElem? (h.get hi)))
theorem PmT.ne (h:PmT n p) {i j:Nat} (hi:i < n) (hj:j < n) (e:i ≠ j):p.getD i 0 ≠ p.getD j 0:=fun z=>by
 have nd:p.toList.Nodup:=h.nodup_iff.mpr List.nodup_range
 refine e ((List.getElem?_inj (by rw[Array.length_toList,h.size]; exact hi) nd).mp ?_)
 rw[h.get hi,h.get hj,z]
theorem PmT.of (h:PmT n p) {q:Array Nat} (hq:q.Perm p):PmT n q:=(Array.perm_iff_toList_perm.mp hq).trans h
theorem Ab6 {p q:Array Nat} {i j:Nat} (h:p[i]? = q[j]?):p.getD i 0 = q.getD j 0:=by
 simp only [Array.getD_eq_getD_getElem?,h]
theorem Aaj (L:Td n lt) (C:Sj n lt cmp s) (P:PmT n p) {Q:Nat->Shared->Prop}:∀ f m,1 <= m->m + f <= n->AsT lt p m->(∀ m',m <= m'->m' <= m + f->AsT lt p m'->(m' = m + f\/lt (p.getD m' 0) (p.getD (m' - 1) 0) = true)->Q m' s)->(kas_asc p f m).kasWp cmp Q s
 | 0,m,h1,h2,a,q=>q m (Nat.le_refl _) (Nat.le_refl _) a (.inl rfl)
 | f + 1,m,h1,h2,a,q=>by
  refine C _ _ _ (P.bd (by omega)) (P.bd (by omega)) ?_
  by_cases h:lt (p.getD m 0) (p.getD (m - 1) 0) = true
  ·rw[h]
   exact q m (Nat.le_refl _) (by omega) a (.inr h)
  ·have h':lt (p.getD m 0) (p.getD (m - 1) 0) = false:=by simpa using h
   rw[h']
   refine Aaj L C P f (m + 1) (by omega) (by omega) (fun i j hij hj=>?_) (fun m' b1 b2 b3 b4=>q m' (by omega) (by omega) b3 (b4.imp (by omega) id))
   by_cases e:j < m
   ·exact a i j hij e
   ·have ej:j = m:=by omega
    subst ej
    have w:=L.to _ _ (P.bd (by omega)) (P.bd (by omega)) (P.ne (by omega) (by omega) (by omega)) h'
    by_cases e2:i = j - 1
    ·subst e2; exact w
    ·exact L.tr _ _ _ (P.bd (by omega)) (P.bd (i:=j - 1) (by omega)) (P.bd (by omega)) (a i (j - 1) (by omega) (by omega)) w
theorem Abm (L:Td n lt) (C:Sj n lt cmp s) (P:PmT n p) {Q:Array Nat × Nat × Nat->Shared->Prop}:∀ f m,1 <= m->m + f <= n->DeT lt p m->(∀ m',m <= m'->m' <= m + f->DeT lt p m'->Q (p,m',0) s)->(kas_desc f p m 0).kasWp cmp Q s
 | 0,m,h1,h2,a,q=>q m (Nat.le_refl _) (Nat.le_refl _) a
 | f + 1,m,h1,h2,a,q=>by
  refine C _ _ _ (P.bd (by omega)) (P.bd (by omega)) ?_
  by_cases h:lt (p.getD m 0) (p.getD (m - 1) 0) = true
  ·rw[h]
   refine Abm L C P f (m + 1) (by omega) (by omega) (fun i j hij hj=>?_) (fun m' b1 b2 b3=>q m' (by omega) (by omega) b3)
   by_cases e:j < m
   ·exact a i j hij e
   ·have ej:j = m:=by omega
    subst ej
    by_cases e2:i = j - 1
    ·subst e2; exact h
    ·exact L.tr _ _ _ (P.bd (by omega)) (P.bd (i:=j - 1) (by omega)) (P.bd (by omega)) h (a i (j - 1) (by omega) (by omega))
  ·have h':lt (p.getD m 0) (p.getD (m - 1) 0) = false:=by simpa using h
   rw[h']
   refine C _ _ _ (P.bd (by omega)) (P.bd (by omega)) ?_
   rw[L.to _ _ (P.bd (by omega)) (P.bd (by omega)) (P.ne (by omega) (by omega) (by omega)) h']
   exact q m (Nat.le_refl _) (by omega) a
theorem Al4 {m:Nat} (h:DeT lt p m) (hm:m <= p.size):AsT lt (kas_rev p 0 m) m:=fun i j hij hj=>by
 have e:∀ k,k < m->(kas_rev p 0 m).getD k 0 = p.getD (m - 1 - k) 0:=fun k hk=>Ab6 (by
  unfold kas_rev
  rw[getElem?_mirror_all hm k,if_pos ⟨zero_le _,hk⟩]
  congr 1
  omega)
 rw[e i (by omega),e j hj]
 exact h (m - 1 - j) (m - 1 - i) (by omega) (by omega)
theorem Ajb (L:Td n lt) (C:Sj n lt cmp s) (P:PmT n p) {Q:Nat × Array Nat->Shared->Prop} {m nrem:Nat} (h1:1 <= m) (h2:m <= nrem) (h3:nrem <= n) (a:DeT lt p m) (q:∀ m' p',m' <= nrem->PmT n p'->AsT lt p' m'->Q (m',p') s):(kas_tail3 m nrem p).kasWp cmp Q s:=by
 unfold kas_tail3
 rw[KasT.kasWp_bind]
 have P':PmT n (kas_rev p 0 m):=P.of (mirror_perm _ _ _ _)
 exact Aaj L C P' (nrem - m) m h1 (by omega) (Al4 a (by rw[P.size]; omega)) fun m' b1 b2 b3 _=>q m' _ (by omega) P' b3
theorem Agr (L:Td n lt) (C:Sj n lt cmp s) (P:PmT n p) {Q:Nat × Array Nat->Shared->Prop} {nrem:Nat} (h1:1 <= nrem) (h3:nrem <= n) (q:∀ m' p',m' <= nrem->PmT n p'->AsT lt p' m'->Q (m',p') s):(kas_count nrem p).kasWp cmp Q s:=by
 unfold kas_count
 rw[KasT.kasWp_bind]
 refine Aaj L C P (nrem - 1) 1 (Nat.le_refl _) (by omega) (fun i j hij hj=>by omega) fun m b1 b2 b3 b4=>?_
 by_cases e:m = nrem
 ·subst e
  rw[show (m == m) = true from beq_self_eq_true m,if_pos rfl]
  exact q m p (Nat.le_refl _) P b3
 ·rw[if_neg (by simpa using e)]
  by_cases e1:m > 1
  ·rw[if_pos e1]
   refine C _ _ _ (P.bd (by omega)) (P.bd (by omega)) ?_
   rw[b3 0 (m - 1) (by omega) (by omega)]
   exact q m p (by omega) P b3
  ·rw[if_neg e1]
   have e2:m = 1:=by omega
   subst e2
   have d2:DeT lt p 2:=fun i j hij hj=>by
    have:i = 0:=by omega
    have:j = 1:=by omega
    subst_vars
    rcases b4 with b4 | b4
    ·omega
    ·exact b4
   unfold kas_descPart
   rw[KasT.kasWp_bind]
   refine Abm L C P (nrem - (1 + 1)) (1 + 1) (by omega) (by omega) d2 fun m' c1 c2 c3=>?_
   show (if 0 > 0 then _ else kas_tail3 m' nrem p).kasWp cmp Q s
   rw[if_neg (by omega)]
   exact Ajb L C P (by omega) (by omega) h3 c3 q
theorem Vg (L:Td n lt) (C:Sj n lt cmp s) (P:PmT n p) {Q:Nat->Shared->Prop} {k:Nat} (hk:k < n) (a:AsT lt p k):∀ f l r,l <= r->r <= k->r - l <= f->(∀ i,i < l->lt (p.getD i 0) (p.getD k 0) = true)->(∀ i,r <= i->i < k->lt (p.getD k 0) (p.getD i 0) = true) ->
  (∀ l',l' <= k->(∀ i,i < l'->lt (p.getD i 0) (p.getD k 0) = true)->(∀ i,l' <= i->i < k->lt (p.getD k 0) (p.getD i 0) = true)->Q l' s)->(kas_place p k f l r).kasWp cmp Q s
 | 0,l,r,h1,h2,h3,g1,g2,q=>q l (by omega) g1 fun i hi hk=>g2 i (by omega) hk
 | f + 1,l,r,h1,h2,h3,g1,g2,q=>by
  unfold kas_place
  by_cases e:l >= r
  ·rw[if_pos e]
   exact q l (by omega) g1 fun i hi hk=>g2 i (by omega) hk
  ·rw[if_neg e]
   have hm:(l + r) / 2 < r:=by omega
   have hm2:l <= (l + r) / 2:=by omega
   refine C _ _ _ (P.bd hk) (P.bd (by omega)) ?_
   generalize (l + r) / 2 = x at hm hm2
   by_cases h:lt (p.getD k 0) (p.getD x 0) = true
   ·rw[h]
    refine Vg L C P hk a f l x hm2 (by omega) (by omega) g1 (fun i hi hik=>?_) q
    by_cases ex:i = x
    ·subst ex; exact h
    ·exact L.tr _ _ _ (P.bd hk) (P.bd (by omega)) (P.bd (by omega)) h (a x i (by omega) hik)
   ·have h':lt (p.getD k 0) (p.getD x 0) = false:=by simpa using h
    rw[h']
    have w:=L.to _ _ (P.bd hk) (P.bd (by omega)) (P.ne hk (by omega) (by omega)) h'
    refine Vg L C P hk a f (x + 1) r (by omega) h2 (by omega) (fun i hi=>?_) g2 q
    by_cases ex:i = x
    ·subst ex; exact w
    ·exact L.tr _ _ _ (P.bd (by omega)) (P.bd (i:=x) (by omega)) (P.bd hk) (a i x (by omega) (by omega)) w
theorem Ak4 (P:PmT n p) {k l:Nat} (hk:k < n) (hl:l <= k) (a:AsT lt p k) (g1:∀ i,i < l->lt (p.getD i 0) (p.getD k 0) = true) (g2:∀ i,l <= i->i < k->lt (p.getD k 0) (p.getD i 0) = true):AsT lt (bubble p k (k - l)) (k + 1):=fun i j hij hj=>by
 have hs:k < p.size:=by rw[P.size]; exact hk
 have e:∀ x,(bubble p k (k - l)).getD x 0 = p.getD (if x = l then k else if l < x/\x <= k then x - 1 else x) 0:=fun x=>Ab6 (by
  rw[getElem?_bubble hs (k - l) (by omega) x,show k - (k - l) = l by omega]
  split
  ·rfl
  ·split <;> rfl)
 rw[e i,e j]
 by_cases i1:i = l
 ·rw[if_pos i1,if_neg (by omega),if_pos (by omega)]
  exact g2 (j - 1) (by omega) (by omega)
 ·rw[if_neg i1]
  by_cases j1:j = l
  ·rw[if_pos j1,if_neg (by omega)]
   exact g1 i (by omega)
  ·rw[if_neg j1]
   by_cases i2:l < i/\i <= k
   ·rw[if_pos i2,if_pos (by omega)]
    exact a (i - 1) (j - 1) (by omega) (by omega)
   ·rw[if_neg i2]
    by_cases j2:l < j/\j <= k
    ·rw[if_pos j2]
     exact a i (j - 1) (by omega) (by omega)
    ·rw[if_neg j2]
     exact a i j hij (by omega)
theorem Ae0 (L:Td n lt) (C:Sj n lt cmp s) {Q:Array Nat->Shared->Prop} (q:∀ p,PmT n p->AsT lt p n->Q p s):∀ f p k,PmT n p->f + k = n->AsT lt p k->(kas_bin f p k).kasWp cmp Q s
 | 0,p,k,P,e,a=>q p P (show AsT lt p n from
  (show k = n by omega) ▸ a)
 | f + 1,p,k,P,e,a=>by
  unfold kas_bin
  rw[KasT.kasWp_bind]
  refine Vg L C P (by omega) a k 0 k (zero_le _) (Nat.le_refl _) (by omega) (fun i hi=>by omega) (fun i h1 h2=>by omega) fun l hl g1 g2=>?_
  exact Ae0 L C q f _ (k + 1) (P.of (bubble_perm _ _ _)) (by omega) (Ak4 P (by omega) hl a g1 g2)
theorem Ajs (L:Td n lt) (C:Sj n lt cmp s) (hn:1 <= n) {Q:Array Nat->Shared->Prop} (q:∀ p,PmT n p->AsT lt p n->Q p s):(kas_sort n).kasWp cmp Q s:=by
 unfold kas_sort
 rw[KasT.kasWp_bind]
 refine Agr L C (show PmT n (List.toArray (range n)) from List.Perm.refl _) hn (Nat.le_refl _) fun m p hm P a=>?_
 show (if m < n then kas_bin (n - max m 1) p (max m 1) else KasT.ret p).kasWp cmp Q s
 by_cases h:m < n
 ·rw[if_pos h]
  refine Ae0 L C q _ p _ P (by omega) (fun i j hij hj=>a i j hij (by omega))
 ·rw[if_neg h]
  have:m = n:=by omega
  subst this
  exact q p P a
end
section
variable {prog:Program} {w:World} {A:Around} {E:Value->Shared->Prop} {s:Shared}
def TpV (h:Heap) (v:Value) (x:Int × Int):Prop:=∃ (b:Addr) (o:Obj) (t u:Tok) (k:Nat),v = .ref b/\h.get? b = some o/\o.cls = .type "tuple"/\o.data = .seq #[.int x.1 t,.int x.2 u] k
def lxB (x y:Int × Int):Bool:=decide (x.1 < y.1\/(x.1 = y.1/\x.2 < y.2))
theorem AlE {v v':Value} {x y:Int × Int} (hv:TpV s.heap v x) (hv':TpV s.heap v' y) {Q:Bool->Shared->Prop} (q:Q (lxB x y) s):wpAny (model prog w) A (keyLt' (tuples' true) v v') Q E s:=by
 obtain⟨b,o,t,u,k,rfl,h1,h2,h3⟩:=hv
 obtain⟨b',o',t',u',k',rfl,h1',h2',h3'⟩:=hv'
 refine kat_lt h1 h3 h1' h3' ?_
 refine kat_cons (wpAny_eqBool_int ?_)
 by_cases e:x.1 = y.1
 ·rw[show (x.1 == y.1) = true by simp [e]]
  refine kat_yes (kat_cons (wpAny_eqBool_int ?_))
  by_cases e2:x.2 = y.2
  ·rw[show (x.2 == y.2) = true by simp [e2]]
   refine kat_yes (kat_nil ?_)
   have:lxB x y = false:=decide_eq_false (by omega)
   rw[this] at q
   exact q
  ·rw[show (x.2 == y.2) = false by simp [e2]]
   refine kat_no (kat_one _ _ (wpAny_lt_int ?_))
   have:lxB x y = decide (x.2 < y.2):=decide_eq_decide.mpr (by omega)
   rw[this] at q
   exact q
 ·rw[show (x.1 == y.1) = false by simp [e]]
  refine kat_no (oneLt_int ?_)
  have:lxB x y = decide (x.1 < y.1):=decide_eq_decide.mpr (by omega)
  rw[this] at q
  exact q
theorem Abw {h:Heap}:∀ {vs:List Value} {ns:List (Int × Int)},vs.length = ns.length->(∀ (i:Nat) (v:Value) (x:Int × Int),vs[i]? = some v->ns[i]? = some x->TpV h v x)->∃ fs:List Value,fs.length = vs.length/\KatTups h vs fs/\∀ f ∈ fs,∃ (x:Int) (t:Tok),f = .int x t
 | [],[],_,_=>⟨[],rfl,trivial,fun f h=>(by cases h)⟩
 | [],_ :: _,hl,_=>by simp at hl
 | _ :: _,[],hl,_=>by simp at hl
 | v :: vs,n :: ns,hl,hv=>by
  obtain⟨fs,e,k,hf⟩:=Abw (vs:=vs) (ns:=ns) (by simpa using hl) fun i v x a b=>hv (i + 1) v x (by simpa using a) (by simpa using b)
  obtain⟨b,o,t,u,c,rfl,h1,h2,h3⟩:=hv 0 v n rfl rfl
  refine⟨.int n.1 t :: fs,by rw[length_cons,length_cons,e],KatTups.cons h1 h2 h3 rfl k,fun f hm=>?_⟩
  rcases mem_cons.mp hm with rfl | hm
  ·exact⟨_,_,rfl⟩
  ·exact hf f hm
theorem Ag3 {ns:List (Int × Int)} (nd:ns.Nodup):Td ns.length (fun i j=>lxB (ns.getD i (0,0)) (ns.getD j (0,0))):=by
 have ge:∀ i,i < ns.length->ns[i]? = some (ns.getD i (0,0)):=fun i hi=>by simp [hi]
 refine⟨fun a b c _ _ _ h1 h2=>?_,fun a b ha hb e h=>?_,fun a _=>decide_eq_false (by omega)⟩
 ·have h1:=of_decide_eq_true h1
  have h2:=of_decide_eq_true h2
  exact decide_eq_true (by omega)
 ·have h:=of_decide_eq_false h
  refine decide_eq_true ?_
  have ne:¬ (ns.getD a (0,0) = ns.getD b (0,0)):=fun z=>e ((List.getElem?_inj ha nd).mp (by rw[ge a ha,ge b hb,z]))
  have ne2:¬ ((ns.getD a (0,0)).1 = (ns.getD b (0,0)).1/\(ns.getD a (0,0)).2 = (ns.getD b (0,0)).2):=fun z=>ne (Prod.ext z.1 z.2)
  omega
theorem Yv {a:Addr} {vs:List Value} {ns:List (Int × Int)} {n:Nat} {P:PySem.Fin->Shared->Prop} (ho:s.heap.get? a = some (seqObj "list" vs.toArray n))
  (hl:vs.length = ns.length) (hv:∀ (i:Nat) (v:Value) (x:Int × Int),vs[i]? = some v->ns[i]? = some x->TpV s.heap v x) (nd:ns.Nodup) (h64:vs.length < 64)
  (h:∀ p:List Nat,p.Perm (range vs.length)->p.Pairwise (fun i j=>lxB (ns.getD i (0,0)) (ns.getD j (0,0)) = true)->P (.done (.ret .none)) { s with heap:=sortedHeap s.heap a vs (p.map fun i=>vs.getD i Value.none).toArray }) :
  wpAny (model prog w) A (Builtin.«list.sort» ⟨[.ref a],[]⟩) P E s:=by
 rw[list_sort_plain]
 have ha:a < s.heap.objs.size:=lt_size ho
 refine wpAny_bind (listItems_at ho rfl ?_)
 refine wpAny_bind (listUpdate_at ho rfl ?_ (by rw[size_toArray,sizeLine_eq]; omega) (zero_le _))
 obtain⟨e1,ho1⟩:∃ e1,(s.heap.update a (Obj.mapSeq fun _=>#[])).get? a = some (seqObj "list" #[] e1):=⟨_,get?_update_seq ho (fun _=>#[])⟩
 refine wpAny_bind (seqEpoch_at ho1 rfl ?_)
 refine wpAny_bind (wpAny_newTuple ?_ (by show vs.length <= _; rw[sizeLine_eq]; omega))
 refine wpAny_bind (wpAny_newList ?_ (zero_le _))
 refine wpAny_holding ?_
 have keep:∀ b o,b ≠ a->s.heap.get? b = some o->(((s.heap.update a (Obj.mapSeq fun _=>#[])).push (seqObj "tuple" vs.toArray 0)).push (seqObj "list" #[] 0)).get? b = some o:=fun b o hb e=>by
  refine get?_push_of_some _ (get?_push_of_some _ ?_)
  rw[Heap.get?_update_ne _ _ _ _ hb]
  exact e
 have ho6:(((s.heap.update a (Obj.mapSeq fun _=>#[])).push (seqObj "tuple" vs.toArray 0)).push (seqObj "list" #[] 0)).get? a = some (seqObj "list" #[] e1):=by
  rw[Heap.get?_push_ne _ _ _ (by rw[size_push',Heap.size_update]; exact ne_of_lt (Nat.lt_succ_of_lt ha)),Heap.get?_push_ne _ _ _ (by rw[Heap.size_update]; exact ne_of_lt ha)]
  exact ho1
 have hv6:∀ (i:Nat) (v:Value) (x:Int × Int),vs[i]? = some v->ns[i]? = some x->TpV (((s.heap.update a (Obj.mapSeq fun _=>#[])).push (seqObj "tuple" vs.toArray 0)).push (seqObj "list" #[] 0)) v x:=fun i v x e1 e2=>by
  obtain⟨b,o,t,u,c,rfl,h1,h2,h3⟩:=hv i v x e1 e2
  refine⟨b,o,t,u,c,rfl,keep b o (fun z=>?_) h1,h2,h3⟩
  subst z
  rw[ho] at h1
  cases h1
  exact absurd h2 (by simp [seqObj])
 show wpAny (model prog w) A _ P E { s with heap:=((s.heap.update a (Obj.mapSeq fun _=>#[])).push (seqObj "tuple" vs.toArray 0)).push (seqObj "list" #[] 0) }
 dsimp only
 have hsz:vs.toArray.size = vs.length:=by simp
 by_cases h2:vs.toArray.size < 2
 ·rw[if_pos h2,if_pos h2]
  refine wpAny_bind (wpAny_pure ?_)
  rw[StateT.run_pure]
  refine wpAny_bind (wpAny_pure ?_)
  dsimp only
  refine wpAny_bind (seqEpoch_at ho6 rfl ?_)
  refine wpAny_bind (listUpdate_at ho6 rfl ?_ (zero_le _) (by rw[Array.size_map]; show (pairsOf vs).size <= _; rw[pairsOf_size,sizeLine_eq]; omega))
  simp only [bne_self_eq_false,false_eq_true,if_false]
  have fin:=h (range vs.length) (.refl _) (by
   match vs,hsz,h2 with
   | [],_,_=>exact .nil
   | [_],_,_=>exact List.pairwise_singleton _ _
   | v₁ :: v₂ :: rest,_,h2=>simp at h2; omega)
  have e2:((arrOf (SortSt.mk' general' (vs.toArray.zip vs.toArray) #[] 7 none)).map (·.2)) = ((range vs.length).map fun i=>vs.getD i Value.none).toArray:=by
   have er:=kas_range (vs.toArray.zip vs.toArray)
   rw[show (vs.toArray.zip vs.toArray).size = vs.length by simp] at er
   exact kat_snds (ks:=vs) (st:=SortSt.mk' general' (vs.toArray.zip vs.toArray) #[] 7 none) (p:=List.toArray (range vs.length)) rfl er.symm
  rw[e2]
  exact wpAny_pure fin
 ·rw[if_neg h2,if_neg h2]
  have h2':2 <= vs.length:=by rw[hsz] at h2; omega
  obtain⟨fs,fl,ft,fi⟩:=Abw hl hv6
  refine wpAny_bind (kat_kind (s:={ s with heap:=((s.heap.update a (Obj.mapSeq fun _=>#[])).push (seqObj "tuple" vs.toArray 0)).push (seqObj "list" #[] 0) }) (T:=.type "int") ft (by omega) (fun v hv=>?_) (by decide +kernel) ?_)
  ·obtain⟨x,t,rfl⟩:=fi v hv
   exact Looks.of_pure rfl
  rw[show (Value.type "int" != Value.type "tuple") = true by decide +kernel]
  refine wpAny_bind (wpAny_mono (kat_run (Q:=fun st' s'=>∃ p:Array Nat,p.size = vs.length/\arrOf st' = p.map (kas_item (vs.toArray.zip vs.toArray))/\failedOf st' = none/\(PmT vs.length p/\AsT (fun i j=>lxB (ns.getD i (0,0)) (ns.getD j (0,0))) p vs.length/\s' = { s with heap:=((s.heap.update a (Obj.mapSeq fun _=>#[])).push (seqObj "tuple" vs.toArray 0)).push (seqObj "list" #[] 0) }))
   (G:=fun p s'=>PmT vs.length p/\AsT (fun i j=>lxB (ns.getD i (0,0)) (ns.getD j (0,0))) p vs.length/\s' = { s with heap:=((s.heap.update a (Obj.mapSeq fun _=>#[])).push (seqObj "tuple" vs.toArray 0)).push (seqObj "list" #[] 0) })
   rfl h2' h64 (fun p' st' s' a1 a2 a3 a4=>⟨p',a1,a2,a3,a4⟩) ?_) ?_ fun _ _ e=>e)
  ·refine Ajs (by have:=Ag3 nd; rw[<- hl] at this; exact this) (fun i j C hi hj hc=>?_) (by omega) fun p P a=>⟨P,a,rfl⟩
   refine AlE (x:=ns.getD i (0,0)) (y:=ns.getD j (0,0)) (hv6 i _ _ ?_ ?_) (hv6 j _ _ ?_ ?_) hc
   ·simp [hi]
   ·simp [show i < ns.length by omega]
   ·simp [hj]
   ·simp [show j < ns.length by omega]
  ·rintro ⟨⟨⟩,st'⟩ s' ⟨p,hp,har,hf,P,as,rfl⟩
   dsimp only
   have hout:=kat_snds rfl har
   rw[hout]
   have hsz3:(List.toArray (p.toList.map fun i=>vs.getD i Value.none)).size = vs.length:=by rw[size_toArray,length_map,Array.length_toList,hp]
   refine wpAny_bind (seqEpoch_at ho6 rfl ?_)
   refine wpAny_bind (listUpdate_at ho6 rfl ?_ (zero_le _) (Nat.le_trans (Nat.le_of_eq hsz3) (by rw[sizeLine_eq]; omega)))
   rw[hf]
   simp only [bne_self_eq_false,false_eq_true,if_false]
   refine wpAny_pure (h p.toList P ?_)
   rw[List.pairwise_iff_getElem]
   intro i j hi hj hij
   rw[Array.length_toList] at hi hj
   have:=as i j hij (by omega)
   have ge:∀ i (hi:i < p.toList.length),p.toList[i] = p.getD i 0:=fun i hi=>by
    have:=P.get (i:=i) (by rw[Array.length_toList] at hi; omega)
    rw[getElem?_eq_getElem hi] at this
    exact Option.some.inj this
   rw[ge i,ge j]
   exact this
end
section
variable {X:Cx}
theorem Aak (K':Frag) (h:X.K = K':=by rfl):Lr X (.builtin "sorted") (fun xs H Q=>∃ (p:Addr) (vs:List V) (ns:List (Int × Int)),xs = [.ref p]/\SqL K' H p vs/\vs.length = ns.length/\(∀ (i:Nat) (v:V) (x:Int × Int),vs[i]? = some v->ns[i]? = some x->∃ b,v = .ref b/\H b = some (.tup [.int x.1,.int x.2]))/\ns.Nodup/\ns.length < 64 /\
  ∀ (l:Addr) (H':Hp) (is:List Nat),H l = none->Same H H'->H' l = some (.lst (is.map fun i=>vs.getD i V.non))->is.Perm (range ns.length)->is.Pairwise (fun i j=>lxB (ns.getD i (0,0)) (ns.getD j (0,0)) = true)->Q (.ref l) H'):=by
 subst h
 intro pins s σ H xs us Q I r h
 obtain⟨p,vs,ns,rfl,hq,hl,hv,nd,h64,q⟩:=h
 obtain⟨u,rfl,rx⟩:=Rn r
 cases rx
 obtain⟨its,r',pl,hz⟩:=I.list hq
 have hlen:=r'.length
 have hvv:∀ (i:Nat) (v:Value) (x:Int × Int),its[i]? = some v->ns[i]? = some x->TpV s.heap v x:=fun i v x e1 e2=>by
  have hi:i < vs.length:=by have:=(List.getElem?_eq_some_iff.mp e2).1; omega
  have ev:=getElem?_eq_getElem hi
  obtain⟨u,eu,ru⟩:=Vals.get r' ev
  rw[e1] at eu
  cases eu
  obtain⟨b,eb,hb⟩:=hv i _ x ev e2
  rw[eb] at ru
  cases (show v = Value.ref b from ru)
  obtain⟨_,it2,r2,o,h1,h2,n,h3⟩:=(show ObjOk X.prog X.w H s.heap b (.tup [.int x.1,.int x.2]) from I.hok b _ hb)
  obtain⟨u1,u2,rfl,⟨t1,rfl⟩,⟨t2,rfl⟩⟩:=Vals.two r2
  exact⟨b,o,t1,t2,n,rfl,h1,h2,h3⟩
 refine Calls.call_function_entry kind_sorted plain_sorted entry_sorted (args_sorted1 _) ?_
 unfold Builtin.«sorted»
 refine wpAny_bind (m:=checkCount "sorted" 1 1 _) (wpAny_pure ?_)
 refine wpAny_bind (collect_list pl.isList ?_ (by rw[sizeLine_eq]; omega))
 refine wpAny_bind (wpAny_newList ?_ (by rw[sizeLine_eq]; omega))
 have hsz:((s.heap.push (seqObj "list" #[] 0)).update s.heap.objs.size (Obj.mapSeq (· ++ its.toArray))).objs.size = s.heap.objs.size + 1:=by
  rw[Heap.size_update,size_push']
 have hoL:(((s.heap.push (seqObj "list" #[] 0)).update s.heap.objs.size (Obj.mapSeq (· ++ its.toArray))).push (seqObj "list" its.toArray 0)).get? (s.heap.objs.size + 1) = some (seqObj "list" its.toArray 0):=by
  rw[<- hsz]; exact get?_push_size _ rfl
 have keep:∀ b o,s.heap.get? b = some o->(((s.heap.push (seqObj "list" #[] 0)).update s.heap.objs.size (Obj.mapSeq (· ++ its.toArray))).push (seqObj "list" its.toArray 0)).get? b = some o:=fun b o q=>by
  have hlt:b < s.heap.objs.size:=lt_size q
  rw[Heap.get?_push_ne _ _ _ (by rw[hsz]; exact ne_of_lt (Nat.lt_succ_of_lt hlt)),Heap.get?_update_ne _ _ _ _ (ne_of_lt hlt),Heap.get?_push_ne _ _ _ (ne_of_lt hlt)]
  exact q
 show wpAny _ _ _ _ _ { s with heap:=((s.heap.push (seqObj "list" #[] 0)).update s.heap.objs.size (Obj.mapSeq (· ++ its.toArray))).push (seqObj "list" its.toArray 0) }
 rw[hsz]
 refine wpAny_bind (wpAny_holding (wpAny_call_entry slot_list_sort ⟨_,hoL,rfl⟩ entry_list_sort (Yv (ns:=ns) hoL (by omega) (fun i v x e1 e2=>?_) nd (by omega) fun is a1 a2=>⟨_,rfl,?_⟩) (args_list_sort _)))
 ·obtain⟨b,o,t,u,c,rfl,h1,h2,h3⟩:=hvv i v x e1 e2
  exact⟨b,o,t,u,c,rfl,keep b o h1,h2,h3⟩
 refine wpAny_pure ⟨_,rfl,?_⟩
 obtain⟨e,he⟩:=sortedAll_at s.heap its ((is.map fun i=>its.getD i Value.none).toArray)
 have hf:H (s.heap.objs.size + 1) = none:=I.hok.fresh (le_succ _)
 rw[show its.length = ns.length by omega] at a1
 have hil:is.length = ns.length:=by have:=a1.length_eq; rw[length_range] at this; exact this
 have hl':(is.map fun i=>vs.getD i V.non).length <= sizeLine:=by rw[length_map,hil]; exact Nat.le_of_lt (Qe (by omega))
 have hvals:Vals (is.map fun i=>vs.getD i V.non) (is.map fun i=>its.getD i Value.none):=by
  clear a1 a2 hil hl' e he
  induction is with
  | nil=>exact .nil
  | cons i r ih =>
   refine .cons ?_ ih
   cases ev:vs[i]? with
   | none =>
    have:=Vals.none_of r' ev
    show RelV (vs.getD i V.non) (its.getD i Value.none)
    rw[List.getD_eq_getElem?_getD,List.getD_eq_getElem?_getD,ev,this]
    rfl
   | some v =>
    obtain⟨u,eu,ru⟩:=Vals.get r' ev
    show RelV (vs.getD i V.non) (its.getD i Value.none)
    rw[List.getD_eq_getElem?_getD,List.getD_eq_getElem?_getD,ev,eu]
    exact ru
 exact⟨.ref (s.heap.objs.size + 1),upd H (s.heap.objs.size + 1) (.lst (is.map fun i=>vs.getD i V.non)),I.laid (t':=s.toks) (fun b o hb=>sortedAll_old hb) (le_succ _) ⟨hl',_,e,hvals,he⟩,rfl,q _ _ is hf (Same.laid hf) Bp a1 a2⟩
end
def lxL:List Int->List Int->Bool
 | [],[]=>false
 | [],_ :: _=>true
 | _ :: _,[]=>false
 | x :: a,y :: b=>if x = y then lxL a b else decide (x < y)
section
open AutoSeq1 (wpAny_loadPart')
open MeetsSeq MeetsSeq2 MeetsSeq3
theorem Aju:∀ {xs ys:List Int},xs = []\/ys = []->lxL xs ys = decide (xs.length < ys.length)
 | [],[],_=>rfl
 | [],_ :: _,_=>(decide_eq_true (by simp)).symm
 | _ :: _,[],_=>(decide_eq_false (by simp)).symm
 | _ :: _,_ :: _,h=>by simp at h
theorem Wz:∀ {vs:List Value} {xs:List Int} {i:Nat} {v:Value},IntsAre vs xs->vs[i]? = some v->∃ (x:Int) (t:Tok),v = .int x t/\xs[i]? = some x
 | _,_,_,_,.nil,e=>by simp at e
 | _,_,0,_,.cons n t h,e=>by simp at e; subst e; exact⟨n,t,rfl,rfl⟩
 | _,_,i + 1,_,.cons n t h,e=>Wz h (i:=i) (by simpa using e)
theorem Uv:∀ {vs:List Value} {xs:List Int},IntsAre vs xs->vs.length = xs.length
 | _,_,.nil=>rfl
 | _,_,.cons n t h=>by simp [Uv h]
theorem AjA (l b:Addr) (items items2:Array Value) (n n2:Nat) (dd dd2:Option Addr) (sl sl2:Array (Option Value)) (xs ys:List Int) (hx:IntsAre items.toList xs) (hy:IntsAre items2.toList ys) (k:Nat) :
  ∀ i:Nat,i <= items.size->i <= items2.size->min items.size items2.size - i = k->Meets (Builtin.«list.__eq__.loop» ⟨[.ref l,.ref b,rawInt i,rawInt 0],[]⟩)
   (fun A R s=>s.heap.get? l = some { cls:=.type "list",dict:=dd,data:=.seq items n,slots:=sl }/\s.heap.get? b = some { cls:=.type "list",dict:=dd2,data:=.seq items2 n2,slots:=sl2 } /\
    R (.ok (.ret (.bool (lxL (xs.drop i) (ys.drop i))))) s):=by
 have lx:=Uv hx
 have ly:=Uv hy
 rw[Array.length_toList] at lx ly
 induction k with
 | zero =>
  intro i g1 g2 hk prog w A R s h
  obtain⟨hp,g,d,tk,os⟩:=s; obtain⟨hl,hb,h⟩:=h
  wp_walk using wpAny_loadPart' hl,wpAny_loadPart' hb
  have fin:R (.ok (.ret (.bool (decide (items.size < items2.size))))) ⟨hp,g,d,tk,os⟩:=by
   have e:lxL (xs.drop i) (ys.drop i) = decide (items.size < items2.size):=by
    rw[Aju (by rw[List.drop_eq_nil_iff,List.drop_eq_nil_iff]; omega),length_drop,length_drop]
    exact decide_eq_decide.mpr (by omega)
   rw[e] at h
   exact h
  by_cases z:i < items.size
  ·have hi1:items[((i:Nat):Int).toNat]? = some items[i]:=by simp [z]
   have hi2:items2[((i:Nat):Int).toNat]? = none:=by simp; omega
   rw[hi1,hi2]
   wp_walk using wpAny_loadPart' hl,wpAny_loadPart' hb
   exact fin
  ·have hi1:items[((i:Nat):Int).toNat]? = none:=by simp; omega
   rw[hi1]
   wp_walk using wpAny_loadPart' hl,wpAny_loadPart' hb
   exact fin
 | succ k ih =>
  intro i g1 g2 hk prog w A R s h
  obtain⟨hp,g,d,tk,os⟩:=s; obtain⟨hl,hb,h⟩:=h
  wp_walk using wpAny_loadPart' hl,wpAny_loadPart' hb
  have hlt:i < items.size:=by omega
  have hlt2:i < items2.size:=by omega
  have hi1:items[((i:Nat):Int).toNat]? = some items[i]:=by simp [hlt]
  have hi2:items2[((i:Nat):Int).toNat]? = some items2[i]:=by simp [hlt2]
  have hc:((i:Int) + 1) = ((i + 1:Nat):Int):=by push_cast; rfl
  obtain⟨x,t,ex,ex2⟩:=Wz (i:=i) (v:=items[i]) hx (by rw[Array.getElem?_toList,Array.getElem?_eq_getElem hlt])
  obtain⟨y,u,ey,ey2⟩:=Wz (i:=i) (v:=items2[i]) hy (by rw[Array.getElem?_toList,Array.getElem?_eq_getElem hlt2])
  rw[hi1,hi2,ex,ey]
  have d1:xs.drop i = x :: xs.drop (i + 1):=by obtain⟨a,b⟩:=List.getElem?_eq_some_iff.mp ex2; rw[drop_eq_getElem_cons a,b]
  have d2:ys.drop i = y :: ys.drop (i + 1):=by obtain⟨a,b⟩:=List.getElem?_eq_some_iff.mp ey2; rw[drop_eq_getElem_cons a,b]
  rw[d1,d2,lxL] at h
  refine wpAny_bind (wpAny_eqBool_int ?_)
  by_cases hb':x = y
  ·rw[if_pos hb'] at h
   rw[show (x == y) = true by simp [hb']]
   wp_walk
   rw[hc]
   exact⟨plainId_quiet plain_eq_loop _,codeAny_builtin entry_eq_loop (by
    rw[Around.under_plainId plain_eq_loop _]
    exact ih (i + 1) (by omega) (by omega) (by omega) prog w A R _ ⟨hl,hb,h⟩)⟩
  ·rw[if_neg hb'] at h
   rw[show (x == y) = false by simp [hb']]
   wp_walk using wpAny_loadPart' hl,wpAny_loadPart' hb
   rw[hi1,hi2,ex,ey]
   refine wpAny_bind (show wpAny _ _ (richCompare .Lt (.int x t) (.int y u)) _ _ _ from wpAny_lt_int ?_)
   wp_walk
   exact h
theorem AiI (l b:Addr) (items items2:Array Value) (n n2:Nat) (dd dd2:Option Addr) (sl sl2:Array (Option Value)) (xs ys:List Int) (hx:IntsAre items.toList xs) (hy:IntsAre items2.toList ys) :
  Meets (Builtin.«list.__lt__» ⟨[.ref l,.ref b],[]⟩)
   (fun A R s=>s.heap.get? l = some { cls:=.type "list",dict:=dd,data:=.seq items n,slots:=sl }/\s.heap.get? b = some { cls:=.type "list",dict:=dd2,data:=.seq items2 n2,slots:=sl2 } /\
    R (.ok (.ret (.bool (lxL xs ys)))) s):=by
 intro prog w A R s h
 obtain⟨hp,g,d,tk,os⟩:=s; obtain⟨hl,hb,h⟩:=h
 have f3:=AutoSeq1.sub_list_list
 wp_walk using wpAny_loadPart' hl,wpAny_loadPart' hb
 exact⟨plainId_quiet plain_eq_loop _,codeAny_builtin entry_eq_loop (by
  rw[Around.under_plainId plain_eq_loop _]
  exact AjA l b items items2 n n2 dd dd2 sl sl2 xs ys hx hy _ 0 (zero_le _) (zero_le _) rfl prog w A R _ ⟨hl,hb,by simpa using h⟩)⟩
end
section
variable {X:Cx}
def AkR (K:Frag):R2:=fun x y H Q=>∃ a b xs ys,x = .ref a/\y = .ref b/\SqL K H a (xs.map V.int)/\SqL K H b (ys.map V.int)/\Q (.bl (lxL xs ys)) H
theorem Ako (hu:X.A.units + 64 < cLine):OpR X (compareOp .Lt) (AkR X.K):=by
 intro pins s σ H x y v u Q I rx ry h
 obtain⟨a,b,xs,ys,rfl,rfl,hx,hy,q⟩:=h
 cases rx; cases ry
 obtain⟨us,r1,p1,_⟩:=I.list hx
 obtain⟨vs,r2,p2,_⟩:=I.list hy
 have fin:EP X pins σ Q (.bool (lxL xs ys)) s:=⟨.bl _,H,I,rfl,q⟩
 obtain⟨⟨cls,dd,data,sl⟩,ho,hc,n,hd⟩:=p1.isList
 obtain⟨⟨cls2,dd2,data2,sl2⟩,ho2,hc2,n2,hd2⟩:=p2.isList
 simp only at hc hd hc2 hd2
 subst hc hd hc2 hd2
 exact richCompare_meets_room (op:=.Lt) ⟨_,ho,rfl⟩ ⟨_,ho2,rfl⟩ F.slot_list_lt F.entry_list_lt (F.args_list_lt_2 _ _) (AiI a b us.toArray vs.toArray n n2 dd dd2 sl sl2 xs ys (by simpa using Lv r1) (by simpa using Lv r2))
  ⟨ho,ho2,show Value.bool (lxL xs ys) ≠ Value.notImplemented/\_ from ⟨(fun x=>nomatch x),fin⟩⟩ (by omega)
end
section
variable {X:Cx}
def AlM:R2:=fun x y H Q=>∃ b c:Bool,x = .bl b/\y = .bl c/\Q (.bl (decide (b = c))) H
theorem AlO:OpR X (compareOp .Is) AlM:=by
 intro pins s σ H x y v u Q I rx ry h
 obtain⟨b,c,rfl,rfl,q⟩:=h
 cases rx; cases ry
 have fin:EP X pins σ Q (.bool (decide (b = c))) s:=⟨.bl _,H,I,rfl,q⟩
 refine wpAny_bind (wpAny_isSame_plain rfl ?_)
 refine wpAny_pure ?_
 rw[show (Value.bool b == Value.bool c) = decide (b = c) by cases b <;> cases c <;> rfl]
 exact fin
end
end L2
namespace My
open PySem L2
local macro_rules | `(tactic| walk_at "k")=>`(tactic| exact⟨rfl,rfl,rfl,by decide +kernel,rfl,by decide +kernel,by decide +kernel⟩)
local macro_rules | `(tactic| walk_at "b1")=>`(tactic| exact fun _ _ _ _ _ _ us hl=>match us,hl with | [_],_=>rfl)
local macro_rules | `(tactic| walk_at "b2")=>`(tactic| exact fun _ _ _ _ _ _ us hl=>match us,hl with | [_,_],_=>rfl)
local macro_rules | `(tactic| walk_at "b3")=>`(tactic| exact fun _ _ _ _ _ _ us hl=>match us,hl with | [_,_,_],_=>rfl)
local macro_rules | `(tactic| walk_at "b4")=>`(tactic| exact fun _ _ _ _ _ _ us hl=>match us,hl with | [_,_,_,_],_=>rfl)
def top (i:Nat):Stmt:=PySem.Challenge.pw_bothhands_k75_whole_there_and_back.main.body.getD i (.Pass ⟨0,0,0,0⟩)
abbrev AcA:Stmt:=top 43
theorem sc_qbh:Cb ["_law_cell","_law_by","_law_low","_law_step"] ["_law_cell"] (Bt AcA):=by walk_at "k"
abbrev Acq:Stmt:=top 44
theorem sc_qbs:Cb ["_law_cell","_law_more","_law_signs_here","_law_words_here","_law_told_here","_law_k","_law_word","_law_rank"] ["_law_cell","_law_more","_law_signs_here"] (Bt Acq):=by walk_at "k"
abbrev Acs:Stmt:=top 45
theorem sc_qbd:Cb ["_law_cell","_law_told_here","_law_signs_here","_law_words_here","_law_sign","_law_word","_law_rank","_law_marks","_law_bases","_law_joins_here","_law_held","_law_k","_law_base","_law_mark"] ["_law_cell","_law_told_here","_law_signs_here"] (Bt Acs):=by walk_at "k"
abbrev AgO:Stmt:=top 42
theorem AmZ:Cb ["_law_script","_law_k"] ["_law_script","_law_k"] (Bt AgO):=by walk_at "k"
abbrev AcH:Stmt:=top 46
theorem sc_qbf:Cb ["_law_script","_law_cell","_law_signs_here","_law_told_here","_law_joins_here","_law_mates"] ["_law_script"] (Bt AcH):=by walk_at "k"
abbrev Ade:Stmt:=top 47
theorem sc_qbi:Cb ["_law_lists_here","_law_words_here","_law_sign","_law_word","_law_rank","_law_one","_law_other"] ["_law_lists_here"] (Bt Ade):=by walk_at "k"
abbrev Ag4:Stmt:=top 27
theorem AmE:Cb ["held","words"] ["held","words"] (Bt Ag4):=by walk_at "k"
abbrev AfD:Stmt:=top 28
theorem sc_qc:Cb ["rows","length","row"] ["rows","length"] (Bt AfD):=by walk_at "k"
abbrev AfP:Stmt:=top 6
theorem Amz:Cb ["thing"] ["thing"] (Bt AfP):=by walk_at "k"
abbrev Adn:Stmt:=top 7
theorem AlG:Cb ["thing"] ["thing"] (Bt Adn):=by walk_at "k"
abbrev Ada:Stmt:=top 32
theorem AjY:Cb ["kinds","sign","kind"] ["kinds","sign","kind"] (Bt Ada):=by walk_at "k"
abbrev Agk:Stmt:=top 29
theorem Anx:Cb ["thing"] ["thing"] (Bt Agk):=by walk_at "k"
abbrev Agg:Stmt:=top 30
theorem Anc:Cb ["kind","thing"] ["kind","thing"] (Bt Agg):=by walk_at "k"
abbrev Afz:Stmt:=top 33
theorem sc_qq:Cb ["signs","mates","kinds","sign","kind","rank","first","second"] ["signs","mates"] (Bt Afz):=by walk_at "k"
abbrev AgH:Stmt:=top 34
theorem sc_qv:Cb ["signs","ranks","sign","kind","rank"] ["signs"] (Bt AgH):=by walk_at "k"
abbrev Ac4:Stmt:=top 35
theorem sc_qbb:Cb ["mates","found","first","second"] ["mates"] (Bt Ac4):=by walk_at "k"
abbrev Ag7:Stmt:=top 31
theorem Am8:Cb ["kinds","sign"] ["kinds","sign"] (Bt Ag7):=by walk_at "k"
abbrev AgB:Stmt:=top 36
theorem sc_qn:Cb ["kinds","whole","base","mark","kind"] ["kinds","whole","base","mark"] (Bt AgB):=by walk_at "k"
abbrev Aft:Stmt:=top 37
theorem sc_qd:Cb ["pairs","whole","sign","going"] ["pairs","whole"] (Bt Aft):=by walk_at "k"
abbrev AfS:Stmt:=top 38
theorem sc_qu:Cb ["kinds","joins","pairs","whole","base","mark"] ["kinds","joins"] (Bt AfS):=by walk_at "k"
abbrev Ag1:Stmt:=top 39
theorem sc_qk:Cb ["pairs","wholes","whole","pair"] ["pairs"] (Bt Ag1):=by walk_at "k"
abbrev AcG:Stmt:=Qu (top 40) 0
theorem AmB:Cb ["self","signs","mates","joins"] ["self","signs","mates","joins"] (Bt AcG):=by walk_at "k"
abbrev AfA:Stmt:=top 48
theorem sc_qr:Cb ["_law_lists_here","_law_words_here","_law_chosen","_law_groups_here","_law_word"] ["_law_lists_here","_law_words_here","_law_chosen"] (Bt AfA):=by walk_at "k"
abbrev Aco:Stmt:=top 49
theorem sc_qbg:Cb ["_law_lists_here","_law_words_here","_law_groups_here"] ["_law_lists_here","_law_words_here"] (Bt Aco):=by walk_at "k"
abbrev Ac2:Stmt:=top 50
theorem sc_qbr:Cb ["_law_groups_here","_law_cells","_law_found","_law_cell","_law_group"] ["_law_groups_here","_law_cells"] (Bt Ac2):=by walk_at "k"
abbrev Ag0:Stmt:=top 51
theorem sc_qs:Cb ["_law_words_here","_law_signs_here","_law_found","_law_sign"] ["_law_words_here","_law_signs_here"] (Bt Ag0):=by walk_at "k"
abbrev Agz:Stmt:=top 54
theorem sc_qh:Cb ["_law_lists_here","_law_signs_here","_law_cell","_law_at","_law_two","_law_whole","_law_base","_law_mark","_law_ranks"] ["_law_lists_here","_law_signs_here","_law_cell"] (Bt Agz):=by walk_at "k"
abbrev Ac1:Stmt:=top 55
theorem sc_qbt:Cb ["_law_lists_here","_law_words_here","_law_signs_here","_law_cells","_law_cell","_law_some","_law_at","_law_found","_law_whole","_law_number"] ["_law_lists_here","_law_words_here","_law_signs_here","_law_cells","_law_cell"] (Bt Ac1):=by walk_at "k"
abbrev Zi:Stmt:=Qu (top 40) 2
theorem Akd:Cb ["self","sign"] ["self","sign"] (Bt Zi):=by walk_at "k"
abbrev Adb:Stmt:=Qu (top 40) 4
theorem AmK:Cb ["self","sign"] ["self","sign"] (Bt Adb):=by walk_at "k"
abbrev Af9:Stmt:=top 12
theorem sc_ql:Cb ["book","sign","base","marks","pair"] ["book","sign"] (Bt Af9):=by walk_at "k"
abbrev Afu:Stmt:=top 13
theorem Ana:Cb ["book","whole"] ["book","whole"] (Bt Afu):=by walk_at "k"
abbrev Ac7:Stmt:=Qu (top 40) 1
theorem AnC:Cb ["self","sign"] ["self","sign"] (Bt Ac7):=by walk_at "k"
abbrev Adc:Stmt:=top 9
theorem sc_qbl:Cb ["book","text","wholes","sign"] ["book","text"] (Bt Adc):=by walk_at "k"
abbrev AgP:Stmt:=top 18
theorem AnI:Cb ["book","text"] ["book","text"] (Bt AgP):=by walk_at "k"
abbrev Adm:Stmt:=top 20
theorem sc_qbo:Cb ["book","text","what","wanted","wholes","number"] ["book","text","what"] (Bt Adm):=by walk_at "k"
abbrev AcJ:Stmt:=top 56
theorem sc_qbp:Cb ["_law_some","_law_found","_law_whole"] ["_law_some"] (Bt AcJ):=by walk_at "k"
abbrev Acp:Stmt:=top 10
theorem sc_qbv:Cb ["wholes","signs","whole"] ["wholes"] (Bt Acp):=by walk_at "k"
abbrev Act:Stmt:=top 21
theorem sc_qbu:Cb ["book","text","what","by","wholes","number","signs","done","k"] ["book","text","what","by"] (Bt Act):=by walk_at "k"
abbrev Acb:Stmt:=top 57
theorem sc_qbc:Cb ["_law_spots","_law_many","_law_found","_law_k"] ["_law_spots","_law_many"] (Bt Acb):=by walk_at "k"
abbrev Acm:Stmt:=top 53
theorem sc_qbq:Cb ["_law_lists_here","_law_words_here","_law_signs_here","_law_ranks","_law_sign","_law_word","_law_rank","_law_halves","_law_whole","_law_base","_law_mark","_law_found","_law_rest","_law_start","_law_marks","_law_order"] ["_law_lists_here","_law_words_here","_law_signs_here"] (Bt Acm):=by walk_at "k"
abbrev AcM:Stmt:=Qu (top 40) 5
theorem Am7:Cb ["self","base","mark"] ["self","base","mark"] (Bt AcM):=by walk_at "k"
abbrev AfY:Stmt:=top 14
theorem sc_qj:Cb ["book","long_signs","base","kept","mark","joined","barred"] ["book","long_signs"] (Bt AfY):=by walk_at "k"
abbrev AgX:Stmt:=top 16
theorem sc_qw:Cb ["book","text","signs","whole"] ["book","text"] (Bt AgX):=by walk_at "k"
abbrev Acc:Stmt:=top 15
theorem sc_qbj:Cb ["book","text","signs","whole"] ["book","text"] (Bt Acc):=by walk_at "k"
abbrev AcR:Stmt:=top 19
theorem AlP:Cb ["book","one","other"] ["book","one","other"] (Bt AcR):=by walk_at "k"
abbrev AcQ:Stmt:=top 22
theorem sc_qbn:Cb ["book","one","other","first","second"] ["book","one","other"] (Bt AcQ):=by walk_at "k"
abbrev Wt:Stmt:=top 58
theorem sc_qby:Cb ["_law_script","_law_lists_here","_law_words_here","_law_cell","_law_book","_law_strange","_law_groups_here","_law_text_here","_law_what_here","_law_spots","_law_long_one","_law_changed","_law_apart_here","_law_again"] ["_law_script"] (Bt Wt):=by walk_at "k"
structure Adr where
 f_qbh:Addr
 d_qbh:FuncData
 f_qbs:Addr
 d_qbs:FuncData
 f_qbd:Addr
 d_qbd:FuncData
 f_qg:Addr
 d_qg:FuncData
 f_qbf:Addr
 d_qbf:FuncData
 f_qbi:Addr
 d_qbi:FuncData
 f_qb:Addr
 d_qb:FuncData
 f_qc:Addr
 d_qc:FuncData
 f_qa:Addr
 d_qa:FuncData
 f_qbw:Addr
 d_qbw:FuncData
 f_qbm:Addr
 d_qbm:FuncData
 f_qe:Addr
 d_qe:FuncData
 f_qo:Addr
 d_qo:FuncData
 f_qq:Addr
 d_qq:FuncData
 f_qv:Addr
 d_qv:FuncData
 f_qbb:Addr
 d_qbb:FuncData
 f_qp:Addr
 d_qp:FuncData
 f_qn:Addr
 d_qn:FuncData
 f_qd:Addr
 d_qd:FuncData
 f_qu:Addr
 d_qu:FuncData
 f_qk:Addr
 d_qk:FuncData
 f_qx:Addr
 d_qx:FuncData
 f_qr:Addr
 d_qr:FuncData
 f_qbg:Addr
 d_qbg:FuncData
 f_qbr:Addr
 d_qbr:FuncData
 f_qs:Addr
 d_qs:FuncData
 f_qh:Addr
 d_qh:FuncData
 f_qbt:Addr
 d_qbt:FuncData
 f_qba:Addr
 d_qba:FuncData
 f_qm:Addr
 d_qm:FuncData
 f_ql:Addr
 d_ql:FuncData
 f_qt:Addr
 d_qt:FuncData
 f_qy:Addr
 d_qy:FuncData
 f_qbl:Addr
 d_qbl:FuncData
 f_qi:Addr
 d_qi:FuncData
 f_qbo:Addr
 d_qbo:FuncData
 f_qbp:Addr
 d_qbp:FuncData
 f_qbv:Addr
 d_qbv:FuncData
 f_qbu:Addr
 d_qbu:FuncData
 f_qbc:Addr
 d_qbc:FuncData
 f_qbq:Addr
 d_qbq:FuncData
 f_qf:Addr
 d_qf:FuncData
 f_qj:Addr
 d_qj:FuncData
 f_qw:Addr
 d_qw:FuncData
 f_qbj:Addr
 d_qbj:FuncData
 f_qbk:Addr
 d_qbk:FuncData
 f_qbn:Addr
 d_qbn:FuncData
 f_qby:Addr
 d_qby:FuncData
 C_Book:Addr
 a_JOINED_KINDS:Addr
 a_TOLD_KINDS:Addr
structure Txt (K:Frag) (mg:Str->Option Value) (t:Adr):Prop where
 F_qbh:Fun K "_law_signs" "_law_signs" AcA t.f_qbh t.d_qbh
 m_qbh:mg "_law_signs" = some (.ref t.f_qbh)
 F_qbs:Fun K "_law_told" "_law_told" Acq t.f_qbs t.d_qbs
 m_qbs:mg "_law_told" = some (.ref t.f_qbs)
 F_qbd:Fun K "_law_joins" "_law_joins" Acs t.f_qbd t.d_qbd
 m_qbd:mg "_law_joins" = some (.ref t.f_qbd)
 F_qg:Fun K "_law_cell_at" "_law_cell_at" AgO t.f_qg t.d_qg
 m_qg:mg "_law_cell_at" = some (.ref t.f_qg)
 F_qbf:Fun K "_law_lists" "_law_lists" AcH t.f_qbf t.d_qbf
 m_qbf:mg "_law_lists" = some (.ref t.f_qbf)
 F_qbi:Fun K "_law_words" "_law_words" Ade t.f_qbi t.d_qbi
 m_qbi:mg "_law_words" = some (.ref t.f_qbi)
 F_qb:Fun K "refuse_unless" "refuse_unless" Ag4 t.f_qb t.d_qb
 m_qb:mg "refuse_unless" = some (.ref t.f_qb)
 F_qc:Fun K "check_tuples" "check_tuples" AfD t.f_qc t.d_qc
 m_qc:mg "check_tuples" = some (.ref t.f_qc)
 F_qa:Fun K "is_whole_number" "is_whole_number" AfP t.f_qa t.d_qa
 m_qa:mg "is_whole_number" = some (.ref t.f_qa)
 F_qbw:Fun K "is_sign" "is_sign" Adn t.f_qbw t.d_qbw
 m_qbw:mg "is_sign" = some (.ref t.f_qbw)
 F_qbm:Fun K "add_kind" "add_kind" Ada t.f_qbm t.d_qbm
 m_qbm:mg "add_kind" = some (.ref t.f_qbm)
 F_qe:Fun K "is_told_kind" "is_told_kind" Agk t.f_qe t.d_qe
 m_qe:mg "is_told_kind" = some (.ref t.f_qe)
 F_qo:Fun K "is_rank_of" "is_rank_of" Agg t.f_qo t.d_qo
 m_qo:mg "is_rank_of" = some (.ref t.f_qo)
 F_qq:Fun K "kinds_told" "kinds_told" Afz t.f_qq t.d_qq
 m_qq:mg "kinds_told" = some (.ref t.f_qq)
 F_qv:Fun K "ranks_told" "ranks_told" AgH t.f_qv t.d_qv
 m_qv:mg "ranks_told" = some (.ref t.f_qv)
 F_qbb:Fun K "both_ways" "both_ways" Ac4 t.f_qbb t.d_qbb
 m_qbb:mg "both_ways" = some (.ref t.f_qbb)
 F_qp:Fun K "kind_among" "kind_among" Ag7 t.f_qp t.d_qp
 m_qp:mg "kind_among" = some (.ref t.f_qp)
 F_qn:Fun K "check_join" "check_join" AgB t.f_qn t.d_qn
 m_qn:mg "check_join" = some (.ref t.f_qn)
 F_qd:Fun K "ends_in_time" "ends_in_time" Aft t.f_qd t.d_qd
 m_qd:mg "ends_in_time" = some (.ref t.f_qd)
 F_qu:Fun K "pairs_told" "pairs_told" AfS t.f_qu t.d_qu
 m_qu:mg "pairs_told" = some (.ref t.f_qu)
 F_qk:Fun K "wholes_told" "wholes_told" Ag1 t.f_qk t.d_qk
 m_qk:mg "wholes_told" = some (.ref t.f_qk)
 F_qx:Fun K "__init__" "Book.__init__" AcG t.f_qx t.d_qx
 F_qr:Fun K "_law_groups" "_law_groups" AfA t.f_qr t.d_qr
 m_qr:mg "_law_groups" = some (.ref t.f_qr)
 F_qbg:Fun K "_law_marky" "_law_marky" Aco t.f_qbg t.d_qbg
 m_qbg:mg "_law_marky" = some (.ref t.f_qbg)
 F_qbr:Fun K "_law_text" "_law_text" Ac2 t.f_qbr t.d_qbr
 m_qbr:mg "_law_text" = some (.ref t.f_qbr)
 F_qs:Fun K "_law_wholes" "_law_wholes" Ag0 t.f_qs t.d_qs
 m_qs:mg "_law_wholes" = some (.ref t.f_qs)
 F_qh:Fun K "_law_stepped" "_law_stepped" Agz t.f_qh t.d_qh
 m_qh:mg "_law_stepped" = some (.ref t.f_qh)
 F_qbt:Fun K "_law_what" "_law_what" Ac1 t.f_qbt t.d_qbt
 m_qbt:mg "_law_what" = some (.ref t.f_qbt)
 F_qba:Fun K "rank" "Book.rank" Zi t.f_qba t.d_qba
 M_qba:Xs K t.C_Book "rank" t.f_qba
 B_qba:Bnd K t.C_Book "rank" t.f_qba
 F_qm:Fun K "parts" "Book.parts" Adb t.f_qm t.d_qm
 M_qm:Xs K t.C_Book "parts" t.f_qm
 F_ql:Fun K "written_out" "written_out" Af9 t.f_ql t.d_ql
 m_ql:mg "written_out" = some (.ref t.f_ql)
 F_qt:Fun K "long_whole" "long_whole" Afu t.f_qt t.d_qt
 m_qt:mg "long_whole" = some (.ref t.f_qt)
 F_qy:Fun K "kind" "Book.kind" Ac7 t.f_qy t.d_qy
 M_qy:Xs K t.C_Book "kind" t.f_qy
 F_qbl:Fun K "wholes_of" "wholes_of" Adc t.f_qbl t.d_qbl
 m_qbl:mg "wholes_of" = some (.ref t.f_qbl)
 F_qi:Fun K "long_wholes" "long_wholes" AgP t.f_qi t.d_qi
 m_qi:mg "long_wholes" = some (.ref t.f_qi)
 F_qbo:Fun K "found_at" "found_at" Adm t.f_qbo t.d_qbo
 m_qbo:mg "found_at" = some (.ref t.f_qbo)
 F_qbp:Fun K "_law_flat" "_law_flat" AcJ t.f_qbp t.d_qbp
 m_qbp:mg "_law_flat" = some (.ref t.f_qbp)
 F_qbv:Fun K "signs_of" "signs_of" Acp t.f_qbv t.d_qbv
 m_qbv:mg "signs_of" = some (.ref t.f_qbv)
 F_qbu:Fun K "replaced" "replaced" Act t.f_qbu t.d_qbu
 m_qbu:mg "replaced" = some (.ref t.f_qbu)
 F_qbc:Fun K "_law_apart" "_law_apart" Acb t.f_qbc t.d_qbc
 m_qbc:mg "_law_apart" = some (.ref t.f_qbc)
 F_qbq:Fun K "_law_long" "_law_long" Acm t.f_qbq t.d_qbq
 m_qbq:mg "_law_long" = some (.ref t.f_qbq)
 F_qf:Fun K "joined" "Book.joined" AcM t.f_qf t.d_qf
 M_qf:Xs K t.C_Book "joined" t.f_qf
 F_qj:Fun K "short_whole" "short_whole" AfY t.f_qj t.d_qj
 m_qj:mg "short_whole" = some (.ref t.f_qj)
 F_qw:Fun K "short_form" "short_form" AgX t.f_qw t.d_qw
 m_qw:mg "short_form" = some (.ref t.f_qw)
 F_qbj:Fun K "long_form" "long_form" Acc t.f_qbj t.d_qbj
 m_qbj:mg "long_form" = some (.ref t.f_qbj)
 F_qbk:Fun K "same_text" "same_text" AcR t.f_qbk t.d_qbk
 m_qbk:mg "same_text" = some (.ref t.f_qbk)
 F_qbn:Fun K "compared" "compared" AcQ t.f_qbn t.d_qbn
 m_qbn:mg "compared" = some (.ref t.f_qbn)
 F_qby:Fun K "law" "law" Wt t.f_qby t.d_qby
 m_qby:mg "law" = some (.ref t.f_qby)
 m_Book:mg "Book" = some (.ref t.C_Book)
 cl_Book:Cls K t.C_Book
 K_Book:Mk K t.C_Book t.f_qx
 n_Book_kinds:NoAttr K t.C_Book "kinds"
 n_Book_ranks:NoAttr K t.C_Book "ranks"
 n_Book_mates:NoAttr K t.C_Book "mates"
 n_Book_pairs:NoAttr K t.C_Book "pairs"
 n_Book_wholes:NoAttr K t.C_Book "wholes"
 z_bool:mg "bool" = none
 z_int:mg "int" = none
 z_isinstance:mg "isinstance" = none
 z_len:mg "len" = none
 z_list:mg "list" = none
 z_max:mg "max" = none
 z_range:mg "range" = none
 z_sorted:mg "sorted" = none
 z_str:mg "str" = none
 z_tuple:mg "tuple" = none
 g_JOINED_KINDS:mg "JOINED_KINDS" = some (.ref t.a_JOINED_KINDS)
 q_JOINED_KINDS:∀ H,SqT K H t.a_JOINED_KINDS [.str "fore",.str "back",.str "num",.str "blank",.str "plain"]
 g_MOST_GOINGS:∃ u,mg "MOST_GOINGS" = some u/\RelV (.int 7) u
 g_TOLD_KINDS:mg "TOLD_KINDS" = some (.ref t.a_TOLD_KINDS)
 q_TOLD_KINDS:∀ H,SqT K H t.a_TOLD_KINDS [.str "fore",.str "back",.str "num",.str "blank",.str "mark",.str "forein",.str "backin",.str "out"]
abbrev Sg:=Int × Str × Int
def toldK:List Str:=["fore","back","num","blank","mark","forein","backin","out"]
def Oc (k:Str) (r:Int):Prop:=(k = "mark"/\1 <= r)\/(¬ k = "mark"/\r = 0)
def TripAt (H:Hp) (x:V) (s:Sg):Prop:=∃ p,x = .ref p/\H p = some (.tup [.int s.1,.str s.2.1,.int s.2.2])
def PairAt (H:Hp) (x:V) (m:Int × Int):Prop:=∃ p,x = .ref p/\H p = some (.tup [.int m.1,.int m.2])
def LAt {β α:Type} (R:Hp->β->α->Prop) (H:Hp) (xs:List β) (ys:List α):Prop:=xs.length = ys.length/\∀ (i:Nat) (x:β) (y:α),xs[i]? = some x->ys[i]? = some y->R H x y
theorem LAt.get {β α:Type} {R:Hp->β->α->Prop} {H:Hp} {xs:List β} {ys:List α} (h:LAt R H xs ys) {i:Nat} {x:β} (e:xs[i]? = some x):∃ y,ys[i]? = some y/\R H x y:=by
 have hi:i < xs.length:=(List.getElem?_eq_some_iff.mp e).1
 have hy:i < ys.length:=by rw[<- h.1]; exact hi
 exact⟨ys[i],getElem?_eq_getElem hy,h.2 i x _ e (getElem?_eq_getElem hy)⟩
theorem LAt.mono {β α:Type} {R R':Hp->β->α->Prop} {H H':Hp} {xs:List β} {ys:List α} (h:LAt R H xs ys) (m:∀ x y,R H x y->R' H' x y):LAt R' H' xs ys:=⟨h.1,fun i x y e1 e2=>m x y (h.2 i x y e1 e2)⟩
theorem LAt.snoc {β α:Type} {R:Hp->β->α->Prop} {H:Hp} {xs:List β} {ys:List α} {x:β} {y:α} (h:LAt R H xs ys) (r:R H x y):LAt R H (xs ++ [x]) (ys ++ [y]):=by
 refine⟨by simp [h.1],fun i u v e1 e2=>?_⟩
 by_cases hi:i < xs.length
 ·rw[getElem?_append_left hi] at e1
  rw[getElem?_append_left (by rw[<- h.1]; exact hi)] at e2
  exact h.2 i u v e1 e2
 ·rw[getElem?_append_right (by omega)] at e1
  rw[getElem?_append_right (by rw[<- h.1]; omega),<- h.1] at e2
  have hz:i - xs.length = 0:=by
   have:=(List.getElem?_eq_some_iff.mp e1).1
   simp at this; omega
  rw[hz] at e1 e2
  simp at e1 e2
  rw[<- e1,<- e2]; exact r
theorem LAt.nil {β α:Type} {R:Hp->β->α->Prop} {H:Hp}:LAt R H ([]:List β) ([]:List α):=⟨rfl,fun i x y e=>by simp at e⟩
structure Ze (s:Sg):Prop where
 nn:0 <= s.1
 kd:s.2.1 ∈ toldK
 rk:Oc s.2.1 s.2.2
def kK (signs:List Sg):List (Key × V):=signs.map fun s=>(.inl s.1,.str s.2.1)
def kR (signs:List Sg):List (Key × V):=signs.map fun s=>(.inl s.1,.int s.2.2)
def kM:List (Int × Int)->List (Key × V)
 | []=>[]
 | m :: r=>(.inl m.1,.str "open") :: (.inl m.2,.str "shut") :: kM r
def kB:List (Int × Int)->List (Key × V)
 | []=>[]
 | m :: r=>(.inl m.1,.int m.2) :: (.inl m.2,.int m.1) :: kB r
def Gg:List (Int × Int)->List Int
 | []=>[]
 | m :: r=>m.1 :: m.2 :: Gg r
theorem Uq (xs ys:List (Int × Int)):Gg (xs ++ ys) = Gg xs ++ Gg ys:=by
 induction xs with
 | nil=>rfl
 | cons x r ih=>simp [Gg,ih]
theorem Qg (xs ys:List (Int × Int)):kM (xs ++ ys) = kM xs ++ kM ys:=by
 induction xs with
 | nil=>rfl
 | cons x r ih=>simp [kM,ih]
theorem Ym (xs ys:List (Int × Int)):kB (xs ++ ys) = kB xs ++ kB ys:=by
 induction xs with
 | nil=>rfl
 | cons x r ih=>simp [kB,ih]
theorem Abs (xs:List (Int × Int)):(kM xs).map (·.1) = (Gg xs).map Sum.inl:=by
 induction xs with
 | nil=>rfl
 | cons x r ih=>simp [kM,Gg,ih]
theorem Aji (xs:List (Int × Int)):(kB xs).map (·.1) = (Gg xs).map Sum.inl:=by
 induction xs with
 | nil=>rfl
 | cons x r ih=>simp [kB,Gg,ih]
theorem Aj7 (xs:List (Int × Int)):(kM xs).length = 2 * xs.length:=by
 induction xs with
 | nil=>rfl
 | cons x r ih=>simp [kM,ih]; omega
theorem Amk (xs:List (Int × Int)):(kB xs).length = 2 * xs.length:=by
 induction xs with
 | nil=>rfl
 | cons x r ih=>simp [kB,ih]; omega
theorem Lp {kvs:List (Key × V)} {n:Int} (h:¬ (Sum.inl n:Key) ∈ kvs.map (·.1)):Cp kvs (Sum.inl n) = none:=by
 cases e:Cp kvs (Sum.inl n:Key) with
 | none=>rfl
 | some v=>exact absurd (AbB e) h
theorem Vl {kvs:List (Key × V)} (nd:(kvs.map (·.1)).Nodup) {k:Key} {v:V} (h:(k,v) ∈ kvs):Cp kvs k = some v:=by
 induction kvs with
 | nil=>cases h
 | cons p r ih =>
  have nd':(p.1 :: r.map (·.1)).Nodup:=nd
  obtain⟨h1,h2⟩:=nodup_cons.mp nd'
  rcases mem_cons.mp h with e | e
  ·subst e; exact Jr rfl
  ·have:¬ p.1 = k:=fun z=>h1 (by rw[z]; exact mem_map.mpr ⟨_,e,rfl⟩)
   rw[Js this]; exact ih h2 e
theorem Oa {l:List Int} (h:l.Nodup):(l.map (Sum.inl:Int->Key)).Nodup:=by
 induction l with
 | nil=>exact nodup_nil
 | cons a r ih =>
  obtain⟨h1,h2⟩:=nodup_cons.mp h
  refine nodup_cons.mpr ⟨fun m=>h1 ?_,ih h2⟩
  obtain⟨b,hb,e⟩:=mem_map.mp m
  cases e; exact hb
theorem inl_mem {l:List Int} {n:Int}:(Sum.inl n:Key) ∈ l.map (Sum.inl:Int->Key) ↔ n ∈ l:=by
 constructor
 ·intro m; obtain⟨b,hb,e⟩:=mem_map.mp m; cases e; exact hb
 ·intro m; exact mem_map.mpr ⟨n,m,rfl⟩
theorem Je {n:Nat} (h:n <= 1000):n < sizeLine:=Qe h
theorem Db {α:Type} {l:List α} {i:Nat} {x:α} (h:l[i]? = some x):l.take (i + 1) = l.take i ++ [x]:=by
 obtain⟨hi,e⟩:=List.getElem?_eq_some_iff.mp h
 rw[List.take_add_one,getElem?_eq_getElem hi,e]
 rfl
theorem Same.new {d:Addr} {H:Hp} {o:HO} (h:H d = none):Same H (upd H d o):=fun q u e=>by rw[Bk (Bu e h)]; exact e
theorem TripAt.mono {H H':Hp} {x:V} {s:Sg} (h:TripAt H x s) (k:∀ q xs,H q = some (.tup xs)->H' q = some (.tup xs)):TripAt H' x s:=by
 obtain⟨p,e,hp⟩:=h
 exact⟨p,e,k p _ hp⟩
theorem PairAt.mono {H H':Hp} {x:V} {s:Int × Int} (h:PairAt H x s) (k:∀ q xs,H q = some (.tup xs)->H' q = some (.tup xs)):PairAt H' x s:=by
 obtain⟨p,e,hp⟩:=h
 exact⟨p,e,k p _ hp⟩
theorem Cm {CX:CXT} {P:Program} {w:World} {K:Frag} {mg:Str->Option Value} {base:Heap} {N:List Str} {qual:Str} {sc:Scope} {f:Addr} {cd:Value} {A:Around} {outer:List Env} {s:Shared} {H:Hp} {E:XK}:(Ux CX P w K mg base N qual sc f cd A outer s H E).K = K:=rfl
section
variable {σ:St} {H:Hp} {Q:VK} {K:Frag} {a d:Addr} {n:Int}
theorem Adh {A B:Prop} (h:B):if (!true) = true then A else B:=Jy h
theorem AcK {A B:Prop} (h:A):if (!false) = true then A else B:=Jq h
theorem Af4 {P:Bool->Prop} (q:P true):∃ x m t b,[V.int n,V.ty "int"] = [x,V.ty m]/\Gw K H x t/\kitOne K t (.type m) = some b/\P b:=⟨_,_,_,_,rfl,.int n,Aa9,q⟩
theorem Ae3 {P:Bool->Prop} (q:P false):∃ x m t b,[V.int n,V.ty "bool"] = [x,V.ty m]/\Gw K H x t/\kitOne K t (.type m) = some b/\P b:=⟨_,_,_,_,rfl,.int n,Aan,q⟩
theorem Afq {z:Str} {P:Bool->Prop} (q:P true):∃ x m t b,[V.str z,V.ty "str"] = [x,V.ty m]/\Gw K H x t/\kitOne K t (.type m) = some b/\P b:=⟨_,_,_,_,rfl,.str z,Abf,q⟩
theorem AjM {xs:List V} (h:H a = some (.lst xs)) {P:Bool->Prop} (q:P true):∃ x m t b,[V.ref a,V.ty "list"] = [x,V.ty m]/\Gw K H x t/\kitOne K t (.type m) = some b/\P b:=⟨_,_,_,_,rfl,.lst h,Yw,q⟩
theorem Amx {xs:List V} (h:H a = some (.tup xs)) {P:Bool->Prop} (q:P true):∃ x m t b,[V.ref a,V.ty "tuple"] = [x,V.ty m]/\Gw K H x t/\kitOne K t (.type m) = some b/\P b:=⟨_,_,_,_,rfl,.tup h,Aba,q⟩
theorem Aep {xs:List V} (h:SqL K H a xs) {P:List V->Prop} (q:P xs):∃ p ys,[V.ref a] = [V.ref p]/\(SqL K H p ys\/SqT K H p ys)/\P ys:=⟨a,xs,rfl,.inl h,q⟩
theorem AlX {xs:List V} (h:H a = some (.tup xs)) {P:List V->Prop} (q:P xs):∃ p ys,[V.ref a] = [V.ref p]/\(SqL K H p ys\/SqT K H p ys)/\P ys:=⟨a,xs,rfl,.inr (SqT.of h),q⟩
theorem AmX {kvs:List (Key × V)} (h:H d = some (.dK kvs)) {P:Option V->Prop} (q:P (Cp kvs (.inl n))):∃ a o,V.ref d = V.ref a/\DGet H a (.int n) o/\P o:=⟨d,_,rfl,DGet.k (k:=Sum.inl n) h,q⟩
theorem AdC {kvs:List (Key × V)} {v:V} {R:Hp->Prop} (h:H d = some (.dK kvs)) (q:R (upd H d (.dK (Jp kvs (.inl n) v)))) (hl:kvs.length < sizeLine):∃ a H4,V.ref d = V.ref a/\DPut H a (.int n) v H4/\R H4:=⟨d,_,rfl,DPut.k (k:=Sum.inl n) h hl,q⟩
theorem AnO {kvs:List (Key × V)} {P:Addr->Prop} (h:H d = some (.dK kvs)) (q:P d):∃ a,V.ref d = V.ref a/\IsD H a/\P a:=⟨d,rfl,.inl ⟨_,.inl h⟩,q⟩
theorem Alh {kvs:List (Key × V)} {P:Option V->Prop} (h:H d = some (.dK kvs)) (q:P (Cp kvs (.inl n))):∃ o,DGet H d (.int n) o/\P o:=⟨_,DGet.k (k:=Sum.inl n) h,q⟩
theorem Am1 {P:Prop} {xs:List V} (h:H a = some (.lst xs)) (q:P):tyV K "list" (.ref a) H/\P:=⟨.inl ⟨rfl,_,SqL.of h⟩,q⟩
theorem Zm {xs:List V} {i:Int} {v:V} (h:SqL K H a xs) (q:Q v H) (hv:atI xs i = some v):Adf K (.ref a) (.int i) H Q:=⟨a,xs,i,v,rfl,rfl,h,hv,q⟩
theorem AnH {xs:List V} {i:Int} {v:V} (h:H a = some (.tup xs)) (q:Q v H) (hv:atI xs i = some v):Adk K (.ref a) (.int i) H Q:=⟨a,xs,i,v,rfl,rfl,SqT.of h,hv,q⟩
end
section
variable {S:List Sg} {M:List (Int × Int)} {s:Sg} {m:Int × Int} {n:Int}
theorem AjF (s:List Sg):(kK s).map (·.1) = (s.map (·.1)).map Sum.inl:=by simp [kK]
theorem AbX (s:List Sg):(kR s).map (·.1) = (s.map (·.1)).map Sum.inl:=by simp [kR]
theorem Aby:(kK S ++ kM M).map (·.1) = (S.map (·.1) ++ Gg M).map (Sum.inl:Int->Key):=by rw[map_append,AjF,Abs,<- map_append]
theorem Adj (nd:(S.map (·.1) ++ Gg M).Nodup):((kK S ++ kM M).map (·.1)).Nodup:=by rw[Aby]; exact Oa nd
theorem Ak0 (h:m ∈ M):(Sum.inl m.1,V.str "open") ∈ kM M/\(Sum.inl m.2,V.str "shut") ∈ kM M:=by
 induction M with
 | nil=>cases h
 | cons x r ih =>
  rcases mem_cons.mp h with e | e
  ·subst e; exact⟨mem_cons_self,mem_cons_of_mem _ mem_cons_self⟩
  ·exact⟨mem_cons_of_mem _ (mem_cons_of_mem _ (ih e).1),mem_cons_of_mem _ (mem_cons_of_mem _ (ih e).2)⟩
theorem Ajd (nd:(S.map (·.1) ++ Gg M).Nodup) (h:m ∈ M):(Cp (kK S ++ kM M) (Sum.inl m.1)).getD (.str "plain") = .str "open":=by
 rw[Vl (Adj nd) (mem_append_right _ (Ak0 h).1)]; rfl
theorem Um (nd:(S.map (·.1) ++ Gg M).Nodup) (h:s ∈ S):(Cp (kK S ++ kM M) (Sum.inl s.1)).getD (.str "plain") = .str s.2.1:=by
 rw[Vl (v:=.str s.2.1) (Adj nd) (mem_append_left _ (mem_map.mpr ⟨s,h,rfl⟩))]; rfl
theorem AaQ (h:¬ n ∈ S.map (·.1) ++ Gg M):(Cp (kK S ++ kM M) (Sum.inl n)).getD (.str "plain") = .str "plain":=by
 rw[Lp (by rw[Aby]; exact fun w=>h (inl_mem.mp w))]; rfl
theorem AkV (h:¬ n ∈ S.map (·.1)):(Cp (kR S) (Sum.inl n)).getD (.int 0) = .int 0:=by
 rw[Lp (by rw[AbX]; exact fun w=>h (inl_mem.mp w))]; rfl
end
abbrev Jn:=Int × Int × Int
def joinedK:List Str:=["fore","back","num","blank","plain"]
def TrjAt (H:Hp) (x:V) (j:Jn):Prop:=∃ p,x = .ref p/\H p = some (.tup [.int j.1,.int j.2.1,.int j.2.2])
def KvAt (H:Hp) (kv:Key × V) (j:Jn):Prop:=kv.1 = Sum.inl j.1/\∃ p,kv.2 = .ref p/\H p = some (.tup [.int j.2.1,.int j.2.2])
theorem TrjAt.mono {H H':Hp} {x:V} {j:Jn} (h:TrjAt H x j) (k:∀ q xs,H q = some (.tup xs)->H' q = some (.tup xs)):TrjAt H' x j:=by
 obtain⟨p,e,hp⟩:=h
 exact⟨p,e,k p _ hp⟩
theorem KvAt.mono {H H':Hp} {x:Key × V} {j:Jn} (h:KvAt H x j) (k:∀ q xs,H q = some (.tup xs)->H' q = some (.tup xs)):KvAt H' x j:=by
 obtain⟨e1,p,e,hp⟩:=h
 exact⟨e1,p,e,k p _ hp⟩
theorem LAt.tripS {H H':Hp} {xs:List V} {S:List Sg} (h:LAt TripAt H xs S) (s:Same H H'):LAt TripAt H' xs S:=h.mono fun _ _ z=>z.mono fun _ _ e=>s _ _ e
theorem LAt.pairS {H H':Hp} {xs:List V} {S:List (Int × Int)} (h:LAt PairAt H xs S) (s:Same H H'):LAt PairAt H' xs S:=h.mono fun _ _ z=>z.mono fun _ _ e=>s _ _ e
theorem LAt.trjS {H H':Hp} {xs:List V} {S:List Jn} (h:LAt TrjAt H xs S) (s:Same H H'):LAt TrjAt H' xs S:=h.mono fun _ _ z=>z.mono fun _ _ e=>s _ _ e
theorem LAt.kvS {H H':Hp} {xs:List (Key × V)} {S:List Jn} (h:LAt KvAt H xs S) (s:Same H H'):LAt KvAt H' xs S:=h.mono fun _ _ z=>z.mono fun _ _ e=>s _ _ e
theorem LAt.take {β α:Type} {R:Hp->β->α->Prop} {H:Hp} {xs:List β} {ys:List α} (h:LAt R H xs ys) (n:Nat):LAt R H (xs.take n) (ys.take n) :=
 ⟨by rw[length_take,length_take,h.1],fun i x y e1 e2=>by
  rw[getElem?_take] at e1 e2
  split at e1
  ·rename_i hi
   rw[if_pos hi] at e2
   exact h.2 i x y e1 e2
  ·cases e1⟩
theorem LAt.drop {β α:Type} {R:Hp->β->α->Prop} {H:Hp} {xs:List β} {ys:List α} (h:LAt R H xs ys) (n:Nat):LAt R H (xs.drop n) (ys.drop n) :=
 ⟨by rw[length_drop,length_drop,h.1],fun i x y e1 e2=>by
  rw[List.getElem?_drop] at e1 e2
  exact h.2 _ x y e1 e2⟩
theorem LAt.append {β α:Type} {R:Hp->β->α->Prop} {H:Hp} {xs xs':List β} {ys ys':List α} (h:LAt R H xs ys) (h':LAt R H xs' ys'):LAt R H (xs ++ xs') (ys ++ ys') :=
 ⟨by rw[length_append,length_append,h.1,h'.1],fun i x y e1 e2=>by
  by_cases hi:i < xs.length
  ·rw[getElem?_append_left hi] at e1
   rw[getElem?_append_left (by rw[<- h.1]; exact hi)] at e2
   exact h.2 i x y e1 e2
  ·rw[getElem?_append_right (by omega)] at e1
   rw[getElem?_append_right (by rw[<- h.1]; omega),<- h.1] at e2
   exact h'.2 _ x y e1 e2⟩
theorem Nm {α:Type}:∀ {l:List α},(∀ (i j:Nat) (x:α),l[i]? = some x->l[j]? = some x->i = j)->l.Nodup
 | [],_=>nodup_nil
 | a :: r,h=>nodup_cons.mpr ⟨fun m=>by
   obtain⟨j,hj⟩:=getElem?_of_mem m
   have:=h 0 (j + 1) a rfl (by simpa using hj)
   omega,Nm fun i j x h1 h2=>by
   have:=h (i + 1) (j + 1) x (by simpa using h1) (by simpa using h2)
   omega⟩
theorem LAt.uncons {β α:Type} {R:Hp->β->α->Prop} {H:Hp} {x:β} {xs:List β} {y:α} {ys:List α} (h:LAt R H (x :: xs) (y :: ys)):R H x y/\LAt R H xs ys :=
 ⟨h.2 0 x y rfl rfl,by simpa using h.1,fun i u v e1 e2=>h.2 (i + 1) u v e1 e2⟩
def Cl:List Jn->Int->Option (Int × Int)
 | [],_=>none
 | j :: r,n=>if j.1 = n then some j.2 else Cl r n
def Fn (J:List Jn) (n:Int):Int:=match Cl J n with | some m=>m.1 | none=>n
def jGo (J:List Jn):Nat->Int->Int
 | 0,n=>n
 | k + 1,n=>Fn J (jGo J k n)
theorem Yi {J:List Jn} (nd:(J.map (·.1)).Nodup) {j:Jn} (h:j ∈ J):Cl J j.1 = some j.2:=by
 induction J with
 | nil=>cases h
 | cons x r ih =>
  obtain⟨h1,h2⟩:=nodup_cons.mp (show (x.1 :: r.map (·.1)).Nodup from nd)
  unfold Cl
  rcases mem_cons.mp h with e | e
  ·subst e; rw[if_pos rfl]
  ·rw[if_neg fun z=>h1 (mem_map.mpr ⟨j,e,z.symm⟩)]
   exact ih h2 e
theorem Fx {J:List Jn} {n:Int} {m:Int × Int} (h:Cl J n = some m):(n,m) ∈ J:=by
 induction J with
 | nil=>cases h
 | cons x r ih =>
  unfold Cl at h
  split at h
  ·rename_i e
   cases h
   rw[<- e]; exact mem_cons_self
  ·exact mem_cons_of_mem _ (ih h)
theorem Wq {H:Hp} {kvs:List (Key × V)} {J:List Jn} (h:LAt KvAt H kvs J) (n:Int) :
  (Cl J n = none/\Cp kvs (Sum.inl n) = none)\/∃ m p,Cl J n = some m/\Cp kvs (Sum.inl n) = some (.ref p)/\H p = some (.tup [.int m.1,.int m.2]):=by
 induction kvs generalizing J with
 | nil =>
  cases J with
  | nil=>exact .inl ⟨rfl,rfl⟩
  | cons j r=>have:=h.1; simp at this
 | cons kv ks ih =>
  cases J with
  | nil=>have:=h.1; simp at this
  | cons j r =>
   obtain⟨⟨h1,p,e,hp⟩,h3⟩:=h.uncons
   unfold Cl
   by_cases z:j.1 = n
   ·rw[if_pos z]
    exact .inr ⟨j.2,p,rfl,by rw[Jr (by rw[h1,z]),e],hp⟩
   ·rw[if_neg z,Js (by rw[h1]; intro w; exact z (Sum.inl.inj w))]
    exact ih h3
def kW (J:List Jn):List (List Key × V):=J.map fun j=>([Sum.inl j.2.1,Sum.inl j.2.2],V.int j.1)
theorem Anm {J:List Jn} {a b:Int} (h:¬ (a,b) ∈ J.map (·.2)):Cp (kW J) [Sum.inl a,Sum.inl b] = none:=by
 cases e:Cp (kW J) ([Sum.inl a,Sum.inl b]:List Key) with
 | none=>rfl
 | some v =>
  have:=AbB e
  unfold kW at this
  rw[map_map] at this
  obtain⟨j,hj,z⟩:=mem_map.mp this
  have z':([Sum.inl j.2.1,Sum.inl j.2.2]:List Key) = [Sum.inl a,Sum.inl b]:=z
  injection z' with z1 z2
  injection z2 with z3 z4
  exact absurd (mem_map.mpr ⟨j,hj,Prod.ext (Sum.inl.inj z1) (Sum.inl.inj z3)⟩) h
def knd (kk:List (Key × V)) (n:Int):V:=(Cp kk (Sum.inl n)).getD (.str "plain")
structure Zy (kk:List (Key × V)) (J:List Jn):Prop where
 nn:∀ j ∈ J,0 <= j.1/\0 <= j.2.1/\0 <= j.2.2
 mr:∀ j ∈ J,knd kk j.2.2 = .str "mark"
 kd:∀ j ∈ J,∃ k ∈ joinedK,knd kk j.1 = .str k/\knd kk j.2.1 = .str k
 nw:(J.map (·.1)).Nodup
 np:(J.map (·.2)).Nodup
 en:∀ j ∈ J,Cl J (jGo J 7 j.1) = none
 ln:J.length <= 400
theorem AkH {c A B:Prop} [Decidable c] (hc:c) (h:A):if decide c = true then A else B:=by
 rw[if_pos (decide_eq_true hc)]; exact h
theorem AfR {H:Hp} {a:Addr} {u o:HO} (h:H a = some u):upd (upd H a o) a u = H:=by
 rw[Gz]; funext b; unfold upd; split
 ·rename_i e; rw[e,h]
 ·rfl
theorem Amc {H:Hp} {a:Addr} {u:HO} {o:Obj}:Rd (upd H a (.frz o u)) a u:=.inr ⟨o,Bp⟩
theorem Rs {α:Type} {l:List α} {i:Nat} {x:α} (nd:l.Nodup) (h:l[i]? = some x):¬ x ∈ l.take i:=by
 obtain⟨hi,e⟩:=List.getElem?_eq_some_iff.mp h
 rw[<- take_append_drop i l,drop_eq_getElem_cons hi,e] at nd
 intro m
 exact (nodup_append.mp nd).2.2 _ m _ mem_cons_self rfl
theorem Ju {α β:Type} {l:List α} {f:α->β} {i:Nat} {x:α} (nd:(l.map f).Nodup) (h:l[i]? = some x):¬ f x ∈ (l.take i).map f:=by
 rw[map_take]
 exact Rs nd (by rw[getElem?_map,h]; rfl)
def bkF (dk dr dm dp dw:Addr):List (Str × V):=Bx "wholes" (.ref dw) (Bx "pairs" (.ref dp) (Bx "mates" (.ref dm) (Bx "ranks" (.ref dr) (Bx "kinds" (.ref dk) []))))
theorem Ad6 {dk dr dm dp dw:Addr}:(bkF dk dr dm dp dw).lookup ("kinds" : Str) = some (.ref dk):=by
 unfold bkF
 rw[Cu,if_neg (by decide +kernel),Cu,if_neg (by decide +kernel),Cu,if_neg (by decide +kernel),Cu,if_neg (by decide +kernel),Cu,if_pos rfl]
theorem AdJ {dk dr dm dp dw:Addr}:(bkF dk dr dm dp dw).lookup ("ranks" : Str) = some (.ref dr):=by
 unfold bkF
 rw[Cu,if_neg (by decide +kernel),Cu,if_neg (by decide +kernel),Cu,if_neg (by decide +kernel),Cu,if_pos rfl]
theorem Adu {dk dr dm dp dw:Addr}:(bkF dk dr dm dp dw).lookup ("pairs" : Str) = some (.ref dp):=by
 unfold bkF
 rw[Cu,if_neg (by decide +kernel),Cu,if_pos rfl]
theorem Ac3 {dk dr dm dp dw:Addr}:(bkF dk dr dm dp dw).lookup ("wholes" : Str) = some (.ref dw):=by
 unfold bkF
 rw[Cu,if_pos rfl]
theorem Wv {dk dr dm dp dw:Addr} {m:Str} (h1:¬ m = "wholes") (h2:¬ m = "pairs") (h3:¬ m = "mates") (h4:¬ m = "ranks") (h5:¬ m = "kinds"):(bkF dk dr dm dp dw).lookup m = none:=by
 unfold bkF
 rw[Cu,if_neg h1,Cu,if_neg h2,Cu,if_neg h3,Cu,if_neg h4,Cu,if_neg h5]
 rfl
theorem AgT {dk dr dm dp dw:Addr}:(bkF dk dr dm dp dw).lookup ("kind" : Str) = none:=Wv (by decide +kernel) (by decide +kernel) (by decide +kernel) (by decide +kernel) (by decide +kernel)
theorem Vm {dk dr dm dp dw:Addr}:(bkF dk dr dm dp dw).lookup ("rank" : Str) = none:=Wv (by decide +kernel) (by decide +kernel) (by decide +kernel) (by decide +kernel) (by decide +kernel)
theorem Yt {dk dr dm dp dw:Addr}:(bkF dk dr dm dp dw).lookup ("parts" : Str) = none:=Wv (by decide +kernel) (by decide +kernel) (by decide +kernel) (by decide +kernel) (by decide +kernel)
theorem Vt {dk dr dm dp dw:Addr}:(bkF dk dr dm dp dw).lookup ("joined" : Str) = none:=Wv (by decide +kernel) (by decide +kernel) (by decide +kernel) (by decide +kernel) (by decide +kernel)
def BookAt (C:Addr) (H:Hp) (b:Addr) (k r m p:List (Key × V)) (w:List (List Key × V)):Prop :=
 ∃ dx dk dr dm dp dw,H b = some (.ins C dx (bkF dk dr dm dp dw))/\H dk = some (.dK k)/\H dr = some (.dK r)/\H dm = some (.dK m)/\H dp = some (.dK p)/\H dw = some (.dT w)
theorem BookAt.mono {C:Addr} {H H':Hp} {b:Addr} {k r m p:List (Key × V)} {w:List (List Key × V)} (h:BookAt C H b k r m p w) (s:∀ q o,H q = some o->(∀ xs,o ≠ .lst xs)->H' q = some o):BookAt C H' b k r m p w:=by
 obtain⟨dx,dk,dr,dm,dp,dw,h1,h2,h3,h4,h5,h6⟩:=h
 exact⟨dx,dk,dr,dm,dp,dw,s _ _ h1 (fun _ z=>nomatch z),s _ _ h2 (fun _ z=>nomatch z),s _ _ h3 (fun _ z=>nomatch z),s _ _ h4 (fun _ z=>nomatch z),s _ _ h5 (fun _ z=>nomatch z),s _ _ h6 (fun _ z=>nomatch z)⟩
theorem Ql {C b:Addr} {H:Hp} {k r m p:List (Key × V)} {w:List (List Key × V)} {nm:Str} {P:Prop} (h:BookAt C H b k r m p w) (hm:∀ {dk dr dm dp dw:Addr},(bkF dk dr dm dp dw).lookup nm = none) (q:P) :
  ∃ a dx fs,V.ref b = V.ref a/\H a = some (.ins C dx fs)/\fs.lookup nm = none/\P:=by
 obtain⟨dx,dk,dr,dm,dp,dw,h1,_⟩:=h
 exact⟨b,dx,_,rfl,h1,hm,q⟩
def Keep (p:Addr) (H H':Hp):Prop:=∀ q o,H q = some o->q ≠ p->H' q = some o
theorem Keep.trans {p:Addr} {H H1 H2:Hp} (a:Keep p H H1) (b:Keep p H1 H2):Keep p H H2:=fun q o h n=>b q o (a q o h n) n
theorem Keep.new {p d:Addr} {H:Hp} {o:HO} (h:H d = none):Keep p H (upd H d o):=fun q u e _=>by rw[Bk (Bu e h)]; exact e
theorem Keep.put {p:Addr} {H:Hp} {o:HO}:Keep p H (upd H p o):=fun q u e n=>by rw[Bk n]; exact e
theorem Keep.free {p:Addr} {H H':Hp} {o:HO} (k:Keep p H H') (hp:H' p = some o) {d:Addr} (h:H' d = none):H d = none:=by
 cases e:H d with
 | none=>rfl
 | some u =>
  by_cases z:d = p
  ·subst z; rw[hp] at h; cases h
  ·rw[k _ _ e z] at h; cases h
def AbL (C:Addr):Sp:=fun vs H Q _=>∃ p dx a b cc xs ys zs signs mates J,vs = [.ref p,.ref a,.ref b,.ref cc]/\H p = some (.ins C dx [])/\H a = some (.lst xs)/\H b = some (.lst ys)/\H cc = some (.lst zs)/\LAt TripAt H xs signs/\LAt PairAt H ys mates/\LAt TrjAt H zs J /\
 (∀ s ∈ signs,Ze s)/\(∀ m ∈ mates,0 <= m.1/\0 <= m.2)/\(signs.map (·.1) ++ Gg mates).Nodup/\Zy (kK signs ++ kM mates) J/\signs.length + 2 * mates.length <= 400 /\
 ∀ H' kvs dx dk dr dm dp dw,Keep p H H'->H dk = none->H dr = none->H dm = none->H dp = none->H dw = none->H' p = some (.ins C dx (bkF dk dr dm dp dw))->H' dk = some (.dK (kK signs ++ kM mates))->H' dr = some (.dK (kR signs))->H' dm = some (.dK (kB mates))->H' dp = some (.dK kvs)->H' dw = some (.dT (kW J))->LAt KvAt H' kvs J->Q .non H'
def AbH (C:Addr):Sp:=fun vs H Q _=>∃ b n k r m p w,vs = [.ref b,.int n]/\BookAt C H b k r m p w/\Q ((Cp k (Sum.inl n)).getD (.str "plain")) H
theorem Aeq {C b:Addr} {n:Int} {k r m p:List (Key × V)} {w:List (List Key × V)} {H:Hp} {Q:VK} {E:XK} (h:BookAt C H b k r m p w) (q:Q ((Cp k (Sum.inl n)).getD (.str "plain")) H):AbH C [.ref b,.int n] H Q E:=⟨b,n,k,r,m,p,w,rfl,h,q⟩
def Xg (C:Addr):Sp:=fun vs H Q _=>∃ b n k r m p w,vs = [.ref b,.int n]/\BookAt C H b k r m p w/\Q ((Cp r (Sum.inl n)).getD (.int 0)) H
def Aau (C:Addr):Sp:=fun vs H Q _=>∃ b n k r m p w,vs = [.ref b,.int n]/\BookAt C H b k r m p w/\Q ((Cp p (Sum.inl n)).getD .non) H
def Yh (C:Addr):Sp:=fun vs H Q _=>∃ b n n2 k r m p w,vs = [.ref b,.int n,.int n2]/\BookAt C H b k r m p w/\∀ x,H x = none->Q ((Cp w [Sum.inl n,Sum.inl n2]).getD .non) (upd H x (.tup [.int n,.int n2]))
inductive PV where
 | non | bl (b:Bool) | int (i:Int) | str (x:Str)
 | lst (xs:List PV) | tup (xs:List PV) | ctp (xs:List PV)
 | dk (kvs:List (Key × PV)) | dt (kvs:List (List Key × PV))
 | bk (S:List Sg) (M:List (Int × Int)) (J:List Jn)
 | scr (ns:List Int)
 | exc (c:Addr) | cls (c:Addr) | ty (n:String)
inductive Rep (K:Frag) (C:Addr) (G:Hp):V->PV->Prop where
 | non:Rep K C G .non .non
 | bl (b:Bool):Rep K C G (.bl b) (.bl b)
 | int (i:Int):Rep K C G (.int i) (.int i)
 | str (x:Str):Rep K C G (.str x) (.str x)
 | lst {a:Addr} {vs:List V} {ps:List PV} (e:G a = some (.lst vs)) (l:vs.length = ps.length) (h:∀ (i:Nat) (v:V) (p:PV),vs[i]? = some v->ps[i]? = some p->Rep K C G v p):Rep K C G (.ref a) (.lst ps)
 | tup {a:Addr} {vs:List V} {ps:List PV} (e:G a = some (.tup vs)) (l:vs.length = ps.length) (h:∀ (i:Nat) (v:V) (p:PV),vs[i]? = some v->ps[i]? = some p->Rep K C G v p):Rep K C G (.ref a) (.tup ps)
 | ctp {a:Addr} {vs:List V} {ps:List PV} (e:∀ H,SqT K H a vs) (l:vs.length = ps.length) (h:∀ (i:Nat) (v:V) (p:PV),vs[i]? = some v->ps[i]? = some p->Rep K C G v p):Rep K C G (.ref a) (.ctp ps)
 | dk {a:Addr} {kvs:List (Key × V)} {ps:List (Key × PV)} (e:G a = some (.dK kvs)) (l:kvs.length = ps.length) (hk:∀ (i:Nat) (v:Key × V) (p:Key × PV),kvs[i]? = some v->ps[i]? = some p->v.1 = p.1)
   (h:∀ (i:Nat) (v:Key × V) (p:Key × PV),kvs[i]? = some v->ps[i]? = some p->Rep K C G v.2 p.2):Rep K C G (.ref a) (.dk ps)
 | dt {a:Addr} {kvs:List (List Key × V)} {ps:List (List Key × PV)} (e:G a = some (.dT kvs)) (l:kvs.length = ps.length) (hk:∀ (i:Nat) (v:List Key × V) (p:List Key × PV),kvs[i]? = some v->ps[i]? = some p->v.1 = p.1)
   (h:∀ (i:Nat) (v:List Key × V) (p:List Key × PV),kvs[i]? = some v->ps[i]? = some p->Rep K C G v.2 p.2):Rep K C G (.ref a) (.dt ps)
 | bk {b:Addr} {S:List Sg} {M:List (Int × Int)} {J:List Jn} {kvs:List (Key × V)} (h:BookAt C G b (kK S ++ kM M) (kR S) (kB M) kvs (kW J)) (l:LAt KvAt G kvs J):Rep K C G (.ref b) (.bk S M J)
 | scr {a:Addr} {ns:List Int} (h:SqL K G a (ns.map V.int)):Rep K C G (.ref a) (.scr ns)
 | exc {a c:Addr} (e:G a = some (.ext (Aoj a c))):Rep K C G (.ref a) (.exc c)
 | cls {c:Addr}:Rep K C G (.ref c) (.cls c)
 | ty {n:String}:Rep K C G (.ty n) (.ty n)
section
variable {K:Frag} {C:Addr} {ω:Om} {G G' H H':Hp} {v:V} {p:PV} {a:Addr}
theorem Rep.mono (h:Rep K C G v p) (s:Same G G'):Rep K C G' v p:=by
 induction h with
 | non=>exact .non
 | bl b=>exact .bl b
 | int i=>exact .int i
 | str x=>exact .str x
 | lst e l _ ih=>exact .lst (s _ _ e) l ih
 | tup e l _ ih=>exact .tup (s _ _ e) l ih
 | ctp e l _ ih=>exact .ctp e l ih
 | dk e l hk _ ih=>exact .dk (s _ _ e) l hk ih
 | dt e l hk _ ih=>exact .dt (s _ _ e) l hk ih
 | bk h l=>exact .bk (h.mono fun _ _ e _=>s _ _ e) (l.kvS s)
 | scr h=>exact .scr (s.seq h)
 | exc e=>exact .exc (s _ _ e)
 | cls=>exact .cls
 | ty=>exact .ty
def KRep {κ:Type} (K:Frag) (C:Addr) (G:Hp) (v:κ × V) (p:κ × PV):Prop:=v.1 = p.1/\Rep K C G v.2 p.2
theorem KRep.mono {κ:Type} {v:κ × V} {p:κ × PV} (h:KRep K C G v p) (s:Same G G'):KRep K C G' v p:=⟨h.1,h.2.mono s⟩
abbrev Reps (K:Frag) (C:Addr) (G:Hp) (vs:List V) (ps:List PV):Prop:=LAt (Rep K C) G vs ps
theorem Reps.mono {vs:List V} {ps:List PV} (h:Reps K C G vs ps) (s:Same G G'):Reps K C G' vs ps:=LAt.mono h fun _ _ z=>z.mono s
theorem KReps.mono {κ:Type} {vs:List (κ × V)} {ps:List (κ × PV)} (h:LAt (KRep K C) G vs ps) (s:Same G G'):LAt (KRep K C) G' vs ps:=LAt.mono h fun _ _ z=>z.mono s
theorem Rep.ofL {vs:List V} {ps:List PV} (e:G a = some (.lst vs)) (h:Reps K C G vs ps):Rep K C G (.ref a) (.lst ps):=.lst e h.1 h.2
theorem Rep.ofT {vs:List V} {ps:List PV} (e:G a = some (.tup vs)) (h:Reps K C G vs ps):Rep K C G (.ref a) (.tup ps):=.tup e h.1 h.2
theorem Rep.ofD {vs:List (Key × V)} {ps:List (Key × PV)} (e:G a = some (.dK vs)) (h:LAt (KRep K C) G vs ps):Rep K C G (.ref a) (.dk ps):=.dk e h.1 (fun i v p h1 h2=>(h.2 i v p h1 h2).1) (fun i v p h1 h2=>(h.2 i v p h1 h2).2)
theorem Rep.ofDt {vs:List (List Key × V)} {ps:List (List Key × PV)} (e:G a = some (.dT vs)) (h:LAt (KRep K C) G vs ps):Rep K C G (.ref a) (.dt ps):=.dt e h.1 (fun i v p h1 h2=>(h.2 i v p h1 h2).1) (fun i v p h1 h2=>(h.2 i v p h1 h2).2)
def Ru (o:HO):Prop:=∀ xs,o ≠ .tup xs
def OwnA (K:Frag) (C:Addr) (G H:Hp) (a:Addr):PV->Prop
 | .lst ps=>∃ vs,H a = some (.lst vs)/\Reps K C G vs ps
 | .dk ps=>∃ kvs,H a = some (.dK kvs)/\LAt (KRep K C) G kvs ps
 | .dt ps=>∃ kvs,H a = some (.dT kvs)/\LAt (KRep K C) G kvs ps
 | _=>False
theorem OwnA.ofL {vs:List V} {ps:List PV} (e:H a = some (.lst vs)) (r:Reps K C G vs ps):OwnA K C G H a (.lst ps):=⟨vs,e,r⟩
theorem OwnA.ofD {vs:List (Key × V)} {ps:List (Key × PV)} (e:H a = some (.dK vs)) (r:LAt (KRep K C) G vs ps):OwnA K C G H a (.dk ps):=⟨vs,e,r⟩
theorem OwnA.here (h:OwnA K C G H a p):H a ≠ none:=by
 cases p <;> first | exact h.elim | (obtain⟨_,e,_⟩:=h; rw[e]; exact fun z=>nomatch z)
theorem OwnA.thing (h:OwnA K C G H a p):∃ o,H a = some o/\Ru o:=by
 cases p <;> first | exact h.elim | (obtain⟨_,e,_⟩:=h; exact⟨_,e,fun _ z=>nomatch z⟩)
theorem OwnA.mono (h:OwnA K C G H a p) (s:Same G G') (e:H' a = H a):OwnA K C G' H' a p:=by
 cases p <;> first | exact h.elim | (obtain⟨vs,e1,l⟩:=h; exact⟨vs,by rw[e]; exact e1,l.mono s⟩) | (obtain⟨vs,e1,l⟩:=h; exact⟨vs,by rw[e]; exact e1,KReps.mono l s⟩)
def RepB (K:Frag) (C:Addr) (G H:Hp) (v:V) (p:PV):Prop:=Rep K C G v p\/∃ a,v = .ref a/\OwnA K C G H a p
structure Grow (G H G' H':Hp):Prop where
 g:Same G G'
 h:Same H H'
 i:Same G' H'
 n:∀ a o,H a = some o->Ru o->G a = none->G' a = none
theorem Grow.refl (s:Same G H):Grow G H G H:=⟨Same.refl _,Same.refl _,s,fun _ _ _ _ h=>h⟩
theorem _root_.L2.Same.eq (s:Same H H') {a:Addr} (h:H a ≠ none):H' a = H a:=by
 cases e:H a with
 | none=>exact absurd e h
 | some o=>exact s _ _ e
theorem Grow.trans {G1 H1:Hp} (x:Grow G H G1 H1) (y:Grow G1 H1 G' H'):Grow G H G' H':=⟨x.g.trans y.g,x.h.trans y.h,y.i,fun a o h1 t h2=>y.n a o (x.h _ _ h1) t (x.n a o h1 t h2)⟩
theorem RepB.grow (h:RepB K C G H v p) (w:Grow G H G' H'):RepB K C G' H' v p:=by
 rcases h with h | ⟨a,e,h⟩
 ·exact .inl (h.mono w.g)
 ·exact .inr ⟨a,e,h.mono w.g (w.h.eq h.here)⟩
theorem Grow.put {o:HO} (s:Same G H) (n:H a = none) (s2:Same H H') (e:H' a = some o):Grow G H (upd G a o) H':=by
 have gn:G a = none:=s.free n
 refine⟨Same.new gn,s2,fun b u h=>?_,fun b u h1 _ h2=>?_⟩
 ·by_cases z:b = a
  ·subst z; rw[Bp] at h; rw[e]; exact h
  ·rw[Bk z] at h; exact s2 _ _ (s _ _ h)
 ·rw[Bk (by intro z; subst z; rw[n] at h1; cases h1)]; exact h2
theorem Grow.own (s:Same G H) (s2:Same H H'):Grow G H G H':=⟨Same.refl _,s2,s.trans s2,fun _ _ _ _ h=>h⟩
end
inductive Sl where
 | un | sh (p:PV) | bo (p:PV) | ow (p:PV) | fz (z:Addr × Obj × List (Key × V)) (kvs:List (Key × PV)) | bz (kvs:List (Key × PV)) | fl (z:Addr × List V) (ps:List PV) | om (a:Addr) (p:PV)
abbrev Bl:=List Sl
def SlOk (K:Frag) (C:Addr) (G0 H0:Hp) (own:Nat->Option Addr) (G:Hp) (σ:St) (H:Hp) (i:Nat):Sl->Prop
 | .un=>True
 | .sh p=>∃ v,σ[i]? = some (some v)/\Rep K C G v p
 | .bo p=>∃ v,σ[i]? = some (some v)/\RepB K C G0 H0 v p
 | .ow p=>∃ a,σ[i]? = some (some (.ref a))/\own i = some a/\OwnA K C G H a p
 | .fz z kvs=>σ[i]? = some (some (.ref z.1))/\own i = some z.1/\H z.1 = some (.frz z.2.1 (.dK z.2.2))/\LAt (KRep K C) G z.2.2 kvs
 | .bz kvs=>∃ a o vs,σ[i]? = some (some (.ref a))/\H0 a = some (.frz o (.dK vs))/\LAt (KRep K C) G vs kvs
 | .fl z ps=>σ[i]? = some (some (.ref z.1))/\own i = some z.1/\H z.1 = some (.lst z.2)/\Reps K C G z.2 ps
 | .om a p=>σ[i]? = some (some (.ref a))/\own i = some a/\OwnA K C G H a p
structure Om where
 E:XK
 X:Nat->Prop
 ca:Nat->Addr
def Om.no:Om:=⟨fun _ _ _=>False,fun _=>False,fun _=>0⟩
structure Sat (K:Frag) (C:Addr) (ω:Om) (B G0 H0:Hp) (own:Nat->Option Addr) (G:Hp) (σ:St) (H:Hp) (ρ:Bl):Prop where
 kb:Same B G
 gr:Grow G0 H0 G H
 len:σ.length = ρ.length
 inj:∀ i j a,own i = some a->own j = some a->i = j
 fr:∀ i a,own i = some a->H0 a = none/\G a = none/\∃ o,H a = some o/\Ru o
 sl:∀ i s,ρ[i]? = some s->SlOk K C G0 H0 own G σ H i s
 ex:∀ x H',Same H0 H'->ω.X x->ω.E (.ref (ω.ca x)) none H'
abbrev UE:=Bl->(PV->Prop)->Prop
abbrev UT:=Bl->(Bool->Prop)->Prop
abbrev UA:=Bl->(List PV->Prop)->Prop
structure Gp where
 nx:Bl->Prop
 rt:PV->Prop
 bk:Bl->Prop
 ct:Bl->Prop
abbrev US:=Gp->Bl->Prop
section
variable (K:Frag) (C:Addr) (ω:Om)
def EB (t:TE) (u:UE):Prop:=∀ (B G0 H0:Hp) (own:Nat->Option Addr) (G:Hp) (σ:St) (H:Hp) (ρ:Bl) (P:PV->Prop) (Q:VK),Sat K C ω B G0 H0 own G σ H ρ->u ρ P->(∀ v p G' H',Grow G H G' H'->RepB K C G' H' v p->P p->Q v H')->t σ H Q
def EU (t:TE) (u:UE):Prop:=∀ (B G0 H0:Hp) (own:Nat->Option Addr) (G:Hp) (σ:St) (H:Hp) (ρ:Bl) (P:PV->Prop) (Q:VK),Sat K C ω B G0 H0 own G σ H ρ->u ρ P->(∀ v p G' H',Grow G H G' H'->Rep K C G' v p->P p->Q v H')->t σ H Q
def EF (t:TE) (u:UE):Prop:=∀ (B G0 H0:Hp) (own:Nat->Option Addr) (G:Hp) (σ:St) (H:Hp) (ρ:Bl) (P:PV->Prop) (Q:VK),Sat K C ω B G0 H0 own G σ H ρ->u ρ P->(∀ a p G' H',Grow G H G' H'->H a = none->G' a = none->OwnA K C G' H' a p->P p->Q (.ref a) H')->t σ H Q
def TU (t:TT) (u:UT):Prop:=∀ (B G0 H0:Hp) (own:Nat->Option Addr) (G:Hp) (σ:St) (H:Hp) (ρ:Bl) (P:Bool->Prop) (Q:Bool->Hp->Prop),Sat K C ω B G0 H0 own G σ H ρ->u ρ P->(∀ b G' H',Grow G H G' H'->P b->Q b H')->t σ H Q
def ArgsOk (G H:Hp):List Bool->List V->List PV->Prop
 | [],[],[]=>True
 | true :: ms,v :: vs,p :: ps=>Rep K C G v p/\ArgsOk G H ms vs ps
 | false :: ms,v :: vs,p :: ps=>RepB K C G H v p/\ArgsOk G H ms vs ps
 | _,_,_=>False
def AU (ms:List Bool) (t:TA) (u:UA):Prop:=∀ (B G0 H0:Hp) (own:Nat->Option Addr) (G:Hp) (σ:St) (H:Hp) (ρ:Bl) (P:List PV->Prop) (Q:List V->Hp->Prop),Sat K C ω B G0 H0 own G σ H ρ->u ρ P->(∀ vs ps G' H',Grow G H G' H'->ArgsOk K C G' H' ms vs ps->P ps->Q vs H')->t σ H Q
inductive Rm where
 | sh | fr | mu (a:Addr)
def ROk (rm:Rm) (H0 G H:Hp) (v:V) (p:PV):Prop:=match rm with
 | .sh=>Rep K C G v p
 | .fr=>∃ a,v = .ref a/\H0 a = none/\G a = none/\OwnA K C G H a p
 | .mu b=>∃ p1 p2 a,p = .tup [p1,p2]/\v = .ref a/\H0 a = none/\a ≠ b/\G a = none/\OwnA K C G H a p1/\G b = none/\OwnA K C G H b p2
structure Aci (rm:Rm) (B G0 H0:Hp) (D:Ends) (d:Gp):Prop where
 nx:∀ own G σ H ρ,Sat K C ω B G0 H0 own G σ H ρ->d.nx ρ->D.nx σ H
 rt:∀ G H v p,Grow G0 H0 G H->ROk K C rm H0 G H v p->d.rt p->D.rt v H
 bk:∀ own G σ H ρ,Sat K C ω B G0 H0 own G σ H ρ->d.bk ρ->D.bk σ H
 ct:∀ own G σ H ρ,Sat K C ω B G0 H0 own G σ H ρ->d.ct ρ->D.ct σ H
def SU (rm:Rm) (t:TS) (u:US):Prop:=∀ (B G0 H0:Hp) (own:Nat->Option Addr) (G:Hp) (σ:St) (H:Hp) (ρ:Bl) (D:Ends) (d:Gp),Sat K C ω B G0 H0 own G σ H ρ->Aci K C ω rm B G0 H0 D d->u d ρ->t D σ H
def GU (top:Nat) (g:TG) (u:PV->Bl->(Bl->Prop)->Prop):Prop:=∀ (B G0 H0:Hp) (own:Nat->Option Addr) (G:Hp) (σ:St) (H:Hp) (ρ:Bl) (v:V) (p:PV) (P:Bl->Prop) (R:St->Hp->Prop),Sat K C ω B G0 H0 own G σ H ρ->Rep K C G v p->u p ρ P ->
 (∀ own' σ' ρ',Sat K C ω B G0 H0 own' G σ' H ρ'->σ'.drop top = σ.drop top->P ρ'->R σ' H)->g v σ H R
def GsU (top:Nat) (g:TGs) (u:List PV->Bl->(Bl->Prop)->Prop):Prop:=∀ (B G0 H0:Hp) (own:Nat->Option Addr) (G:Hp) (σ:St) (H:Hp) (ρ:Bl) (vs:List V) (ps:List PV) (P:Bl->Prop) (R:St->Hp->Prop),Sat K C ω B G0 H0 own G σ H ρ->Reps K C G vs ps->u ps ρ P ->
 (∀ own' σ' ρ',Sat K C ω B G0 H0 own' G σ' H ρ'->σ'.drop top = σ.drop top->P ρ'->R σ' H)->g vs σ H R
end
section
variable {K:Frag} {C:Addr} {ω:Om} {B G0 H0 G G' H H':Hp} {own:Nat->Option Addr} {σ:St} {ρ:Bl}
theorem SlOk.grow {i:Nat} {s:Sl} (h:SlOk K C G0 H0 own G σ H i s) (w:Grow G H G' H'):SlOk K C G0 H0 own G' σ H' i s:=by
 cases s with
 | un=>trivial
 | sh p=>obtain⟨v,e,r⟩:=h; exact⟨v,e,r.mono w.g⟩
 | bo p=>exact h
 | ow p=>obtain⟨a,e,o,r⟩:=h; exact⟨a,e,o,r.mono w.g (w.h.eq r.here)⟩
 | fz z kvs=>obtain⟨e,o,h1,h2⟩:=h; exact⟨e,o,w.h _ _ h1,KReps.mono h2 w.g⟩
 | bz kvs=>obtain⟨a,o,vs,e,h1,h2⟩:=h; exact⟨a,o,vs,e,h1,KReps.mono h2 w.g⟩
 | fl z ps=>obtain⟨e,o,h1,h2⟩:=h; exact⟨e,o,w.h _ _ h1,h2.mono w.g⟩
 | om a p=>obtain⟨e,o,r⟩:=h; exact⟨e,o,r.mono w.g (w.h.eq r.here)⟩
theorem Sat.grow (S:Sat K C ω B G0 H0 own G σ H ρ) (w:Grow G H G' H'):Sat K C ω B G0 H0 own G' σ H' ρ :=
 ⟨S.kb.trans w.g,S.gr.trans w,S.len,S.inj,fun i a e=>let ⟨f0,fg,o,ho,ht⟩:=S.fr i a e; ⟨f0,w.n a o ho ht fg,o,w.h _ _ ho,ht⟩,fun i s e=>(S.sl i s e).grow w,S.ex⟩
theorem Sat.base {B':Hp} (S:Sat K C ω B G0 H0 own G σ H ρ) (h:Same B' G):Sat K C ω B' G0 H0 own G σ H ρ:=⟨h,S.gr,S.len,S.inj,S.fr,S.sl,S.ex⟩
def Le (own:Nat->Option Addr) (i:Nat):Nat->Option Addr:=fun j=>if j = i then none else own j
def Rb (own:Nat->Option Addr) (i:Nat) (a:Addr):Nat->Option Addr:=fun j=>if j = i then some a else own j
theorem Fm {own:Nat->Option Addr} {i j:Nat} {a:Addr} (h:Le own i j = some a):j ≠ i/\own j = some a:=by
 unfold Le at h
 split at h
 ·cases h
 ·rename_i z; exact⟨z,h⟩
theorem Nf {α:Type} {l:List α} {i j:Nat} {x s:α} (h:(l.set i x)[j]? = some s):(j = i/\s = x/\i < l.length)\/(j ≠ i/\l[j]? = some s):=by
 by_cases z:j = i
 ·subst z
  rw[List.getElem?_set_self'] at h
  cases e:l[j]? with
  | none=>rw[e] at h; cases h
  | some y=>rw[e] at h; cases h; exact .inl ⟨rfl,rfl,(List.getElem?_eq_some_iff.mp e).1⟩
 ·rw[getElem?_set_ne (Ne.symm z)] at h; exact .inr ⟨z,h⟩
theorem Ty {α:Type} {l:List α} {i j:Nat} {x:α} (z:j ≠ i):(l.set i x)[j]? = l[j]?:=getElem?_set_ne (Ne.symm z)
theorem Qm {α:Type} {l:List α} {i:Nat} {x:α} (h:i < l.length):(l.set i x)[i]? = some x:=by rw[List.getElem?_set_self h]
theorem SlOk.other {own':Nat->Option Addr} {σ':St} {i:Nat} {s:Sl} (h:SlOk K C G0 H0 own G σ H i s) (e1:σ'[i]? = σ[i]?) (e2:own' i = own i):SlOk K C G0 H0 own' G σ' H i s:=by
 cases s with
 | un=>trivial
 | sh p=>obtain⟨v,e,r⟩:=h; exact⟨v,e1.trans e,r⟩
 | bo p=>obtain⟨v,e,r⟩:=h; exact⟨v,e1.trans e,r⟩
 | ow p=>obtain⟨a,e,o,r⟩:=h; exact⟨a,e1.trans e,e2.trans o,r⟩
 | fz z kvs=>obtain⟨e,o,r⟩:=h; exact⟨e1.trans e,e2.trans o,r⟩
 | bz kvs=>obtain⟨a,o,vs,e,r⟩:=h; exact⟨a,o,vs,e1.trans e,r⟩
 | fl z ps=>obtain⟨e,o,r⟩:=h; exact⟨e1.trans e,e2.trans o,r⟩
 | om a p=>obtain⟨e,o,r⟩:=h; exact⟨e1.trans e,e2.trans o,r⟩
theorem Sat.setS (S:Sat K C ω B G0 H0 own G σ H ρ) {i:Nat} {v:V} {p:PV} (r:Rep K C G v p):Sat K C ω B G0 H0 (Le own i) G (σ.set i (some v)) H (ρ.set i (.sh p)):=by
 refine⟨S.kb,S.gr,by rw[length_set,length_set,S.len],fun j k a h1 h2=>S.inj j k a (Fm h1).2 (Fm h2).2,fun j a h=>S.fr j a (Fm h).2,fun j s h=>?_,S.ex⟩
 rcases Nf h with ⟨rfl,rfl,hl⟩ | ⟨z,h⟩
 ·exact⟨v,Qm (by rw[S.len]; exact hl),r⟩
 ·exact (S.sl j s h).other (Ty z) (by unfold Le; rw[if_neg z])
theorem Sat.setO (S:Sat K C ω B G0 H0 own G σ H ρ) {i:Nat} {a:Addr} {p:PV} (r:OwnA K C G H a p) (f0:H0 a = none) (fg:G a = none) (fo:∀ j,own j ≠ some a):Sat K C ω B G0 H0 (Rb own i a) G (σ.set i (some (.ref a))) H (ρ.set i (.ow p)):=by
 refine⟨S.kb,S.gr,by rw[length_set,length_set,S.len],fun j k b h1 h2=>?_,fun j b h=>?_,fun j s h=>?_,S.ex⟩
 ·unfold Rb at h1 h2
  split at h1 <;> split at h2
  ·rename_i z1 z2; rw[z1,z2]
  ·cases h1; exact absurd h2 (fo k)
  ·cases h2; exact absurd h1 (fo j)
  ·exact S.inj j k b h1 h2
 ·unfold Rb at h
  split at h
  ·cases h; exact⟨f0,fg,r.thing⟩
  ·exact S.fr j b h
 ·rcases Nf h with ⟨rfl,rfl,hl⟩ | ⟨z,h⟩
  ·exact⟨a,Qm (by rw[S.len]; exact hl),by unfold Rb; rw[if_pos rfl],r⟩
  ·exact (S.sl j s h).other (Ty z) (by unfold Rb; rw[if_neg z])
theorem Sat.chg (S:Sat K C ω B G0 H0 own G σ H ρ) {i:Nat} {a:Addr} {p:PV} (e:own i = some a) (hi:σ[i]? = some (some (.ref a))) (c:Chg a H H') (r:OwnA K C G H' a p):Sat K C ω B G0 H0 own G σ H' (ρ.set i (.ow p)):=by
 obtain⟨f0,fg,fh⟩:=S.fr i a e
 have ng:∀ b o,G b = some o->b ≠ a:=fun b o h z=>by subst z; rw[fg] at h; cases h
 refine⟨S.kb,⟨S.gr.g,fun b o h=>c _ _ (S.gr.h _ _ h) (by intro z; subst z; rw[f0] at h; cases h),fun b o h=>c _ _ (S.gr.i _ _ h) (ng b o h),S.gr.n⟩,by rw[length_set,S.len],S.inj,fun j b h=>?_,fun j s h=>?_,S.ex⟩
 ·obtain⟨q0,qg,o,qh,qt⟩:=S.fr j b h
  refine⟨q0,qg,?_⟩
  by_cases z:b = a
  ·subst z; exact r.thing
  ·exact⟨o,c _ _ qh z,qt⟩
 ·rcases Nf h with ⟨rfl,rfl,hl⟩ | ⟨z,h⟩
  ·exact⟨a,hi,e,r⟩
  ·have q:=S.sl j s h
   cases s with
   | un=>trivial
   | sh p=>exact q
   | bo p=>exact q
   | bz kvs=>exact q
   | fz y kvs =>
    obtain⟨e1,o,h1,h2⟩:=q
    exact⟨e1,o,c _ _ h1 fun w=>z (S.inj j i a (by rw[<- w]; exact o) e),h2⟩
   | fl y ps =>
    obtain⟨e1,o,h1,h2⟩:=q
    exact⟨e1,o,c _ _ h1 fun w=>z (S.inj j i a (by rw[<- w]; exact o) e),h2⟩
   | om b p' =>
    obtain⟨e1,o,r1⟩:=q
    refine⟨e1,o,r1.mono (Same.refl _) ?_⟩
    cases w:H b with
    | none=>exact absurd w r1.here
    | some o'=>exact c _ _ w fun w=>z (S.inj j i a (by rw[<- w]; exact o) e)
   | ow p' =>
    obtain⟨b,e1,o,r1⟩:=q
    have nb:b ≠ a:=fun w=>z (S.inj j i a (by rw[<- w]; exact o) e)
    refine⟨b,e1,o,r1.mono (Same.refl _) ?_⟩
    cases w:H b with
    | none=>exact absurd w r1.here
    | some o=>exact c _ _ w nb
def Rg:Sl->Sl
 | .ow p=>.sh p
 | s=>s
def Lo (i:Nat) (ρ:Bl):Bl:=match ρ[i]? with
 | some s=>ρ.set i (Rg s)
 | none=>ρ
theorem Sat.share (S:Sat K C ω B G0 H0 own G σ H ρ) (i:Nat):∃ own' G',Sat K C ω B G0 H0 own' G' σ H (Lo i ρ):=by
 cases e:ρ[i]? with
 | none=>exact⟨own,G,by unfold Lo; rw[e]; exact S⟩
 | some s =>
  have hl:i < ρ.length:=(List.getElem?_eq_some_iff.mp e).1
  have same:Rg s = s->∃ own' G',Sat K C ω B G0 H0 own' G' σ H (Lo i ρ):=fun z=>⟨own,G,by
   unfold Lo; rw[e]
   have:ρ.set i (Rg s) = ρ:=by
    rw[z]
    refine ext_getElem? fun j=>?_
    by_cases w:j = i
    ·subst w; rw[Qm hl,e]
    ·rw[Ty w]
   simp only [this]; exact S⟩
  cases s with
  | un=>exact same rfl
  | sh p=>exact same rfl
  | bo p=>exact same rfl
  | fz _ _=>exact same rfl
  | bz _=>exact same rfl
  | fl _ _=>exact same rfl
  | om _ _=>exact same rfl
  | ow p =>
   obtain⟨a,e1,o,r⟩:=S.sl i _ e
   obtain⟨f0,fg,ob,hob,_⟩:=S.fr i a o
   have sg:Same G (upd G a ob):=Same.new fg
   have rp:Rep K C (upd G a ob) (.ref a) p:=by
    cases p <;> first | exact r.elim | skip
    ·obtain⟨vs,h1,h2⟩:=r; rw[hob] at h1; cases h1; exact Rep.ofL Bp (h2.mono sg)
    ·obtain⟨vs,h1,h2⟩:=r; rw[hob] at h1; cases h1; exact Rep.ofD Bp (KReps.mono h2 sg)
    ·obtain⟨vs,h1,h2⟩:=r; rw[hob] at h1; cases h1; exact Rep.ofDt Bp (KReps.mono h2 sg)
   have gi:Same (upd G a ob) H:=fun b u h=>by
    by_cases z:b = a
    ·subst z; rw[Bp] at h; rw[hob]; exact h
    ·rw[Bk z] at h; exact S.gr.i _ _ h
   have ge:∀ b,b ≠ a->upd G a ob b = G b:=fun b z=>Bk z
   refine⟨Le own i,upd G a ob,S.kb.trans sg,⟨S.gr.g.trans sg,S.gr.h,gi,fun b u h1 t h2=>?_⟩,?_,fun j k b h1 h2=>S.inj j k b (Fm h1).2 (Fm h2).2,fun j b h=>?_,fun j s h=>?_,S.ex⟩
   ·rw[ge b (by intro z; subst z; rw[f0] at h1; cases h1)]; exact S.gr.n b u h1 t h2
   ·unfold Lo; rw[e]; simp only [length_set]; exact S.len
   ·obtain⟨nj,h⟩:=Fm h
    obtain⟨q0,qg,qh⟩:=S.fr j b h
    exact⟨q0,by rw[ge b (by intro z; subst z; exact nj (S.inj j i b h o))]; exact qg,qh⟩
   ·have h':(ρ.set i (.sh p))[j]? = some s:=by
     unfold Lo at h; rw[e] at h; exact h
    rcases Nf h' with ⟨rfl,rfl,_⟩ | ⟨z,h2⟩
    ·exact⟨_,e1,rp⟩
    ·have q:=S.sl j s h2
     cases s with
     | un=>trivial
     | sh p'=>obtain⟨v,w1,w2⟩:=q; exact⟨v,w1,w2.mono sg⟩
     | bo p'=>exact q
     | fz y kvs=>obtain⟨w0,w1,w2,w3⟩:=q; exact⟨w0,by unfold Le; rw[if_neg z]; exact w1,w2,KReps.mono w3 sg⟩
     | bz kvs=>obtain⟨b,o,vs,w0,w1,w2⟩:=q; exact⟨b,o,vs,w0,w1,KReps.mono w2 sg⟩
     | fl y ps=>obtain⟨w0,w1,w2,w3⟩:=q; exact⟨w0,by unfold Le; rw[if_neg z]; exact w1,w2,w3.mono sg⟩
     | om b p'=>obtain⟨w0,w1,w2⟩:=q; exact⟨w0,by unfold Le; rw[if_neg z]; exact w1,w2.mono sg rfl⟩
     | ow p' =>
      obtain⟨b,w1,w2,w3⟩:=q
      exact⟨b,w1,by unfold Le; rw[if_neg z]; exact w2,w3.mono sg rfl⟩
end
section
variable {K:Frag} {C:Addr} {ω:Om}
theorem EU.eb {t:TE} {u:UE} (h:EU K C ω t u):EB K C ω t u:=fun B G0 H0 own G σ H ρ P Q S hu k=>h B G0 H0 own G σ H ρ P Q S hu fun v p G' H' w r hp=>k v p G' H' w (.inl r) hp
theorem EF.eb {t:TE} {u:UE} (h:EF K C ω t u):EB K C ω t u:=fun B G0 H0 own G σ H ρ P Q S hu k=>h B G0 H0 own G σ H ρ P Q S hu fun a p G' H' w _ _ r hp=>k _ p G' H' w (.inr ⟨a,rfl,r⟩) hp
theorem AeN {G H G' H':Hp} {a:Addr} {p:PV} (w:Grow G H G' H') (n:H a = none) (g:G' a = none) (r:OwnA K C G' H' a p):∃ G'',Grow G H G'' H'/\Rep K C G'' (.ref a) p:=by
 obtain⟨ob,hob⟩:∃ ob,H' a = some ob:=by
  cases e:H' a with
  | none=>exact absurd e r.here
  | some x=>exact⟨x,rfl⟩
 have sg:Same G' (upd G' a ob):=Same.new g
 refine⟨upd G' a ob,⟨w.g.trans sg,w.h,fun b u h=>?_,fun b u h1 t h2=>?_⟩,?_⟩
 ·by_cases z:b = a
  ·subst z; rw[Bp] at h; rw[hob]; exact h
  ·rw[Bk z] at h; exact w.i _ _ h
 ·rw[Bk (by intro z; subst z; rw[n] at h1; cases h1)]; exact w.n b u h1 t h2
 ·cases p <;> first | exact r.elim | skip
  ·obtain⟨vs,h1,h2⟩:=r; rw[hob] at h1; cases h1; exact Rep.ofL Bp (h2.mono sg)
  ·obtain⟨vs,h1,h2⟩:=r; rw[hob] at h1; cases h1; exact Rep.ofD Bp (KReps.mono h2 sg)
  ·obtain⟨vs,h1,h2⟩:=r; rw[hob] at h1; cases h1; exact Rep.ofDt Bp (KReps.mono h2 sg)
theorem EF.eu {t:TE} {u:UE} (h:EF K C ω t u):EU K C ω t u:=fun B G0 H0 own G σ H ρ P Q S hu k=>h B G0 H0 own G σ H ρ P Q S hu fun a p G' H' w n g r hp =>
 let ⟨G'',w2,r2⟩:=AeN w n g r
 k _ p G'' H' w2 r2 hp
def Sl.val:Sl->Option PV
 | .un=>none
 | .sh p=>some p
 | .bo p=>some p
 | .ow p=>some p
 | .fz _ _=>none
 | .bz _=>none
 | .fl _ ps=>some (.lst ps)
 | .om _ p=>some p
def Alr (i:Nat):UE:=fun ρ P=>∃ s p,ρ[i]? = some s/\s.val = some p/\P p
def Ahb (i:Nat):UE:=fun ρ P=>∃ p,ρ[i]? = some (.sh p)/\P p
theorem Bb {i:Nat}:EB K C ω (Gq i) (Alr i):=fun B G0 H0 own G σ H ρ P Q S ⟨s,p,h1,h2,h3⟩ k=>by
 have q:=S.sl i s h1
 have w:=Grow.refl S.gr.i
 cases s with
 | un=>cases h2
 | sh p'=>cases h2; obtain⟨v,e,r⟩:=q; exact⟨v,e,k v _ G H w (.inl r) h3⟩
 | bo p'=>cases h2; obtain⟨v,e,r⟩:=q; exact⟨v,e,k v _ G H w (r.grow S.gr) h3⟩
 | ow p'=>cases h2; obtain⟨a,e,_,r⟩:=q; exact⟨_,e,k _ _ G H w (.inr ⟨a,rfl,r⟩) h3⟩
 | fz _ _=>cases h2
 | bz _=>cases h2
 | fl z ps=>cases h2; obtain⟨e,_,h1,r⟩:=q; exact⟨_,e,k _ _ G H w (.inr ⟨z.1,rfl,OwnA.ofL h1 r⟩) h3⟩
 | om a p'=>cases h2; obtain⟨e,_,r⟩:=q; exact⟨_,e,k _ _ G H w (.inr ⟨a,rfl,r⟩) h3⟩
theorem Cg {i:Nat}:EU K C ω (Gq i) (Ahb i):=fun B G0 H0 own G σ H ρ P Q S ⟨p,h1,h3⟩ k=>by
 obtain⟨v,e,r⟩:=S.sl i _ h1
 exact⟨v,e,k v _ G H (Grow.refl S.gr.i) r h3⟩
def uC (p:PV):UE:=fun _ P=>P p
theorem AfJ {v:V} {p:PV} (h:∀ G,Rep K C G v p):EU K C ω (tC v) (uC p):=fun B G0 H0 own G σ H ρ P Q S hu k=>k v p G H (Grow.refl S.gr.i) (h G) hu
theorem Bh {i:Int}:EU K C ω (tC (.int i)) (uC (.int i)):=AfJ fun _=>.int i
theorem Oy {b:Bool}:EU K C ω (tC (.bl b)) (uC (.bl b)):=AfJ fun _=>.bl b
theorem Dk {x:Str}:EU K C ω (tC (.str x)) (uC (.str x)):=AfJ fun _=>.str x
theorem RepB.int {G H:Hp} {v:V} {i:Int} (h:RepB K C G H v (.int i)):v = .int i:=by
 rcases h with h | ⟨a,_,h⟩
 ·cases h; rfl
 ·exact h.elim
theorem RepB.bl {G H:Hp} {v:V} {b:Bool} (h:RepB K C G H v (.bl b)):v = .bl b:=by
 rcases h with h | ⟨a,_,h⟩
 ·cases h; rfl
 ·exact h.elim
theorem RepB.str {G H:Hp} {v:V} {b:Str} (h:RepB K C G H v (.str b)):v = .str b:=by
 rcases h with h | ⟨a,_,h⟩
 ·cases h; rfl
 ·exact h.elim
theorem RepB.lst {G H:Hp} {v:V} {ps:List PV} (i:Same G H) (h:RepB K C G H v (.lst ps)):∃ a vs,v = .ref a/\H a = some (.lst vs)/\Reps K C G vs ps:=by
 rcases h with h | ⟨a,e,vs,h1,h2⟩
 ·cases h with
  | lst e l q=>exact⟨_,_,rfl,i _ _ e,l,q⟩
 ·exact⟨a,vs,e,h1,h2⟩
theorem RepB.tup {G H:Hp} {v:V} {ps:List PV} (i:Same G H) (h:RepB K C G H v (.tup ps)):∃ a vs,v = .ref a/\H a = some (.tup vs)/\Reps K C G vs ps:=by
 rcases h with h | ⟨a,e,h⟩
 ·cases h with
  | tup e l q=>exact⟨_,_,rfl,i _ _ e,l,q⟩
 ·exact h.elim
theorem RepB.scr {G H:Hp} {v:V} {ns:List Int} (i:Same G H) (h:RepB K C G H v (.scr ns)):∃ a,v = .ref a/\SqL K H a (ns.map V.int):=by
 rcases h with h | ⟨a,e,h⟩
 ·cases h with
  | scr e=>exact⟨_,rfl,i.seq e⟩
 ·exact h.elim
theorem RepB.dk {G H:Hp} {v:V} {ps:List (Key × PV)} (i:Same G H) (h:RepB K C G H v (.dk ps)):∃ a kvs,v = .ref a/\H a = some (.dK kvs)/\LAt (KRep K C) G kvs ps:=by
 rcases h with h | ⟨a,e,vs,h1,h2⟩
 ·cases h with
  | dk e l hk q=>exact⟨_,_,rfl,i _ _ e,l,fun i v p h1 h2=>⟨hk i v p h1 h2,q i v p h1 h2⟩⟩
 ·exact⟨a,vs,e,h1,h2⟩
theorem RepB.dt {G H:Hp} {v:V} {ps:List (List Key × PV)} (i:Same G H) (h:RepB K C G H v (.dt ps)):∃ a kvs,v = .ref a/\H a = some (.dT kvs)/\LAt (KRep K C) G kvs ps:=by
 rcases h with h | ⟨a,e,vs,h1,h2⟩
 ·cases h with
  | dt e l hk q=>exact⟨_,_,rfl,i _ _ e,l,fun i v p h1 h2=>⟨hk i v p h1 h2,q i v p h1 h2⟩⟩
 ·exact⟨a,vs,e,h1,h2⟩
theorem two {ta tb:TE} {ua ub:UE} {r:R2} (ha:EB K C ω ta ua) (hb:EB K C ω tb ub) {B G0 H0:Hp} {own:Nat->Option Addr} {G:Hp} {σ:St} {H:Hp} {ρ:Bl} {Q:VK} {P:PV->PV->Prop} (S:Sat K C ω B G0 H0 own G σ H ρ)
  (hu:ua ρ fun p=>ub ρ fun q=>P p q) (k:∀ v w p q G' H',Grow G H G' H'->RepB K C G' H' v p->RepB K C G' H' w q->P p q->r v w H' Q):tOp r ta tb σ H Q :=
 ha B G0 H0 own G σ H ρ _ _ S hu fun v p G1 H1 w1 r1 h1=>hb B G0 H0 own G1 σ H1 ρ _ _ (S.grow w1) h1 fun w q G2 H2 w2 r2 h2=>k v w p q G2 H2 (w1.trans w2) (r1.grow w2) r2 h2
def bI0 (g:Int->Int->PV) (p q:PV) (P:PV->Prop):Prop:=∃ i j,p = .int i/\q = .int j/\P (g i j)
def uI0 (g:Int->Int->PV) (ua ub:UE):UE:=fun ρ P=>ua ρ fun p=>ub ρ fun q=>bI0 g p q P
def bI (c:Int->Int->Prop) (g:Int->Int->PV) (p q:PV) (P:PV->Prop):Prop:=∃ i j,p = .int i/\q = .int j/\c i j/\P (g i j)
def uI (c:Int->Int->Prop) (g:Int->Int->PV) (ua ub:UE):UE:=fun ρ P=>ua ρ fun p=>ub ρ fun q=>bI c g p q P
theorem Fs {g:Int->Int->V} {g':Int->Int->PV} {ta tb:TE} {ua ub:UE} (hg:∀ G i j,Rep K C G (g i j) (g' i j)) (ha:EB K C ω ta ua) (hb:EB K C ω tb ub):EU K C ω (tOp (rI0 g) ta tb) (uI0 g' ua ub) :=
 fun B G0 H0 own G σ H ρ P Q S hu k=>two ha hb S hu fun v w p q G' H' gr r1 r2 ⟨i,j,e1,e2,h⟩=>by
  subst e1 e2
  exact⟨i,j,r1.int,r2.int,k _ _ G' H' gr (hg G' i j) h⟩
theorem Cv {c:Int->Int->Prop} {g:Int->Int->V} {g':Int->Int->PV} {ta tb:TE} {ua ub:UE} (hg:∀ G i j,Rep K C G (g i j) (g' i j)) (ha:EB K C ω ta ua) (hb:EB K C ω tb ub):EU K C ω (tOp (rI c g) ta tb) (uI c g' ua ub) :=
 fun B G0 H0 own G σ H ρ P Q S hu k=>two ha hb S hu fun v w p q G' H' gr r1 r2 ⟨i,j,e1,e2,hc,h⟩=>by
  subst e1 e2
  exact⟨i,j,r1.int,r2.int,hc,k _ _ G' H' gr (hg G' i j) h⟩
def bU (g:Int->PV) (p:PV) (P:PV->Prop):Prop:=∃ i,p = .int i/\P (g i)
def uU (g:Int->PV) (ua:UE):UE:=fun ρ P=>ua ρ fun p=>bU g p P
theorem Ag8 {g:Int->V} {g':Int->PV} {ta:TE} {ua:UE} (hg:∀ G i,Rep K C G (g i) (g' i)) (ha:EB K C ω ta ua):EU K C ω (tUn (rU g) ta) (uU g' ua) :=
 fun B G0 H0 own G σ H ρ P Q S hu k=>ha B G0 H0 own G σ H ρ _ _ S hu fun v p G' H' w r ⟨i,e,h⟩=>by
  subst e
  exact⟨i,r.int,k _ _ G' H' w (hg G' i) h⟩
def Xr (neg:Bool) (p q:PV) (P:PV->Prop):Prop:=(∃ i j,p = .int i/\q = .int j/\P (.bl (if neg then !decide (i = j) else decide (i = j))))\/(∃ i j,p = .str i/\q = .str j/\P (.bl (if neg then !decide (i = j) else decide (i = j))))
def AfT (neg:Bool) (ua ub:UE):UE:=fun ρ P=>ua ρ fun p=>ub ρ fun q=>Xr neg p q P
theorem Lf {ta tb:TE} {ua ub:UE} (ha:EB K C ω ta ua) (hb:EB K C ω tb ub):EU K C ω (tOp rEq ta tb) (AfT false ua ub) :=
 fun B G0 H0 own G σ H ρ P Q S hu k=>two ha hb S hu fun v w p q G' H' gr r1 r2 h=>by
  rcases h with ⟨i,j,e1,e2,h⟩ | ⟨i,j,e1,e2,h⟩
  ·subst e1 e2; rw[r1.int,r2.int]; exact AhJ (k _ _ G' H' gr (.bl _) h)
  ·subst e1 e2; rw[r1.str,r2.str]; exact Ais (k _ _ G' H' gr (.bl _) h)
theorem Wr {ta tb:TE} {ua ub:UE} (ha:EB K C ω ta ua) (hb:EB K C ω tb ub):EU K C ω (tOp rNe ta tb) (AfT true ua ub) :=
 fun B G0 H0 own G σ H ρ P Q S hu k=>two ha hb S hu fun v w p q G' H' gr r1 r2 h=>by
  rcases h with ⟨i,j,e1,e2,h⟩ | ⟨i,j,e1,e2,h⟩
  ·subst e1 e2; rw[r1.int,r2.int]; exact Ahz (k _ _ G' H' gr (.bl _) h)
  ·subst e1 e2; rw[r1.str,r2.str]; exact Ahw (k _ _ G' H' gr (.bl _) h)
def isN:PV->Bool
 | .non=>true
 | _=>false
theorem AeS {G H:Hp} {v:V} {p:PV} (r:RepB K C G H v p):decide (v = .non) = isN p:=by
 rcases r with r | ⟨a,e,r⟩
 ·cases r <;> first | rfl | exact decide_eq_false (fun z=>nomatch z)
 ·subst e
  cases p <;> first | exact r.elim | exact decide_eq_false (fun z=>nomatch z)
def Acj (neg:Bool) (ua:UE):UE:=fun ρ P=>ua ρ fun p=>P (.bl (if neg then !isN p else isN p))
theorem Aki {ta:TE} {ua:UE} (ha:EB K C ω ta ua):EU K C ω (AlU ta) (Acj false ua) :=
 fun B G0 H0 own G σ H ρ P Q S hu k=>ha B G0 H0 own G σ H ρ _ _ S hu fun v p G' H' w r h=>by rw[AeS r]; exact k _ _ G' H' w (.bl _) h
theorem Aje {ta:TE} {ua:UE} (ha:EB K C ω ta ua):EU K C ω (AhA ta) (Acj true ua) :=
 fun B G0 H0 own G σ H ρ P Q S hu k=>ha B G0 H0 own G σ H ρ _ _ S hu fun v p G' H' w r h=>by rw[AeS r]; exact k _ _ G' H' w (.bl _) h
def bB (p:PV) (P:Bool->Prop):Prop:=∃ b,p = .bl b/\P b
def uB (ua:UE):UT:=fun ρ P=>ua ρ fun p=>bB p P
theorem Du {ta:TE} {ua:UE} (ha:EB K C ω ta ua):TU K C ω (tB ta) (uB ua) :=
 fun B G0 H0 own G σ H ρ P Q S hu k=>ha B G0 H0 own G σ H ρ _ _ S hu fun v p G' H' w r ⟨b,e,h⟩=>by subst e; exact⟨b,r.bl,k b G' H' w h⟩
theorem Xq {ta:TE} {ua:UE} (ha:EB K C ω ta ua):TU K C ω (Acl ta) (uB ua) :=
 fun B G0 H0 own G σ H ρ P Q S hu k=>ha B G0 H0 own G σ H ρ _ _ S hu fun v p G' H' w r ⟨b,e,h⟩=>by subst e; exact⟨b,r.bl,k b G' H' w h⟩
def Al1 (ua ub:UT):UT:=fun ρ P=>ua ρ fun b=>if b = true then ub ρ P else P false
def uOr (ua ub:UT):UT:=fun ρ P=>ua ρ fun b=>if b = true then P true else ub ρ P
def Akv (ua:UT):UT:=fun ρ P=>ua ρ fun b=>P (!b)
theorem Aaq {ta tb:TT} {ua ub:UT} (ha:TU K C ω ta ua) (hb:TU K C ω tb ub):TU K C ω (AgE ta tb) (Al1 ua ub) :=
 fun B G0 H0 own G σ H ρ P Q S hu k=>ha B G0 H0 own G σ H ρ _ _ S hu fun b G' H' w h=>by
  cases b with
  | true=>exact Jq (hb B G0 H0 own G' σ H' ρ P Q (S.grow w) (by simpa using h) fun c G2 H2 w2 h2=>k c G2 H2 (w.trans w2) h2)
  | false=>exact Jy (k _ G' H' w (by simpa using h))
theorem Zj {ta tb:TT} {ua ub:UT} (ha:TU K C ω ta ua) (hb:TU K C ω tb ub):TU K C ω (tOr ta tb) (uOr ua ub) :=
 fun B G0 H0 own G σ H ρ P Q S hu k=>ha B G0 H0 own G σ H ρ _ _ S hu fun b G' H' w h=>by
  cases b with
  | false=>exact Jy (hb B G0 H0 own G' σ H' ρ P Q (S.grow w) (by simpa using h) fun c G2 H2 w2 h2=>k c G2 H2 (w.trans w2) h2)
  | true=>exact Jq (k _ G' H' w (by simpa using h))
theorem Aff {ta:TT} {ua:UT} (ha:TU K C ω ta ua):TU K C ω (AgD ta) (Akv ua) :=
 fun B G0 H0 own G σ H ρ P Q S hu k=>ha B G0 H0 own G σ H ρ _ _ S hu fun b G' H' w h=>k _ G' H' w h
def Ah9 (ua ub:UE):UE:=fun ρ P=>ua ρ fun p=>bB p fun b=>if b = true then ub ρ P else P (.bl false)
theorem Abp {ta tb:TE} {ua ub:UE} (ha:EB K C ω ta ua) (hb:EU K C ω tb ub):EU K C ω (Acn ta tb) (Ah9 ua ub) :=
 fun B G0 H0 own G σ H ρ P Q S hu k=>ha B G0 H0 own G σ H ρ _ _ S hu fun v p G' H' w r ⟨b,e,h⟩=>by
  subst e
  refine⟨b,r.bl,?_⟩
  cases b with
  | true=>exact Jq (hb B G0 H0 own G' σ H' ρ P Q (S.grow w) (by simpa using h) fun c p2 G2 H2 w2 h2=>k c p2 G2 H2 (w.trans w2) h2)
  | false=>exact Jy (k _ _ G' H' w (.bl _) (by simpa using h))
def uIf (uc:UT) (ua ub:UE):UE:=fun ρ P=>uc ρ fun b=>if b = true then ua ρ P else ub ρ P
theorem Ang {tc:TT} {ta tb:TE} {uc:UT} {ua ub:UE} (hc:TU K C ω tc uc) (ha:EU K C ω ta ua) (hb:EU K C ω tb ub):EU K C ω (tIf tc ta tb) (uIf uc ua ub) :=
 fun B G0 H0 own G σ H ρ P Q S hu k=>hc B G0 H0 own G σ H ρ _ _ S hu fun b G' H' w h=>by
  cases b with
  | true=>exact Jq (ha B G0 H0 own G' σ H' ρ P Q (S.grow w) (by simpa using h) fun c p2 G2 H2 w2 h2=>k c p2 G2 H2 (w.trans w2) h2)
  | false=>exact Jy (hb B G0 H0 own G' σ H' ρ P Q (S.grow w) (by simpa using h) fun c p2 G2 H2 w2 h2=>k c p2 G2 H2 (w.trans w2) h2)
end
section
variable {K:Frag} {C:Addr} {ω:Om}
theorem ArgsOk.len {G H:Hp}:∀ {ms:List Bool} {vs:List V} {ps:List PV},ArgsOk K C G H ms vs ps->vs.length = ms.length/\ps.length = ms.length
 | [],[],[],_=>⟨rfl,rfl⟩
 | true :: _,_ :: _,_ :: _,h=>⟨congrArg Nat.succ h.2.len.1,congrArg Nat.succ h.2.len.2⟩
 | false :: _,_ :: _,_ :: _,h=>⟨congrArg Nat.succ h.2.len.1,congrArg Nat.succ h.2.len.2⟩
 | [],_ :: _,_,h=>h.elim
 | [],[],_ :: _,h=>h.elim
 | true :: _,[],_,h=>by cases h
 | false :: _,[],_,h=>by cases h
 | true :: _,_ :: _,[],h=>by cases h
 | false :: _,_ :: _,[],h=>by cases h
theorem ArgsOk.reps {G H:Hp}:∀ {n:Nat} {vs:List V} {ps:List PV},ArgsOk K C G H (replicate n true) vs ps->Reps K C G vs ps
 | 0,[],[],_=>LAt.nil
 | 0,_ :: _,_,h=>by cases h
 | 0,[],_ :: _,h=>by cases h
 | _ + 1,[],_,h=>by cases h
 | _ + 1,_ :: _,[],h=>by cases h
 | n + 1,v :: vs,p :: ps,h=>by
  have h1:Rep K C G v p:=h.1
  have h2:Reps K C G vs ps:=ArgsOk.reps (n:=n) h.2
  exact⟨congrArg Nat.succ h2.1,fun i x y e1 e2=>by
   cases i with
   | zero=>cases e1; cases e2; exact h1
   | succ i=>exact h2.2 i x y (by simpa using e1) (by simpa using e2)⟩
def AkN:UA:=fun _ P=>P []
def Adi (ua:UE) (ur:UA):UA:=fun ρ P=>ua ρ fun p=>ur ρ fun ps=>P (p :: ps)
theorem Bf:AU K C ω [] Ou AkN:=fun B G0 H0 own G σ H ρ P Q S hu k=>k [] [] G H (Grow.refl S.gr.i) trivial hu
theorem Bv {ms:List Bool} {ta:TE} {tr:TA} {ua:UE} {ur:UA} (ha:EU K C ω ta ua) (hr:AU K C ω ms tr ur):AU K C ω (true :: ms) (Go ta tr) (Adi ua ur) :=
 fun B G0 H0 own G σ H ρ P Q S hu k=>ha B G0 H0 own G σ H ρ _ _ S hu fun v p G1 H1 w1 r1 h1=>hr B G0 H0 own G1 σ H1 ρ _ _ (S.grow w1) h1 fun vs ps G2 H2 w2 r2 h2=>k (v :: vs) (p :: ps) G2 H2 (w1.trans w2) ⟨r1.mono w2.g,r2⟩ h2
theorem Bn {ms:List Bool} {ta:TE} {tr:TA} {ua:UE} {ur:UA} (ha:EB K C ω ta ua) (hr:AU K C ω ms tr ur):AU K C ω (false :: ms) (Go ta tr) (Adi ua ur) :=
 fun B G0 H0 own G σ H ρ P Q S hu k=>ha B G0 H0 own G σ H ρ _ _ S hu fun v p G1 H1 w1 r1 h1=>hr B G0 H0 own G1 σ H1 ρ _ _ (S.grow w1) h1 fun vs ps G2 H2 w2 r2 h2=>k (v :: vs) (p :: ps) G2 H2 (w1.trans w2) ⟨r1.grow w2,r2⟩ h2
def Aj1 (u:UA):UE:=fun ρ P=>u ρ fun ps=>P (.lst ps)
def Alm (u:UA):UE:=fun ρ P=>u ρ fun ps=>P (.tup ps)
theorem Dc (n:Nat) {t:TA} {u:UA} (h:AU K C ω (replicate n true) t u) (hn:n <= 1000:=by decide):EF K C ω (AcZ t) (Aj1 u) :=
 fun B G0 H0 own G σ H ρ P Q S hu k=>h B G0 H0 own G σ H ρ _ _ S hu fun vs ps G1 H1 w1 r1 h1=>by
  have hl:vs.length = n:=by rw[r1.len.1,length_replicate]
  refine⟨Nat.le_of_lt (Qe (by omega)),fun a H2 ha s2 e2=>?_⟩
  have w2:=w1.trans (Grow.own w1.i s2)
  exact k a _ G1 H2 w2 (w1.h.free ha) (w1.i.free ha) (OwnA.ofL e2 r1.reps) h1
theorem Lq (n:Nat) {t:TA} {u:UA} (h:AU K C ω (replicate n true) t u) (hn:n <= 1000:=by decide):EU K C ω (AhX t) (Alm u) :=
 fun B G0 H0 own G σ H ρ P Q S hu k=>h B G0 H0 own G σ H ρ _ _ S hu fun vs ps G1 H1 w1 r1 h1=>by
  have hl:vs.length = n:=by rw[r1.len.1,length_replicate]
  refine⟨Nat.le_of_lt (Qe (by omega)),fun a H2 ha s2 e2=>?_⟩
  have w2:=Grow.put w1.i ha s2 e2
  exact k _ _ _ H2 (w1.trans w2) (Rep.ofT Bp (r1.reps.mono w2.g)) h1
theorem LAt.get' {β α:Type} {R:Hp->β->α->Prop} {H:Hp} {xs:List β} {ys:List α} (h:LAt R H xs ys) {i:Nat} {y:α} (e:ys[i]? = some y):∃ x,xs[i]? = some x/\R H x y:=by
 have hi:i < ys.length:=(List.getElem?_eq_some_iff.mp e).1
 have hx:i < xs.length:=by rw[h.1]; exact hi
 exact⟨xs[i],getElem?_eq_getElem hx,h.2 i _ y (getElem?_eq_getElem hx) e⟩
theorem LAt.atI {β α:Type} {R:Hp->β->α->Prop} {H:Hp} {xs:List β} {ys:List α} (h:LAt R H xs ys) {i:Int} {y:α} (e:L2.atI ys i = some y):∃ x,L2.atI xs i = some x/\R H x y:=by
 unfold L2.atI at e ⊢
 rw[h.1]
 cases z:ixN ys.length i with
 | none=>rw[z] at e; cases e
 | some j=>rw[z] at e; exact h.get' e
theorem Ga {G:Hp} (ns:List Int):Reps K C G (ns.map V.int) (ns.map PV.int) :=
 ⟨by simp,fun i v p h1 h2=>by
  rw[getElem?_map] at h1 h2
  cases e:ns[i]? with
  | none=>rw[e] at h1; cases h1
  | some n=>rw[e] at h1 h2; cases h1; cases h2; exact .int n⟩
def AaJ (p q:PV) (P:PV->Prop):Prop:=∃ i ps x,q = .int i/\(p = .lst ps\/∃ ns,p = .scr ns/\ps = ns.map .int)/\atI ps i = some x/\P x
def Akn (ua ub:UE):UE:=fun ρ P=>ua ρ fun p=>ub ρ fun q=>AaJ p q P
theorem De {ta tb:TE} {ua ub:UE} (ha:EB K C ω ta ua) (hb:EB K C ω tb ub):EU K C ω (tOp (Adf K) ta tb) (Akn ua ub) :=
 fun B G0 H0 own G σ H ρ P Q S hu k=>two ha hb S hu fun v w p q G' H' gr r1 r2 ⟨i,ps,x,e1,e2,e3,h⟩=>by
  subst e1
  rcases e2 with e2 | ⟨ns,e2,e4⟩
  ·subst e2
   obtain⟨a,vs,rfl,ea,l⟩:=r1.lst gr.i
   obtain⟨y,hy,ry⟩:=l.atI e3
   exact⟨a,vs,i,y,rfl,r2.int,SqL.of ea,hy,k y x G' H' gr ry h⟩
  ·subst e2 e4
   obtain⟨a,rfl,ea⟩:=r1.scr gr.i
   obtain⟨y,hy,ry⟩:=(Ga (K:=K) (C:=C) (G:=G') ns).atI e3
   exact⟨a,_,i,y,rfl,r2.int,ea,hy,k y x G' H' gr ry h⟩
def Tn (p q:PV) (P:PV->Prop):Prop:=∃ i ps x,q = .int i/\p = .tup ps/\atI ps i = some x/\P x
def Ak8 (ua ub:UE):UE:=fun ρ P=>ua ρ fun p=>ub ρ fun q=>Tn p q P
theorem Ff {ta tb:TE} {ua ub:UE} (ha:EB K C ω ta ua) (hb:EB K C ω tb ub):EU K C ω (tOp (Adk K) ta tb) (Ak8 ua ub) :=
 fun B G0 H0 own G σ H ρ P Q S hu k=>two ha hb S hu fun v w p q G' H' gr r1 r2 ⟨i,ps,x,e1,e2,e3,h⟩=>by
  subst e1 e2
  obtain⟨a,vs,rfl,ea,l⟩:=r1.tup gr.i
  obtain⟨y,hy,ry⟩:=l.atI e3
  exact⟨a,vs,i,y,rfl,r2.int,SqT.of ea,hy,k y x G' H' gr ry h⟩
abbrev UO:=Bl->(Option Int->Prop)->Prop
def OU (K:Frag) (C:Addr) (ω:Om) (t:TO) (u:UO):Prop:=∀ (B G0 H0:Hp) (own:Nat->Option Addr) (G:Hp) (σ:St) (H:Hp) (ρ:Bl) (P:Option Int->Prop) (Q:Option Int->Hp->Prop),Sat K C ω B G0 H0 own G σ H ρ->u ρ P->(∀ o G' H',Grow G H G' H'->P o->Q o H')->t σ H Q
def AbR:UO:=fun _ P=>P none
def Ac9 (p:PV) (P:Option Int->Prop):Prop:=∃ i,p = .int i/\P (some i)
def AhC (ua:UE):UO:=fun ρ P=>ua ρ fun p=>Ac9 p P
theorem Fj:OU K C ω AbQ AbR:=fun B G0 H0 own G σ H ρ P Q S hu k=>k none G H (Grow.refl S.gr.i) hu
theorem Cz {ta:TE} {ua:UE} (ha:EB K C ω ta ua):OU K C ω (Ahp ta) (AhC ua) :=
 fun B G0 H0 own G σ H ρ P Q S hu k=>ha B G0 H0 own G σ H ρ _ _ S hu fun v p G' H' w r ⟨i,e,h⟩=>by subst e; exact⟨i,r.int,k _ G' H' w h⟩
def Fo {α:Type} (xs:List α) (lo hi:Option Int):List α:=(xs.drop (HT.sIx xs.length 0 lo)).take (HT.sIx xs.length xs.length hi - HT.sIx xs.length 0 lo)
theorem Dr {α β:Type} (f:α->β) (xs:List α) (lo hi:Option Int):Fo (xs.map f) lo hi = (Fo xs lo hi).map f:=by
 unfold Fo; rw[length_map,map_take,List.map_drop]
theorem Reps.cut {G:Hp} {vs:List V} {ps:List PV} (h:Reps K C G vs ps) (lo hi:Option Int):Reps K C G (Vn vs lo hi) (Fo ps lo hi):=by
 unfold Vn Fo
 rw[h.1]
 exact (LAt.drop h _).take _
def AgA (p:PV) (lo hi:Option Int) (P:PV->Prop):Prop:=∃ ps,(p = .lst ps\/∃ ns,p = .scr ns/\ps = ns.map .int)/\P (.lst (Fo ps lo hi))
def Ame (ua:UE) (ul uh:UO):UE:=fun ρ P=>ua ρ fun p=>ul ρ fun lo=>uh ρ fun hi=>AgA p lo hi P
theorem Fa {ta:TE} {tl th:TO} {ua:UE} {ul uh:UO} (ha:EB K C ω ta ua) (hl:OU K C ω tl ul) (hh:OU K C ω th uh):EF K C ω (tSl (AhN K) ta tl th) (Ame ua ul uh) :=
 fun B G0 H0 own G σ H ρ P Q S hu k=>ha B G0 H0 own G σ H ρ _ _ S hu fun v p G1 H1 w1 r1 h1=>hl B G0 H0 own G1 σ H1 ρ _ _ (S.grow w1) h1 fun lo G2 H2 w2 h2=>hh B G0 H0 own G2 σ H2 ρ _ _ ((S.grow w1).grow w2) h2 fun hi G3 H3 w3 h3=>by
  have w:=(w1.trans w2).trans w3
  have r:=(r1.grow w2).grow w3
  obtain⟨ps,e,h⟩:=h3
  rcases e with e | ⟨ns,e,e4⟩
  ·subst e
   obtain⟨a,vs,rfl,ea,l⟩:=r.lst w3.i
   exact⟨a,vs,rfl,SqL.of ea,fun b H4 hb s4 e4=>k b _ G3 H4 (w.trans (Grow.own w3.i s4)) (w.h.free hb) (w3.i.free hb) (OwnA.ofL e4 (l.cut lo hi)) h⟩
  ·subst e e4
   obtain⟨a,rfl,ea⟩:=r.scr w3.i
   exact⟨a,_,rfl,ea,fun b H4 hb s4 e4=>k b _ G3 H4 (w.trans (Grow.own w3.i s4)) (w.h.free hb) (w3.i.free hb) (OwnA.ofL e4 ((Ga ns).cut lo hi)) h⟩
theorem Af1 {G:Hp} {vs ws:List V} {ps qs:List PV} (h:Reps K C G vs ps) (h':Reps K C G ws qs):Reps K C G (vs ++ ws) (ps ++ qs):=LAt.append h h'
def AfM (p q:PV) (P:PV->Prop):Prop:=∃ ps qs,p = .lst ps/\q = .lst qs/\ps.length + qs.length <= 100000/\P (.lst (ps ++ qs))
def AkL (ua ub:UE):UE:=fun ρ P=>ua ρ fun p=>ub ρ fun q=>AfM p q P
theorem Aa8 {n:Nat} (h:n <= 100000):n < sizeLine:=Nat.lt_of_le_of_lt h (by decide)
theorem Gh {ta tb:TE} {ua ub:UE} (ha:EB K C ω ta ua) (hb:EB K C ω tb ub):EF K C ω (tOp Ah7 ta tb) (AkL ua ub) :=
 fun B G0 H0 own G σ H ρ P Q S hu k=>two ha hb S hu fun v w p q G' H' gr r1 r2 ⟨ps,qs,e1,e2,hl,h⟩=>by
  subst e1 e2
  obtain⟨a,vs,rfl,ea,l⟩:=r1.lst gr.i
  obtain⟨b,ws,rfl,eb,l2⟩:=r2.lst gr.i
  exact⟨a,b,vs,ws,rfl,rfl,ea,eb,Nat.le_of_lt (Aa8 (by rw[l.1,l2.1]; exact hl)),fun c H4 hc s4 e4=>k c _ G' H4 (gr.trans (Grow.own gr.i s4)) (gr.h.free hc) (gr.i.free hc) (OwnA.ofL e4 (Af1 l l2)) h⟩
def uCB (ur:List PV->(PV->Prop)->Prop) (u:UA):UE:=fun ρ P=>u ρ fun ps=>ur ps P
theorem Acr {ms:List Bool} {r:List V->Hp->VK->Prop} {ur:List PV->(PV->Prop)->Prop} {t:TA} {u:UA}
  (hr:∀ G H vs ps P Q,Same G H->ArgsOk K C G H ms vs ps->ur ps P->(∀ v p,Rep K C G v p->P p->Q v H)->r vs H Q) (ha:AU K C ω ms t u):EU K C ω (tCB r t) (uCB ur u) :=
 fun B G0 H0 own G σ H ρ P Q S hu k=>ha B G0 H0 own G σ H ρ _ _ S hu fun vs ps G1 H1 w1 r1 h1=>hr G1 H1 vs ps P Q w1.i r1 h1 fun v p rv hp=>k v p G1 H1 w1 rv hp
theorem Np {G H:Hp} {m:Bool} {vs:List V} {ps:List PV} (h:ArgsOk K C G H [m] vs ps):∃ v p,vs = [v]/\ps = [p]/\RepB K C G H v p:=by
 match vs,ps,m,h with
 | [v],[p],true,h=>exact⟨v,p,rfl,rfl,.inl h.1⟩
 | [v],[p],false,h=>exact⟨v,p,rfl,rfl,h.1⟩
 | [],_,true,h=>cases h
 | [],_,false,h=>cases h
 | _ :: _,[],true,h=>cases h
 | _ :: _,[],false,h=>cases h
 | _ :: _ :: _,[_],true,h=>cases h.2
 | _ :: _ :: _,[_],false,h=>cases h.2
 | [_],_ :: _ :: _,true,h=>cases h.2
 | [_],_ :: _ :: _,false,h=>cases h.2
 | _ :: _ :: _,_ :: _ :: _,true,h=>cases h.2
 | _ :: _ :: _,_ :: _ :: _,false,h=>cases h.2
theorem Ud {G H:Hp} {m n:Bool} {vs:List V} {ps:List PV} (h:ArgsOk K C G H [m,n] vs ps):∃ v w p q,vs = [v,w]/\ps = [p,q]/\RepB K C G H v p/\RepB K C G H w q:=by
 match vs,ps,m,h with
 | v :: vs,p :: ps,true,h=>obtain⟨w,q,rfl,rfl,r⟩:=Np h.2; exact⟨v,w,p,q,rfl,rfl,.inl h.1,r⟩
 | v :: vs,p :: ps,false,h=>obtain⟨w,q,rfl,rfl,r⟩:=Np h.2; exact⟨v,w,p,q,rfl,rfl,h.1,r⟩
 | [],_,true,h=>cases h
 | [],_,false,h=>cases h
 | _ :: _,[],true,h=>cases h
 | _ :: _,[],false,h=>cases h
def AcY (ps:List PV) (P:PV->Prop):Prop:=∃ n:Nat,(ps = [.scr []]/\n = 0\/(∃ xs,ps = [.lst xs]/\n = xs.length)\/(∃ xs,ps = [.tup xs]/\n = xs.length)\/∃ ns,ps = [.scr ns]/\n = ns.length)/\P (.int n)
theorem Dv {m:Bool} {t:TA} {u:UA} (ha:AU K C ω [m] t u):EU K C ω (tCB (fun xs H Q=>∃ p ys,xs = [.ref p]/\(SqL K H p ys\/SqT K H p ys)/\Q (.int ys.length) H) t) (uCB AcY u) :=
 Acr (fun G H vs ps P Q i ok h k=>by
  obtain⟨v,p,rfl,rfl,r⟩:=Np ok
  obtain⟨n,h1,h2⟩:=h
  rcases h1 with ⟨e,rfl⟩ | ⟨xs,e,rfl⟩ | ⟨xs,e,rfl⟩ | ⟨ns,e,rfl⟩
  ·cases e
   obtain⟨a,rfl,ea⟩:=r.scr i
   exact⟨a,_,rfl,.inl ea,k _ _ (.int _) h2⟩
  ·cases e
   obtain⟨a,vs,rfl,ea,l⟩:=r.lst i
   exact⟨a,vs,rfl,.inl (SqL.of ea),by rw[l.1]; exact k _ _ (.int _) h2⟩
  ·cases e
   obtain⟨a,vs,rfl,ea,l⟩:=r.tup i
   exact⟨a,vs,rfl,.inr (SqT.of ea),by rw[l.1]; exact k _ _ (.int _) h2⟩
  ·cases e
   obtain⟨a,rfl,ea⟩:=r.scr i
   exact⟨a,_,rfl,.inl ea,by rw[length_map]; exact k _ _ (.int _) h2⟩) ha
def AhS (ps:List PV) (P:PV->Prop):Prop:=∃ i j:Int,ps = [.int i,.int j]/\P (.int (if j > i then j else i))
theorem Aen {m n:Bool} {t:TA} {u:UA} (ha:AU K C ω [m,n] t u):EU K C ω (tCB (fun xs H Q=>∃ i j,xs = [.int i,.int j]/\Q (.int (if j > i then j else i)) H) t) (uCB AhS u) :=
 Acr (fun G H vs ps P Q i ok h k=>by
  obtain⟨v,w,p,q,rfl,rfl,r1,r2⟩:=Ud ok
  obtain⟨x,y,e,h⟩:=h
  cases e
  exact⟨x,y,by rw[r1.int,r2.int],k _ _ (.int _) h⟩) ha
def Aij (ps:List PV) (P:PV->Prop):Prop:=(∃ i:Int,ps = [.int i]/\P (.int i))\/∃ b:Bool,ps = [.bl b]/\P (.int (if b then 1 else 0))
theorem AjD {m:Bool} {t:TA} {u:UA} (ha:AU K C ω [m] t u):EU K C ω (tCB (fun xs H Q=>(∃ i,xs = [.int i]/\Q (.int i) H)\/∃ k,xs = [.bl k]/\Q (.int (if k then 1 else 0)) H) t) (uCB Aij u) :=
 Acr (fun G H vs ps P Q i ok h k=>by
  obtain⟨v,p,rfl,rfl,r⟩:=Np ok
  rcases h with ⟨x,e,h⟩ | ⟨x,e,h⟩
  ·cases e; exact .inl ⟨x,by rw[r.int],k _ _ (.int _) h⟩
  ·cases e; exact .inr ⟨x,by rw[r.bl],k _ _ (.int _) h⟩) ha
def AeB (ps:List PV) (P:PV->Prop):Prop:=∃ xs,(ps = [.lst xs]\/ps = [.tup xs]\/∃ ns,ps = [.scr ns]/\xs = ns.map .int)/\P (.lst xs)
theorem Qp {m:Bool} {t:TA} {u:UA} (ha:AU K C ω [m] t u):EF K C ω (tCB (fun xs H Q=>∃ p ys,xs = [.ref p]/\(SqL K H p ys\/SqT K H p ys)/\∀ l H',H l = none->Same H H'->H' l = some (.lst ys)->Q (.ref l) H') t) (uCB AeB u) :=
 fun B G0 H0 own G σ H ρ P Q S hu k=>ha B G0 H0 own G σ H ρ _ _ S hu fun vs ps G1 H1 w1 r1 h1=>by
  obtain⟨v,p,rfl,rfl,r⟩:=Np r1
  obtain⟨xs,h1,h2⟩:=h1
  rcases h1 with e | e | ⟨ns,e,rfl⟩
  ·cases e
   obtain⟨a,vs,rfl,ea,l⟩:=r.lst w1.i
   exact⟨a,vs,rfl,.inl (SqL.of ea),fun b H4 hb s4 e4=>k b _ G1 H4 (w1.trans (Grow.own w1.i s4)) (w1.h.free hb) (w1.i.free hb) (OwnA.ofL e4 l) h2⟩
  ·cases e
   obtain⟨a,vs,rfl,ea,l⟩:=r.tup w1.i
   exact⟨a,vs,rfl,.inr (SqT.of ea),fun b H4 hb s4 e4=>k b _ G1 H4 (w1.trans (Grow.own w1.i s4)) (w1.h.free hb) (w1.i.free hb) (OwnA.ofL e4 l) h2⟩
  ·cases e
   obtain⟨a,rfl,ea⟩:=r.scr w1.i
   exact⟨a,_,rfl,.inl ea,fun b H4 hb s4 e4=>k b _ G1 H4 (w1.trans (Grow.own w1.i s4)) (w1.h.free hb) (w1.i.free hb) (OwnA.ofL e4 (Ga ns)) h2⟩
end
section
variable {K:Frag} {C:Addr} {ω:Om} {rm:Rm}
def Ahn:US:=fun d ρ=>d.nx ρ
def AcO (u w:US):US:=fun d ρ=>u { d with nx:=w d } ρ
theorem Ds:SU K C ω rm Adg Ahn:=fun B G0 H0 own G σ H ρ D d S F h=>F.nx own G σ H ρ S h
theorem Bj {t t':TS} {u u':US} (h:SU K C ω rm t u) (h':SU K C ω rm t' u'):SU K C ω rm (AfX t t') (AcO u u'):=fun B G0 H0 own G σ H ρ D d S F hu =>
 h B G0 H0 own G σ H ρ { D with nx:=t' D } { d with nx:=u' d } S ⟨fun own' G' σ' H' ρ' S' q=>h' B G0 H0 own' G' σ' H' ρ' D d S' F q,F.rt,F.bk,F.ct⟩ hu
def Aao (i:Nat) (u:US):US:=fun d ρ=>u d (Lo i ρ)
theorem Zw (i:Nat) {t:TS} {u:US} (h:SU K C ω rm t u):SU K C ω rm t (Aao i u):=fun B G0 H0 own G σ H ρ D d S F hu =>
 let ⟨own',G',S'⟩:=S.share i
 h B G0 H0 own' G' σ H _ D d S' F hu
def Ak5:US:=fun _ _=>False
theorem AfF:SU K C ω rm Aem Ak5:=fun B G0 H0 own G σ H ρ D d S F h=>h.elim
def Ag6 (ua:UE):US:=fun d ρ=>ua ρ d.rt
theorem Gv {ta:TE} {ua:UE} (ha:EU K C ω ta ua):SU K C ω .sh (Xh ta) (Ag6 ua):=fun B G0 H0 own G σ H ρ D d S F hu =>
 ha B G0 H0 own G σ H ρ _ _ S hu fun v p G' H' w r h=>F.rt G' H' v p (S.gr.trans w) r h
theorem Gs {ta:TE} {ua:UE} (ha:EF K C ω ta ua):SU K C ω .fr (Xh ta) (Ag6 ua):=fun B G0 H0 own G σ H ρ D d S F hu =>
 ha B G0 H0 own G σ H ρ _ _ S hu fun a p G' H' w n g r h=>F.rt G' H' _ p (S.gr.trans w) ⟨a,rfl,S.gr.h.free n,g,r⟩ h
def Ag9 (i:Nat):US:=fun d ρ=>∃ p,ρ[i]? = some (.ow p)/\d.rt p
theorem Gu {i:Nat}:SU K C ω .fr (Xh (Gq i)) (Ag9 i):=fun B G0 H0 own G σ H ρ D d S F ⟨p,e,h⟩=>by
 obtain⟨a,e1,o,r⟩:=S.sl i _ e
 obtain⟨f0,fg,_⟩:=S.fr i a o
 exact⟨_,e1,F.rt G H _ p S.gr ⟨a,rfl,f0,fg,r⟩ h⟩
def Ama (uc:UT) (u w:US):US:=fun d ρ=>uc ρ fun b=>if b = true then u d ρ else w d ρ
theorem Fr {tc:TT} {t t':TS} {uc:UT} {u u':US} (hc:TU K C ω tc uc) (h:SU K C ω rm t u) (h':SU K C ω rm t' u'):SU K C ω rm (Af5 tc t t') (Ama uc u u'):=fun B G0 H0 own G σ H ρ D d S F hu =>
 hc B G0 H0 own G σ H ρ _ _ S hu fun b G' H' w q=>by
  cases b with
  | true=>exact Jq (h B G0 H0 own G' σ H' ρ D d (S.grow w) F (by simpa using q))
  | false=>exact Jy (h' B G0 H0 own G' σ H' ρ D d (S.grow w) F (by simpa using q))
def AkC (i:Nat) (ua:UE):US:=fun d ρ=>ua ρ fun p=>d.nx (ρ.set i (.sh p))
theorem Bz {i:Nat} {ta:TE} {ua:UE} (ha:EU K C ω ta ua):SU K C ω rm (Th ta (Na i)) (AkC i ua):=fun B G0 H0 own G σ H ρ D d S F hu =>
 ha B G0 H0 own G σ H ρ _ _ S hu fun v p G' H' w r h=>F.nx _ G' _ H' _ ((S.grow w).setS r) h
def Ah4 (i:Nat) (ua:UE):US:=fun d ρ=>ua ρ fun p=>d.nx (ρ.set i (.ow p))
theorem Dp {i:Nat} {ta:TE} {ua:UE} (ha:EF K C ω ta ua):SU K C ω rm (Th ta (Na i)) (Ah4 i ua):=fun B G0 H0 own G σ H ρ D d S F hu =>
 ha B G0 H0 own G σ H ρ _ _ S hu fun a p G' H' w n g r h=>F.nx _ G' _ H' _ ((S.grow w).setO r (S.gr.h.free n) g fun j z=>(let ⟨_,_,o,ho,_⟩:=S.fr j a z; by rw[n] at ho; cases ho)) h
def Aeh (i:Nat):PV->Bl->(Bl->Prop)->Prop:=fun p ρ P=>P (ρ.set i (.sh p))
theorem AaG {α:Type}:∀ {l:List α} {i top:Nat} {x:α},i < top->(l.set i x).drop top = l.drop top
 | [],_,_,_,_=>rfl
 | _ :: _,_,0,_,h=>by omega
 | _ :: _,0,_ + 1,_,_=>rfl
 | _ :: l,i + 1,t + 1,x,h=>AaG (l:=l) (i:=i) (top:=t) (by omega)
theorem Cc {top i:Nat} (hi:i < top:=by decide):GU K C ω top (Na i) (Aeh i):=fun B G0 H0 own G σ H ρ v p P R S r h k=>k _ _ _ (S.setS r) (AaG hi) h
def Ad9:List PV->Bl->(Bl->Prop)->Prop:=fun ps ρ P=>ps = []/\P ρ
def AbZ (u:PV->Bl->(Bl->Prop)->Prop) (us:List PV->Bl->(Bl->Prop)->Prop):List PV->Bl->(Bl->Prop)->Prop:=fun ps ρ P=>∃ p r,ps = p :: r/\u p ρ fun ρ'=>us r ρ' P
theorem Lk {top:Nat}:GsU K C ω top Agp Ad9:=fun B G0 H0 own G σ H ρ vs ps P R S r ⟨e,h⟩ k=>by
 subst e
 exact⟨List.eq_nil_of_length_eq_zero r.1,k _ _ _ S rfl h⟩
theorem Dn {top:Nat} {g:TG} {gs:TGs} {u:PV->Bl->(Bl->Prop)->Prop} {us:List PV->Bl->(Bl->Prop)->Prop} (hg:GU K C ω top g u) (hs:GsU K C ω top gs us):GsU K C ω top (Ac6 g gs) (AbZ u us):=fun B G0 H0 own G σ H ρ vs ps P R S r ⟨p,q,e,h⟩ k=>by
 subst e
 match vs,r with
 | [],r=>have:=r.1; simp at this
 | v :: vs,r =>
  obtain⟨r1,r2⟩:=r.uncons
  exact⟨v,vs,rfl,hg B G0 H0 own G σ H ρ v p _ _ S r1 h fun own' σ' ρ' S' dr h'=>hs B G0 H0 own' G σ' H ρ' vs q P R S' r2 h' fun own2 σ2 ρ2 S2 dr2 h2=>k own2 σ2 ρ2 S2 (dr2.trans dr) h2⟩
def Zc (n:Nat) (us:List PV->Bl->(Bl->Prop)->Prop):PV->Bl->(Bl->Prop)->Prop:=fun p ρ P=>∃ ps,p = .tup ps/\ps.length = n/\us ps ρ P
theorem Nt {top n:Nat} {gs:TGs} {us:List PV->Bl->(Bl->Prop)->Prop} (hs:GsU K C ω top gs us):GU K C ω top (AaC K n gs) (Zc n us):=fun B G0 H0 own G σ H ρ v p P R S r ⟨ps,e,hl,h⟩ k=>by
 subst e
 cases r with
 | tup e l q=>exact⟨_,_,rfl,SqT.of (S.gr.i _ _ e),by rw[l]; exact hl,hs B G0 H0 own G σ H ρ _ ps P R S ⟨l,q⟩ h k⟩
theorem Qb {G:Hp} {vs:List V} {ps:List PV} {v:V} {p:PV} (h:Reps K C G vs ps) (r:Rep K C G v p):Reps K C G (vs ++ [v]) (ps ++ [p]):=LAt.snoc h r
theorem Sat.list {B G0 H0 G H:Hp} {own:Nat->Option Addr} {σ:St} {ρ:Bl} {i:Nat} {ps:List PV} (S:Sat K C ω B G0 H0 own G σ H ρ) (e:ρ[i]? = some (.ow (.lst ps))):∃ a vs,σ[i]? = some (some (.ref a))/\own i = some a/\H a = some (.lst vs)/\Reps K C G vs ps:=by
 obtain⟨a,e1,o,vs,h1,h2⟩:=S.sl i _ e
 exact⟨a,vs,e1,o,h1,h2⟩
theorem Xa {B G0 H0 G H:Hp} {own:Nat->Option Addr} {σ:St} {ρ:Bl} {i:Nat} {r:V->List V->Hp->VK->Prop} {t:TA} {Q:VK} {ps:List PV} (S:Sat K C ω B G0 H0 own G σ H ρ) (e:ρ[i]? = some (.ow (.lst ps)))
  (k:∀ a vs,σ[i]? = some (some (.ref a))->own i = some a->H a = some (.lst vs)->Reps K C G vs ps->t σ H fun xs H2=>r (.ref a) xs H2 Q):tBM K "list" r (Gq i) t σ H Q:=by
 obtain⟨a,vs,e1,o,h1,h2⟩:=S.list e
 exact⟨_,e1,.inl ⟨rfl,_,SqL.of h1⟩,k a vs e1 o h1 h2⟩
def AgW (i:Nat) (ρ:Bl) (N:Bl->Prop) (qs:List PV):Prop:=∃ q ps,qs = [q]/\ρ[i]? = some (.ow (.lst ps))/\ps.length < 100000/\N (ρ.set i (.ow (.lst (ps ++ [q]))))
def Aht (i:Nat) (u:UA):US:=fun d ρ=>(∃ ps,ρ[i]? = some (.ow (.lst ps)))/\u ρ fun qs=>AgW i ρ d.nx qs
theorem Jg {i:Nat} {t:TA} {u:UA} (ha:AU K C ω [true] t u):SU K C ω rm (Vw (tBM K "list" Rk (Gq i) t)) (Aht i u):=fun B G0 H0 own G σ H ρ D d S F ⟨⟨ps0,e0⟩,hu⟩ =>
 Xa S e0 fun a vs0 e1 o _ _=>ha B G0 H0 own G σ H ρ _ _ S hu fun xs qs G' H' w ok ⟨q,ps,eq,ep,hl,h⟩=>by
  have S':=S.grow w
  obtain⟨a',vs,e1',o',h1,h2⟩:=S'.list ep
  rw[o] at o'; cases o'
  subst eq
  match xs,ok with
  | [x],ok =>
   have rx:Rep K C G' x q:=ok.1
   exact⟨a,vs,x,rfl,rfl,h1,Aa8 (by rw[h2.1]; omega),fun H2 c e2=>F.nx own G' σ H2 _ (S'.chg o e1 c (OwnA.ofL e2 (Qb h2 rx))) h⟩
  | [],ok=>cases ok
  | _ :: _ :: _,ok=>cases ok.2
theorem Tz:EF K C ω Zn (fun _ P=>P (.dk [])):=fun B G0 H0 own G σ H ρ P Q S hu k p hp =>
 k p _ G _ (Grow.own S.gr.i (Same.new hp)) hp (S.gr.i.free hp) (by first | exact OwnA.ofD Bp LAt.nil | exact OwnA.ofDt Bp LAt.nil) hu
def kP:Key->PV
 | .inl i=>.int i
 | .inr x=>.str x
def Fe {κ:Type} [DecidableEq κ] (kvs:List (κ × PV)) (k:κ):Option PV:=(kvs.find? fun kv=>decide (kv.1 = k)).map (·.2)
def Lg {κ:Type} [DecidableEq κ] (kvs:List (κ × PV)) (k:κ) (v:PV):List (κ × PV) :=
 if kvs.any (fun kv=>decide (kv.1 = k)) then kvs.map (fun kv=>if kv.1 = k then (kv.1,v) else kv) else kvs ++ [(k,v)]
theorem Wb {κ:Type} [DecidableEq κ] {G:Hp}:∀ {kvs:List (κ × V)} {ps:List (κ × PV)} (k:κ),LAt (KRep K C) G kvs ps->(Cp kvs k = none/\Fe ps k = none)\/∃ v p,Cp kvs k = some v/\Fe ps k = some p/\Rep K C G v p
 | [],[],_,_=>.inl ⟨rfl,rfl⟩
 | [],_ :: _,_,h=>by have:=h.1; simp at this
 | _ :: _,[],_,h=>by have:=h.1; simp at this
 | x :: xs,y :: ys,k,h=>by
  obtain⟨⟨e,r⟩,h2⟩:=h.uncons
  unfold Cp Fe
  rw[find?_cons,find?_cons,<- e]
  by_cases z:x.1 = k
  ·rw[decide_eq_true z]; exact .inr ⟨_,_,rfl,rfl,r⟩
  ·rw[decide_eq_false z]; exact Wb k h2
theorem Adp {G H:Hp} {v:V} {k:Key} (h:RepB K C G H v (kP k)):v = kV k:=by
 cases k with
 | inl i=>exact h.int
 | inr x=>exact h.str
end
section
variable {K:Frag} {C:Addr} {ω:Om} {rm:Rm}
theorem AlD {κ:Type} [DecidableEq κ] {G:Hp} {kvs:List (κ × V)} {ps:List (κ × PV)} {k:κ} {v:V} {p:PV} (h:LAt (KRep K C) G kvs ps) (r:Rep K C G v p):LAt (KRep K C) G (Jp kvs k v) (Lg ps k p):=by
 have hany:(kvs.any fun kv=>decide (kv.1 = k)) = (ps.any fun kv=>decide (kv.1 = k)):=by
  clear r
  induction kvs generalizing ps with
  | nil=>cases ps with
   | nil=>rfl
   | cons y ys=>have:=h.1; simp at this
  | cons x xs ih=>cases ps with
   | nil=>have:=h.1; simp at this
   | cons y ys =>
    obtain⟨⟨e,_⟩,h2⟩:=h.uncons
    rw[any_cons,any_cons,e,ih h2]
 unfold Jp Lg
 rw[hany]
 split
 ·refine⟨by rw[length_map,length_map,h.1],fun i x y e1 e2=>?_⟩
  rw[getElem?_map] at e1 e2
  obtain⟨x',hx,rfl⟩:=map_eq_some_iff.mp e1
  obtain⟨y',hy,rfl⟩:=map_eq_some_iff.mp e2
  obtain⟨q1,q2⟩:=h.2 i x' y' hx hy
  by_cases z:x'.1 = k
  ·rw[if_pos z,if_pos (by rw[<- q1]; exact z)]; exact⟨q1,r⟩
  ·rw[if_neg z,if_neg (by rw[<- q1]; exact z)]; exact⟨q1,q2⟩
 ·exact LAt.snoc h ⟨rfl,r⟩
def Agm (neg:Bool) (q p:PV) (P:PV->Prop):Prop:=∃ kvs k,p = .dk kvs/\q = kP k/\P (.bl (if neg then !(Fe kvs k).isSome else (Fe kvs k).isSome))
def Al8 (neg:Bool) (ua ub:UE):UE:=fun ρ P=>ua ρ fun q=>ub ρ fun p=>Agm neg q p P
theorem Xi {G H:Hp} {v w:V} {kvs:List (Key × PV)} {k:Key} (i:Same G H) (r1:RepB K C G H w (.dk kvs)) (r2:RepB K C G H v (kP k)):∃ a o,w = .ref a/\IsD H a/\DGet H a v o/\((o = none/\Fe kvs k = none)\/∃ x p,o = some x/\Fe kvs k = some p/\Rep K C G x p):=by
 obtain⟨a,vs,rfl,ea,l⟩:=r1.dk i
 rw[Adp r2]
 refine⟨a,Cp vs k,rfl,.inl ⟨_,.inl ea⟩,DGet.k ea,?_⟩
 rcases Wb k l with ⟨h1,h2⟩ | ⟨x,p,h1,h2,h3⟩
 ·exact .inl ⟨h1,h2⟩
 ·exact .inr ⟨x,p,h1,h2,h3⟩
theorem Ae5 {ta tb:TE} {ua ub:UE} (ha:EB K C ω ta ua) (hb:EB K C ω tb ub):EU K C ω (AgK ta tb) (Al8 false ua ub):=fun B G0 H0 own G σ H ρ P Q S hu k =>
 ha B G0 H0 own G σ H ρ _ _ S hu fun v q G1 H1 w1 r1 h1=>hb B G0 H0 own G1 σ H1 ρ _ _ (S.grow w1) h1 fun w p G2 H2 w2 r2 ⟨kvs,key,e1,e2,h⟩=>by
  subst e1 e2
  obtain⟨a,o,rfl,_,hg,ho⟩:=Xi w2.i r2 (r1.grow w2)
  refine⟨a,o,rfl,hg,?_⟩
  have:o.isSome = (Fe kvs key).isSome:=by
   rcases ho with ⟨h1,h2⟩ | ⟨x,p,h1,h2,h3⟩
   ·rw[h1,h2]; rfl
   ·rw[h1,h2]; rfl
  rw[this]
  exact k _ _ G2 H2 (w1.trans w2) (.bl _) h
def Wu (p q:PV) (P:PV->Prop):Prop:=∃ kvs k x,p = .dk kvs/\q = kP k/\Fe kvs k = some x/\P x
def Aih (ua ub:UE):UE:=fun ρ P=>ua ρ fun p=>ub ρ fun q=>Wu p q P
theorem Tw {ta tb:TE} {ua ub:UE} (ha:EB K C ω ta ua) (hb:EB K C ω tb ub):EU K C ω (Zb ta tb) (Aih ua ub):=fun B G0 H0 own G σ H ρ P Q S hu k =>
 ha B G0 H0 own G σ H ρ _ _ S hu fun v q G1 H1 w1 r1 h1=>hb B G0 H0 own G1 σ H1 ρ _ _ (S.grow w1) h1 fun w p G2 H2 w2 r2 ⟨kvs,key,x,e1,e2,e3,h⟩=>by
  subst e1 e2
  obtain⟨a,o,rfl,_,hg,ho⟩:=Xi w2.i (r1.grow w2) r2
  rcases ho with ⟨h1,h2⟩ | ⟨y,p,h1,h2,h3⟩
  ·rw[e3] at h2; cases h2
  ·rw[e3] at h2; cases h2
   subst h1
   exact⟨a,y,rfl,hg,k _ _ G2 H2 (w1.trans w2) h3 h⟩
def AaM (kvs:List (Key × PV)) (q z:PV) (P:PV->Prop):Prop:=∃ k,q = kP k/\P ((Fe kvs k).getD z)
def Adx (i:Nat) (ub uc:UE):UE:=fun ρ P=>∃ s kvs,ρ[i]? = some s/\s.val = some (.dk kvs)/\ub ρ fun q=>uc ρ fun z=>AaM kvs q z P
theorem Aaw {i:Nat} {tb tc:TE} {ub uc:UE} (hb:EB K C ω tb ub) (hc:EU K C ω tc uc):EU K C ω (AaO (Gq i) tb tc) (Adx i ub uc):=fun B G0 H0 own G σ H ρ P Q S ⟨s,kvs,e,ev,hu⟩ k =>
 Bb B G0 H0 own G σ H ρ (fun p=>p = .dk kvs) _ S ⟨s,_,e,ev,rfl⟩ fun v q G1 H1 w1 r1 e0=>by
  subst e0
  obtain⟨a,vs,rfl,ea,l⟩:=r1.dk w1.i
  refine⟨a,rfl,.inl ⟨_,.inl ea⟩,hb B G0 H0 own G1 σ H1 ρ _ _ (S.grow w1) hu fun w p G2 H2 w2 r2 h2=>hc B G0 H0 own G2 σ H2 ρ _ _ ((S.grow w1).grow w2) h2 fun z pz G3 H3 w3 r3 ⟨key,e2,h⟩=>?_⟩
  subst e2
  obtain⟨a',o,e,_,hg,ho⟩:=Xi w3.i ((r1.grow w2).grow w3) (r2.grow w3)
  cases e
  refine⟨o,hg,?_⟩
  have w:=(w1.trans w2).trans w3
  rcases ho with ⟨h1,h2⟩ | ⟨y,p,h1,h2,h3⟩
  ·rw[h2] at h; subst h1; exact k _ _ G3 H3 w r3 h
  ·rw[h2] at h; subst h1; exact k _ _ G3 H3 w h3 h
def AcP (i:Nat) (ρ:Bl) (N:Bl->Prop) (p q:PV):Prop:=∃ kvs k,ρ[i]? = some (.ow (.dk kvs))/\q = kP k/\kvs.length < 100000/\N (ρ.set i (.ow (.dk (Lg kvs k p))))
def Aiv (i:Nat) (ub uv:UE):US:=fun d ρ=>(∃ kvs,ρ[i]? = some (.ow (.dk kvs)))/\uv ρ fun p=>ub ρ fun q=>AcP i ρ d.nx p q
theorem Nk {i:Nat} {tb tv:TE} {ub uv:UE} (hb:EB K C ω tb ub) (hv:EU K C ω tv uv):SU K C ω rm (AcF (Gq i) tb tv) (Aiv i ub uv):=fun B G0 H0 own G σ H ρ D d S F ⟨⟨kvs0,e0⟩,hu⟩ =>
 hv B G0 H0 own G σ H ρ _ _ S hu fun v p G1 H1 w1 r1 h1=>by
  have S1:=S.grow w1
  obtain⟨a,ea,o,_⟩:=S.sl i _ e0
  refine⟨_,ea,hb B G0 H0 own G1 σ H1 ρ _ _ S1 h1 fun w q G2 H2 w2 r2 ⟨kvs,k,e,e2,hl,h⟩=>?_⟩
  subst e2
  have S2:=S1.grow w2
  obtain⟨a',ea',o',vs,ha,l⟩:=S2.sl i _ e
  rw[o] at o'; cases o'
  rw[Adp r2]
  exact⟨a,_,rfl,DPut.k ha (Aa8 (by rw[l.1]; omega)),F.nx own G2 σ _ _ (S2.chg o ea Chg.put (OwnA.ofD Bp (AlD l (r1.mono w2.g)))) h⟩
end
section
variable {K:Frag} {C:Addr} {ω:Om} {rm:Rm}
abbrev UI:=Bl->(List PV->Prop)->Prop
def Aia (ps:List PV) (ug:PV->Bl->(Bl->Prop)->Prop) (ub:US):US:=fun d ρ=>∃ I:Nat->Bl->Prop,I 0 ρ/\(∀ k p ρ,ps[k]? = some p->I k ρ->ug p ρ fun ρ'=>ub { d with nx:=I (k + 1),ct:=I (k + 1),bk:=d.nx } ρ')/\∀ ρ,I ps.length ρ->d.nx ρ
def Aga (ui:UI) (ug:PV->Bl->(Bl->Prop)->Prop) (ub:US):US:=fun d ρ=>ui ρ fun ps=>Aia ps ug ub d ρ
def bL (p:PV) (R:List PV->Prop):Prop:=∃ ps,(p = .lst ps\/∃ ns,p = .scr ns/\ps = ns.map .int)/\R ps
def uiL (ua:UE):UI:=fun ρ R=>ua ρ fun p=>bL p R
theorem Nu {B B1 G0 H0:Hp} {D:Ends} {d:Gp} {N:Bl->Prop} {M:St->Hp->Prop} (F:Aci K C ω rm B G0 H0 D d) (hb:Same B B1) (hM:∀ own G σ H ρ,Sat K C ω B1 G0 H0 own G σ H ρ->N ρ->M σ H) :
  Aci K C ω rm B1 G0 H0 { D with nx:=M,ct:=M,bk:=D.nx } { d with nx:=N,ct:=N,bk:=d.nx } :=
 ⟨hM,F.rt,fun own G σ H ρ S h=>F.nx own G σ H ρ (S.base (hb.trans S.kb)) h,hM⟩
theorem Jx {top:Nat} {ta:TE} {ua:UE} {g:TG} {ug:PV->Bl->(Bl->Prop)->Prop} {tb:TS} {ub:US} (ha:EU K C ω ta ua) (hg:GU K C ω top g ug) (hb:SU K C ω rm tb ub):SU K C ω rm (Qk (Sc K ta) g tb) (Aga (uiL ua) ug ub) :=
 fun B G0 H0 own G σ H ρ D d S F hu=>ha B G0 H0 own G σ H ρ _ _ S hu fun v p G1 H1 w1 r1 ⟨ps,e,I,i0,ist,iend⟩=>by
  have S1:=S.grow w1
  obtain⟨a,vs,rfl,sq,rp⟩:∃ a vs,v = .ref a/\SqL K G1 a vs/\Reps K C G1 vs ps:=by
   rcases e with e | ⟨ns,e,e2⟩
   ·subst e
    cases r1 with
    | lst e l q=>exact⟨_,_,rfl,SqL.of e,l,q⟩
   ·subst e e2
    cases r1 with
    | scr e=>exact⟨_,_,rfl,e,Ga ns⟩
  refine⟨a,rfl,⟨vs,w1.i.seq sq⟩,Sb (xs:=vs) (fun k σ' H'=>∃ own' G' ρ',Sat K C ω G1 G0 H0 own' G' σ' H' ρ'/\I k ρ') ⟨own,G1,ρ,S1.base (Same.refl _),i0⟩ (fun k σ' H' _ ⟨own',G',ρ',S',_⟩=>(S'.kb.trans S'.gr.i).seq sq) (fun k x σ' H' hx ⟨own',G',ρ',S',hi⟩=>?_) fun σ' H' ⟨own',G',ρ',S',hi⟩=>?_⟩
  ·obtain⟨q,hq,rq⟩:=rp.get hx
   exact hg G1 G0 H0 own' G' σ' H' ρ' x q _ _ S' (rq.mono S'.kb) (ist k q ρ' hq hi) fun own2 σ2 ρ2 S2 _ h2=>hb G1 G0 H0 own2 G' σ2 H' ρ2 _ _ S2 (Nu F S1.kb fun own3 G3 σ3 H3 ρ3 S3 h3=>⟨own3,G3,ρ3,S3,h3⟩) h2
  ·rw[rp.1] at hi
   exact F.nx own' G' σ' H' ρ' (S'.base (S1.kb.trans S'.kb)) (iend ρ' hi)
def uiB (i:Nat):UI:=fun ρ R=>∃ s p ps,ρ[i]? = some s/\(s = .bo p\/s = .sh p)/\(p = .lst ps\/∃ ns,p = .scr ns/\ps = ns.map .int)/\R ps
theorem Oh {top:Nat} {i:Nat} {g:TG} {ug:PV->Bl->(Bl->Prop)->Prop} {tb:TS} {ub:US} (hg:GU K C ω top g ug) (hb:SU K C ω rm tb ub):SU K C ω rm (Qk (Sc K (Gq i)) g tb) (Aga (uiB i) ug ub) :=
 fun B G0 H0 own G σ H ρ D d S F ⟨s,p,ps,es,ek,e,I,i0,ist,iend⟩=>by
  have key:∃ a vs,σ[i]? = some (some (.ref a))/\(∀ G' H',Same G G'->Same H0 H'->Same G' H'->SqL K H' a vs)/\Reps K C G vs ps:=by
   rcases ek with ek | ek
   ·subst ek
    obtain⟨v,ev,rb⟩:=S.sl i _ es
    rcases e with e | ⟨ns,e,e2⟩
    ·subst e
     rcases rb with rb | ⟨a,e2,vs,h1,h2⟩
     ·cases rb with
      | lst e l q=>exact⟨_,_,ev,fun G' H' s1 s2 s3=>SqL.of (s3 _ _ (s1 _ _ (S.gr.g _ _ e))),l,fun j x y h1 h2=>(q j x y h1 h2).mono S.gr.g⟩
     ·subst e2
      exact⟨a,vs,ev,fun G' H' s1 s2 s3=>SqL.of (s2 _ _ h1),h2.mono S.gr.g⟩
    ·subst e e2
     rcases rb with rb | ⟨a,e2,h⟩
     ·cases rb with
      | scr e=>exact⟨_,_,ev,fun G' H' s1 s2 s3=>s3.seq (s1.seq (S.gr.g.seq e)),Ga ns⟩
     ·exact h.elim
   ·subst ek
    obtain⟨v,ev,rb⟩:=S.sl i _ es
    rcases e with e | ⟨ns,e,e2⟩
    ·subst e
     cases rb with
     | lst e l q=>exact⟨_,_,ev,fun G' H' s1 s2 s3=>SqL.of (s3 _ _ (s1 _ _ e)),l,q⟩
    ·subst e e2
     cases rb with
     | scr e=>exact⟨_,_,ev,fun G' H' s1 s2 s3=>s3.seq (s1.seq e),Ga ns⟩
  obtain⟨a,vs,ev,sq,rp⟩:=key
  refine⟨_,ev,a,rfl,⟨vs,sq G H (Same.refl _) S.gr.h S.gr.i⟩,Sb (xs:=vs) (fun k σ' H'=>∃ own' G' ρ',Sat K C ω G G0 H0 own' G' σ' H' ρ'/\I k ρ') ⟨own,G,ρ,S.base (Same.refl _),i0⟩ (fun k σ' H' _ ⟨own',G',ρ',S',_⟩=>sq G' H' S'.kb S'.gr.h S'.gr.i) (fun k x σ' H' hx ⟨own',G',ρ',S',hi⟩=>?_) fun σ' H' ⟨own',G',ρ',S',hi⟩=>?_⟩
  ·obtain⟨q,hq,rq⟩:=rp.get hx
   exact hg G G0 H0 own' G' σ' H' ρ' x q _ _ S' (rq.mono S'.kb) (ist k q ρ' hq hi) fun own2 σ2 ρ2 S2 _ h2=>hb G G0 H0 own2 G' σ2 H' ρ2 _ _ S2 (Nu F S.kb fun own3 G3 σ3 H3 ρ3 S3 h3=>⟨own3,G3,ρ3,S3,h3⟩) h2
  ·rw[rp.1] at hi
   exact F.nx own' G' σ' H' ρ' (S'.base (S.kb.trans S'.kb)) (iend ρ' hi)
def Vo (lo:Int) (n:Nat) (ug:PV->Bl->(Bl->Prop)->Prop) (ub:US):US:=fun d ρ=>∃ I:Nat->Bl->Prop,I 0 ρ/\(∀ k ρ,k < n->I k ρ->ug (.int (lo + k)) ρ fun ρ'=>ub { d with nx:=I (k + 1),ct:=I (k + 1),bk:=d.nx } ρ')/\∀ ρ,I n ρ->d.nx ρ
def bR1 (R:Nat->Prop) (ps:List PV):Prop:=∃ j:Int,ps = [.int j]/\-(2 ^ 62) <= j/\j < 2 ^ 62/\R j.toNat
def Aii (u:UA) (ug:PV->Bl->(Bl->Prop)->Prop) (ub:US):US:=fun d ρ=>u ρ fun ps=>bR1 (fun n=>Vo 0 n ug ub d ρ) ps
def bR2 (R:Int->Nat->Prop) (ps:List PV):Prop:=∃ i j:Int,ps = [.int i,.int j]/\(-(2 ^ 62) <= i/\i < 2 ^ 62/\-(2 ^ 62) <= j/\j < 2 ^ 62)/\R i (j - i).toNat
def Aho (u:UA) (ug:PV->Bl->(Bl->Prop)->Prop) (ub:US):US:=fun d ρ=>u ρ fun ps=>bR2 (fun i n=>Vo i n ug ub d ρ) ps
theorem Ahg {top:Nat} {B G0 H0 G H:Hp} {own:Nat->Option Addr} {σ:St} {ρ:Bl} {D:Ends} {d:Gp} {lo:Int} {n:Nat} {g:TG} {ug:PV->Bl->(Bl->Prop)->Prop} {tb:TS} {ub:US} (hg:GU K C ω top g ug) (hb:SU K C ω rm tb ub) (S:Sat K C ω B G0 H0 own G σ H ρ) (F:Aci K C ω rm B G0 H0 D d) (h:Vo lo n ug ub d ρ) :
  ∃ W:Nat->Nat->St->Hp->Prop,(∃ m,W 0 m σ H)/\∀ i m σ H,W i m σ H->((Itr lo n).stop i H/\D.nx σ H)\/((Itr lo n).go i H/\∃ N:St->Hp->Prop,(∀ σ' H',N σ' H'->∃ m',m' < m/\W (i + 1) m' σ' H')/\∀ x H',(Itr lo n).yld i H x H'->g x σ H' fun σ2 H2=>tb { D with nx:=N,ct:=N,bk:=D.nx } σ2 H2):=by
 obtain⟨I,i0,ist,iend⟩:=h
 refine Yq (fun k σ' H'=>∃ own' G' ρ',Sat K C ω B G0 H0 own' G' σ' H' ρ'/\I k ρ') ⟨own,G,ρ,S,i0⟩ (fun k σ' H' hk ⟨own',G',ρ',S',hi⟩=>?_) fun σ' H' ⟨own',G',ρ',S',hi⟩=>F.nx own' G' σ' H' ρ' S' (iend ρ' hi)
 exact hg B G0 H0 own' G' σ' H' ρ' _ _ _ _ S' (.int _) (ist k ρ' hk hi) fun own2 σ2 ρ2 S2 _ h2=>hb B G0 H0 own2 G' σ2 H' ρ2 _ _ S2 (Nu F (Same.refl _) fun own3 G3 σ3 H3 ρ3 S3 h3=>⟨own3,G3,ρ3,S3,h3⟩) h2
theorem Ajq {top:Nat} {m:Bool} {t:TA} {u:UA} {g:TG} {ug:PV->Bl->(Bl->Prop)->Prop} {tb:TS} {ub:US} (ha:AU K C ω [m] t u) (hg:GU K C ω top g ug) (hb:SU K C ω rm tb ub):SU K C ω rm (Qk (Vq t) g tb) (Aii u ug ub) :=
 fun B G0 H0 own G σ H ρ D d S F hu=>ha B G0 H0 own G σ H ρ _ _ S hu fun vs ps G1 H1 w1 ok ⟨j,e,h1,h2,h⟩=>by
  obtain⟨v,p,rfl,e2,r⟩:=Np ok
  rw[e] at e2; cases e2
  exact⟨j,by rw[r.int],h1,h2,Ahg hg hb (S.grow w1) F h⟩
theorem AiL {top:Nat} {m n:Bool} {t:TA} {u:UA} {g:TG} {ug:PV->Bl->(Bl->Prop)->Prop} {tb:TS} {ub:US} (ha:AU K C ω [m,n] t u) (hg:GU K C ω top g ug) (hb:SU K C ω rm tb ub):SU K C ω rm (Qk (AhE t) g tb) (Aho u ug ub) :=
 fun B G0 H0 own G σ H ρ D d S F hu=>ha B G0 H0 own G σ H ρ _ _ S hu fun vs ps G1 H1 w1 ok ⟨i,j,e,h1,h⟩=>by
  obtain⟨v,w,p,q,rfl,e2,r1,r2⟩:=Ud ok
  rw[e] at e2; cases e2
  exact⟨i,j,by rw[r1.int,r2.int],h1,Ahg hg hb (S.grow w1) F h⟩
def Aj4 (uc:UT) (ub:US):US:=fun d ρ=>∃ I:Nat->Bl->Prop,(∃ m,I m ρ)/\∀ m ρ,I m ρ->uc ρ fun b=>if b = true then ub { d with nx:=fun ρ'=>∃ m',m' < m/\I m' ρ',ct:=fun ρ'=>∃ m',m' < m/\I m' ρ',bk:=d.nx } ρ else d.nx ρ
theorem AaE {tc:TT} {uc:UT} {tb:TS} {ub:US} (hc:TU K C ω tc uc) (hb:SU K C ω rm tb ub):SU K C ω rm (AdV tc tb) (Aj4 uc ub):=fun B G0 H0 own G σ H ρ D d S F ⟨I,⟨m,i0⟩,ist⟩ =>
 ⟨fun m σ' H'=>∃ own' G' ρ',Sat K C ω B G0 H0 own' G' σ' H' ρ'/\I m ρ',⟨m,own,G,ρ,S,i0⟩,fun m σ' H' ⟨own',G',ρ',S',hi⟩=>hc B G0 H0 own' G' σ' H' ρ' _ _ S' (ist m ρ' hi) fun b G1 H1 w1 h1=>by
  cases b with
  | false=>exact Jy (F.nx own' G1 σ' H1 ρ' (S'.grow w1) (by simpa using h1))
  | true =>
   refine Jq ?_
   refine⟨fun σ2 H2=>∃ m',m' < m/\∃ own2 G2 ρ2,Sat K C ω B G0 H0 own2 G2 σ2 H2 ρ2/\I m' ρ2,fun σ2 H2 h=>h,hb B G0 H0 own' G1 σ' H1 ρ' _ _ (S'.grow w1) (Nu (N:=fun ρ'=>∃ m',m' < m/\I m' ρ') F (Same.refl _) fun own3 G3 σ3 H3 ρ3 S3 ⟨m',hm,h3⟩=>⟨m',hm,own3,G3,ρ3,S3,h3⟩) (by simpa using h1)⟩⟩
end
section
variable {K:Frag} {C:Addr} {ω:Om}
def boS:Sl->Sl
 | .ow p=>.bo p
 | .fz _ kvs=>.bz kvs
 | .fl _ ps=>.bo (.lst ps)
 | .om _ p=>.bo p
 | s=>s
def compρ (k:Nat) (fr:List Nat) (ρ:Bl):Bl:=replicate k .un ++ fr.map fun i=>boS ((ρ[i]?).getD .un)
theorem Sat.comp {B G0 H0 G1 H1:Hp} {own:Nat->Option Addr} {σ:St} {ρ:Bl} (S:Sat K C ω B G0 H0 own G1 σ H1 ρ) (k:Nat) (fr:List Nat) {G H:Hp} (w:Grow G1 H1 G H):Sat K C Om.no G1 G1 H1 (fun _=>none) G (compσ k fr σ) H (compρ k fr ρ):=by
 refine⟨w.g,w,?_,fun i j a h=>(by cases h),fun i a h=>(by cases h),fun i s h=>?_,fun _ _ _ z=>z.elim⟩
 ·unfold compσ compρ; simp
 ·by_cases hk:i < k
  ·unfold compρ at h
   rw[getElem?_append_left (by rw[length_replicate]; exact hk),getElem?_replicate,if_pos hk] at h
   cases h; trivial
  ·unfold compρ at h
   rw[getElem?_append_right (by rw[length_replicate]; omega),length_replicate,getElem?_map] at h
   obtain⟨j,hj,e⟩:=map_eq_some_iff.mp h
   have hσ:(compσ k fr σ)[i]? = some (σ[j]?).join:=by
    unfold compσ
    rw[getElem?_append_right (by rw[length_replicate]; omega),length_replicate,getElem?_map,hj]; rfl
   cases e2:ρ[j]? with
   | none=>rw[e2] at e; cases e; trivial
   | some s0 =>
    rw[e2] at e
    have q:=S.sl j s0 e2
    cases s0 with
    | un=>cases e; trivial
    | sh p=>cases e; obtain⟨v,ev,r⟩:=q; exact⟨v,by rw[hσ,ev]; rfl,r.mono w.g⟩
    | bo p=>cases e; obtain⟨v,ev,r⟩:=q; exact⟨v,by rw[hσ,ev]; rfl,r.grow S.gr⟩
    | ow p=>cases e; obtain⟨a,ev,_,r⟩:=q; exact⟨_,by rw[hσ,ev]; rfl,.inr ⟨a,rfl,r⟩⟩
    | fz z kvs=>cases e; obtain⟨ev,_,h1,h2⟩:=q; exact⟨z.1,z.2.1,z.2.2,by rw[hσ,ev]; rfl,h1,KReps.mono h2 w.g⟩
    | bz kvs=>cases e; obtain⟨a,o,vs,ev,h1,h2⟩:=q; exact⟨a,o,vs,by rw[hσ,ev]; rfl,S.gr.h _ _ h1,KReps.mono h2 w.g⟩
    | fl z ps=>cases e; obtain⟨ev,_,h1,h2⟩:=q; exact⟨_,by rw[hσ,ev]; rfl,.inr ⟨z.1,rfl,OwnA.ofL h1 h2⟩⟩
    | om a p=>cases e; obtain⟨ev,_,r⟩:=q; exact⟨_,by rw[hσ,ev]; rfl,.inr ⟨a,rfl,r⟩⟩
def AhR:UT:=fun _ P=>P true
theorem Jm:TU K C ω Ahr AhR:=fun B G0 H0 own G σ H ρ P Q S hu k=>k true G H (Grow.refl S.gr.i) hu
def Tk (ps:List PV) (ug:PV->Bl->(Bl->Prop)->Prop) (uc:UT) (ue:UE) (ρ':Bl) (P:PV->Prop):Prop:=∃ I:Nat->List PV->Prop,I 0 []/\(∀ n p rs,ps[n]? = some p->I n rs->ug p ρ' fun ρ2=>uc ρ2 fun b=>if b = true then ue ρ2 fun q=>I (n + 1) (rs ++ [q]) else I (n + 1) rs)/\∀ rs,I ps.length rs->P (.lst rs)
def CSt (K:Frag) (C:Addr) (G1 H1:Hp) (D:Addr) (I:Nat->List PV->Prop) (n:Nat) (H:Hp):Prop:=∃ G ys rs,Grow G1 H1 G H/\G D = none/\H D = some (.lst ys)/\Reps K C G ys rs/\rs.length <= n/\I n rs
theorem Sy {B G0 H0 G1 H1:Hp} {own:Nat->Option Addr} {σ:St} {ρ:Bl} (S:Sat K C ω B G0 H0 own G1 σ H1 ρ) {k:Nat} {fr:List Nat} {g:TG} {ug:PV->Bl->(Bl->Prop)->Prop} {tc:TT} {uc:UT} {te:TE} {ue:UE} (hg:GU K C Om.no k g ug) (hc:TU K C Om.no tc uc) (he:EU K C Om.no te ue) {D:Addr} (hD:H1 D = none) {I:Nat->List PV->Prop} {n:Nat} (hn:n < 100000) {x:V} {p:PV} {H':Hp} {N:Hp->Prop}
  (rx:∀ G,Same G1 G->Rep K C G x p) (st:CSt K C G1 H1 D I n H') (hN:∀ H'',CSt K C G1 H1 D I (n + 1) H''->N H'') (hs:∀ rs,I n rs->ug p (compρ k fr ρ) fun ρ2=>uc ρ2 fun b=>if b = true then ue ρ2 fun q=>I (n + 1) (rs ++ [q]) else I (n + 1) rs) :
  g x (compσ k fr σ) H' fun σ2 H2=>σ2.drop k = (compσ k fr σ).drop k/\tc σ2 H2 fun b H3=>if b = true then te σ2 H3 (fun y H4=>∃ ys,H4 D = some (.lst ys)/\ys.length < sizeLine/\N (upd H4 D (.lst (ys ++ [y])))) else N H3:=by
 obtain⟨G,ys,rs,w,gD,eD,ry,hl,hi⟩:=st
 refine hg G1 G1 H1 _ G _ H' _ x p _ _ (S.comp k fr w) (rx G w.g) (hs rs hi) fun own' σ' ρ' S' dr h=>⟨dr,hc G1 G1 H1 own' G σ' H' ρ' _ _ S' h fun b G3 H3 w3 h3=>?_⟩
 cases b with
 | false=>exact Jy (hN _ ⟨G3,ys,rs,w.trans w3,w3.n D _ eD (fun _ z=>nomatch z) gD,w3.h _ _ eD,ry.mono w3.g,by omega,by simpa using h3⟩)
 | true =>
  refine Jq (he G1 G1 H1 own' G3 σ' H3 ρ' _ _ (S'.grow w3) (by simpa using h3) fun y q G4 H4 w4 r4 h4=>?_)
  have w34:=w3.trans w4
  have g4:G4 D = none:=w34.n D _ eD (fun _ z=>nomatch z) gD
  have e4:H4 D = some (.lst ys):=w34.h _ _ eD
  refine⟨ys,e4,Aa8 (by rw[ry.1]; omega),hN _ ⟨G4,_,_,⟨(w.trans w34).g,fun b u h=>?_,fun b u h=>?_,(w.trans w34).n⟩,g4,Bp,Qb (ry.mono w34.g) r4,by rw[length_append]; simp; omega,h4⟩⟩
  ·rw[Bk (by intro z; subst z; rw[hD] at h; cases h)]; exact (w.trans w34).h _ _ h
  ·rw[Bk (by intro z; subst z; rw[g4] at h; cases h)]; exact w34.i _ _ h
theorem Sz {G1 H1:Hp} {D:Addr} {I:Nat->List PV->Prop} (i:Same G1 H1) (hD:H1 D = none) (h:I 0 []):CSt K C G1 H1 D I 0 (upd H1 D (.lst [])) :=
 ⟨G1,[],[],Grow.own i (Same.new hD),i.free hD,Bp,LAt.nil,by simp,h⟩
def AhG (ua:UE) (ug:PV->Bl->(Bl->Prop)->Prop) (uc:UT) (ue:UE) (k:Nat) (fr:List Nat):UE:=fun ρ P=>ua ρ fun p=>bL p fun ps=>ps.length <= 100000/\Tk ps ug uc ue (compρ k fr ρ) P
theorem Gr {ta:TE} {ua:UE} {k:Nat} {fr:List Nat} {g:TG} {ug:PV->Bl->(Bl->Prop)->Prop} {tc:TT} {uc:UT} {te:TE} {ue:UE} (ha:EB K C ω ta ua) (hg:GU K C Om.no k g ug) (hc:TU K C Om.no tc uc) (he:EU K C Om.no te ue):EF K C ω (Lw (Sc K ta) g tc te k fr) (AhG ua ug uc ue k fr) :=
 fun B G0 H0 own G σ H ρ P Q S hu kk=>Xn (Aof (ha B G0 H0 own G σ H ρ _ _ S hu fun v p G1 H1 w1 r1 ⟨ps,e,hl,I,i0,ist,iend⟩=>by
  have S1:=S.grow w1
  obtain⟨a,vs,rfl,sq,rp⟩:∃ a vs,v = .ref a/\SqL K H1 a vs/\Reps K C G1 vs ps:=by
   rcases e with e | ⟨ns,e,e2⟩
   ·subst e
    obtain⟨a,vs,rfl,ea,l⟩:=r1.lst w1.i
    exact⟨a,vs,rfl,SqL.of ea,l⟩
   ·subst e e2
    obtain⟨a,rfl,ea⟩:=r1.scr w1.i
    exact⟨a,_,rfl,ea,Ga ns⟩
  refine⟨a,rfl,⟨vs,sq⟩,fun D hD=>CP.list vs (CSt K C G1 H1 D I) (Sz w1.i hD i0) (fun n H' _ ⟨G',_,_,w,_⟩=>w.h.seq sq) (fun n x H' N hx st hN=>?_) fun H' st=>?_⟩
  ·obtain⟨q,hq,rq⟩:=rp.get hx
   have hn:n < ps.length:=(List.getElem?_eq_some_iff.mp hq).1
   exact Sy S1 hg hc he hD (by omega) (fun G' s=>rq.mono s) st hN fun rs hi=>ist n q rs hq hi
  ·obtain⟨G',ys,rs,w,gD,eD,ry,_,hi⟩:=st
   rw[rp.1] at hi
   exact kk D _ G' H' (w1.trans w) (w1.h.free hD) gD (OwnA.ofL eD ry) (iend rs hi)))
def We (ug:PV->Bl->(Bl->Prop)->Prop) (uc:UT) (ue:UE) (ρ':Bl) (P:PV->Prop) (ps:List PV):Prop:=∃ j:Int,ps = [.int j]/\-(2 ^ 62) <= j/\j < 100000/\∃ I:Nat->List PV->Prop,I 0 []/\(∀ n rs,n < j.toNat->I n rs->ug (.int (0 + n)) ρ' fun ρ2=>uc ρ2 fun b=>if b = true then ue ρ2 fun q=>I (n + 1) (rs ++ [q]) else I (n + 1) rs)/\∀ rs,I j.toNat rs->P (.lst rs)
def AeA (u:UA) (ug:PV->Bl->(Bl->Prop)->Prop) (uc:UT) (ue:UE) (k:Nat) (fr:List Nat):UE:=fun ρ P=>u ρ fun ps=>We ug uc ue (compρ k fr ρ) P ps
theorem Vi {m:Bool} {t:TA} {u:UA} {k:Nat} {fr:List Nat} {g:TG} {ug:PV->Bl->(Bl->Prop)->Prop} {tc:TT} {uc:UT} {te:TE} {ue:UE} (ha:AU K C ω [m] t u) (hg:GU K C Om.no k g ug) (hc:TU K C Om.no tc uc) (he:EU K C Om.no te ue):EF K C ω (Lw (Vq t) g tc te k fr) (AeA u ug uc ue k fr) :=
 fun B G0 H0 own G σ H ρ P Q S hu kk=>Xn (AmR (ha B G0 H0 own G σ H ρ _ _ S hu fun vs ps G1 H1 w1 ok ⟨j,e,h1,h2,I,i0,ist,iend⟩=>by
  have S1:=S.grow w1
  obtain⟨v,p,rfl,e2,r⟩:=Np ok
  rw[e] at e2; cases e2
  refine⟨j,by rw[r.int],h1,by omega,fun D hD=>CP.range (CSt K C G1 H1 D I) (Sz w1.i hD i0) (fun n H' N hx st hN=>Sy S1 hg hc he hD (by omega) (fun G' s=>.int _) st hN fun rs hi=>ist n rs hx hi) fun H' st=>?_⟩
  obtain⟨G',ys,rs,w,gD,eD,ry,_,hi⟩:=st
  exact kk D _ G' H' (w1.trans w) (w1.h.free hD) gD (OwnA.ofL eD ry) (iend rs hi)))
end
section
variable {K:Frag} {C:Addr} {ω:Om}
abbrev PSp:=List PV->(PV->Prop)->Prop
def spOf (K:Frag) (C:Addr) (ms:List Bool) (rm:Rm) (psp:PSp):Sp:=fun vs H Q _=>∃ G ps P,Same G H/\ArgsOk K C G H ms vs ps/\psp ps P/\∀ G' H' v p,Grow G H G' H'->ROk K C rm H G' H' v p->P p->Q v H'
def Vx (psp:PSp) (u:UA):UE:=fun ρ P=>u ρ fun ps=>psp ps P
theorem Nj {ms:List Bool} {psp:PSp} {E:XK} {t:TA} {u:UA} (ha:AU K C ω ms t u):EU K C ω (Ro (spOf K C ms .sh psp) [] E t) (Vx psp u) :=
 fun B G0 H0 own G σ H ρ P Q S hu k=>ha B G0 H0 own G σ H ρ _ _ S hu fun vs ps G1 H1 w1 ok h=>by
  rw[append_nil]
  exact⟨G1,ps,P,w1.i,ok,h,fun G' H' v p w r hp=>k v p G' H' (w1.trans w) r hp⟩
theorem Ct {ms:List Bool} {psp:PSp} {E:XK} {t:TA} {u:UA} (ha:AU K C ω ms t u):EF K C ω (Ro (spOf K C ms .fr psp) [] E t) (Vx psp u) :=
 fun B G0 H0 own G σ H ρ P Q S hu k=>ha B G0 H0 own G σ H ρ _ _ S hu fun vs ps G1 H1 w1 ok h=>by
  rw[append_nil]
  exact⟨G1,ps,P,w1.i,ok,h,fun G' H' v p w ⟨a,e,n,g,r⟩ hp=>by subst e; exact k a p G' H' (w1.trans w) (w1.h.free n) g r hp⟩
def Wm (n:Nat) (ms:List Bool) (ps:List PV):Bl:=zipWith (fun m p=>if m = true then Sl.sh p else Sl.bo p) ms ps ++ replicate (n - ps.length) .un
def Agt (rm:Rm) (P:PV->Prop):Bl->Prop:=match rm with
 | .sh=>fun _=>P .non
 | .fr=>fun _=>False
 | .mu _=>fun _=>False
theorem ArgsOk.slots {G H:Hp} {own:Nat->Option Addr}:∀ {ms:List Bool} {vs:List V} {ps:List PV} {i:Nat} {s:Sl} {σ:St} (k:Nat),ArgsOk K C G H ms vs ps->(∀ j v,vs[j]? = some v->σ[k + j]? = some (some v))->(zipWith (fun m p=>if m = true then Sl.sh p else Sl.bo p) ms ps)[i]? = some s->SlOk K C G H own G σ H (k + i) s
 | true :: ms,v :: vs,p :: ps,0,s,σ,k,ok,hσ,h=>by cases h; exact⟨v,hσ 0 v rfl,ok.1⟩
 | false :: ms,v :: vs,p :: ps,0,s,σ,k,ok,hσ,h=>by cases h; exact⟨v,hσ 0 v rfl,ok.1⟩
 | true :: ms,v :: vs,p :: ps,i + 1,s,σ,k,ok,hσ,h=>by
  have:=ArgsOk.slots (i:=i) (s:=s) (σ:=σ) (own:=own) (k + 1) ok.2 (fun j w hj=>by rw[show k + 1 + j = k + (j + 1) by omega]; exact hσ (j + 1) w (by simpa using hj)) (by simpa using h)
  rwa [show k + 1 + i = k + (i + 1) by omega] at this
 | false :: ms,v :: vs,p :: ps,i + 1,s,σ,k,ok,hσ,h=>by
  have:=ArgsOk.slots (i:=i) (s:=s) (σ:=σ) (own:=own) (k + 1) ok.2 (fun j w hj=>by rw[show k + 1 + j = k + (j + 1) by omega]; exact hσ (j + 1) w (by simpa using hj)) (by simpa using h)
  rwa [show k + 1 + i = k + (i + 1) by omega] at this
 | [],_,_,_,_,_,_,_,_,h=>by simp at h
 | _ :: _,_,[],_,_,_,_,_,_,h=>by simp at h
 | true :: _,[],_ :: _,_,_,_,_,ok,_,_=>by cases ok
 | false :: _,[],_ :: _,_,_,_,_,ok,_,_=>by cases ok
theorem Df {ms:List Bool} {rm:Rm} {psp:PSp} {N:List Str} {vs:List V} {H:Hp} {Q:VK} {E:XK} {t:TS} {u:US} (h:spOf K C ms rm psp vs H Q E) (hn:ms.length <= N.length) (hs:SU K C Om.no rm t u)
  (hp:∀ ps P,psp ps P->u ⟨Agt rm P,P,fun _=>False,fun _=>False⟩ (Wm N.length ms ps)):t { nx:=fun _ H'=>Q .non H',rt:=Q } (L2.Nq N vs) H:=by
 obtain⟨G,ps,P,i,ok,hq,k⟩:=h
 obtain⟨l1,l2⟩:=ok.len
 have hz:(zipWith (fun m p=>if m = true then Sl.sh p else Sl.bo p) ms ps).length = ps.length:=by rw[List.length_zipWith,l2]; omega
 refine hs G G H (fun _=>none) G _ H _ _ ⟨Agt rm P,P,fun _=>False,fun _=>False⟩ ⟨Same.refl _,Grow.refl i,?_,fun i j a z=>(by cases z),fun i a z=>(by cases z),fun j s hj=>?_,fun _ _ _ z=>z.elim⟩ ⟨fun own' G' σ' H' ρ' S' q=>?_,fun G' H' v p w r hp=>k G' H' v p w r hp,fun _ _ _ _ _ _ q=>q.elim,fun _ _ _ _ _ _ q=>q.elim⟩ (hp ps P hq)
 ·unfold L2.Nq Wm
  rw[length_append,length_append,length_map,hz,length_replicate,length_replicate,l1,l2]
 ·unfold Wm at hj
  by_cases z:j < ps.length
  ·rw[getElem?_append_left (by rw[hz]; exact z)] at hj
   have q:=ArgsOk.slots (own:=fun _=>none) (σ:=L2.Nq N vs) 0 ok (fun j v hv=>by
    unfold L2.Nq
    rw[Nat.zero_add,getElem?_append_left (by rw[length_map]; exact (List.getElem?_eq_some_iff.mp hv).1),getElem?_map,hv]; rfl) hj
   rwa [Nat.zero_add] at q
  ·rw[getElem?_append_right (by rw[hz]; omega),getElem?_replicate] at hj
   split at hj
   ·cases hj; trivial
   ·cases hj
 ·cases rm with
  | sh=>exact k G' H' .non .non S'.gr .non q
  | fr=>exact q.elim
  | mu _=>exact q.elim
theorem spOf.len {ms:List Bool} {rm:Rm} {psp:PSp} {vs:List V} {H:Hp} {Q:VK} {E:XK} (h:spOf K C ms rm psp vs H Q E):vs.length = ms.length:=by
 obtain⟨G,ps,P,i,ok,_⟩:=h
 exact ok.len.1
end
section
variable {K:Frag} {C:Addr} {ω:Om}
def Rz:PV->Bool
 | .non=>true
 | .int _=>true
 | .str _=>true
 | _=>false
theorem Uj {G:Hp} {v:V} {p:PV} (h:Rep K C G v p) (f:Rz p = true):Ly v = true:=by
 cases h <;> first | rfl | (cases f; done)
theorem Xk {G:Hp} {v w:V} {p q:PV} (h1:Rep K C G v p) (h2:Rep K C G w q) (f1:Rz p = true) (f2:Rz q = true):eqV v w = true ↔ p = q:=by
 cases h1 <;> first | (cases f1; done) | (cases h2 <;> first | (cases f2; done) | (simp [eqV]))
inductive Cmp:Nat->PV->PV->Prop where
 | flat {n:Nat} {p q:PV} (hp:Rz p = true) (hq:Rz q = true):Cmp n p q
 | bl {n:Nat} {x y:Bool}:Cmp n (.bl x) (.bl y)
 | lst {n:Nat} {xs ys:List PV} (h:xs.length = ys.length->∀ (i:Nat) (x y:PV),xs[i]? = some x->ys[i]? = some y->Cmp n x y):Cmp (n + 1) (.lst xs) (.lst ys)
 | tup {n:Nat} {xs ys:List PV} (h:∀ (i:Nat) (x y:PV),xs[i]? = some x->ys[i]? = some y->Cmp n x y):Cmp (n + 1) (.tup xs) (.tup ys)
theorem Oz {α:Type} {xs ys:List α} (hl:xs.length = ys.length) (h:∀ (i:Nat) (x y:α),xs[i]? = some x->ys[i]? = some y->x = y):xs = ys:=by
 refine ext_getElem? fun i=>?_
 cases e1:xs[i]? with
 | none=>rw[getElem?_eq_none (by have:=List.getElem?_eq_none_iff.mp e1; omega)]
 | some x =>
  have hi:i < ys.length:=by have:=(List.getElem?_eq_some_iff.mp e1).1; omega
  rw[getElem?_eq_getElem hi,h i x _ e1 (getElem?_eq_getElem hi)]
theorem Cmp.fn {G:Hp} {n:Nat} {p q:PV} (c:Cmp n p q):∀ {v:V},Rep K C G v p->Rep K C G v q->p = q:=by
 induction c with
 | flat hp hq=>intro v h1 h2; cases h1 <;> first | (cases hp; done) | (cases h2 <;> first | (cases hq; done) | rfl)
 | bl=>intro v h1 h2; cases h1; cases h2; rfl
 | @lst n xs ys h ih =>
  intro v h1 h2
  cases h1 with
  | lst e1 l1 q1=>cases h2 with
   | lst e2 l2 q2 =>
    rw[e1] at e2; cases e2
    have hl:xs.length = ys.length:=l1.symm.trans l2
    refine congrArg _ (Oz hl fun i x y hx hy=>?_)
    have hi:=(List.getElem?_eq_some_iff.mp hx).1
    obtain⟨w,hw⟩:=(⟨_,getElem?_eq_getElem (by rw[l1]; exact hi)⟩:∃ w,_ = some w)
    exact ih hl i x y hx hy (q1 i w x hw hx) (q2 i w y hw hy)
 | @tup n xs ys h ih =>
  intro v h1 h2
  cases h1 with
  | tup e1 l1 q1=>cases h2 with
   | tup e2 l2 q2 =>
    rw[e1] at e2; cases e2
    have hl:xs.length = ys.length:=l1.symm.trans l2
    refine congrArg _ (Oz hl fun i x y hx hy=>?_)
    have hi:=(List.getElem?_eq_some_iff.mp hx).1
    obtain⟨w,hw⟩:=(⟨_,getElem?_eq_getElem (by rw[l1]; exact hi)⟩:∃ w,_ = some w)
    exact ih i x y hx hy (q1 i w x hw hx) (q2 i w y hw hy)
noncomputable def pd (a:Prop):Bool:=@decide a (Classical.propDecidable a)
theorem pd_iff {a:Prop}:pd a = true ↔ a:=by unfold pd; exact @decide_eq_true_iff a (Classical.propDecidable a)
theorem Sm {n:Nat} {e:Nat->Bool}:(range n).all e = true ↔ ∀ i,i < n->e i = true:=by
 rw[List.all_eq_true]
 exact⟨fun h i hi=>h i (mem_range.mpr hi),fun h i hi=>h i (mem_range.mp hi)⟩
theorem Gy {a b:Bool} (h:a = true ↔ b = true):a = b:=by
 cases a <;> cases b <;> simp_all
theorem Cmp.eqD {G H:Hp} (s:Same G H) {n:Nat} {p q:PV} (c:Cmp n p q):∀ {v w:V} {b:Bool},Rep K C G v p->Rep K C G w q->(b = true ↔ p = q)->EqD K H n v w b:=by
 induction c with
 | flat hp hq =>
  intro v w b h1 h2 hb
  have e:b = eqV v w:=Gy (hb.trans (Xk h1 h2 hp hq).symm)
  rw[e]
  exact EqD.flat (Uj h1 hp) (Uj h2 hq)
 | @bl n x y =>
  intro v w b h1 h2 hb
  cases h1
  cases h2
  have e:b = eqV (.bl x) (.bl y):=Gy (by rw[hb]; cases x <;> cases y <;> simp [eqV])
  rw[e]
  exact EqD.flat rfl rfl
 | @lst n xs ys h ih =>
  intro v w b h1 h2 hb
  have cc:Cmp (n + 1) (.lst xs) (.lst ys):=.lst h
  have h1':=h1
  have h2':=h2
  cases h1 with
  | @lst a1 vs1 _ e1 l1 q1=>cases h2 with
   | @lst a2 vs2 _ e2 l2 q2 =>
    by_cases z:a1 = a2
    ·subst z
     rw[show b = true from hb.mpr (cc.fn h1' h2')]
     exact EqD.same _
    ·by_cases hl:xs.length = ys.length
     ·have e:b = (range vs1.length).all (fun i=>pd (xs[i]? = ys[i]?)):=Gy (by
       rw[hb,Sm]
       constructor
       ·intro e i _; rw[pd_iff,PV.lst.inj e]
       ·intro e
        refine congrArg _ (ext_getElem? fun i=>?_)
        by_cases hi:i < vs1.length
        ·exact pd_iff.mp (e i hi)
        ·rw[getElem?_eq_none (by omega),getElem?_eq_none (by omega)])
      rw[e]
      refine EqD.lst _ z (SqL.of (s _ _ e1)) (SqL.of (s _ _ e2)) (by omega) fun i x y hx hy=>?_
      have hi:=(List.getElem?_eq_some_iff.mp hx).1
      have hx':xs[i]? = some xs[i]:=getElem?_eq_getElem (by omega)
      have hy':ys[i]? = some ys[i]:=getElem?_eq_getElem (by omega)
      refine ih hl i _ _ hx' hy' (q1 i x _ hx hx') (q2 i y _ hy hy') ?_
      rw[pd_iff,hx',hy']
      exact⟨fun z=>Option.some.inj z,fun z=>congrArg some z⟩
     ·have e:b = false:=by
       cases b with
       | false=>rfl
       | true=>exact absurd (congrArg length (PV.lst.inj (hb.mp rfl))) hl
      rw[e]
      exact EqD.lstN z (SqL.of (s _ _ e1)) (SqL.of (s _ _ e2)) (by omega)
 | @tup n xs ys h ih =>
  intro v w b h1 h2 hb
  have cc:Cmp (n + 1) (.tup xs) (.tup ys):=.tup h
  have h1':=h1
  have h2':=h2
  cases h1 with
  | @tup a1 vs1 _ e1 l1 q1=>cases h2 with
   | @tup a2 vs2 _ e2 l2 q2 =>
    by_cases z:a1 = a2
    ·subst z
     rw[show b = true from hb.mpr (cc.fn h1' h2')]
     exact EqD.same _
    ·have e:b = ((range (min vs1.length vs2.length)).all (fun i=>pd (xs[i]? = ys[i]?)) && vs1.length == vs2.length):=Gy (by
      rw[hb,and_eq_true,Sm]
      constructor
      ·intro e
       have e':=PV.tup.inj e
       exact⟨fun i _=>by rw[pd_iff,e'],by rw[l1,l2,e']; exact beq_self_eq_true _⟩
      ·rintro ⟨e,el⟩
       have el':vs1.length = vs2.length:=by simpa using el
       refine congrArg _ (ext_getElem? fun i=>?_)
       by_cases hi:i < vs1.length
       ·exact pd_iff.mp (e i (by omega))
       ·rw[getElem?_eq_none (by omega),getElem?_eq_none (by omega)])
     rw[e]
     refine EqD.tup _ z (SqT.of (s _ _ e1)) (SqT.of (s _ _ e2)) fun i x y hx hy=>?_
     have hi:=(List.getElem?_eq_some_iff.mp hx).1
     have hj:=(List.getElem?_eq_some_iff.mp hy).1
     have hx':xs[i]? = some xs[i]:=getElem?_eq_getElem (by omega)
     have hy':ys[i]? = some ys[i]:=getElem?_eq_getElem (by omega)
     refine ih i _ _ hx' hy' (q1 i x _ hx hx') (q2 i y _ hy hy') ?_
     rw[pd_iff,hx',hy']
     exact⟨fun z=>Option.some.inj z,fun z=>congrArg some z⟩
def CmpL (xs ys:List PV):Prop:=xs.length = ys.length->∀ (i:Nat) (x y:PV),xs[i]? = some x->ys[i]? = some y->Cmp 40 x y
theorem CmpL.leq {G H:Hp} (s:Same G H) {vs ws:List V} {xs ys:List PV} (c:CmpL xs ys) (h1:Reps K C G vs xs) (h2:Reps K C G ws ys) {b:Bool} (hb:b = true ↔ xs = ys):LEq K H vs ws b:=by
 by_cases hl:xs.length = ys.length
 ·refine .inr ⟨by rw[h1.1,h2.1,hl],fun i=>pd (xs[i]? = ys[i]?),fun i x y hx hy=>?_,Gy ?_⟩
  ·obtain⟨p,hp,rp⟩:=h1.get hx
   obtain⟨q,hq,rq⟩:=h2.get hy
   refine (c hl i p q hp hq).eqD s rp rq ?_
   rw[pd_iff,hp,hq]
   exact⟨fun z=>Option.some.inj z,fun z=>congrArg some z⟩
  ·rw[hb,Sm,h1.1]
   constructor
   ·intro e i _; rw[pd_iff,e]
   ·intro e
    refine ext_getElem? fun i=>?_
    by_cases hi:i < xs.length
    ·exact pd_iff.mp (e i hi)
    ·rw[getElem?_eq_none (by omega),getElem?_eq_none (by omega)]
 ·refine .inl ⟨by rw[h1.1,h2.1]; exact hl,?_⟩
  cases b with
  | false=>rfl
  | true=>exact absurd (congrArg length (hb.mp rfl)) hl
def Uz (neg:Bool) (p q:PV) (P:PV->Prop):Prop:=∃ xs ys,p = .lst xs/\q = .lst ys/\CmpL xs ys/\∀ b:Bool,(b = true ↔ xs = ys)->P (.bl (if neg then !b else b))
def Akh (neg:Bool) (ua ub:UE):UE:=fun ρ P=>ua ρ fun p=>ub ρ fun q=>Uz neg p q P
theorem Jh {neg:Bool} {ta tb:TE} {ua ub:UE} (ha:EB K C ω ta ua) (hb:EB K C ω tb ub):EU K C ω (tOp (Aa2 K neg) ta tb) (Akh neg ua ub) :=
 fun B G0 H0 own G σ H ρ P Q S hu k=>two ha hb S hu fun v w p q G' H' gr r1 r2 ⟨xs,ys,e1,e2,c,h⟩=>by
  subst e1 e2
  obtain⟨a,vs,rfl,ea,l⟩:=r1.lst gr.i
  obtain⟨b,ws,rfl,eb,l2⟩:=r2.lst gr.i
  exact⟨a,b,vs,ws,pd (xs = ys),rfl,rfl,SqL.of ea,SqL.of eb,c.leq gr.i l l2 pd_iff,k _ _ G' H' gr (.bl _) (h _ pd_iff)⟩
def Ak7:PV->Option (List PV)
 | .lst xs=>some xs
 | .tup xs=>some xs
 | .ctp xs=>some xs
 | _=>none
def bIn (neg:Bool) (p q:PV) (P:PV->Prop):Prop:=∃ xs,Ak7 q = some xs/\Rz p = true/\(∀ x ∈ xs,Rz x = true)/\∀ b:Bool,(b = true ↔ p ∈ xs)->P (.bl (if neg then !b else b))
def uIn (neg:Bool) (ua ub:UE):UE:=fun ρ P=>ua ρ fun p=>ub ρ fun q=>bIn neg p q P
theorem RepB.seq {G H:Hp} {v:V} {q:PV} {xs:List PV} (i:Same G H) (h:RepB K C G H v q) (e:Ak7 q = some xs):∃ a vs,v = .ref a/\(SqL K H a vs\/SqT K H a vs)/\Reps K C G vs xs:=by
 cases q <;> first | cases e | skip
 ·obtain⟨a,vs,e,ea,l⟩:=h.lst i; exact⟨a,vs,e,.inl (SqL.of ea),l⟩
 ·obtain⟨a,vs,e,ea,l⟩:=h.tup i; exact⟨a,vs,e,.inr (SqT.of ea),l⟩
 ·rcases h with h | ⟨a,_,h⟩
  ·cases h with
   | ctp e l q=>exact⟨_,_,rfl,.inr (e H),l,q⟩
  ·exact h.elim
theorem Ah1 {neg:Bool} {ta tb:TE} {ua ub:UE} (ha:EU K C ω ta ua) (hb:EB K C ω tb ub):EU K C ω (tOp (rIn K neg) ta tb) (uIn neg ua ub) :=
 fun B G0 H0 own G σ H ρ P Q S hu k=>ha B G0 H0 own G σ H ρ _ _ S hu fun v p G1 H1 w1 r1 h1=>hb B G0 H0 own G1 σ H1 ρ _ _ (S.grow w1) h1 fun w q G2 H2 w2 r2 ⟨xs,e,f1,f2,h⟩=>by
  obtain⟨a,vs,rfl,sq,l⟩:=r2.seq w2.i e
  have r1':=r1.mono w2.g
  have hb:inV v vs = pd (p ∈ xs):=Gy (by
   rw[pd_iff]
   unfold inV
   rw[any_eq_true]
   constructor
   ·rintro ⟨y,hy,e⟩
    obtain⟨i,hi⟩:=getElem?_of_mem hy
    obtain⟨x,hx,rx⟩:=l.get hi
    rw[<- (Xk rx r1' (f2 x (mem_of_getElem? hx)) f1).mp e]
    exact mem_of_getElem? hx
   ·intro m
    obtain⟨i,hi⟩:=getElem?_of_mem m
    obtain⟨y,hy,ry⟩:=l.get' hi
    exact⟨y,mem_of_getElem? hy,(Xk ry r1' f1 f1).mpr rfl⟩)
  refine⟨a,vs,rfl,sq,Uj r1' f1,?_,?_⟩
  ·rw[List.all_eq_true]
   intro y hy
   obtain⟨i,hi⟩:=getElem?_of_mem hy
   obtain⟨x,hx,rx⟩:=l.get hi
   exact Uj rx (f2 x (mem_of_getElem? hx))
  ·rw[hb]; exact k _ _ G2 H2 (w1.trans w2) (.bl _) (h _ pd_iff)
def tyP:PV->Option String
 | .non=>some "NoneType"
 | .bl _=>some "bool"
 | .int _=>some "int"
 | .str _=>some "str"
 | .lst _=>some "list"
 | .tup _=>some "tuple"
 | .dk _=>some "dict"
 | .dt _=>some "dict"
 | _=>none
def kit (T n:String):Bool:=T == n || (T == "bool" && n == "int")
def AhL:List String:=["NoneType","bool","int","str","list","tuple","dict"]
def Ah6:List String:=["bool","int","str","list","tuple","dict"]
theorem Ajy:∀ T ∈ AhL,∀ n ∈ Ah6,(if (Value.type T == Value.type n) = true then some true else if kitMeta n = true then (fastBuiltinMro T).map (·.contains (Value.type n)) else none) = some (kit T n):=by decide +kernel
theorem AnP {G H:Hp} (i:Same G H) {v:V} {p:PV} {T:String} (h:RepB K C G H v p) (e:tyP p = some T):Gw K H v (.type T)/\T ∈ AhL:=by
 cases p <;> first | cases e | skip
 ·rcases h with h | ⟨_,_,h⟩
  ·cases h; exact⟨.non,by decide⟩
  ·exact h.elim
 ·rw[h.bl]; exact⟨.bl _,by decide⟩
 ·rw[h.int]; exact⟨.int _,by decide⟩
 ·rw[h.str]; exact⟨.str _,by decide⟩
 ·obtain⟨a,vs,rfl,ea,l⟩:=h.lst i; exact⟨.lst ea,by decide⟩
 ·obtain⟨a,vs,rfl,ea,l⟩:=h.tup i; exact⟨.tup ea,by decide⟩
 ·obtain⟨a,vs,rfl,ea,l⟩:=h.dk i; exact⟨.dK ea,by decide⟩
 ·obtain⟨a,vs,rfl,ea,l⟩:=h.dt i; exact⟨.dT ea,by decide⟩
def AfO (n:String) (p:PV) (P:PV->Prop):Prop:=∃ T,tyP p = some T/\P (.bl (kit T n))
def Alu (n:String) (ua:UE):UE:=fun ρ P=>ua ρ fun p=>AfO n p P
theorem AeP {n:String} {ta:TE} {ua:UE} (ha:EB K C ω ta ua) (hn:n ∈ Ah6:=by decide):EU K C ω (tCB (fun vs H Q=>∃ x n t b,vs = [x,.ty n]/\Gw K H x t/\kitOne K t (.type n) = some b/\Q (.bl b) H) (Go ta (Go (tC (.ty n)) Ou))) (Alu n ua) :=
 fun B G0 H0 own G σ H ρ P Q S hu k=>ha B G0 H0 own G σ H ρ _ _ S hu fun v p G1 H1 w1 r1 ⟨T,e,h⟩=>by
  obtain⟨ty,hT⟩:=AnP w1.i r1 e
  exact⟨v,n,_,_,rfl,ty,Rf (Ajy T hT n hn),k _ _ G1 H1 w1 (.bl _) h⟩
end
section
variable {K:Frag} {C:Addr} {ω:Om}
def vP:V->PV
 | .int i=>.int i
 | .str x=>.str x
 | .bl b=>.bl b
 | _=>.non
def scV:V->Bool
 | .int _=>true
 | .str _=>true
 | .bl _=>true
 | .non=>true
 | _=>false
theorem AkJ {G:Hp} {v w:V} (hs:scV w = true) (h:Rep K C G v (vP w)):v = w:=by
 cases w <;> first | (cases hs; done) | (cases h; rfl)
theorem AeW {G:Hp} {w:V} (hs:scV w = true):Rep K C G w (vP w):=by
 cases w <;> first | (cases hs; done) | constructor
theorem AdI {G:Hp} {vs ws:List V} (hs:∀ w ∈ ws,scV w = true) (h:Reps K C G vs (ws.map vP)):vs = ws:=by
 refine Oz (by rw[h.1,length_map]) fun i x y hx hy=>?_
 exact AkJ (hs y (mem_of_getElem? hy)) (h.2 i x (vP y) hx (by rw[getElem?_map,hy]; rfl))
theorem Afk {G:Hp} {ws:List V} (hs:∀ w ∈ ws,scV w = true):Reps K C G ws (ws.map vP) :=
 ⟨by rw[length_map],fun i v p h1 h2=>by
  rw[getElem?_map,h1] at h2
  cases h2
  exact AeW (hs v (mem_of_getElem? h1))⟩
theorem Vc {G:Hp} {v:V} {ws:List V} (hs:∀ w ∈ ws,scV w = true) (h:Rep K C G v (.tup (ws.map vP))):∃ p,v = .ref p/\G p = some (.tup ws):=by
 cases h with
 | tup e l q=>rw[AdI hs ⟨l,q⟩] at e; exact⟨_,rfl,e⟩
theorem Rj {G:Hp} {p:Addr} {ws:List V} (hs:∀ w ∈ ws,scV w = true) (e:G p = some (.tup ws)):Rep K C G (.ref p) (.tup (ws.map vP)):=Rep.ofT e (Afk hs)
def sgW (s:Sg):List V:=[.int s.1,.str s.2.1,.int s.2.2]
def prW (m:Int × Int):List V:=[.int m.1,.int m.2]
def jnW (j:Jn):List V:=[.int j.1,.int j.2.1,.int j.2.2]
def sgP (s:Sg):PV:=.tup [.int s.1,.str s.2.1,.int s.2.2]
def prP (m:Int × Int):PV:=.tup [.int m.1,.int m.2]
def jnP (j:Jn):PV:=.tup [.int j.1,.int j.2.1,.int j.2.2]
theorem Adz (s:Sg):∀ w ∈ sgW s,scV w = true:=by intro w hw; simp [sgW] at hw; rcases hw with rfl | rfl | rfl <;> rfl
theorem AaL (s:Int × Int):∀ w ∈ prW s,scV w = true:=by intro w hw; simp [prW] at hw; rcases hw with rfl | rfl <;> rfl
theorem AeC (s:Jn):∀ w ∈ jnW s,scV w = true:=by intro w hw; simp [jnW] at hw; rcases hw with rfl | rfl | rfl <;> rfl
theorem Agx {G:Hp} {v:V} {s:Sg}:Rep K C G v (sgP s) ↔ TripAt G v s:=⟨fun h=>let ⟨p,e,hp⟩:=Vc (Adz s) h; ⟨p,e,hp⟩,fun⟨p,e,hp⟩=>by subst e; exact Rj (Adz s) hp⟩
theorem AfW {G:Hp} {v:V} {s:Int × Int}:Rep K C G v (prP s) ↔ PairAt G v s:=⟨fun h=>let ⟨p,e,hp⟩:=Vc (AaL s) h; ⟨p,e,hp⟩,fun⟨p,e,hp⟩=>by subst e; exact Rj (AaL s) hp⟩
theorem AiF {G:Hp} {v:V} {s:Jn}:Rep K C G v (jnP s) ↔ TrjAt G v s:=⟨fun h=>let ⟨p,e,hp⟩:=Vc (AeC s) h; ⟨p,e,hp⟩,fun⟨p,e,hp⟩=>by subst e; exact Rj (AeC s) hp⟩
theorem Uy {α:Type} {R:Hp->V->α->Prop} {f:α->PV} (hf:∀ {G:Hp} {v:V} {s:α},Rep K C G v (f s) ↔ R G v s) {G:Hp} {vs:List V} {S:List α}:Reps K C G vs (S.map f) ↔ LAt R G vs S:=by
 constructor
 ·intro h
  refine⟨by rw[h.1,length_map],fun i x y hx hy=>hf.mp (h.2 i x (f y) hx (by rw[getElem?_map,hy]; rfl))⟩
 ·intro h
  refine⟨by rw[h.1,length_map],fun i x y hx hy=>?_⟩
  rw[getElem?_map] at hy
  obtain⟨s,hs,e⟩:=map_eq_some_iff.mp hy
  rw[<- e]
  exact hf.mpr (h.2 i x s hx hs)
def Qh (G H H':Hp):Hp:=fun a=>match H' a with
 | some (.tup xs)=>some (.tup xs)
 | o=>match H a with
  | none=>o
  | some _=>G a
theorem Tj {G H H':Hp} {a:Addr} {xs:List V} (e:H' a = some (.tup xs)):Qh G H H' a = some (.tup xs):=by unfold Qh; rw[e]
theorem Fy {G H H':Hp} {a:Addr} {o:HO} (n:H a = none) (e:H' a = some o):Qh G H H' a = some o:=by
 unfold Qh; rw[e,n]; cases o <;> rfl
theorem So {G H H':Hp} {a:Addr} {o:HO} (h:H a = some o) (s:Same H H') (t:Ru o):Qh G H H' a = G a:=by
 unfold Qh; rw[s _ _ h,h]
 cases o <;> first | rfl | exact absurd rfl (t _)
theorem Rq {G H H':Hp} (i:Same G H) (s:Same H H'):Grow G H (Qh G H H') H':=by
 refine⟨fun a o h=>?_,s,fun a o h=>?_,fun a o h t hg=>by rw[So h s t]; exact hg⟩
 ·have h1:=i _ _ h
  by_cases t:Ru o
  ·rw[So h1 s t]; exact h
  ·have:∃ xs,o = .tup xs:=Classical.byContradiction fun z=>t fun xs w=>z ⟨xs,w⟩
   obtain⟨xs,rfl⟩:=this
   exact Tj (s _ _ h1)
 ·cases e:H' a with
  | none =>
   unfold Qh at h; rw[e] at h
   cases e2:H a with
   | none=>rw[e2] at h; cases h
   | some u=>rw[s _ _ e2] at e; cases e
  | some u =>
   by_cases t:Ru u
   ·cases e2:H a with
    | none=>rw[Fy e2 e] at h; exact h
    | some w =>
     have:=s _ _ e2
     rw[e] at this; cases this
     rw[So e2 s t] at h
     rw[i _ _ h] at e2; cases e2; rfl
   ·have:∃ xs,u = .tup xs:=Classical.byContradiction fun z=>t fun xs w=>z ⟨xs,w⟩
    obtain⟨xs,rfl⟩:=this
    rw[Tj e] at h; exact h
theorem Anh {G H:Hp} {l m n:Bool} {vs:List V} {ps:List PV} (h:ArgsOk K C G H [l,m,n] vs ps):∃ v w x p q r,vs = [v,w,x]/\ps = [p,q,r]/\RepB K C G H v p/\RepB K C G H w q/\RepB K C G H x r:=by
 match vs,ps,l,h with
 | v :: vs,p :: ps,true,h=>obtain⟨w,x,q,r,rfl,rfl,h1,h2⟩:=Ud h.2; exact⟨v,w,x,p,q,r,rfl,rfl,.inl h.1,h1,h2⟩
 | v :: vs,p :: ps,false,h=>obtain⟨w,x,q,r,rfl,rfl,h1,h2⟩:=Ud h.2; exact⟨v,w,x,p,q,r,rfl,rfl,h.1,h1,h2⟩
 | [],_,true,h=>cases h
 | [],_,false,h=>cases h
 | _ :: _,[],true,h=>cases h
 | _ :: _,[],false,h=>cases h
def bMk (P:PV->Prop) (ps:List PV):Prop:=∃ S M J,ps = [.lst (S.map sgP),.lst (M.map prP),.lst (J.map jnP)]/\(∀ s ∈ S,Ze s)/\(∀ m ∈ M,0 <= m.1/\0 <= m.2)/\(S.map (·.1) ++ Gg M).Nodup/\Zy (kK S ++ kM M) J/\S.length + 2 * M.length <= 400/\P (.bk S M J)
def uMk (u:UA):UE:=fun ρ P=>u ρ fun ps=>bMk P ps
theorem AmS {E:XK} {t:TA} {u:UA} (ha:AU K C ω [false,false,false] t u):EU K C ω (Aif C (AbL C) [] E t) (uMk u) :=
 fun B G0 H0 own G σ H ρ P Q St hu k=>ha B G0 H0 own G σ H ρ _ _ St hu fun vs ps G1 H1 w1 ok ⟨S,M,J,e,so,mo,nd,jo,hl,h⟩=>by
  obtain⟨v,w,y,p,q,r,rfl,e2,r1,r2,r3⟩:=Anh ok
  rw[e] at e2; cases e2
  obtain⟨a1,xs,rfl,ea1,l1⟩:=r1.lst w1.i
  obtain⟨a2,ys,rfl,ea2,l2⟩:=r2.lst w1.i
  obtain⟨a3,zs,rfl,ea3,l3⟩:=r3.lst w1.i
  intro x dx hx hdx ndx
  have sB:Same H1 (upd (upd H1 dx (.own x)) x (.ins C dx [])):=fun q' o e=>by rw[Bk (Bu e hx),Bk (Bu e hdx)]; exact e
  have sG:=w1.i.trans sB
  refine⟨x,dx,a1,a2,a3,xs,ys,zs,S,M,J,rfl,Bp,sB _ _ ea1,sB _ _ ea2,sB _ _ ea3,((Uy Agx).mp l1).tripS sG,((Uy AfW).mp l2).pairS sG,((Uy AiF).mp l3).trjS sG,so,mo,nd,jo,hl,fun H2 kvs dx' dk dr dm dp dw kp fk fr fm fp fw e1 e2 e3 e4 e5 e6 lkv=>⟨rfl,?_⟩⟩
  have s2:Same H1 H2:=fun q' o e=>kp q' o (sB q' o e) (Bu e hx)
  have g:=Rq w1.i s2
  refine k _ _ _ H2 (w1.trans g) (.bk (kvs:=kvs) ⟨dx',dk,dr,dm,dp,dw,Fy hx e1,Fy (sB.free fk) e2,Fy (sB.free fr) e3,Fy (sB.free fm) e4,Fy (sB.free fp) e5,Fy (sB.free fw) e6⟩ ?_) h
  exact lkv.mono fun _ _ ⟨z1,p,z2,z3⟩=>⟨z1,p,z2,Tj z3⟩
def Aod:V->Str
 | .str x=>x
 | _=>"plain"
def AjQ:V->Int
 | .int i=>i
 | _=>0
def Fc (S:List Sg) (M:List (Int × Int)) (n:Int):Str:=Aod ((Cp (kK S ++ kM M) (Sum.inl n)).getD (.str "plain"))
def Bw (S:List Sg) (n:Int):Int:=AjQ ((Cp (kR S) (Sum.inl n)).getD (.int 0))
def AaW (J:List Jn) (n:Int):PV:=match Cl J n with
 | some m=>.tup [.int m.1,.int m.2]
 | none=>.non
def AaY (J:List Jn) (a b:Int):PV:=vP ((Cp (kW J) [Sum.inl a,Sum.inl b]).getD .non)
theorem AbK {κ:Type} [DecidableEq κ] {kvs:List (κ × V)} {k:κ} {v:V} (h:Cp kvs k = some v):∃ x,(x,v) ∈ kvs:=by
 unfold Cp at h
 obtain⟨kv,h1,h2⟩:=map_eq_some_iff.mp h
 exact⟨kv.1,by rw[<- h2]; exact List.mem_of_find?_eq_some h1⟩
theorem AdG (S:List Sg) (n:Int):(Cp (kR S) (Sum.inl n)).getD (.int 0) = .int (Bw S n):=by
 unfold Bw
 cases e:Cp (kR S) (Sum.inl n) with
 | none=>rfl
 | some v =>
  obtain⟨x,hx⟩:=AbK e
  obtain⟨s,_,e2⟩:=mem_map.mp hx; cases e2; rfl
theorem AjU {G:Hp} (J:List Jn) (a b:Int):Rep K C G ((Cp (kW J) [Sum.inl a,Sum.inl b]).getD .non) (AaY J a b):=by
 unfold AaY
 refine AeW ?_
 cases e:Cp (kW J) ([Sum.inl a,Sum.inl b]:List Key) with
 | none=>rfl
 | some v=>obtain⟨x,hx⟩:=AbK e; obtain⟨s,_,e2⟩:=mem_map.mp hx; cases e2; rfl
theorem Alz {G:Hp} {kvs:List (Key × V)} {J:List Jn} (l:LAt KvAt G kvs J) (n:Int):Rep K C G ((Cp kvs (Sum.inl n)).getD .non) (AaW J n):=by
 unfold AaW
 rcases Wq l n with ⟨h1,h2⟩ | ⟨m,p,h1,h2,h3⟩
 ·rw[h1,h2]; exact .non
 ·rw[h1,h2]; exact Rj (AaL m) h3
def bBk (p:PV) (R:List Sg->List (Int × Int)->List Jn->Prop):Prop:=∃ S M J,p = .bk S M J/\R S M J
def uM1 (f:List Sg->List (Int × Int)->List Jn->Int->PV) (ua ub:UE):UE:=fun ρ P=>ua ρ fun p=>bBk p fun S M J=>ub ρ fun q=>bU (fun n=>f S M J n) q P
theorem RepB.bk {G H:Hp} {v:V} {S:List Sg} {M:List (Int × Int)} {J:List Jn} (h:RepB K C G H v (.bk S M J)):∃ b kvs,v = .ref b/\BookAt C G b (kK S ++ kM M) (kR S) (kB M) kvs (kW J)/\LAt KvAt G kvs J:=by
 rcases h with h | ⟨a,_,h⟩
 ·cases h with
  | bk h l=>exact⟨_,_,rfl,h,l⟩
 ·exact h.elim
theorem Aig {nm:Str} {E:XK} {sp:Sp} {f:List Sg->List (Int × Int)->List Jn->Int->PV} {ta tb:TE} {ua ub:UE} (hm:∀ {dk dr dm dp dw:Addr},(bkF dk dr dm dp dw).lookup nm = none)
  (hs:∀ G H b S M J kvs n Q,Same G H->BookAt C G b (kK S ++ kM M) (kR S) (kB M) kvs (kW J)->LAt KvAt G kvs J->(∀ v,Rep K C G v (f S M J n)->Q v H)->sp [.ref b,.int n] H Q E)
  (ha:EB K C ω ta ua) (hb:EB K C ω tb ub):EU K C ω (Ue C nm sp [] E ta (Go tb Ou)) (uM1 f ua ub) :=
 fun B G0 H0 own G σ H ρ P Q St hu k=>ha B G0 H0 own G σ H ρ _ _ St hu fun v p G1 H1 w1 r1 ⟨S,M,J,e,h1⟩=>by
  subst e
  obtain⟨b,kvs,rfl,bk,l⟩:=r1.bk
  refine Ql (bk.mono fun _ _ e _=>w1.i _ _ e) hm (hb B G0 H0 own G1 σ H1 ρ _ _ (St.grow w1) h1 fun w q G2 H2 w2 r2 ⟨n,e,h⟩=>?_)
  subst e
  rw[r2.int]
  exact hs G2 H2 b S M J kvs n Q w2.i (bk.mono fun _ _ e _=>w2.g _ _ e) (l.kvS w2.g) fun v rv=>k v _ G2 H2 (w1.trans w2) rv h
theorem AbS {E:XK} {ta tb:TE} {ua ub:UE} (ha:EB K C ω ta ua) (hb:EB K C ω tb ub):EU K C ω (Ue C "rank" (Xg C) [] E ta (Go tb Ou)) (uM1 (fun S _ _ n=>.int (Bw S n)) ua ub) :=
 Aig Vm (fun G H b S M J kvs n Q i bk l k=>⟨b,n,_,_,_,_,_,rfl,bk.mono fun _ _ e _=>i _ _ e,by rw[AdG]; exact k _ (.int _)⟩) ha hb
theorem AaN {E:XK} {ta tb:TE} {ua ub:UE} (ha:EB K C ω ta ua) (hb:EB K C ω tb ub):EU K C ω (Ue C "parts" (Aau C) [] E ta (Go tb Ou)) (uM1 (fun _ _ J n=>AaW J n) ua ub) :=
 Aig Yt (fun G H b S M J kvs n Q i bk l k=>⟨b,n,_,_,_,_,_,rfl,bk.mono fun _ _ e _=>i _ _ e,k _ (Alz l n)⟩) ha hb
def uM2 (f:List Jn->Int->Int->PV) (ua ub uc:UE):UE:=fun ρ P=>ua ρ fun p=>bBk p fun S M J=>ub ρ fun q=>uc ρ fun r=>bI0 (f J) q r P
theorem AeE {E:XK} {ta tb tc:TE} {ua ub uc:UE} (ha:EB K C ω ta ua) (hb:EB K C ω tb ub) (hc:EB K C ω tc uc):EU K C ω (Ue C "joined" (Yh C) [] E ta (Go tb (Go tc Ou))) (uM2 AaY ua ub uc) :=
 fun B G0 H0 own G σ H ρ P Q St hu k=>ha B G0 H0 own G σ H ρ _ _ St hu fun v p G1 H1 w1 r1 ⟨S,M,J,e,h1⟩=>by
  subst e
  obtain⟨b,kvs,rfl,bk,l⟩:=r1.bk
  refine Ql (bk.mono fun _ _ e _=>w1.i _ _ e) Vt (hb B G0 H0 own G1 σ H1 ρ _ _ (St.grow w1) h1 fun w q G2 H2 w2 r2 h2=>hc B G0 H0 own G2 σ H2 ρ _ _ ((St.grow w1).grow w2) h2 fun x r G3 H3 w3 r3 ⟨m,n,e1,e2,h⟩=>?_)
  subst e1 e2
  rw[(r2.grow w3).int,r3.int]
  have w23:=w2.trans w3
  refine⟨b,m,n,_,_,_,_,_,rfl,bk.mono fun _ _ e _=>w3.i _ _ (w23.g _ _ e),fun x hx=>?_⟩
  exact k _ _ G3 _ ((w1.trans w23).trans (Grow.own w3.i (Same.new hx))) (AjU J m n) h
end
section
variable {ρ:Bl} {P:PV->Prop} {B:Bool->Prop} {R:Bl->Prop} {d:Gp} {ua ub uc:UE} {ta tb:UT} {u w:US} {x y:PV}
theorem Dy (q:u { d with nx:=w d } ρ):AcO u w d ρ:=q
theorem Aef (q:d.nx ρ):Ahn d ρ:=q
theorem Abo {i:Nat} {s:Sl} (h:ρ[i]? = some s) (q:u d (ρ.set i (Rg s))):Aao i u d ρ:=by unfold Aao Lo; rw[h]; exact q
theorem AhO (q:ua ρ d.rt):Ag6 ua d ρ:=q
theorem Adw {i:Nat} (h:ρ[i]? = some (.ow x)) (q:d.rt x):Ag9 i d ρ:=⟨x,h,q⟩
theorem Akq (q:ta ρ fun b=>if b = true then u d ρ else w d ρ):Ama ta u w d ρ:=q
theorem AhT {i:Nat} (q:ua ρ fun p=>d.nx (ρ.set i (.sh p))):AkC i ua d ρ:=q
theorem AdL {i:Nat} (q:ua ρ fun p=>d.nx (ρ.set i (.ow p))):Ah4 i ua d ρ:=q
theorem AbO {i:Nat} (q:R (ρ.set i (.sh x))):Aeh i x ρ R:=q
theorem Abx {r:List PV} {ug:PV->Bl->(Bl->Prop)->Prop} {us:List PV->Bl->(Bl->Prop)->Prop} (q:ug x ρ fun ρ'=>us r ρ' R):AbZ ug us (x :: r) ρ R:=⟨x,r,rfl,q⟩
theorem AdU (q:R ρ):Ad9 [] ρ R:=⟨rfl,q⟩
theorem AbE {us:List PV->Bl->(Bl->Prop)->Prop} {s:Sg} (q:us [.int s.1,.str s.2.1,.int s.2.2] ρ R):Zc 3 us (sgP s) ρ R:=⟨_,rfl,rfl,q⟩
theorem AbU {us:List PV->Bl->(Bl->Prop)->Prop} {s:Int × Int} (q:us [.int s.1,.int s.2] ρ R):Zc 2 us (prP s) ρ R:=⟨_,rfl,rfl,q⟩
theorem Aix {us:List PV->Bl->(Bl->Prop)->Prop} {s:Jn} (q:us [.int s.1,.int s.2.1,.int s.2.2] ρ R):Zc 3 us (jnP s) ρ R:=⟨_,rfl,rfl,q⟩
theorem Ahc {i:Nat} {s:Sl} (h1:ρ[i]? = some s) (h2:s.val = some x) (q:P x):Alr i ρ P:=⟨s,x,h1,h2,q⟩
theorem AeQ {i:Nat} (h1:ρ[i]? = some (.sh x)) (q:P x):Ahb i ρ P:=⟨x,h1,q⟩
theorem p_c (q:P x):uC x ρ P:=q
theorem AjZ {g:Int->Int->PV} (q:ua ρ fun p=>ub ρ fun q=>bI0 g p q P):uI0 g ua ub ρ P:=q
theorem AkM {g:Int->Int->PV} {i j:Int} (q:P (g i j)):bI0 g (.int i) (.int j) P:=⟨i,j,rfl,rfl,q⟩
theorem p_i {c:Int->Int->Prop} {g:Int->Int->PV} (q:ua ρ fun p=>ub ρ fun q=>bI c g p q P):uI c g ua ub ρ P:=q
theorem AhV {g:Int->Int->PV} {i j:Int} (q:P (g i j)) (hc:0 < j):bI (fun _ j=>0 < j) g (.int i) (.int j) P:=⟨i,j,rfl,rfl,hc,q⟩
theorem Ahy {g:Int->Int->PV} {i j:Int} (q:P (g i j)) (hc:Zr i j):bI Zr g (.int i) (.int j) P:=⟨i,j,rfl,rfl,hc,q⟩
theorem Air {g:Int->Int->PV} {i j:Int} (q:P (g i j)) (hc:CMul i j):bI CMul g (.int i) (.int j) P:=⟨i,j,rfl,rfl,hc,q⟩
theorem Aik {g:Int->Int->PV} {i j:Int} (q:P (g i j)) (hc:AcW i j):bI AcW g (.int i) (.int j) P:=⟨i,j,rfl,rfl,hc,q⟩
theorem p_u {g:Int->PV} (q:ua ρ fun p=>bU g p P):uU g ua ρ P:=q
theorem b_u {g:Int->PV} {i:Int} (q:P (g i)):bU g (.int i) P:=⟨i,rfl,q⟩
theorem Ahs {neg:Bool} (q:ua ρ fun p=>ub ρ fun q=>Xr neg p q P):AfT neg ua ub ρ P:=q
theorem Aiu {i j:Int} (q:P (.bl (decide (i = j)))):Xr false (.int i) (.int j) P:=.inl ⟨i,j,rfl,rfl,q⟩
theorem AhD {i j:Int} (q:P (.bl (!decide (i = j)))):Xr true (.int i) (.int j) P:=.inl ⟨i,j,rfl,rfl,q⟩
theorem Ah8 {i j:Str} (q:P (.bl (decide (i = j)))):Xr false (.str i) (.str j) P:=.inr ⟨i,j,rfl,rfl,q⟩
theorem Aio {i j:Str} (q:P (.bl (!decide (i = j)))):Xr true (.str i) (.str j) P:=.inr ⟨i,j,rfl,rfl,q⟩
theorem Ahk (q:ua ρ fun p=>P (.bl (isN p))):Acj false ua ρ P:=q
theorem Aer (q:ua ρ fun p=>P (.bl (!isN p))):Acj true ua ρ P:=q
theorem p_b (q:ua ρ fun p=>bB p B):uB ua ρ B:=q
theorem b_b {b:Bool} (q:B b):bB (.bl b) B:=⟨b,rfl,q⟩
theorem AhZ (q:ta ρ fun b=>if b = true then tb ρ B else B false):Al1 ta tb ρ B:=q
theorem Aly (q:ta ρ fun b=>if b = true then B true else tb ρ B):uOr ta tb ρ B:=q
theorem Aim (q:ta ρ fun b=>B (!b)):Akv ta ρ B:=q
theorem Afd (q:ua ρ fun p=>bB p fun b=>if b = true then ub ρ P else P (.bl false)):Ah9 ua ub ρ P:=q
theorem Ah5 (q:ta ρ fun b=>if b = true then ua ρ P else ub ρ P):uIf ta ua ub ρ P:=q
theorem Ahu {L:List PV->Prop} (q:L []):AkN ρ L:=q
theorem AdM {L:List PV->Prop} {ur:UA} (q:ua ρ fun p=>ur ρ fun ps=>L (p :: ps)):Adi ua ur ρ L:=q
theorem Aiy {ur:UA} (q:ur ρ fun ps=>P (.lst ps)):Aj1 ur ρ P:=q
theorem Aip {ur:UA} (q:ur ρ fun ps=>P (.tup ps)):Alm ur ρ P:=q
theorem Ahh (q:ua ρ fun p=>ub ρ fun q=>AaJ p q P):Akn ua ub ρ P:=q
theorem Ug {ps:List PV} {i:Int} (h:atI ps i = some x) (q:P x):AaJ (.lst ps) (.int i) P:=⟨i,ps,x,rfl,.inl rfl,h,q⟩
theorem Anv {ns:List Int} {i n:Int} (h:atI ns i = some n) (q:P (.int n)):AaJ (.scr ns) (.int i) P:=⟨i,_,_,rfl,.inr ⟨ns,rfl,rfl⟩,by
 unfold L2.atI at h ⊢
 rw[length_map]
 cases e:ixN ns.length i with
 | none=>rw[e] at h; cases h
 | some j=>rw[e] at h; show (ns.map PV.int)[j]? = _; rw[getElem?_map,show ns[j]? = some n from h]; rfl,q⟩
theorem Ain (q:ua ρ fun p=>ub ρ fun q=>Tn p q P):Ak8 ua ub ρ P:=q
theorem AeO {s:Jn} (q:P (.int s.1)):Tn (jnP s) (.int 0) P:=⟨0,_,_,rfl,rfl,rfl,q⟩
theorem Aeg {s:Jn} (q:P (.int s.2.1)):Tn (jnP s) (.int 1) P:=⟨1,_,_,rfl,rfl,rfl,q⟩
theorem Ady {s:Jn} (q:P (.int s.2.2)):Tn (jnP s) (.int 2) P:=⟨2,_,_,rfl,rfl,rfl,q⟩
theorem AeI {a:PV} {r:List PV} (q:P a):Tn (.tup (a :: r)) (.int 0) P:=⟨0,_,_,rfl,rfl,Gk (j:=0) rfl,q⟩
theorem Ad3 {a b:PV} {r:List PV} (q:P b):Tn (.tup (a :: b :: r)) (.int 1) P:=⟨1,_,_,rfl,rfl,Gk (j:=1) rfl,q⟩
theorem AdN {a b c:PV} {r:List PV} (q:P c):Tn (.tup (a :: b :: c :: r)) (.int 2) P:=⟨2,_,_,rfl,rfl,Gk (j:=2) rfl,q⟩
theorem AaZ {O:Option Int->Prop} (q:O none):AbR ρ O:=q
theorem AdA {O:Option Int->Prop} (q:ua ρ fun p=>Ac9 p O):AhC ua ρ O:=q
theorem Aeb {O:Option Int->Prop} {i:Int} (q:O (some i)):Ac9 (.int i) O:=⟨i,rfl,q⟩
theorem Aiw {ul uh:UO} (q:ua ρ fun p=>ul ρ fun lo=>uh ρ fun hi=>AgA p lo hi P):Ame ua ul uh ρ P:=q
theorem AhI {ps:List PV} {lo hi:Option Int} (q:P (.lst (Fo ps lo hi))):AgA (.lst ps) lo hi P:=⟨ps,.inl rfl,q⟩
theorem AhP (q:ua ρ fun p=>ub ρ fun q=>AfM p q P):AkL ua ub ρ P:=q
theorem AhQ {xs ys:List PV} (q:P (.lst (xs ++ ys))) (hl:xs.length + ys.length <= 100000):AfM (.lst xs) (.lst ys) P:=⟨xs,ys,rfl,rfl,hl,q⟩
theorem AjN {ur:List PV->(PV->Prop)->Prop} {us:UA} (q:us ρ fun ps=>ur ps P):uCB ur us ρ P:=q
theorem Aee {xs:List PV} (q:P (.int (xs.length:Nat))):AcY [.lst xs] P:=⟨_,.inr (.inl ⟨xs,rfl,rfl⟩),q⟩
theorem Ad4 {ns:List Int} (q:P (.int (ns.length:Nat))):AcY [.scr ns] P:=⟨_,.inr (.inr (.inr ⟨ns,rfl,rfl⟩)),q⟩
theorem AhW {i j:Int} (q:P (.int (if j > i then j else i))):AhS [.int i,.int j] P:=⟨i,j,rfl,q⟩
theorem Aev {b:Bool} (q:P (.int (if b then 1 else 0))):Aij [.bl b] P:=.inr ⟨b,rfl,q⟩
theorem AbA {xs:List PV} (q:P (.lst xs)):AeB [.lst xs] P:=⟨xs,.inl rfl,q⟩
theorem Ahx {i:Nat} {us:UA} {ps:List PV} (h:ρ[i]? = some (.ow (.lst ps))) (q:us ρ fun qs=>AgW i ρ d.nx qs):Aht i us d ρ:=⟨⟨ps,h⟩,q⟩
theorem Ait {i:Nat} {N:Bl->Prop} {ps:List PV} (h:ρ[i]? = some (.ow (.lst ps))) (q:N (ρ.set i (.ow (.lst (ps ++ [x]))))) (hl:ps.length < 100000):AgW i ρ N [x]:=⟨x,ps,rfl,h,hl,q⟩
theorem AhK {neg:Bool} (q:ua ρ fun p=>ub ρ fun q=>Agm neg p q P):Al8 neg ua ub ρ P:=q
theorem AhM {kvs:List (Key × PV)} {n:Int} (q:P (.bl (Fe kvs (.inl n)).isSome)):Agm false (.int n) (.dk kvs) P:=⟨kvs,.inl n,rfl,rfl,q⟩
theorem Ael (q:ua ρ fun p=>ub ρ fun q=>Wu p q P):Aih ua ub ρ P:=q
theorem Qo {kvs:List (Key × PV)} {n:Int} (h:Fe kvs (.inl n) = some x) (q:P x):Wu (.dk kvs) (.int n) P:=⟨kvs,.inl n,x,rfl,rfl,h,q⟩
theorem AbT {i:Nat} {s:Sl} {kvs:List (Key × PV)} (h1:ρ[i]? = some s) (h2:s.val = some (.dk kvs)) (q:ub ρ fun q=>uc ρ fun z=>AaM kvs q z P):Adx i ub uc ρ P:=⟨s,kvs,h1,h2,q⟩
theorem Ab2 {kvs:List (Key × PV)} {n:Int} (q:P ((Fe kvs (.inl n)).getD x)):AaM kvs (.int n) x P:=⟨.inl n,rfl,q⟩
theorem Ae6 {i:Nat} {kvs:List (Key × PV)} (h:ρ[i]? = some (.ow (.dk kvs))) (q:ub ρ fun p=>ua ρ fun q=>AcP i ρ d.nx p q):Aiv i ua ub d ρ:=⟨⟨kvs,h⟩,q⟩
theorem Afp {i:Nat} {kvs:List (Key × PV)} {n:Int} {N:Bl->Prop} (h:ρ[i]? = some (.ow (.dk kvs))) (q:N (ρ.set i (.ow (.dk (Lg kvs (.inl n) x))))) (hl:kvs.length < 100000):AcP i ρ N x (.int n):=⟨kvs,.inl n,h,rfl,hl,q⟩
theorem Aib {ui:UI} {ug:PV->Bl->(Bl->Prop)->Prop} (q:ui ρ fun ps=>Aia ps ug u d ρ):Aga ui ug u d ρ:=q
theorem Ahq {L:List PV->Prop} (q:ua ρ fun p=>bL p L):uiL ua ρ L:=q
theorem b_L {L:List PV->Prop} {ps:List PV} (q:L ps):bL (.lst ps) L:=⟨ps,.inl rfl,q⟩
theorem Afg {L:List PV->Prop} {i:Nat} (h:ρ[i]? = some (.bo x)) (q:bL x L):uiB i ρ L:=let ⟨ps,e,q⟩:=q; ⟨_,x,ps,h,.inl rfl,e,q⟩
theorem AeU {L:List PV->Prop} {i:Nat} (h:ρ[i]? = some (.sh x)) (q:bL x L):uiB i ρ L:=let ⟨ps,e,q⟩:=q; ⟨_,x,ps,h,.inr rfl,e,q⟩
theorem Ae7 {us:UA} {ug:PV->Bl->(Bl->Prop)->Prop} (q:us ρ fun ps=>bR1 (fun n=>Vo 0 n ug u d ρ) ps):Aii us ug u d ρ:=q
theorem Ad8 {us:UA} {ug:PV->Bl->(Bl->Prop)->Prop} (q:us ρ fun ps=>bR2 (fun i n=>Vo i n ug u d ρ) ps):Aho us ug u d ρ:=q
theorem AeX {ug:PV->Bl->(Bl->Prop)->Prop} {k:Nat} {fr:List Nat} (q:ua ρ fun p=>bL p fun ps=>ps.length <= 100000/\Tk ps ug ta ue (compρ k fr ρ) P):AhG ua ug ta ue k fr ρ P:=q
theorem AbC {us:UA} {ug:PV->Bl->(Bl->Prop)->Prop} {ue:UE} {k:Nat} {fr:List Nat} (q:us ρ fun ps=>We ug ta ue (compρ k fr ρ) P ps):AeA us ug ta ue k fr ρ P:=q
theorem Adt (q:B true):AhR ρ B:=q
theorem AdZ {psp:PSp} {us:UA} (q:us ρ fun ps=>psp ps P):Vx psp us ρ P:=q
theorem Aiz {neg:Bool} (q:ua ρ fun p=>ub ρ fun q=>Uz neg p q P):Akh neg ua ub ρ P:=q
theorem AkP {neg:Bool} (q:ua ρ fun p=>ub ρ fun q=>bIn neg p q P):uIn neg ua ub ρ P:=q
theorem AhY {n:String} (q:ua ρ fun p=>AfO n p P):Alu n ua ρ P:=q
theorem AdX {xs:List PV} (q:P (.bl true)):AfO "list" (.lst xs) P:=⟨_,rfl,q⟩
theorem Alb {L:Nat->Prop} {j:Int} (q:L j.toNat) (h:-(2 ^ 62) <= j/\j < 2 ^ 62):bR1 L [.int j]:=⟨j,rfl,h.1,h.2,q⟩
theorem Aj3 {L:Int->Nat->Prop} {i j:Int} (q:L i (j - i).toNat) (h:-(2 ^ 62) <= i/\i < 2 ^ 62/\-(2 ^ 62) <= j/\j < 2 ^ 62):bR2 L [.int i,.int j]:=⟨i,j,rfl,h,q⟩
theorem Dw {α:Type} {f:α->PV} {l:List α} {j:Nat} {a:α} {i:Int} (h:l[j]? = some a) (e:i = (j:Int)) (q:P (f a)):AaJ (.lst (l.map f)) (.int i) P:=by
 subst e
 exact⟨_,_,_,rfl,.inl rfl,Gk (by rw[getElem?_map,h]; rfl),q⟩
theorem Qx {α:Type} (x:α) (r:List α):Fo (x :: r) (some 1) none = r:=by
 unfold Fo
 rw[show (some (1:Int)) = some ((1:Nat):Int) from rfl,HT.sIx_nat,HT.sIx_none]
 simp
theorem AjR {us:UA} (q:us ρ fun ps=>bMk P ps):uMk us ρ P:=q
theorem AkA {f:List Sg->List (Int × Int)->List Jn->Int->PV} (q:ua ρ fun p=>bBk p fun S M J=>ub ρ fun q=>bU (fun n=>f S M J n) q P):uM1 f ua ub ρ P:=q
theorem AlC {f:List Jn->Int->Int->PV} (q:ua ρ fun p=>bBk p fun S M J=>ub ρ fun q=>uc ρ fun r=>bI0 (f J) q r P):uM2 f ua ub uc ρ P:=q
theorem Alf {S:List Sg} {M:List (Int × Int)} {J:List Jn} {L:List Sg->List (Int × Int)->List Jn->Prop} (q:L S M J):bBk (.bk S M J) L:=⟨S,M,J,rfl,q⟩
theorem Vs {xs:List PV} (c:CmpL xs xs) (q:P (.bl false)):Uz true (.lst xs) (.lst xs) P:=⟨xs,xs,rfl,rfl,c,fun b hb=>by rw[hb.mpr rfl]; exact q⟩
theorem Vj {xs ys:List Int}:CmpL (xs.map .int) (ys.map .int):=fun _ i x y hx hy=>by
 rw[getElem?_map] at hx hy
 obtain⟨a,_,rfl⟩:=map_eq_some_iff.mp hx
 obtain⟨b,_,rfl⟩:=map_eq_some_iff.mp hy
 exact .flat rfl rfl
theorem Abg {xs ys:List Int} (h:xs.map PV.int = ys.map PV.int):xs = ys:=by
 induction xs generalizing ys with
 | nil=>cases ys with
  | nil=>rfl
  | cons _ _=>cases h
 | cons x xs ih=>cases ys with
  | nil=>cases h
  | cons y ys=>injection h with h1 h2; injection h1 with h1; rw[h1,ih h2]
theorem Wn {xs ys:List Int} (q:P (.bl (decide (xs = ys)))):Uz false (.lst (xs.map .int)) (.lst (ys.map .int)) P:=⟨_,_,rfl,rfl,Vj,fun b hb=>by
 have:b = decide (xs = ys):=Gy (by rw[hb,decide_eq_true_iff]; exact⟨Abg,fun h=>by rw[h]⟩)
 rw[this]; exact q⟩
theorem Gf {α:Type} {S:List α} {enc:α->PV} {f:α->Option PV} {ug:PV->Bl->(Bl->Prop)->Prop} {ue:UE} {ρ':Bl} (q:P (.lst (S.filterMap f))) (h:∀ s ∈ S,∀ Z:Option PV->Prop,Z (f s)->ug (enc s) ρ' fun ρ2=>ta ρ2 fun b=>if b = true then ue ρ2 fun q=>Z (some q) else Z none):Tk (S.map enc) ug ta ue ρ' P:=by
 refine⟨fun n rs=>rs = (S.take n).filterMap f,rfl,fun n p rs hp hr=>?_,fun rs hr=>?_⟩
 ·rw[getElem?_map] at hp
  obtain⟨s,hs,rfl⟩:=map_eq_some_iff.mp hp
  subst hr
  refine h s (mem_of_getElem? hs) (fun o=>(match o with | some q=>(S.take n).filterMap f ++ [q] | none=>(S.take n).filterMap f) = (S.take (n + 1)).filterMap f) ?_
  rw[Db hs,List.filterMap_append]
  cases e:f s with
  | none=>simp [filterMap_cons,e]
  | some x=>simp [filterMap_cons,e]
 ·rw[length_map,take_length] at hr
  rw[hr]; exact q
end
section
variable {K:Frag} {C:Addr} {ω:Om} {rm:Rm}
theorem Ln {G:Hp} {vs:List V} {ns:List Int} (h:Reps K C G vs (ns.map .int)):vs = ns.map V.int:=by
 refine Oz (by rw[h.1,length_map,length_map]) fun i x y hx hy=>?_
 rw[getElem?_map] at hy
 obtain⟨n,hn,rfl⟩:=map_eq_some_iff.mp hy
 have r:=h.2 i x (.int n) hx (by rw[getElem?_map,hn]; rfl)
 cases r; rfl
end
def Ab7:PSp:=fun ps P=>∃ ns,ps = [.scr ns]/\ns.length <= 63/\P (.bl true)
def Wf (K:Frag):Sp:=fun vs H Q _=>∃ (a:Addr) (ns:List Int),vs = [.ref a]/\SqL K H a (ns.map V.int)/\ns.length <= 63/\∀ H',Q (.bl true) H'
theorem AiA {K:Frag} {C:Addr}:∀ vs H Q E,Wf K vs H Q E->spOf K C [false] .sh Ab7 vs H Q E:=fun vs H Q E ⟨a,ns,e,hS,hl,q⟩=>by
 subst e
 refine⟨H,[.scr ns],fun p=>p = .bl true,Same.refl _,⟨.inl (.scr hS),trivial⟩,⟨ns,rfl,hl,rfl⟩,fun G' H' v p w r hp=>?_⟩
 subst hp
 have r':Rep K C G' v (.bl true):=r
 cases r'
 exact q H'
section
variable {K:Frag} {C:Addr}
end
section
variable {K:Frag} {C:Addr} {ω:Om}
end
theorem AiD {C b:Addr} {H:Hp} {k r m p:List (Key × V)} {w:List (List Key × V)} {nm:Str} {P:Addr->Hp->Prop} {f:Addr} (h:BookAt C H b k r m p w) (hm:∀ {dk dr dm dp dw:Addr},(bkF dk dr dm dp dw).lookup nm = none) (q:∀ (q:Addr) (H2:Hp),H q = none->Same H H2->H2 q = some (.met f b)->P q H2) :
  ∃ a dx fs,V.ref b = V.ref a/\H a = some (.ins C dx fs)/\fs.lookup nm = none/\∀ (q:Addr) (H2:Hp),H q = none->Same H H2->H2 q = some (.met f a)->P q H2:=by
 obtain⟨dx,dk,dr,dm,dp,dw,h1,_⟩:=h
 exact⟨b,dx,_,rfl,h1,hm,q⟩
section
variable {K:Frag} {C:Addr} {ω:Om} {rm:Rm}
def Aai (ps:List PV) (p:PV) (P:PV->Prop):Prop:=∃ (U:List Sg) (M:List (Int × Int)) (J:List Jn) (ns:List Int),ps = [.lst (ns.map .int)]/\p = .bk U M J/\ns.length < 64/\∀ ns':List Int,Rl (Bw U) ns ns'->P (.lst (ns'.map .int))
def AeD (u:UA) (ub:UE):UE:=fun ρ P=>u ρ fun ps=>ub ρ fun p=>Aai ps p P
theorem Agi {m:Bool} {f:Addr} {t:TA} {u:UA} {to:TE} {ub:UE} (ha:AU K C ω [m] t u) (hb:EB K C ω to ub):EF K C ω (AeL K (Xg C) f t (Go (Afi C "rank" f to) Ou)) (AeD u ub) :=
 fun B G0 H0 own G σ H ρ P Q S hu k=>ha B G0 H0 own G σ H ρ _ _ S hu fun vs ps G1 H1 w1 r1 h1=>hb B G0 H0 own G1 σ H1 ρ _ _ (S.grow w1) h1 fun v p G2 H2 w2 r2 ⟨U,M,J,ns,e1,e2,hl,h2⟩=>by
  obtain⟨x,px,rfl,e3,r⟩:=Np r1
  rw[e3] at e1
  cases e1
  subst e2
  obtain⟨b,kvs,rfl,bk,l⟩:=r2.bk
  obtain⟨a,vs,rfl,ea,la⟩:=r.lst w1.i
  have bk2:=bk.mono fun _ _ e _=>w2.i _ _ e
  refine AiD bk2 Vm fun q H3 hq s3 e3=>⟨a,q,b,ns,Bw U,rfl,rfl,SqL.of (by rw[<- Ln la]; exact s3 _ _ (w2.h _ _ ea)),e3,hl,fun n _=>⟨b,n,_,_,_,_,_,rfl,bk2.mono fun _ _ e _=>s3 _ _ e,by rw[AdG]; exact⟨rfl,rfl⟩⟩,fun c H4 ns' hc s4 e4 sb=>?_⟩
  have s24:Same H2 H4:=s3.trans s4
  have hc2:H2 c = none:=s3.free hc
  exact k c _ G2 H4 ((w1.trans w2).trans (Grow.own w2.i s24)) ((w1.trans w2).h.free hc2) (w2.i.free hc2) (OwnA.ofL e4 (Ga ns')) (h2 ns' sb)
theorem Ai8 {ρ:Bl} {u:UA} {ub:UE} {P:PV->Prop} (q:u ρ fun ps=>ub ρ fun p=>Aai ps p P):AeD u ub ρ P:=q
theorem Ajt {U:List Sg} {M:List (Int × Int)} {J:List Jn} {ns:List Int} {P:PV->Prop} (q:∀ ns':List Int,Rl (Bw U) ns ns'->P (.lst (ns'.map .int))) (hl:ns.length < 64):Aai [.lst (ns.map .int)] (.bk U M J) P:=⟨U,M,J,ns,rfl,rfl,hl,q⟩
def Agq (i:Nat) (ρ:Bl) (N:Bl->Prop) (qs:List PV):Prop:=∃ rs ps:List PV,qs = [.lst rs]/\ρ[i]? = some (.ow (.lst ps))/\ps.length + rs.length < 100000/\N (ρ.set i (.ow (.lst (ps ++ rs))))
def AlN (i:Nat) (u:UA):US:=fun d ρ=>(∃ ps,ρ[i]? = some (.ow (.lst ps)))/\u ρ fun qs=>Agq i ρ d.nx qs
theorem Tp {i:Nat} {m:Bool} {t:TA} {u:UA} (ha:AU K C ω [m] t u):SU K C ω rm (Vw (tBM K "list" Aae (Gq i) t)) (AlN i u):=fun B G0 H0 own G σ H ρ D d S F ⟨⟨ps0,e0⟩,hu⟩ =>
 Xa S e0 fun a vs0 e1 o _ _=>ha B G0 H0 own G σ H ρ _ _ S hu fun xs qs G' H' w ok ⟨rs,ps,eq,ep,hl,h⟩=>by
  have S':=S.grow w
  obtain⟨a',vs,e1',o',h1,h2⟩:=S'.list ep
  rw[o] at o'; cases o'
  obtain⟨x,px,rfl,e3,r⟩:=Np ok
  rw[e3] at eq
  cases eq
  obtain⟨b,ws,rfl,eb,lb⟩:=r.lst w.i
  exact⟨a,b,vs,ws,rfl,rfl,h1,eb,by rw[h2.1,lb.1,sizeLine_eq]; omega,fun H2 c e2=>F.nx own G' σ H2 _ (S'.chg o e1 c (OwnA.ofL e2 (LAt.append h2 lb))) h⟩
theorem Amy {ρ:Bl} {d:Gp} {i:Nat} {us:UA} {ps:List PV} (h:ρ[i]? = some (.ow (.lst ps))) (q:us ρ fun qs=>Agq i ρ d.nx qs):AlN i us d ρ:=⟨⟨ps,h⟩,q⟩
theorem Anj {ρ:Bl} {i:Nat} {N:Bl->Prop} {ps rs:List PV} (h:ρ[i]? = some (.ow (.lst ps))) (q:N (ρ.set i (.ow (.lst (ps ++ rs))))) (hl:ps.length + rs.length < 100000):Agq i ρ N [.lst rs]:=⟨rs,ps,rfl,h,hl,q⟩
end
section
variable {K:Frag} {C:Addr} {ω:Om} {rm:Rm}
end
section
variable {K:Frag} {C:Addr} {ω:Om} {rm:Rm}
theorem Reps.pick {G:Hp} {vs:List V} {ps:List PV} (h:Reps K C G vs ps):∀ is:List Nat,Reps K C G (pick is vs) (pick is ps)
 | []=>LAt.nil
 | i :: is=>by
  have ih:=Reps.pick h is
  unfold L2.pick at ih ⊢
  rw[filterMap_cons,filterMap_cons]
  cases e:vs[i]? with
  | none =>
   have:ps[i]? = none:=by
    rw[List.getElem?_eq_none_iff] at e ⊢
    rw[<- h.1]; exact e
   rw[this]; exact ih
  | some v =>
   have hi:i < ps.length:=by rw[<- h.1]; exact (List.getElem?_eq_some_iff.mp e).1
   have e2:=getElem?_eq_getElem hi
   rw[e2]
   exact LAt.append (LAt.snoc LAt.nil (h.2 i v _ e e2)) ih
def Agb (p:PV) (lo hi st:Option Int) (P:PV->Prop):Prop:=∃ ps,(p = .lst ps\/∃ ns,p = .scr ns/\ps = ns.map .int)/\st ≠ some 0/\P (.lst (pick (Od ps.length lo hi st) ps))
def Akf (ua:UE) (ul uh us:UO):UE:=fun ρ P=>ua ρ fun p=>ul ρ fun lo=>uh ρ fun hi=>us ρ fun st=>Agb p lo hi st P
theorem AnE {ρ:Bl} {ua:UE} {ul uh us:UO} {P:PV->Prop} (q:ua ρ fun p=>ul ρ fun lo=>uh ρ fun hi=>us ρ fun st=>Agb p lo hi st P):Akf ua ul uh us ρ P:=q
theorem AkW {ns:List Int} {lo hi st:Option Int} {P:PV->Prop} (q:P (.lst ((pick (Od ns.length lo hi st) ns).map .int))) (h:st ≠ some 0):Agb (.scr ns) lo hi st P:=⟨ns.map .int,.inr ⟨ns,rfl,rfl⟩,h,by rw[length_map,Af2]; exact q⟩
theorem Ae8 {ta:TE} {tl th ts:TO} {ua:UE} {ul uh us:UO} (ha:EB K C ω ta ua) (hl:OU K C ω tl ul) (hh:OU K C ω th uh) (hs:OU K C ω ts us):EF K C ω (AgN K ta tl th ts) (Akf ua ul uh us) :=
 fun B G0 H0 own G σ H ρ P Q S hu k=>ha B G0 H0 own G σ H ρ _ _ S hu fun v p G1 H1 w1 r1 h1=>hl B G0 H0 own G1 σ H1 ρ _ _ (S.grow w1) h1 fun lo G2 H2 w2 h2=>hh B G0 H0 own G2 σ H2 ρ _ _ ((S.grow w1).grow w2) h2 fun hi G3 H3 w3 h3=>hs B G0 H0 own G3 σ H3 ρ _ _ (((S.grow w1).grow w2).grow w3) h3 fun st G4 H4 w4 h4=>by
  have w:=((w1.trans w2).trans w3).trans w4
  have r:=((r1.grow w2).grow w3).grow w4
  obtain⟨ps,e,h0,h⟩:=h4
  rcases e with e | ⟨ns,e,e4⟩
  ·subst e
   obtain⟨a,vs,rfl,ea,l⟩:=r.lst w4.i
   exact⟨a,vs,rfl,SqL.of ea,h0,fun b H5 hb s5 e5=>k b _ G4 H5 (w.trans (Grow.own w4.i s5)) (w.h.free hb) (w4.i.free hb) (OwnA.ofL e5 (l.1 ▸ Reps.pick l _)) h⟩
  ·subst e e4
   obtain⟨a,rfl,ea⟩:=r.scr w4.i
   exact⟨a,_,rfl,ea,h0,fun b H5 hb s5 e5=>k b _ G4 H5 (w.trans (Grow.own w4.i s5)) (w.h.free hb) (w4.i.free hb) (OwnA.ofL e5 (by
    have e6:=Reps.pick (Ga (K:=K) (C:=C) (G:=G4) ns) (Od (ns.map V.int).length lo hi st)
    rwa [show (ns.map V.int).length = (ns.map PV.int).length by rw[length_map,length_map]] at e6 ⊢)) h⟩
end
section
variable {K:Frag} {C:Addr} {ω:Om} {rm:Rm}
end
section
variable {K:Frag} {C:Addr} {ω:Om}
end
theorem On {u w:US} {d:Gp} {ρ:Bl} (N:Bl->Prop) (h1:∀ ρ',N ρ'->w d ρ') (h2:u { d with nx:=fun ρ'=>N ρ'\/w d ρ' } ρ):AcO u w d ρ:=by
 have e:(fun ρ'=>N ρ'\/w d ρ') = w d:=funext fun ρ'=>propext ⟨fun z=>z.elim (h1 ρ') id,.inr⟩
 rw[e] at h2
 exact h2
theorem Jb {u w:US} {d:Gp} {ρ:Bl} (h1:w d ρ) (h2:u { d with nx:=fun ρ'=>ρ' = ρ\/w d ρ' } ρ):AcO u w d ρ:=On (fun ρ'=>ρ' = ρ) (fun _ e=>e ▸ h1) h2
section
variable {K:Frag} {C:Addr} {ω:Om} {rm:Rm}
end
section
variable {K:Frag} {C:Addr} {ω:Om} {rm:Rm}
def Agj (p q:PV) (P:PV->Prop):Prop:=∃ xs,q = .lst xs/\(∀ x ∈ xs,∃ ys,x = .tup ys)/\(∀ x ∈ xs,Cmp 40 x p)/\∀ b:Bool,(b = true ↔ p ∈ xs)->P (.bl (!b))
def Al6 (ua ub:UE):UE:=fun ρ P=>ua ρ fun p=>ub ρ fun q=>Agj p q P
theorem AmY {ρ:Bl} {P:PV->Prop} {ua ub:UE} (q:ua ρ fun p=>ub ρ fun q=>Agj p q P):Al6 ua ub ρ P:=q
theorem Aey {ta tb:TE} {ua ub:UE} (ha:EU K C ω ta ua) (hb:EB K C ω tb ub):EU K C ω (tOp (AkU K true) ta tb) (Al6 ua ub) :=
 fun B G0 H0 own G σ H ρ P Q S hu k=>ha B G0 H0 own G σ H ρ _ _ S hu fun v p G1 H1 w1 r1 h1=>hb B G0 H0 own G1 σ H1 ρ _ _ (S.grow w1) h1 fun w q G2 H2 w2 r2 ⟨xs,e,ht,hc,h⟩=>by
  subst e
  obtain⟨a,vs,rfl,ea,l⟩:=r2.lst w2.i
  have r1':=r1.mono w2.g
  have hr:∀ u ∈ vs,∃ r x,u = V.ref r/\x ∈ xs/\Rep K C G2 (.ref r) x:=fun u hu=>by
   obtain⟨i,hi⟩:=getElem?_of_mem hu
   obtain⟨x,hx,rx⟩:=LAt.get l hi
   obtain⟨ys,rfl⟩:=ht x (mem_of_getElem? hx)
   cases rx with
   | tup e l' q'=>exact⟨_,_,rfl,mem_of_getElem? hx,.tup e l' q'⟩
  refine⟨a,vs,fun r=>pd (Rep K C G2 (.ref r) p),rfl,SqL.of ea,fun u hu=>let ⟨r,_,e,_⟩:=hr u hu; ⟨r,e⟩,fun r hm=>?_,?_⟩
  ·obtain⟨r',x,e,hx,rx⟩:=hr _ hm
   cases e
   refine (hc x hx).eqD w2.i rx r1' ?_
   rw[pd_iff]
   exact⟨fun z=>(hc x hx).fn rx z,fun z=>by rw[<- z]; exact rx⟩
  ·have key:vs.any (Aa7 fun r=>pd (Rep K C G2 (.ref r) p)) = pd (p ∈ xs):=Gy (by
    rw[pd_iff,any_eq_true]
    constructor
    ·rintro ⟨u,hu,hb⟩
     obtain⟨r,x,rfl,hx,rx⟩:=hr u hu
     have:Rep K C G2 (.ref r) p:=pd_iff.mp hb
     rw[<- (hc x hx).fn rx this]; exact hx
    ·intro hp
     obtain⟨i,hi⟩:=getElem?_of_mem hp
     obtain⟨u,hu,ru⟩:=LAt.get' l hi
     obtain⟨ys,rfl⟩:=ht p hp
     refine⟨u,mem_of_getElem? hu,?_⟩
     cases ru with
     | tup e l' q'=>exact pd_iff.mpr (.tup e l' q'))
   show Q (.bl (!(vs.any (Aa7 fun r=>pd (Rep K C G2 (.ref r) p))))) H2
   rw[key]
   exact k _ _ G2 H2 (w1.trans w2) (.bl _) (h _ pd_iff)
abbrev Fz:=Addr × Obj × List (Key × V)
def fzE (i:Nat) (z:Fz) (kvs:List (Key × PV)) (N:Bl->Prop) (ρ:Bl):Prop:=ρ[i]? = some (.fz z kvs)/\N (ρ.set i (.ow (.dk kvs)))
def Aaa (i:Nat) (z:Fz) (kvs:List (Key × PV)) (d:Gp):Gp:=⟨fzE i z kvs d.nx,fun _=>False,fzE i z kvs d.bk,fzE i z kvs d.ct⟩
def Aln (i:Nat) (u:US):US:=fun d ρ=>∃ kvs,ρ[i]? = some (.ow (.dk kvs))/\∀ z,u (Aaa i z kvs d) (ρ.set i (.fz z kvs))
theorem Qz {H:Hp} {a b:Addr} {o u:HO} (n:b ≠ a) (h:H b = some u):upd H a o b = some u:=by rw[Bk n]; exact h
theorem Sat.turn {B G0 H0 G H:Hp} {own:Nat->Option Addr} {σ:St} {ρ:Bl} (S:Sat K C ω B G0 H0 own G σ H ρ) {i:Nat} {a:Addr} {o:HO} {s':Sl} (e:own i = some a) (ht:Ru o) (hs:SlOk K C G0 H0 own G σ (upd H a o) i s'):Sat K C ω B G0 H0 own G σ (upd H a o) (ρ.set i s'):=by
 obtain⟨f0,fg,_⟩:=S.fr i a e
 have ng:∀ b u,G b = some u->b ≠ a:=fun b u h w=>by subst w; rw[fg] at h; cases h
 have n0:∀ b u,H0 b = some u->b ≠ a:=fun b u h w=>by subst w; rw[f0] at h; cases h
 refine⟨S.kb,⟨S.gr.g,fun b u h=>Qz (n0 b u h) (S.gr.h _ _ h),fun b u h=>Qz (ng b u h) (S.gr.i _ _ h),S.gr.n⟩,by rw[length_set,S.len],S.inj,fun j b h=>?_,fun j s h=>?_,S.ex⟩
 ·obtain⟨q0,qg,u,qh,qt⟩:=S.fr j b h
  by_cases w:b = a
  ·subst w; exact⟨q0,qg,o,Bp,ht⟩
  ·exact⟨q0,qg,u,Qz w qh,qt⟩
 ·rcases Nf h with ⟨rfl,rfl,hl⟩ | ⟨z,h⟩
  ·exact hs
  ·have q:=S.sl j s h
   cases s with
   | un=>trivial
   | sh p=>exact q
   | bo p=>exact q
   | bz kvs=>exact q
   | fz y kvs =>
    obtain⟨e1,o1,h1,h2⟩:=q
    exact⟨e1,o1,Qz (fun w=>z (S.inj j i a (by rw[<- w]; exact o1) e)) h1,h2⟩
   | fl y ps =>
    obtain⟨e1,o1,h1,h2⟩:=q
    exact⟨e1,o1,Qz (fun w=>z (S.inj j i a (by rw[<- w]; exact o1) e)) h1,h2⟩
   | om b p' =>
    obtain⟨e1,o1,r1⟩:=q
    exact⟨e1,o1,r1.mono (Same.refl _) (Bk fun w=>z (S.inj j i a (by rw[<- w]; exact o1) e))⟩
   | ow p' =>
    obtain⟨b,e1,o1,r1⟩:=q
    exact⟨b,e1,o1,r1.mono (Same.refl _) (Bk fun w=>z (S.inj j i a (by rw[<- w]; exact o1) e))⟩
theorem AdS {i:Nat} {t:TS} {u:US} (h:SU K C ω rm t u):SU K C ω rm (AcE t) (Aln i u):=fun B G0 H0 own G σ H ρ D d S F ⟨kvs,e,hu⟩=>by
 obtain⟨a,ea,eo,vs,ha,l⟩:=S.sl i _ e
 refine⟨a,.dK vs,trivial,ha,fun o=>?_⟩
 have S1:=S.turn (o:=.frz o (.dK vs)) (s':=.fz (a,o,vs) kvs) eo (fun _ z=>nomatch z) ⟨ea,eo,Bp,l⟩
 have key:∀ (N:Bl->Prop) (M:St->Hp->Prop),(∀ own G σ H ρ,Sat K C ω B G0 H0 own G σ H ρ->N ρ->M σ H)->∀ own' G' σ' H' ρ',Sat K C ω B G0 H0 own' G' σ' H' ρ'->fzE i (a,o,vs) kvs N ρ'->∃ o',H' a = some (.frz o' (.dK vs))/\M σ' (upd H' a (.dK vs)):=fun N M hM own' G' σ' H' ρ' S' ⟨e',h'⟩=>by
  obtain⟨h1,h2,h3,h4⟩:=S'.sl i _ e'
  exact⟨o,h3,hM own' G' σ' _ _ (S'.turn (o:=.dK vs) (s':=.ow (.dk kvs)) h2 (fun _ z=>nomatch z) ⟨a,h1,h2,OwnA.ofD Bp h4⟩) h'⟩
 exact h B G0 H0 own G σ _ _ _ (Aaa i (a,o,vs) kvs d) S1 ⟨key d.nx D.nx F.nx,fun _ _ _ _ _ _ z=>z.elim,key d.bk D.bk F.bk,key d.ct D.ct F.ct⟩ (hu (a,o,vs))
theorem Amb {G:Hp} (k:Key):Rep K C G (kV k) (kP k):=by
 cases k with
 | inl i=>exact .int _
 | inr x=>exact .str _
def Sl.fzv:Sl->Option (List (Key × PV))
 | .fz _ kvs=>some kvs
 | .bz kvs=>some kvs
 | _=>none
def Aeu (i:Nat) (ub:UE):UE:=fun ρ P=>∃ s kvs,ρ[i]? = some s/\s.fzv = some kvs/\ub ρ fun q=>Wu (.dk kvs) q P
theorem Zu {i:Nat} {tb:TE} {ub:UE} (hb:EB K C ω tb ub):EU K C ω (Zb (Gq i) tb) (Aeu i ub):=fun B G0 H0 own G σ H ρ P Q S ⟨s,kvs,e,ev,hu⟩ k=>by
 have key:∃ a o vs,σ[i]? = some (some (.ref a))/\H a = some (.frz o (.dK vs))/\LAt (KRep K C) G vs kvs:=by
  have q:=S.sl i s e
  cases s with
  | fz z kvs'=>cases ev; obtain⟨h1,_,h2,h3⟩:=q; exact⟨_,_,_,h1,h2,h3⟩
  | bz kvs'=>cases ev; obtain⟨a,o,vs,h1,h2,h3⟩:=q; exact⟨a,o,vs,h1,S.gr.h _ _ h2,h3⟩
  | _=>cases ev
 obtain⟨a,o,vs,ea,ha,l⟩:=key
 refine⟨_,ea,hb B G0 H0 own G σ H ρ _ _ S hu fun w p G1 H1 w1 r1 ⟨kvs',k',x,e1,e2,e3,h⟩=>?_⟩
 cases e1
 subst e2
 rw[Adp r1]
 rcases Wb k' (KReps.mono l w1.g) with ⟨h1,h2⟩ | ⟨y,p,h1,h2,h3⟩
 ·rw[e3] at h2; cases h2
 ·rw[e3] at h2; cases h2
  exact⟨a,y,rfl,.inl ⟨vs,k',.inr ⟨o,w1.h _ _ ha⟩,rfl,h1.symm⟩,k _ _ G1 H1 w1 h3 h⟩
theorem Sat.slot {B G0 H0 G H:Hp} {own:Nat->Option Addr} {σ:St} {ρ:Bl} (S:Sat K C ω B G0 H0 own G σ H ρ) {i:Nat} {s':Sl} (hs:SlOk K C G0 H0 own G σ H i s'):Sat K C ω B G0 H0 own G σ H (ρ.set i s') :=
 ⟨S.kb,S.gr,by rw[length_set,S.len],S.inj,S.fr,fun j s h=>by
  rcases Nf h with ⟨rfl,rfl,hl⟩ | ⟨z,h⟩
  ·exact hs
  ·exact S.sl j s h,S.ex⟩
abbrev Fl:=Addr × List V
def Afo (i:Nat) (z:Fl) (ps:List PV) (ug:PV->Bl->(Bl->Prop)->Prop) (ub:US) (d:Gp) (ρ:Bl):Prop:=∃ I:Nat->Bl->Prop,I 0 ρ/\(∀ k ρ,I k ρ->ρ[i]? = some (.fl z ps))/\(∀ k p ρ,ps[k]? = some p->I k ρ->ug p ρ fun ρ'=>ub { d with nx:=I (k + 1),ct:=I (k + 1),bk:=d.nx } ρ')/\∀ ρ,I ps.length ρ->d.nx ρ
def Ah3 (i:Nat) (ug:PV->Bl->(Bl->Prop)->Prop) (ub:US):US:=fun d ρ=>∃ z ps,ρ[i]? = some (.fl z ps)/\Afo i z ps ug ub d ρ
theorem AiQ {top:Nat} {i:Nat} {g:TG} {ug:PV->Bl->(Bl->Prop)->Prop} {tb:TS} {ub:US} (hg:GU K C ω top g ug) (hb:SU K C ω rm tb ub):SU K C ω rm (Qk (Sc K (Gq i)) g tb) (Ah3 i ug ub) :=
 fun B G0 H0 own G σ H ρ D d S F ⟨z,ps,e,I,i0,iz,ist,iend⟩=>by
  obtain⟨e1,e2,e3,e4⟩:=S.sl i _ e
  refine⟨_,e1,z.1,rfl,⟨z.2,SqL.of e3⟩,Sb (xs:=z.2) (fun k σ' H'=>∃ own' G' ρ',Sat K C ω G G0 H0 own' G' σ' H' ρ'/\I k ρ') ⟨own,G,ρ,S.base (Same.refl _),i0⟩ (fun k σ' H' _ ⟨own',G',ρ',S',hi⟩=>SqL.of (S'.sl i _ (iz k ρ' hi)).2.2.1) (fun k x σ' H' hx ⟨own',G',ρ',S',hi⟩=>?_) fun σ' H' ⟨own',G',ρ',S',hi⟩=>?_⟩
  ·obtain⟨q,hq,rq⟩:=LAt.get e4 hx
   exact hg G G0 H0 own' G' σ' H' ρ' x q _ _ S' (rq.mono S'.kb) (ist k q ρ' hq hi) fun own2 σ2 ρ2 S2 _ h2=>hb G G0 H0 own2 G' σ2 H' ρ2 _ _ S2 (Nu F S.kb fun own3 G3 σ3 H3 ρ3 S3 h3=>⟨own3,G3,ρ3,S3,h3⟩) h2
  ·rw[e4.1] at hi
   exact F.nx own' G' σ' H' ρ' (S'.base (S.kb.trans S'.kb)) (iend ρ' hi)
theorem Amm {i:Nat} {z:Fl} {ps:List PV} {ug:PV->Bl->(Bl->Prop)->Prop} {ub:US} {d:Gp} {ρ:Bl} (h1:ρ[i]? = some (.fl z ps)) (q:Afo i z ps ug ub d ρ):Ah3 i ug ub d ρ:=⟨z,ps,h1,q⟩
def AbY (i:Nat) (ug:PV->Bl->(Bl->Prop)->Prop) (uc:UT) (ue:UE) (k:Nat) (fr:List Nat):UE:=fun ρ P=>∃ s kvs,ρ[i]? = some s/\s.fzv = some kvs/\kvs.length <= 100000/\Tk (kvs.map fun kv=>kP kv.1) ug uc ue (compρ k fr ρ) P
theorem Yd {i:Nat} {k:Nat} {fr:List Nat} {g:TG} {ug:PV->Bl->(Bl->Prop)->Prop} {tc:TT} {uc:UT} {te:TE} {ue:UE} (hg:GU K C Om.no k g ug) (hc:TU K C Om.no tc uc) (he:EU K C Om.no te ue):EF K C ω (Lw (iDk (Gq i)) g tc te k fr) (AbY i ug uc ue k fr) :=
 fun B G0 H0 own G σ H ρ P Q S ⟨s,kvs,e,ev,hl,I,i0,ist,iend⟩ kk=>by
  have key:∃ a o vs,σ[i]? = some (some (.ref a))/\H a = some (.frz o (.dK vs))/\LAt (KRep K C) G vs kvs:=by
   have q:=S.sl i s e
   cases s with
   | fz z kvs'=>cases ev; obtain⟨h1,_,h2,h3⟩:=q; exact⟨_,_,_,h1,h2,h3⟩
   | bz kvs'=>cases ev; obtain⟨a,o,vs,h1,h2,h3⟩:=q; exact⟨a,o,vs,h1,S.gr.h _ _ h2,h3⟩
   | _=>cases ev
  obtain⟨a,o,vs,ea,ha,l⟩:=key
  refine Xn (show iDk (Gq i) σ H _ from ⟨_,ea,a,o,vs,rfl,ha,fun D hD=>CP.dkeys (CSt K C G H D I) (Sz S.gr.i hD i0) (fun n H' ⟨G',_,_,w,_⟩=>w.h _ _ ha) (fun n kv H' N hx st hN=>?_) fun H' st=>?_⟩)
  ·have hn:n < kvs.length:=by rw[<- l.1]; exact (List.getElem?_eq_some_iff.mp hx).1
   have rq:=l.2 n kv kvs[n] hx (getElem?_eq_getElem hn)
   rw[show kv.1 = kvs[n].1 from rq.1]
   exact Sy S hg hc he hD (by omega) (fun G' s=>Amb _) st hN fun rs hi=>ist n _ rs (by rw[getElem?_map,getElem?_eq_getElem hn]; rfl) hi
  ·obtain⟨G',ys,rs,w,gD,eD,ry,_,hi⟩:=st
   rw[l.1] at hi
   exact kk D _ G' H' w hD gD (OwnA.ofL eD ry) (iend rs (by rw[length_map]; exact hi))
theorem AfH {i:Nat} {ug:PV->Bl->(Bl->Prop)->Prop} {uc:UT} {ue:UE} {k:Nat} {fr:List Nat} {ρ:Bl} {P:PV->Prop} {s:Sl} {kvs:List (Key × PV)} (h1:ρ[i]? = some s) (h2:s.fzv = some kvs) (q:kvs.length <= 100000/\Tk (kvs.map fun kv=>kP kv.1) ug uc ue (compρ k fr ρ) P):AbY i ug uc ue k fr ρ P:=⟨s,kvs,h1,h2,q.1,q.2⟩
theorem AmH {i:Nat} {u:US} {d:Gp} {ρ:Bl} {kvs:List (Key × PV)} (h1:ρ[i]? = some (.ow (.dk kvs))) (q:∀ z,u (Aaa i z kvs d) (ρ.set i (.fz z kvs))):Aln i u d ρ:=⟨kvs,h1,q⟩
theorem AiU {i:Nat} {ub:UE} {ρ:Bl} {P:PV->Prop} {s:Sl} {kvs:List (Key × PV)} (h1:ρ[i]? = some s) (h2:s.fzv = some kvs) (q:ub ρ fun q=>Wu (.dk kvs) q P):Aeu i ub ρ P:=⟨s,kvs,h1,h2,q⟩
def era (H:Hp) (a:Addr):Hp:=fun b=>if b = a then none else H b
theorem AaV {H:Hp} {a:Addr}:era H a a = none:=by unfold era; rw[if_pos rfl]
theorem Nb {H:Hp} {a b:Addr} (n:b ≠ a):era H a b = H b:=by unfold era; rw[if_neg n]
theorem Agh {H:Hp} {a:Addr}:Same (era H a) H:=fun b o h=>by
 by_cases z:b = a
 ·subst z; rw[AaV] at h; cases h
 ·rw[Nb z] at h; exact h
abbrev Vh:=PV->PV->PV->(PV->PV->Prop)->Prop
def spM (K:Frag) (C:Addr) (psp:Vh):Sp:=fun vs H Q _=>∃ G x a y p q r P,vs = [x,.ref a,y]/\Same G H/\G a = none/\OwnA K C G H a q/\Rep K C G x p/\Rep K C G y r/\psp p q r P /\
 ∀ G' H' c p1 q',Grow G (era H a) G' H'->H c = none->G' c = none->OwnA K C G' H' c p1->G' a = none->OwnA K C G' H' a q'->P p1 q'->Q (.ref c) H'
theorem spM.len {psp:Vh} {vs:List V} {H:Hp} {Q:VK} {E:XK} (h:spM K C psp vs H Q E):vs.length = 3:=by
 obtain⟨G,x,a,y,p,q,r,P,rfl,_⟩:=h; rfl
theorem Afj {psp:Vh} {N:List Str} {vs:List V} {H:Hp} {Q:VK} {E:XK} {t:TS} {u:Addr->US} (h:spM K C psp vs H Q E) (hn:3 <= N.length) (hs:∀ a,SU K C Om.no (.mu a) t (u a))
  (hp:∀ a p q r P,psp p q r P->u a ⟨fun _=>False,fun x=>∃ p1 p2,x = .tup [p1,p2]/\P p1 p2,fun _=>False,fun _=>False⟩ ([.sh p,.om a q,.sh r] ++ replicate (N.length - 3) .un)):t { nx:=fun _ H'=>Q .non H',rt:=Q } (L2.Nq N vs) H:=by
 obtain⟨G,x,a,y,p,q,r,P,rfl,i,ga,oa,rx,ry,hq,k⟩:=h
 have hσ:∀ j v,([x,.ref a,y]:List V)[j]? = some v->(L2.Nq N [x,.ref a,y])[j]? = some (some v):=fun j v hv=>by
  unfold L2.Nq
  rw[getElem?_append_left (by rw[length_map]; exact (List.getElem?_eq_some_iff.mp hv).1),getElem?_map,hv]; rfl
 refine hs a G G (era H a) (fun j=>if j = 1 then some a else none) G _ H _ _ ⟨fun _=>False,fun x=>∃ p1 p2,x = .tup [p1,p2]/\P p1 p2,fun _=>False,fun _=>False⟩ ⟨Same.refl _,⟨Same.refl _,Agh,i,fun _ _ _ _ h=>h⟩,?_,fun i j b h1 h2=>?_,fun j b h=>?_,fun j s hj=>?_,fun _ _ _ z=>z.elim⟩ ⟨fun _ _ _ _ _ _ z=>z.elim,fun G' H' v pv w ro hd=>?_,fun _ _ _ _ _ _ z=>z.elim,fun _ _ _ _ _ _ z=>z.elim⟩ (hp a p q r P hq)
 ·unfold L2.Nq
  rw[length_append,length_append,length_map,length_replicate,length_replicate]; rfl
 ·split at h1 <;> split at h2
  ·rename_i z1 z2; rw[z1,z2]
  ·cases h2
  ·cases h1
  ·cases h1
 ·split at h
  ·cases h; exact⟨AaV,ga,oa.thing⟩
  ·cases h
 ·match j,hj with
  | 0,hj=>cases hj; exact⟨x,hσ 0 x rfl,rx⟩
  | 1,hj=>cases hj; exact⟨hσ 1 _ rfl,rfl,oa⟩
  | 2,hj=>cases hj; exact⟨y,hσ 2 y rfl,ry⟩
  | j + 3,hj =>
   have hj':(replicate (N.length - 3) Sl.un)[j]? = some s:=hj
   rw[getElem?_replicate] at hj'
   split at hj'
   ·cases hj'; trivial
   ·cases hj'
 ·obtain⟨p1,p2,c,e1,e2,c0,ca,gc,o1,gb,o2⟩:=ro
  subst e1 e2
  obtain⟨q1,q2,e,hP⟩:=hd
  cases e
  rw[Nb ca] at c0
  exact k G' H' c p1 p2 w c0 gc o1 gb o2 hP
def Ah0 (i:Nat) (a:Addr) (j:Nat):US:=fun d ρ=>∃ p1 p2,ρ[j]? = some (.ow p1)/\ρ[i]? = some (.om a p2)/\i ≠ j/\d.rt (.tup [p1,p2])
theorem Aja {i j:Nat} {a:Addr}:SU K C ω (.mu a) (Xh (Gq j)) (Ah0 i a j):=fun B G0 H0 own G σ H ρ D d S F ⟨p1,p2,e1,e2,ne,h⟩=>by
 obtain⟨c,h1,o1,r1⟩:=S.sl j _ e1
 obtain⟨h2,o2,r2⟩:=S.sl i _ e2
 obtain⟨f0,fg,_⟩:=S.fr j c o1
 obtain⟨_,fa,_⟩:=S.fr i a o2
 exact⟨_,h1,F.rt G H _ _ S.gr ⟨p1,p2,c,rfl,rfl,f0,fun z=>ne (S.inj i j a o2 (by rw[<- z]; exact o1)),fg,r1,fa,r2⟩ h⟩
def Acf (i:Nat) (a:Addr) (ρ:Bl) (N:Bl->Prop) (qs:List PV):Prop:=∃ q ps,qs = [q]/\ρ[i]? = some (.om a (.lst ps))/\ps.length < 100000/\N (ρ.set i (.om a (.lst (ps ++ [q]))))
def Ahi (i:Nat) (a:Addr) (u:UA):US:=fun d ρ=>(∃ ps,ρ[i]? = some (.om a (.lst ps)))/\u ρ fun qs=>Acf i a ρ d.nx qs
theorem Sat.own {B G0 H0 G H:Hp} {own:Nat->Option Addr} {σ:St} {ρ:Bl} (S:Sat K C ω B G0 H0 own G σ H ρ) {i:Nat} {a:Addr} {p:PV} (e:ρ[i]? = some (.om a p)):Sat K C ω B G0 H0 own G σ H (ρ.set i (.ow p)):=by
 obtain⟨h1,h2,h3⟩:=S.sl i _ e
 exact S.slot ⟨a,h1,h2,h3⟩
theorem Ajm {i:Nat} {a:Addr} {t:TA} {u:UA} (ha:AU K C ω [true] t u):SU K C ω rm (Vw (tBM K "list" Rk (Gq i) t)) (Ahi i a u):=fun B G0 H0 own G σ H ρ D d S F ⟨⟨ps0,e0⟩,hu⟩=>by
 have hl:i < ρ.length:=(List.getElem?_eq_some_iff.mp e0).1
 refine Xa (S.own e0) (Qm hl) fun a' vs0 e1 o _ _=>ha B G0 H0 own G σ H ρ _ _ S hu fun xs qs G' H' w ok ⟨q,ps,eq,ep,hl2,h⟩=>?_
 have S':=S.grow w
 obtain⟨b1,b2,vs,b3,b4⟩:=S'.sl i _ ep
 rw[o] at b2; cases b2
 subst eq
 match xs,ok with
 | [x],ok =>
  have rx:Rep K C G' x q:=ok.1
  refine⟨a,vs,x,rfl,rfl,b3,Aa8 (by rw[b4.1]; omega),fun H2 c e2=>F.nx own G' σ H2 _ ?_ h⟩
  have S2:=S'.chg o e1 c (OwnA.ofL e2 (Qb b4 rx))
  have S3:=S2.slot (i:=i) (s':=.om a (.lst (ps ++ [q]))) ⟨e1,o,OwnA.ofL e2 (Qb b4 rx)⟩
  rwa [set_set] at S3
 | [],ok=>cases ok
 | _ :: _ :: _,ok=>cases ok.2
def flM (i:Nat) (a:Addr) (z:Fl) (ps:List PV) (N:Bl->Prop) (ρ:Bl):Prop:=ρ[i]? = some (.fl z ps)/\N (ρ.set i (.om a (.lst ps)))
def Ahe (i:Nat) (a:Addr) (u:US):US:=fun d ρ=>∃ ps,ρ[i]? = some (.om a (.lst ps))/\∀ z,u ⟨flM i a z ps d.nx,d.rt,flM i a z ps d.bk,flM i a z ps d.ct⟩ (ρ.set i (.fl z ps))
theorem Ai4 {i:Nat} {a:Addr} {t:TS} {u:US} (h:SU K C ω rm t u):SU K C ω rm t (Ahe i a u):=fun B G0 H0 own G σ H ρ D d S F ⟨ps,e,hu⟩=>by
 obtain⟨ea,eo,vs,ha,l⟩:=S.sl i _ e
 have S1:=S.slot (s':=.fl (a,vs) ps) ⟨ea,eo,ha,l⟩
 have key:∀ (N:Bl->Prop) (M:St->Hp->Prop),(∀ own G σ H ρ,Sat K C ω B G0 H0 own G σ H ρ->N ρ->M σ H)->∀ own' G' σ' H' ρ',Sat K C ω B G0 H0 own' G' σ' H' ρ'->flM i a (a,vs) ps N ρ'->M σ' H':=fun N M hM own' G' σ' H' ρ' S' ⟨e',h'⟩=>by
  obtain⟨h1,h2,h3,h4⟩:=S'.sl i _ e'
  exact hM own' G' σ' _ _ (S'.slot (s':=.om a (.lst ps)) ⟨h1,h2,OwnA.ofL h3 h4⟩) h'
 exact h B G0 H0 own G σ _ _ _ ⟨flM i a (a,vs) ps d.nx,d.rt,flM i a (a,vs) ps d.bk,flM i a (a,vs) ps d.ct⟩ S1 ⟨key d.nx D.nx F.nx,F.rt,key d.bk D.bk F.bk,key d.ct D.ct F.ct⟩ (hu (a,vs))
def Ahd (psp:Vh) (i j:Nat) (u0 u2:UE):US:=fun d ρ=>i ≠ j/\∃ q,ρ[i]? = some (.ow q)/\u0 ρ fun p=>u2 ρ fun r=>psp p q r fun p1 p2=>d.nx ((ρ.set i (.ow p2)).set j (.ow p1))
theorem Ajo {psp:Vh} {i j:Nat} {E:XK} {t0 t2:TE} {u0 u2:UE} (h0:EU K C ω t0 u0) (h2:EU K C ω t2 u2):SU K C ω rm (Th (Ro (spM K C psp) [] E (Go t0 (Go (Gq i) (Go t2 Ou)))) (Na j)) (Ahd psp i j u0 u2) :=
 fun B G0 H0 own G σ H ρ D d S F ⟨ne,q,e,hu⟩=>h0 B G0 H0 own G σ H ρ _ _ S hu fun x p G1 H1 w1 r1 hu2=>by
  have S1:=S.grow w1
  obtain⟨a,ea,eo,_⟩:=S.sl i _ e
  refine⟨_,ea,h2 B G0 H0 own G1 σ H1 ρ _ _ S1 hu2 fun y r G2 H2 w2 r2 hp=>?_⟩
  have S2:=S1.grow w2
  obtain⟨a',ea',eo',oa⟩:=S2.sl i _ e
  rw[eo] at eo'; cases eo'
  obtain⟨f0,fg,o,ho,ht⟩:=S2.fr i a eo
  show spM K C psp ([x,.ref a,y] ++ []) H2 (fun v H1=>D.nx (σ.set j (some v)) H1) E
  refine⟨G2,x,a,y,p,q,r,_,rfl,w2.i,fg,oa,r1.mono w2.g,r2,hp,fun G' H' c p1 q' w hc gc oc gb ob hd=>?_⟩
  have n0:∀ b u,H0 b = some u->b ≠ a:=fun b u h z=>by subst z; rw[f0] at h; cases h
  have ng:∀ b u,G2 b = some u->b ≠ a:=fun b u h z=>by subst z; rw[fg] at h; cases h
  have hl:i < ρ.length:=(List.getElem?_eq_some_iff.mp e).1
  have Se:Sat K C ω B G0 H0 (Le own i) G2 σ (era H2 a) (ρ.set i .un):=by
   refine⟨S2.kb,⟨S2.gr.g,fun b u h=>by rw[Nb (n0 b u h)]; exact S2.gr.h _ _ h,fun b u h=>by rw[Nb (ng b u h)]; exact S2.gr.i _ _ h,S2.gr.n⟩,by rw[length_set,S2.len],fun j k b h1 h2=>S2.inj j k b (Fm h1).2 (Fm h2).2,fun j b h=>?_,fun j s h=>?_,S2.ex⟩
   ·obtain⟨nj,h⟩:=Fm h
    obtain⟨q0,qg,o,qh,qt⟩:=S2.fr j b h
    exact⟨q0,qg,o,by rw[Nb (fun z=>nj (S2.inj j i b h (by rw[z]; exact eo)))]; exact qh,qt⟩
   ·rcases Nf h with ⟨rfl,rfl,hl⟩ | ⟨z,h⟩
    ·trivial
    ·have k:=S2.sl j s h
     have un:Le own i j = own j:=by unfold Le; rw[if_neg z]
     cases s with
     | un=>trivial
     | sh p=>exact k
     | bo p=>exact k
     | bz kvs=>exact k
     | fz y kvs =>
      obtain⟨e1,o1,h1,h2⟩:=k
      exact⟨e1,un.trans o1,by rw[Nb (fun w=>z (S2.inj j i a (by rw[<- w]; exact o1) eo))]; exact h1,h2⟩
     | fl y ps =>
      obtain⟨e1,o1,h1,h2⟩:=k
      exact⟨e1,un.trans o1,by rw[Nb (fun w=>z (S2.inj j i a (by rw[<- w]; exact o1) eo))]; exact h1,h2⟩
     | om b p' =>
      obtain⟨e1,o1,r1⟩:=k
      exact⟨e1,un.trans o1,r1.mono (Same.refl _) (Nb fun w=>z (S2.inj j i a (by rw[<- w]; exact o1) eo))⟩
     | ow p' =>
      obtain⟨b,e1,o1,r1⟩:=k
      exact⟨b,e1,un.trans o1,r1.mono (Same.refl _) (Nb fun w=>z (S2.inj j i a (by rw[<- w]; exact o1) eo))⟩
  have S3:=Se.grow w
  have S4:=S3.setO (i:=i) ob f0 gb (fun j z=>(Fm z).1 (S2.inj j i a (Fm z).2 eo))
  have es:σ.set i (some (V.ref a)) = σ:=by
   refine ext_getElem? fun k=>?_
   by_cases z:k = i
   ·subst z; rw[Qm (by rw[S.len]; exact hl),ea]
   ·rw[Ty z]
  rw[es,set_set] at S4
  have nc:c ≠ a:=fun z=>by subst z; rw[hc] at ho; cases ho
  refine F.nx _ G' _ H' _ (S4.setO (i:=j) oc (S2.gr.h.free hc) gc fun k z=>?_) hd
  unfold Rb at z
  split at z
  ·cases z; exact nc rfl
  ·obtain⟨_,_,o',ho',_⟩:=S2.fr k c (Fm z).2
   rw[hc] at ho'; cases ho'
theorem Ak6 {i j:Nat} {a:Addr} {d:Gp} {ρ:Bl} {p1 p2:PV} (h1:ρ[j]? = some (.ow p1)) (h2:ρ[i]? = some (.om a p2)) (ne:i ≠ j) (q:d.rt (.tup [p1,p2])):Ah0 i a j d ρ:=⟨p1,p2,h1,h2,ne,q⟩
theorem AkB {i:Nat} {a:Addr} {u:UA} {d:Gp} {ρ:Bl} {ps:List PV} (h:ρ[i]? = some (.om a (.lst ps))) (q:u ρ fun qs=>Acf i a ρ d.nx qs):Ahi i a u d ρ:=⟨⟨ps,h⟩,q⟩
theorem AkX {i:Nat} {a:Addr} {ρ:Bl} {N:Bl->Prop} {q:PV} {ps:List PV} (h:ρ[i]? = some (.om a (.lst ps))) (k:N (ρ.set i (.om a (.lst (ps ++ [q]))))) (hl:ps.length < 100000):Acf i a ρ N [q]:=⟨q,ps,rfl,h,hl,k⟩
theorem AjL {psp:Vh} {i j:Nat} {u0 u2:UE} {d:Gp} {ρ:Bl} {q:PV} (ne:i ≠ j) (h:ρ[i]? = some (.ow q)) (k:u0 ρ fun p=>u2 ρ fun r=>psp p q r fun p1 p2=>d.nx ((ρ.set i (.ow p2)).set j (.ow p1))):Ahd psp i j u0 u2 d ρ:=⟨ne,q,h,k⟩
theorem Al2 {i:Nat} {a:Addr} {u:US} {d:Gp} {ρ:Bl} {ps:List PV} (h1:ρ[i]? = some (.om a (.lst ps))) (q:∀ z,u ⟨flM i a z ps d.nx,d.rt,flM i a z ps d.bk,flM i a z ps d.ct⟩ (ρ.set i (.fl z ps))):Ahe i a u d ρ:=⟨ps,h1,q⟩
end
theorem Tu {α:Type} {R:List α} {x s:α} {i:Nat} (h:(R ++ [x])[i]? = some s):R[i]? = some s\/(i = R.length/\s = x):=by
 by_cases hi:i < R.length
 ·rw[getElem?_append_left hi] at h; exact .inl h
 ·rw[getElem?_append_right (by omega)] at h
  have hz:i - R.length = 0:=by
   have:=(List.getElem?_eq_some_iff.mp h).1
   simp at this; omega
  rw[hz] at h
  simp at h
  exact .inr ⟨by omega,h.symm⟩
inductive JB (S:Nat->Int) (R0 Mk:List Sg):Nat->List Sg->List Jn->Prop
 | nil:JB S R0 Mk 0 R0 []
 | skip {k:Nat} {R:List Sg} {J:List Jn} (h:JB S R0 Mk k R J):JB S R0 Mk (k + 1) R J
 | add {k:Nat} {R:List Sg} {J:List Jn} {s m:Sg} (h:JB S R0 Mk k R J) (hs:s ∈ R) (hm:m ∈ Mk) (hn:¬ (s.1,m.1) ∈ J.map (·.2)):JB S R0 Mk (k + 1) (R ++ [(S (10 + k),s.2.1,0)]) (J ++ [(S (10 + k),s.1,m.1)])
section
variable {S:Nat->Int} {R0 Mk R:List Sg} {J:List Jn} {k:Nat}
theorem JB.len (h:JB S R0 Mk k R J):J.length <= k/\R.length = R0.length + J.length:=by
 induction h with
 | nil=>exact⟨Nat.le_refl _,rfl⟩
 | skip h ih=>exact⟨by omega,ih.2⟩
 | add h hs hm hn ih=>refine⟨by simp; omega,by simp; omega⟩
theorem JB.whole (h:JB S R0 Mk k R J):∀ j ∈ J,∃ i,i < k/\j.1 = S (10 + i):=by
 induction h with
 | nil=>intro j hj; cases hj
 | skip h ih=>intro j hj; obtain⟨i,a,b⟩:=ih j hj; exact⟨i,by omega,b⟩
 | add h hs hm hn ih =>
  rename_i k R J s m
  intro j hj
  rcases mem_append.mp hj with hj | hj
  ·obtain⟨i,a,b⟩:=ih j hj; exact⟨i,by omega,b⟩
  ·rw[mem_singleton.mp hj]; exact⟨k,by omega,rfl⟩
theorem JB.join (h:JB S R0 Mk k R J):∀ j ∈ J,(∃ s ∈ R,∃ u ∈ R,s.1 = j.1/\u.1 = j.2.1/\s.2.1 = u.2.1)/\∃ m ∈ Mk,m.1 = j.2.2:=by
 induction h with
 | nil=>intro j hj; cases hj
 | skip h ih=>exact ih
 | add h hs hm hn ih =>
  rename_i k R J s m
  intro j hj
  rcases mem_append.mp hj with hj | hj
  ·obtain⟨⟨a,ha,b,hb,e⟩,d⟩:=ih j hj
   exact⟨⟨a,mem_append_left _ ha,b,mem_append_left _ hb,e⟩,d⟩
  ·rw[mem_singleton.mp hj]
   exact⟨⟨_,mem_append_right _ mem_cons_self,s,mem_append_left _ hs,rfl,rfl,rfl⟩,m,hm,rfl⟩
theorem Yj {J:List Jn} {w:Jn} {n:Int} (h:¬ w.1 = n):Cl (J ++ [w]) n = Cl J n:=by
 induction J with
 | nil=>show (if w.1 = n then some w.2 else none) = none; rw[if_neg h]
 | cons x r ih =>
  show (if x.1 = n then some x.2 else Cl (r ++ [w]) n) = if x.1 = n then some x.2 else Cl r n
  rw[ih]
theorem Ve (J:List Jn) (n:Int):∀ k,jGo J (k + 1) n = jGo J k (Fn J n)
 | 0=>rfl
 | k + 1=>by
  show Fn J (jGo J (k + 1) n) = Fn J (jGo J k (Fn J n))
  rw[Ve J n k]
theorem Ab8 {J:List Jn} {w:Jn} (hb:∀ j ∈ J,¬ j.2.1 = w.1):∀ (k:Nat) (n:Int),¬ n = w.1->jGo (J ++ [w]) k n = jGo J k n/\¬ jGo J k n = w.1
 | 0,n,h=>⟨rfl,h⟩
 | k + 1,n,h=>by
  obtain⟨e,ne⟩:=Ab8 hb k n h
  show Fn (J ++ [w]) (jGo (J ++ [w]) k n) = Fn J (jGo J k n)/\¬ Fn J (jGo J k n) = w.1
  rw[e]
  unfold Fn
  rw[Yj fun z=>ne z.symm]
  refine⟨rfl,?_⟩
  cases z:Cl J (jGo J k n) with
  | none=>exact ne
  | some m=>exact hb _ (Fx z)
theorem Vf {J:List Jn} {n:Int} {k:Nat} (h:Cl J (jGo J k n) = none):∀ d,jGo J (k + d) n = jGo J k n
 | 0=>rfl
 | d + 1=>by
  show Fn J (jGo J (k + d) n) = _
  rw[Vf h d]
  unfold Fn
  rw[h]
end
structure Da (S:List Sg) (M:List (Int × Int)) (J:List Jn):Prop where
 so:∀ s ∈ S,Ze s
 mo:∀ m ∈ M,0 <= m.1/\0 <= m.2
 nd:(S.map (·.1) ++ Gg M).Nodup
 jo:Zy (kK S ++ kM M) J
 ln:S.length + 2 * M.length <= 60
 jl:J.length <= 7
 mr:∃ s ∈ S,s.2.1 = "mark"
section
variable {S:Nat->Int} {R0 Mk R:List Sg} {J:List Jn} {k x y t:Nat}
end
theorem Tc {kvs:List (Key × V)} {k:Key} {v:V} (h:Cp kvs k = some v):(k,v) ∈ kvs:=by
 unfold Cp at h
 obtain⟨p,h1,h2⟩:=map_eq_some_iff.mp h
 have e0:=List.find?_some h1
 have e:p.1 = k:=of_decide_eq_true e0
 have:p = (k,v):=Prod.ext e h2
 rw[<- this]
 exact List.mem_of_find?_eq_some h1
theorem AdH {M:List (Int × Int)} {p:Key × V} (h:p ∈ kM M):p.2 = .str "open"\/p.2 = .str "shut":=by
 induction M with
 | nil=>cases h
 | cons x r ih =>
  rcases mem_cons.mp h with e | h
  ·rw[e]; exact .inl rfl
  ·rcases mem_cons.mp h with e | h
   ·rw[e]; exact .inr rfl
   ·exact ih h
theorem Zg (U:List Sg) (M:List (Int × Int)) (n:Int):(Cp (kK U ++ kM M) (Sum.inl n)).getD (.str "plain") = .str (Fc U M n):=by
 unfold Fc
 cases e:Cp (kK U ++ kM M) (Sum.inl n) with
 | none=>rfl
 | some v =>
  rcases mem_append.mp (Tc e) with h | h
  ·obtain⟨s,_,z⟩:=mem_map.mp h
   have:V.str s.2.1 = v:=(Prod.mk.inj z).2
   rw[<- this]; rfl
  ·rcases AdH h with z | z
   ·have z:v = .str "open":=z
    rw[z]; rfl
   ·have z:v = .str "shut":=z
    rw[z]; rfl
theorem AmD (U:List Sg) (n:Int):(Cp (kR U) (Sum.inl n)).getD (.int 0) = .int (Bw U n):=by
 unfold Bw
 cases e:Cp (kR U) (Sum.inl n) with
 | none=>rfl
 | some v =>
  obtain⟨s,_,z⟩:=mem_map.mp (Tc e)
  have:V.int s.2.2 = v:=(Prod.mk.inj z).2
  rw[<- this]; rfl
theorem Jk {U:List Sg} {M:List (Int × Int)} {n:Int} {k:Str} (h:(Cp (kK U ++ kM M) (Sum.inl n)).getD (.str "plain") = .str k):Fc U M n = k:=by
 rw[Zg] at h
 exact V.str.inj h
theorem Sw {U:List Sg} (nd:(U.map (·.1)).Nodup) {s:Sg} (h:s ∈ U):Bw U s.1 = s.2.2:=by
 unfold Bw
 have nd':((kR U).map (·.1)).Nodup:=by rw[AbX]; exact Oa nd
 have hm:((Sum.inl s.1,V.int s.2.2):Key × V) ∈ kR U:=mem_map.mpr ⟨s,h,rfl⟩
 rw[Vl nd' hm]
 rfl
theorem Aaz {U:List Sg} {n:Int} (h:¬ n ∈ U.map (·.1)):Bw U n = 0:=by
 have:=AkV h
 rw[AmD] at this
 exact V.int.inj this
theorem AiJ {U:List Sg} {M:List (Int × Int)} {J:List Jn} (b:Da U M J) {n:Int} (h:Fc U M n = "mark"):1 <= Bw U n:=by
 have e:=Zg U M n
 rw[h] at e
 cases z:Cp (kK U ++ kM M) (Sum.inl n) with
 | none =>
  rw[z] at e
  have e':V.str "plain" = V.str "mark":=e
  exact absurd (V.str.inj e') (by decide +kernel)
 | some v =>
  rw[z] at e
  have e':v = .str "mark":=e
  subst e'
  rcases mem_append.mp (Tc z) with w | w
  ·obtain⟨s,hs,q⟩:=mem_map.mp w
   have q1:s.1 = n:=Sum.inl.inj (Prod.mk.inj q).1
   have q2:s.2.1 = "mark":=V.str.inj (Prod.mk.inj q).2
   rw[<- q1,Sw (nodup_append.mp b.nd).1 hs]
   rcases (b.so s hs).rk with ⟨_,r⟩ | ⟨r,_⟩
   ·exact r
   ·exact absurd q2 r
  ·rcases AdH w with q | q
   ·have q:V.str "mark" = .str "open":=q
    exact absurd (V.str.inj q) (by decide +kernel)
   ·have q:V.str "mark" = .str "shut":=q
    exact absurd (V.str.inj q) (by decide +kernel)
def Be (U:List Sg) (M:List (Int × Int)) (n:Int):Bool:=decide (Fc U M n = "mark")
def Gn (mk:Int->Bool) (gs:List (List Int)) (n:Int):List (List Int):=if gs = []\/mk n = false then gs ++ [[n]] else gs.dropLast ++ [gs.getLast?.getD [] ++ [n]]
def grp (mk:Int->Bool) (ts:List Int):List (List Int):=ts.foldl (Gn mk) []
theorem Aa3 (mk:Int->Bool) (ts:List Int) (n:Int):grp mk (ts ++ [n]) = Gn mk (grp mk ts) n:=by simp [grp]
theorem Jw {mk:Int->Bool} {gs:List (List Int)} {n:Int} (h:gs = []\/mk n = false):Gn mk gs n = gs ++ [[n]]:=if_pos h
theorem Gm {mk:Int->Bool} {gs:List (List Int)} {g:List Int} {n:Int} (h:mk n = true):Gn mk (gs ++ [g]) n = gs ++ [g ++ [n]]:=by
 unfold Gn
 rw[if_neg (by rintro (z | z); (simp at z); (rw[h] at z; cases z))]
 simp
theorem Ajk {mk:Int->Bool} (P:List (List Int)->List Int->Prop) (h0:P [] []) (hs:∀ gs ts n,P gs ts->P (Gn mk gs n) (ts ++ [n])) (ts:List Int):P (grp mk ts) ts:=by
 have key:∀ (ts:List Int) (acc:List (List Int)) (pre:List Int),P acc pre->P (ts.foldl (Gn mk) acc) (pre ++ ts):=by
  intro ts
  induction ts with
  | nil=>intro acc pre h; rw[append_nil]; exact h
  | cons n r ih =>
   intro acc pre h
   have:=ih (Gn mk acc n) (pre ++ [n]) (hs acc pre n h)
   rw[append_assoc] at this
   exact this
 exact key ts [] [] h0
structure Aie (mk:Int->Bool) (gs:List (List Int)) (ts:List Int):Prop where
 fl:gs.flatten = ts
 ln:gs.length <= ts.length
 ne:∀ g ∈ gs,∃ n r,g = n :: r/\∀ m ∈ r,mk m = true
 hd:∀ (i:Nat) (g:List Int),gs[i]? = some g->0 < i->∃ n r,g = n :: r/\mk n = false
theorem Dd (mk:Int->Bool) (ts:List Int):Aie mk (grp mk ts) ts:=by
 refine Ajk (Aie mk) ⟨rfl,Nat.le_refl _,(fun g h=>by cases h),(fun i g h=>by simp at h)⟩ (fun gs ts n h=>?_) ts
 by_cases z:gs = []\/mk n = false
 ·rw[Jw z]
  refine⟨by rw[List.flatten_append,h.fl]; rfl,by have:=h.ln; simp; omega,fun g hg=>?_,fun i g e hi=>?_⟩
  ·rcases mem_append.mp hg with hg | hg
   ·exact h.ne g hg
   ·rw[mem_singleton.mp hg]; exact⟨n,[],rfl,(fun m hm=>by cases hm)⟩
  ·rcases Tu e with e | ⟨e1,e2⟩
   ·exact h.hd i g e hi
   ·rcases z with z | z
    ·rw[z] at e1; rw[e1] at hi; exact absurd hi (Nat.lt_irrefl _)
    ·exact⟨n,[],e2,z⟩
 ·rcases eq_nil_or_concat gs with e | ⟨gs',g',rfl⟩
  ·exact absurd (.inl e) z
  ·have hm:mk n = true:=by
    cases w:mk n with
    | true=>rfl
    | false=>exact absurd (.inr w) z
   rw[concat_eq_append] at h z ⊢
   rw[Gm hm]
   obtain⟨a,r,eg,hr⟩:=h.ne g' (mem_append_right _ mem_cons_self)
   refine⟨by rw[<- h.fl]; simp,by have:=h.ln; simp at this ⊢; omega,fun g hg=>?_,fun i g e hi=>?_⟩
   ·rcases mem_append.mp hg with hg | hg
    ·exact h.ne g (mem_append_left _ hg)
    ·rw[mem_singleton.mp hg,eg]
     refine⟨a,r ++ [n],rfl,fun m hm'=>?_⟩
     rcases mem_append.mp hm' with w | w
     ·exact hr m w
     ·rw[mem_singleton.mp w]; exact hm
   ·rcases Tu e with e | ⟨e1,e2⟩
    ·have hlt:=(List.getElem?_eq_some_iff.mp e).1
     exact h.hd i g (by rw[getElem?_append_left hlt]; exact e) hi
    ·obtain⟨n',r',q1,q2⟩:=h.hd i g' (by rw[e1]; simp) hi
     exact⟨n',r' ++ [n],by rw[e2,q1]; rfl,q2⟩
def Rv (H:Hp) (x:V) (g:List Int):Prop:=∃ p,x = .ref p/\H p = some (.lst (g.map V.int))
theorem LAt.monoM {β α:Type} {R R':Hp->β->α->Prop} {H H':Hp} {xs:List β} {ys:List α} (h:LAt R H xs ys) (m:∀ x ∈ xs,∀ y,R H x y->R' H' x y):LAt R' H' xs ys:=⟨h.1,fun i x y e1 e2=>m x (mem_of_getElem? e1) y (h.2 i x y e1 e2)⟩
theorem LAt.lstS {H H':Hp} {xs:List V} {gs:List (List Int)} (h:LAt Rv H xs gs) (s:Same H H'):LAt Rv H' xs gs:=h.mono fun _ _ ⟨p,e,z⟩=>⟨p,e,s _ _ z⟩
theorem LAt.lstC {H H':Hp} {a:Addr} {xs:List V} {gs:List (List Int)} (h:LAt Rv H xs gs) (c:Chg a H H') (n:¬ V.ref a ∈ xs):LAt Rv H' xs gs :=
 h.monoM fun x hx y ⟨p,e,z⟩=>⟨p,e,c _ _ z (by intro w; subst w; rw[e] at hx; exact n hx)⟩
structure LLat (H:Hp) (l:Addr) (xs:List V) (gs:List (List Int)):Prop where
 li:H l = some (.lst xs)
 at':LAt Rv H xs gs
 nd:xs.Nodup
 no:¬ V.ref l ∈ xs
theorem LAt.lstF {H:Hp} {a:Addr} {xs:List V} {gs:List (List Int)} (h:LAt Rv H xs gs) (ha:H a = none):¬ V.ref a ∈ xs:=fun z=>by
 obtain⟨i,hi⟩:=getElem?_of_mem z
 obtain⟨g,_,p,e,hp⟩:=h.get hi
 cases e
 rw[ha] at hp; cases hp
theorem LLat.push {H H2 H3 H4:Hp} {l p:Addr} {xs:List V} {gs:List (List Int)} {n:Int} (h:LLat H l xs gs) (hp:H p = none) (s:Same H H2) (c3:Chg l H2 H3) (e3:H3 l = some (.lst (xs ++ [.ref p]))) (c4:Chg p H3 H4) (e4:H4 p = some (.lst ([] ++ [.int n]))) :
  LLat H4 l (xs ++ [.ref p]) (gs ++ [[n]]):=by
 have nlp:l ≠ p:=Bu h.li hp
 have nf:=h.at'.lstF hp
 refine⟨c4 _ _ e3 nlp,LAt.snoc (((h.at'.lstS s).lstC c3 h.no).lstC c4 nf) ⟨p,rfl,e4⟩,?_,?_⟩
 ·refine nodup_append.mpr ⟨h.nd,by simp,fun x hx y hy e=>?_⟩
  rw[e,mem_singleton.mp hy] at hx
  exact nf hx
 ·intro z
  rcases mem_append.mp z with z | z
  ·exact h.no z
  ·exact nlp (V.ref.inj (mem_singleton.mp z))
theorem LLat.add {H H':Hp} {l p:Addr} {xs:List V} {gs:List (List Int)} {g:List Int} {n:Int} (h:LLat H l (xs ++ [.ref p]) (gs ++ [g])) (c:Chg p H H') (e:H' p = some (.lst (g.map V.int ++ [.int n]))):LLat H' l (xs ++ [.ref p]) (gs ++ [g ++ [n]]):=by
 have nlp:l ≠ p:=fun z=>h.no (by rw[z]; exact mem_append_right _ mem_cons_self)
 obtain⟨n1,_,n3⟩:=nodup_append.mp h.nd
 have np:¬ V.ref p ∈ xs:=fun z=>n3 _ z _ mem_cons_self rfl
 have hl:xs.length = gs.length:=by have:=h.at'.1; simpa using this
 have h':LAt Rv H xs gs:=⟨hl,fun i x y e1 e2=>h.at'.2 i x y (by rw[getElem?_append_left (List.getElem?_eq_some_iff.mp e1).1]; exact e1) (by rw[getElem?_append_left (List.getElem?_eq_some_iff.mp e2).1]; exact e2)⟩
 exact⟨c _ _ h.li nlp,LAt.snoc (h'.lstC c np) ⟨p,rfl,by rw[map_append]; exact e⟩,h.nd,h.no⟩
theorem LLat.last {H:Hp} {l:Addr} {xs:List V} {gs:List (List Int)} (h:LLat H l xs gs) (ne:¬ gs = []):∃ xs' p gs' g,xs = xs' ++ [V.ref p]/\gs = gs' ++ [g]/\H p = some (.lst (g.map V.int)):=by
 rcases eq_nil_or_concat gs with e | ⟨gs',g,rfl⟩
 ·exact absurd e ne
 ·rcases eq_nil_or_concat xs with e | ⟨xs',x,rfl⟩
  ·have:=h.at'.1; rw[e] at this; simp at this
  ·rw[concat_eq_append,concat_eq_append] at h
   have hl:xs'.length = gs'.length:=by have:=h.at'.1; simpa using this
   obtain⟨p,e,hp⟩:=h.at'.2 xs'.length x g (by simp) (by rw[hl]; simp)
   exact⟨xs',p,gs',g,by rw[concat_eq_append,e],concat_eq_append,hp⟩
theorem AaH {ts:List Int} {i:Nat} {x:V} (h:(ts.map V.int)[i]? = some x):∃ n,ts[i]? = some n/\x = .int n:=by
 rw[getElem?_map] at h
 obtain⟨n,h1,h2⟩:=map_eq_some_iff.mp h
 exact⟨n,h1,h2.symm⟩
def opn (J:List Jn):Nat->Int->List Int
 | 0,s=>[s]
 | n + 1,s=>match Cl J s with
  | none=>[s]
  | some m=>opn J n m.1 ++ [m.2]
def opT (J:List Jn) (ts:List Int):List Int:=ts.flatMap (opn J 7)
def EndN (J:List Jn) (n:Nat) (s:Int):Prop:=Cl J (jGo J n s) = none
theorem Fg {J:List Jn} {s:Int} (h:Cl J s = none):∀ n,opn J n s = [s]
 | 0=>rfl
 | n + 1=>by simp [opn,h]
theorem Jc {J:List Jn} {s:Int} {m:Int × Int} (h:Cl J s = some m) (n:Nat):opn J (n + 1) s = opn J n m.1 ++ [m.2]:=by simp [opn,h]
theorem EndN.zero {J:List Jn} {s:Int} (h:EndN J 0 s):Cl J s = none:=h
theorem EndN.step {J:List Jn} {n:Nat} {s:Int} {m:Int × Int} (h:EndN J (n + 1) s) (e:Cl J s = some m):EndN J n m.1:=by
 unfold EndN at h ⊢
 rw[Ve] at h
 have:Fn J s = m.1:=by unfold Fn; rw[e]
 rw[this] at h
 exact h
theorem Xe {kk:List (Key × V)} {J:List Jn} (jo:Zy kk J) (s:Int):EndN J 7 s:=by
 unfold EndN
 cases e:Cl J s with
 | some m=>exact jo.en _ (Fx e)
 | none =>
  have:=Vf (J:=J) (n:=s) (k:=0) e 7
  rw[Nat.zero_add] at this
  rw[this]; exact e
theorem Ol (J:List Jn):∀ (n:Nat) (s:Int),(opn J n s).length <= n + 1
 | 0,s=>by simp [opn]
 | n + 1,s=>by
  unfold opn
  split
  ·simp
  ·rename_i m _
   have:=Ol J n m.1
   rw[length_append]
   simp; omega
theorem Abi (J:List Jn):∀ ts:List Int,(opT J ts).length <= 8 * ts.length
 | []=>by simp [opT]
 | t :: ts=>by
  have h1:=Ol J 7 t
  have h2:=Abi J ts
  have:opT J (t :: ts) = opn J 7 t ++ opT J ts:=by simp [opT]
  rw[this,length_append,length_cons]
  omega
def rkD (U:List Sg):List (Key × PV):=U.map fun s=>(Sum.inl s.1,.int s.2.2)
def ptD (J:List Jn):List (Key × PV):=J.map fun j=>(Sum.inl j.1,.tup [.int j.2.1,.int j.2.2])
theorem Rp {κ:Type} [DecidableEq κ] {kvs:List (κ × PV)} {k:κ} {v:PV} (h:¬ k ∈ kvs.map (·.1)):Lg kvs k v = kvs ++ [(k,v)]:=by
 unfold Lg
 rw[if_neg]
 intro z
 obtain⟨kv,h1,h2⟩:=any_eq_true.mp z
 exact h (mem_map.mpr ⟨kv,h1,of_decide_eq_true h2⟩)
theorem Nr {κ:Type} [DecidableEq κ] (x:κ × PV) (r:List (κ × PV)) (k:κ):Fe (x :: r) k = if x.1 = k then some x.2 else Fe r k:=by
 unfold Fe
 rw[find?_cons]
 by_cases z:x.1 = k
 ·rw[if_pos z,decide_eq_true z]; rfl
 ·rw[if_neg z,decide_eq_false z]
theorem Ajz (U:List Sg) (n:Int):(Fe (rkD U) (.inl n)).getD (.int 0) = .int (Bw U n):=by
 induction U with
 | nil=>rfl
 | cons s r ih =>
  show (Fe ((Sum.inl s.1,PV.int s.2.2) :: rkD r) (Sum.inl n)).getD (.int 0) = _
  rw[Nr]
  have e:Bw (s :: r) n = if s.1 = n then s.2.2 else Bw r n:=by
   unfold Bw
   show AjQ ((Cp ((Sum.inl s.1,V.int s.2.2) :: kR r) (Sum.inl n)).getD (.int 0)) = _
   by_cases z:s.1 = n
   ·rw[if_pos z,Jr (by rw[z])]; rfl
   ·rw[if_neg z,Js (fun w=>z (Sum.inl.inj w))]
  rw[e]
  by_cases z:s.1 = n
  ·rw[if_pos (by rw[z]),if_pos z]; rfl
  ·rw[if_neg (fun w=>z (Sum.inl.inj w)),if_neg z]; exact ih
theorem AiB {U:List Sg} {n:Int} (h:n ∈ U.map (·.1)):Fe (rkD U) (.inl n) = some (.int (Bw U n)):=by
 have e:=Ajz U n
 cases z:Fe (rkD U) (.inl n:Key) with
 | some x=>rw[z] at e; rw[show x = .int (Bw U n) from e]
 | none =>
  exfalso
  unfold Fe at z
  rw[Option.map_eq_none_iff,List.find?_eq_none] at z
  obtain⟨s,hs,e2⟩:=mem_map.mp h
  exact z (Sum.inl s.1,.int s.2.2) (mem_map.mpr ⟨s,hs,rfl⟩) (by simp [e2])
theorem Abq (J:List Jn) (n:Int):Fe (ptD J) (.inl n) = (Cl J n).map fun m=>.tup [.int m.1,.int m.2]:=by
 induction J with
 | nil=>rfl
 | cons j r ih =>
  show Fe ((Sum.inl j.1,PV.tup [.int j.2.1,.int j.2.2]) :: ptD r) (Sum.inl n) = _
  rw[Nr]
  unfold Cl
  by_cases z:j.1 = n
  ·rw[if_pos (by rw[z]),if_pos z]; rfl
  ·rw[if_neg (fun w=>z (Sum.inl.inj w)),if_neg z]; exact ih
theorem Qj {α:Type} {f:α->Int} {l:List α} {n:Int} {g:α->PV} (h:(Sum.inl n:Key) ∈ (l.map fun s=>((Sum.inl (f s),g s):Key × PV)).map (·.1)):n ∈ l.map f:=by
 rw[map_map] at h
 obtain⟨s,hs,e⟩:=mem_map.mp h
 exact mem_map.mpr ⟨s,hs,Sum.inl.inj e⟩
theorem AjG {U:List Sg} {k:Nat} {s:Sg} (nd:(U.map (·.1)).Nodup) (hs:U[k]? = some s):Lg (rkD (U.take k)) (.inl s.1) (.int s.2.2) = rkD (U.take (k + 1)):=by
 rw[Rp (kvs:=rkD (U.take k)) (fun z=>Ju (f:=fun s:Sg=>s.1) nd hs (Qj (f:=fun s:Sg=>s.1) z)),Db hs]
 unfold rkD; rw[map_append]; rfl
structure SortOf (rk:Int->Int) (cm dm:List Int):Prop where
 pw:dm.Pairwise fun a b=>rk a <= rk b
 fl:∀ r:Int,(dm.filter fun d=>decide (rk d = r)) = cm.filter fun d=>decide (rk d = r)
theorem SortOf.perm {rk:Int->Int} {cm dm:List Int} (h:SortOf rk cm dm):dm.Perm cm:=by
 rw[List.perm_iff_count]
 intro a
 have e:=congrArg (List.count a) (h.fl (rk a))
 rwa [List.count_filter (by simp),List.count_filter (by simp)] at e
theorem SortOf.len {rk:Int->Int} {cm dm:List Int} (h:SortOf rk cm dm):dm.length = cm.length:=h.perm.length_eq
def Sf (rk:Int->Int) (m:Int):List Int->List Int
 | []=>[m]
 | x :: r=>if rk m < rk x then m :: x :: r else x :: Sf rk m r
def srt (rk:Int->Int) (ms:List Int):List Int:=ms.foldl (fun a m=>Sf rk m a) []
theorem Aa1 {rk:Int->Int} {m y:Int}:∀ {l:List Int},y ∈ Sf rk m l->y = m\/y ∈ l
 | [],h=>.inl (mem_singleton.mp h)
 | x :: r,h=>by
  unfold Sf at h
  split at h
  ·rcases mem_cons.mp h with e | e
   ·exact .inl e
   ·exact .inr e
  ·rcases mem_cons.mp h with e | e
   ·exact .inr (by rw[e]; exact mem_cons_self)
   ·exact (Aa1 e).imp id (mem_cons_of_mem _)
theorem Abn {rk:Int->Int} {m:Int}:∀ {l:List Int},l.Pairwise (fun a b=>rk a <= rk b)->(Sf rk m l).Pairwise fun a b=>rk a <= rk b
 | [],_=>List.pairwise_singleton _ _
 | x :: r,h=>by
  obtain⟨h1,h2⟩:=List.pairwise_cons.mp h
  unfold Sf
  split
  ·rename_i z
   refine List.pairwise_cons.mpr ⟨fun y hy=>?_,h⟩
   rcases mem_cons.mp hy with e | e
   ·rw[e]; omega
   ·have:=h1 y e; omega
  ·rename_i z
   refine List.pairwise_cons.mpr ⟨fun y hy=>?_,Abn h2⟩
   rcases Aa1 hy with e | e
   ·rw[e]; omega
   ·exact h1 y e
theorem AbP {rk:Int->Int} {m c:Int}:∀ {l:List Int},l.Pairwise (fun a b=>rk a <= rk b)->(Sf rk m l).filter (fun d=>decide (rk d = c)) = l.filter (fun d=>decide (rk d = c)) ++ [m].filter (fun d=>decide (rk d = c))
 | [],_=>rfl
 | x :: r,h=>by
  obtain⟨h1,h2⟩:=List.pairwise_cons.mp h
  unfold Sf
  split
  ·rename_i z
   by_cases q:rk m = c
   ·have e:(x :: r).filter (fun d=>decide (rk d = c)) = []:=List.filter_eq_nil_iff.mpr fun y hy=>by
     have:rk x <= rk y:=by
      rcases mem_cons.mp hy with e | e
      ·rw[e]; omega
      ·exact h1 y e
     simp; omega
    rw[List.filter_cons,if_pos (by simpa using q),e,List.filter_cons,if_pos (by simpa using q)]
    rfl
   ·rw[List.filter_cons,if_neg (by simpa using q),List.filter_cons (x:=m),if_neg (by simpa using q)]
    simp
  ·rw[List.filter_cons,AbP h2,List.filter_cons (x:=x)]
   split <;> simp
theorem AfC (rk:Int->Int) (ms:List Int) (m:Int):srt rk (ms ++ [m]) = Sf rk m (srt rk ms):=by simp [srt]
theorem Jd (rk:Int->Int) (ms:List Int):SortOf rk ms (srt rk ms):=by
 have key:∀ n,SortOf rk (ms.take n) (srt rk (ms.take n)):=by
  intro n
  induction n with
  | zero=>exact⟨Pairwise.nil,fun r=>rfl⟩
  | succ n ih =>
   by_cases h:n < ms.length
   ·rw[Db (getElem?_eq_getElem h),AfC]
    exact⟨Abn ih.pw,fun r=>by rw[AbP ih.pw,ih.fl,filter_append]⟩
   ·rw[List.take_of_length_le (by omega)]
    rw[List.take_of_length_le (by omega)] at ih
    exact ih
 have:=key ms.length
 rwa [take_length] at this
theorem Sa {U:List Sg} {M:List (Int × Int)} {J:List Jn} (bk:Da U M J) {j:Jn} (h:j ∈ J):Be U M j.2.2 = true/\Be U M j.2.1 = false/\Be U M j.1 = false:=by
 have e1:=bk.jo.mr j h
 obtain⟨k,hk,e2,e3⟩:=bk.jo.kd j h
 unfold knd at e1 e2 e3
 have nk:∀ k ∈ joinedK,¬ k = "mark":=by decide +kernel
 exact⟨decide_eq_true (Jk e1),decide_eq_false (by rw[Jk e3]; exact nk k hk),decide_eq_false (by rw[Jk e2]; exact nk k hk)⟩
theorem Vz {U:List Sg} {M:List (Int × Int)} {J:List Jn} (bk:Da U M J):∀ (n:Nat) (s:Int),∃ c cm,opn J n s = c :: cm/\(∀ m ∈ cm,Be U M m = true)/\(cm = []->c = s/\(0 < n->Cl J s = none))/\(cm ≠ []->Be U M c = false)
 | 0,s=>⟨s,[],rfl,(fun m h=>by cases h),fun _=>⟨rfl,fun h=>by omega⟩,fun h=>absurd rfl h⟩
 | n + 1,s=>by
  cases e:Cl J s with
  | none=>exact⟨s,[],by rw[Fg e],(fun m h=>by cases h),fun _=>⟨rfl,fun _=>rfl⟩,fun h=>absurd rfl h⟩
  | some m =>
   obtain⟨c,cm,e1,h1,h2,h3⟩:=Vz bk n m.1
   obtain⟨q1,q2,q3⟩:=Sa bk (Fx e)
   refine⟨c,cm ++ [m.2],by rw[Jc e,e1]; rfl,fun x hx=>?_,fun z=>by simp at z,fun _=>?_⟩
   ·rcases mem_append.mp hx with w | w
    ·exact h1 x w
    ·rw[mem_singleton.mp w]; exact q1
   ·by_cases z:cm = []
    ·rw[(h2 z).1]; exact q2
    ·exact h3 z
theorem SortOf.uniq {rk:Int->Int} {cm:List Int}:∀ {d1 d2:List Int},(∀ r:Int,(d1.filter fun d=>decide (rk d = r)) = d2.filter fun d=>decide (rk d = r))->d1.Pairwise (fun a b=>rk a <= rk b)->d2.Pairwise (fun a b=>rk a <= rk b)->d1 = d2
 | [],[],_,_,_=>rfl
 | [],b :: l,h,_,_=>by have:=h (rk b); rw[List.filter_cons,if_pos (by simp)] at this; cases this
 | a :: l,[],h,_,_=>by have:=h (rk a); rw[List.filter_cons,if_pos (by simp)] at this; cases this
 | a :: l,b :: k,h,h1,h2=>by
  obtain⟨p1,q1⟩:=List.pairwise_cons.mp h1
  obtain⟨p2,q2⟩:=List.pairwise_cons.mp h2
  have ea:a ∈ (b :: k).filter fun d=>decide (rk d = rk a):=by rw[<- h (rk a)]; exact mem_filter.mpr ⟨mem_cons_self,by simp⟩
  have eb:b ∈ (a :: l).filter fun d=>decide (rk d = rk b):=by rw[h (rk b)]; exact mem_filter.mpr ⟨mem_cons_self,by simp⟩
  have l1:rk b <= rk a:=by
   rcases mem_cons.mp (mem_filter.mp ea).1 with e | e
   ·rw[e]; omega
   ·exact p2 a e
  have l2:rk a <= rk b:=by
   rcases mem_cons.mp (mem_filter.mp eb).1 with e | e
   ·rw[e]; omega
   ·exact p1 b e
  have e:=h (rk a)
  rw[List.filter_cons,if_pos (by simp),List.filter_cons,if_pos (by simp; omega)] at e
  obtain⟨e1,e2⟩:=List.cons.inj e
  subst e1
  rw[SortOf.uniq (cm:=cm) (fun r=>?_) q1 q2]
  have e3:=h r
  by_cases z:rk a = r
  ·rw[List.filter_cons,if_pos (by simpa using z),List.filter_cons,if_pos (by simpa using z)] at e3
   exact (List.cons.inj e3).2
  ·rw[List.filter_cons,if_neg (by simpa using z),List.filter_cons,if_neg (by simpa using z)] at e3
   exact e3
theorem Al9 {rk:Int->Int} {ms ds:List Int} (h:Rl rk ms ds):ds = srt rk ms:=SortOf.uniq (cm:=ms) (rk:=rk) (fun r=>by rw[h.fl,(Jd rk ms).fl]) h.up (Jd rk ms).pw
theorem Tr {rk:Int->Int} {ms ds:List Int} (h:ds.Pairwise fun a b=>rk a <= rk b) (f:∀ r:Int,(ds.filter fun d=>decide (rk d = r)) = ms.filter fun d=>decide (rk d = r)):srt rk ms = ds:=SortOf.uniq (cm:=ms) (fun r=>by rw[(Jd rk ms).fl,f]) (Jd rk ms).pw h
theorem srt_mem {rk:Int->Int} {ms:List Int} {m:Int}:m ∈ srt rk ms ↔ m ∈ ms:=(Jd rk ms).perm.mem_iff
theorem Gc (rk:Int->Int) (ms:List Int):(srt rk ms).length = ms.length:=(Jd rk ms).len
theorem Amd {rk:Int->Int} {ms:List Int} (h:ms.Pairwise fun a b=>rk a <= rk b):srt rk ms = ms:=Tr h fun _=>rfl
theorem Afm {rk:Int->Int} {ms ns:List Int} (f:∀ r:Int,(ms.filter fun d=>decide (rk d = r)) = ns.filter fun d=>decide (rk d = r)):srt rk ms = srt rk ns:=Tr (Jd rk ns).pw fun r=>by rw[(Jd rk ns).fl,f]
theorem Ry {rk:Int->Int} {h:Int} {r:List Int} (l:∀ m ∈ r,rk h <= rk m):srt rk (h :: r) = h :: srt rk r:=by
 refine Tr (List.pairwise_cons.mpr ⟨fun m hm=>l m (srt_mem.mp hm),(Jd rk r).pw⟩) fun k=>?_
 rw[List.filter_cons,List.filter_cons,(Jd rk r).fl]
theorem Qv {U:List Sg} {M:List (Int × Int)} {J:List Jn} (b:Da U M J) {n:Int} (h:Be U M n = false):Bw U n = 0:=by
 by_cases z:n ∈ U.map (·.1)
 ·obtain⟨s,hs,rfl⟩:=mem_map.mp z
  rw[Sw (nodup_append.mp b.nd).1 hs]
  rcases (b.so s hs).rk with ⟨k,_⟩ | ⟨_,r⟩
  ·have:=of_decide_eq_false h
   rw[Jk (Um b.nd hs)] at this
   exact absurd k this
  ·exact r
 ·exact Aaz z
theorem Oi {U:List Sg} {M:List (Int × Int)} {J:List Jn} (b:Da U M J) {n:Int} (h:Be U M n = true):1 <= Bw U n:=AiJ b (of_decide_eq_true h)
theorem AjS {U:List Sg} {M:List (Int × Int)} {J:List Jn} (b:Da U M J) (n:Int):Be U M n = decide (Bw U n > 0):=by
 cases h:Be U M n with
 | true=>have:=Oi b h; rw[decide_eq_true (by omega)]
 | false=>rw[Qv b h]; rfl
structure GW (mk:Int->Bool) (gs:List (List Int)):Prop where
 ne:∀ g ∈ gs,∃ n r,g = n :: r/\∀ m ∈ r,mk m = true
 hd:∀ (i:Nat) (g:List Int),gs[i]? = some g->0 < i->∃ n r,g = n :: r/\mk n = false
theorem Su (mk:Int->Bool) (ts:List Int):GW mk (grp mk ts):=⟨(Dd mk ts).ne,(Dd mk ts).hd⟩
theorem Lh {mk:Int->Bool} {gs:List (List Int)}:∀ (r:List Int) (g:List Int),(∀ m ∈ r,mk m = true)->r.foldl (Gn mk) (gs ++ [g]) = gs ++ [g ++ r]
 | [],g,_=>by simp
 | m :: r,g,h=>by
  rw[foldl_cons,Gm (h m mem_cons_self),Lh r _ fun x hx=>h x (mem_cons_of_mem _ hx)]
  simp
theorem Ww {mk:Int->Bool} {gs:List (List Int)} (w:GW mk gs):grp mk gs.flatten = gs:=by
 have key:∀ n,n <= gs.length->grp mk (gs.take n).flatten = gs.take n:=by
  intro n
  induction n with
  | zero=>intro _; rfl
  | succ n ih =>
   intro hn
   have e:=getElem?_eq_getElem (show n < gs.length by omega)
   obtain⟨h,r,eg,hr⟩:=w.ne _ (mem_of_getElem? e)
   rw[Db e,List.flatten_append]
   unfold grp at ih ⊢
   rw[List.foldl_append,ih (by omega)]
   show List.foldl (Gn mk) (gs.take n) ([gs[n]].flatten) = _
   rw[show [gs[n]].flatten = gs[n] by simp,eg,foldl_cons,Jw,Lh r [h] hr]
   ·rfl
   ·by_cases z:n = 0
    ·left; rw[z]; rfl
    ·right
     obtain⟨h',r',eg',q⟩:=w.hd n _ e (by omega)
     rw[eg] at eg'; cases eg'
     exact q
 have:=key gs.length (Nat.le_refl _)
 rwa [take_length] at this
theorem GW.map {mk:Int->Bool} {gs:List (List Int)} (w:GW mk gs) {f:List Int->List Int} (h:∀ n r,(∀ m ∈ r,mk m = true)->∃ n' r',f (n :: r) = n' :: r'/\(∀ m ∈ r',mk m = true)/\(mk n = false->mk n' = false)):GW mk (gs.map f):=by
 refine⟨fun g hg=>?_,fun i g e hi=>?_⟩
 ·obtain⟨g0,h0,rfl⟩:=mem_map.mp hg
  obtain⟨n,r,rfl,hr⟩:=w.ne g0 h0
  obtain⟨n',r',e,q,_⟩:=h n r hr
  exact⟨n',r',e,q⟩
 ·rw[getElem?_map] at e
  obtain⟨g0,e0,rfl⟩:=map_eq_some_iff.mp e
  obtain⟨n,r,rfl,hr⟩:=w.ne g0 (mem_of_getElem? e0)
  obtain⟨n0,r0,e2,q2⟩:=w.hd i _ e0 hi
  cases e2
  obtain⟨n',r',e,_,q⟩:=h n r hr
  exact⟨n',r',e,q q2⟩
theorem Xl {mk:Int->Bool} {ts:List Int} {f:List Int->List Int} (h:∀ n r,(∀ m ∈ r,mk m = true)->∃ n' r',f (n :: r) = n' :: r'/\(∀ m ∈ r',mk m = true)/\(mk n = false->mk n' = false)):grp mk ((grp mk ts).flatMap f) = (grp mk ts).map f:=by
 rw[List.flatMap_def]
 exact Ww ((Su mk ts).map h)
section
variable {U:List Sg} {M:List (Int × Int)} {J:List Jn}
theorem Op (bk:Da U M J) {m:Int} (h:Be U M m = true) (n:Nat):opn J n m = [m]:=by
 refine Fg ?_ n
 cases e:Cl J m with
 | none=>rfl
 | some p =>
  have:=(Sa bk (Fx e)).2.2
  rw[h] at this; cases this
theorem Nx (bk:Da U M J):∀ {r:List Int},(∀ m ∈ r,Be U M m = true)->opT J r = r
 | [],_=>rfl
 | m :: r,h=>by
  show opn J 7 m ++ opT J r = _
  rw[Op bk (h m mem_cons_self),Nx bk fun x hx=>h x (mem_cons_of_mem _ hx)]; rfl
theorem Fw (J:List Jn) (t:Int) (ts:List Int):opT J (t :: ts) = opn J 7 t ++ opT J ts:=by simp [opT]
theorem La (J:List Jn) (a b:List Int):opT J (a ++ b) = opT J a ++ opT J b:=by simp [opT]
theorem Aac (J:List Jn) (gs:List (List Int)):opT J gs.flatten = (gs.map (opT J)).flatten:=by
 induction gs with
 | nil=>rfl
 | cons g gs ih=>rw[flatten_cons,La,ih]; rfl
theorem opW (bk:Da U M J) {n:Int} {r:List Int} (hr:∀ m ∈ r,Be U M m = true):∃ c cm,opT J (n :: r) = c :: cm/\opT J (n :: r) = opn J 7 n ++ r/\(∀ m ∈ cm,Be U M m = true)/\Be U M c = Be U M n:=by
 obtain⟨c,cm,e,h1,h2,h3⟩:=Vz bk 7 n
 rw[Fw,Nx bk hr,e]
 refine⟨c,cm ++ r,rfl,rfl,fun m hm=>?_,?_⟩
 ·rcases mem_append.mp hm with z | z
  ·exact h1 m z
  ·exact hr m z
 ·by_cases z:cm = []
  ·rw[(h2 z).1]
  ·rw[h3 z]
   cases w:Be U M n with
   | false=>rfl
   | true=>rw[Op bk w] at e; cases e; exact absurd rfl z
def Ca (U:List Sg) (J:List Jn) (w:List Int):List Int:=srt (Bw U) (opT J w)
def lng (U:List Sg) (M:List (Int × Int)) (J:List Jn) (ts:List Int):List Int:=(grp (Be U M) ts).flatMap (Ca U J)
def jnd (J:List Jn) (a b:Int):Option Int:=(J.find? fun j=>decide (j.2.1 = a/\j.2.2 = b)).map (·.1)
def shS (J:List Jn) (rk:Int->Int) (x:Int × List Int) (m:Int):Int × List Int:=match jnd J x.1 m with
 | some w=>if x.2.any (fun k=>decide (rk k = rk m)) = true then (x.1,x.2 ++ [m]) else (w,x.2)
 | none=>(x.1,x.2 ++ [m])
def shW (J:List Jn) (rk:Int->Int):List Int->List Int
 | []=>[]
 | h :: r=>(r.foldl (shS J rk) (h,[])).1 :: (r.foldl (shS J rk) (h,[])).2
def sht (U:List Sg) (M:List (Int × Int)) (J:List Jn) (ts:List Int):List Int:=(grp (Be U M) ts).flatMap fun w=>shW J (Bw U) (Ca U J w)
def Fit (U:List Sg) (M:List (Int × Int)) (J:List Jn) (ts:List Int):Prop:=∀ w ∈ grp (Be U M) ts,(opT J w).length < 64
def AgR:PSp:=fun ps P=>∃ U M J ts,ps = [.bk U M J,.lst (map .int ts)]/\Da U M J/\ts.length <= 300/\Fit U M J ts/\P (.lst (map .int (lng U M J ts)))
def AdP:PSp:=fun ps P=>∃ U M J ts,ps = [.bk U M J,.lst (map .int ts)]/\Da U M J/\ts.length <= 300/\Fit U M J ts/\P (.lst (map .int (sht U M J ts)))
theorem Aky (mk:Int->Bool) (ts:List Int) {w:List Int} (h:w ∈ grp mk ts):w.length <= ts.length:=by
 have key:∀ (gs:List (List Int)),w ∈ gs->w.length <= gs.flatten.length:=by
  intro gs
  induction gs with
  | nil=>intro h; cases h
  | cons g gs ih =>
   intro h
   rw[flatten_cons,length_append]
   rcases mem_cons.mp h with e | e
   ·rw[e]; omega
   ·have:=ih e; omega
 have:=key _ h
 rwa [(Dd mk ts).fl] at this
theorem Qr (bk:Da U M J) {n:Int} {r:List Int} (hr:∀ m ∈ r,Be U M m = true):∃ n' r',Ca U J (n :: r) = n' :: r'/\(∀ m ∈ r',Be U M m = true)/\Be U M n' = Be U M n:=by
 obtain⟨c,cm,e,_,h1,h2⟩:=opW bk (n:=n) hr
 unfold Ca
 rw[e]
 cases z:Be U M n with
 | false =>
  rw[z] at h2
  rw[Ry fun m hm=>by rw[Qv bk h2]; have:=Oi bk (h1 m hm); omega]
  exact⟨c,_,rfl,fun m hm=>h1 m (srt_mem.mp hm),h2⟩
 | true =>
  rw[z] at h2
  have all:∀ m ∈ srt (Bw U) (c :: cm),Be U M m = true:=fun m hm=>by
   rcases mem_cons.mp (srt_mem.mp hm) with e | e
   ·rw[e]; exact h2
   ·exact h1 m e
  have l:=Gc (Bw U) (c :: cm)
  generalize srt (Bw U) (c :: cm) = x at all l
  cases x with
  | nil=>cases l
  | cons n' r'=>exact⟨n',r',rfl,fun m hm=>all m (mem_cons_of_mem _ hm),all n' mem_cons_self⟩
theorem Ft (bk:Da U M J) (ts:List Int):grp (Be U M) (lng U M J ts) = (grp (Be U M) ts).map (Ca U J) :=
 Xl fun n r hr=>by
  obtain⟨n',r',e,h1,h2⟩:=Qr bk (n:=n) hr
  exact⟨n',r',e,h1,fun z=>h2.trans z⟩
end
theorem AmI (J:List Jn) (a b:Int):AaY J a b = match jnd J a b with
 | some w=>PV.int w
 | none=>PV.non:=by
 unfold AaY jnd
 induction J with
 | nil=>rfl
 | cons j r ih =>
  show vP ((Cp (([Sum.inl j.2.1,Sum.inl j.2.2],V.int j.1) :: kW r) [Sum.inl a,Sum.inl b]).getD .non) = _
  rw[find?_cons]
  by_cases z:j.2.1 = a/\j.2.2 = b
  ·rw[Jr (by rw[z.1,z.2]),decide_eq_true z]; rfl
  ·rw[Js (fun e=>z (by simpa using e)),decide_eq_false z]; exact ih
theorem Nd {α:Type} (l:List α) (x:α):L2.atI (l ++ [x]) (-1) = some x:=by
 unfold L2.atI ixN
 rw[if_neg (by omega),if_pos (by simp; omega)]
 show (l ++ [x])[_]? = _
 rw[show (-1 + ((l ++ [x]).length:Int)).toNat = l.length by simp; omega]
 simp
theorem Agv {rk:Int->Int} {l:List Int} {k m:Int} (pw:(l ++ [k]).Pairwise fun a b=>rk a <= rk b) (le:rk k <= rk m):(l ++ [k]).any (fun x=>decide (rk x = rk m)) = decide (rk k = rk m):=by
 rw[List.any_append]
 by_cases e:rk k = rk m
 ·simp [e]
 ·have:l.any (fun x=>decide (rk x = rk m)) = false:=by
   rw[List.any_eq_false]
   intro x hx
   have:=(List.pairwise_append.mp pw).2.2 x hx k mem_cons_self
   simp; omega
  rw[this]; simp [e]
theorem Qs (J:List Jn) (rk:Int->Int):∀ (r:List Int) (b:Int) (kp:List Int),∃ q,(r.foldl (shS J rk) (b,kp)).2 = kp ++ q/\q.Sublist r
 | [],b,kp=>⟨[],by simp,Sublist.refl _⟩
 | m :: r,b,kp=>by
  rw[foldl_cons]
  have keep:shS J rk (b,kp) m = (b,kp ++ [m])\/∃ w,shS J rk (b,kp) m = (w,kp):=by
   unfold shS
   cases jnd J b m with
   | none=>exact .inl rfl
   | some w =>
    show (if kp.any (fun k=>decide (rk k = rk m)) = true then (b,kp ++ [m]) else (w,kp)) = (b,kp ++ [m])\/_
    split
    ·exact .inl rfl
    ·exact .inr ⟨w,rfl⟩
  rcases keep with e | ⟨w,e⟩
  ·rw[e]
   obtain⟨q,e2,s⟩:=Qs J rk r b (kp ++ [m])
   exact⟨m :: q,by rw[e2]; simp,s.cons₂ m⟩
  ·rw[e]
   obtain⟨q,e2,s⟩:=Qs J rk r w kp
   exact⟨q,e2,s.cons m⟩
theorem Ab1 (J:List Jn) (rk:Int->Int) (w:List Int):(shW J rk w).length <= w.length:=by
 cases w with
 | nil=>exact Nat.le_refl _
 | cons h r =>
  obtain⟨q,e,s⟩:=Qs J rk r h []
  show (_ :: _).length <= _
  rw[e,length_cons,length_cons]
  have:=s.length_le
  simpa using this
theorem AfU {J:List Jn} {rk:Int->Int} {r:List Int} {h:Int} {k:Nat} {m:Int} (e:r[k]? = some m):(r.take (k + 1)).foldl (shS J rk) (h,[]) = shS J rk ((r.take k).foldl (shS J rk) (h,[])) m:=by
 rw[Db e,List.foldl_append]; rfl
theorem Us {f:List Int->List Int} {n:Nat}:∀ {gs:List (List Int)},(∀ g ∈ gs,(f g).length <= n)->(gs.flatMap f).length <= n * gs.length
 | [],_=>by simp
 | g :: gs,h=>by
  have h1:=h g mem_cons_self
  have h2:=Us (gs:=gs) fun x hx=>h x (mem_cons_of_mem _ hx)
  rw[List.flatMap_cons,length_append,length_cons,Nat.mul_add]
  omega
theorem Yo {f:List Int->List Int} {gs:List (List Int)} {k:Nat} {g:List Int} (e:gs[k]? = some g):(gs.take (k + 1)).flatMap f = (gs.take k).flatMap f ++ f g:=by
 rw[Db e,List.flatMap_append]; simp
section
variable {U:List Sg} {M:List (Int × Int)} {J:List Jn}
theorem AaX:∀ {n:Nat} {s:Int},EndN J n s->opn J (n + 1) s = opn J n s
 | 0,s,h=>by rw[Fg h.zero,Fg h.zero]
 | n + 1,s,h=>by
  cases e:Cl J s with
  | none=>rw[Fg e,Fg e]
  | some m=>rw[Jc e,Jc e,AaX (h.step e)]
theorem Vu:∀ {n:Nat} {s:Int},EndN J n s->∃ c cm,opn J n s = c :: cm/\Cl J c = none
 | 0,s,h=>⟨s,[],rfl,h.zero⟩
 | n + 1,s,h=>by
  cases e:Cl J s with
  | none=>exact⟨s,[],by rw[Fg e],e⟩
  | some m =>
   obtain⟨c,cm,e1,e2⟩:=Vu (h.step e)
   exact⟨c,cm ++ [m.2],by rw[Jc e,e1]; rfl,e2⟩
theorem AaA (bk:Da U M J) {w a m:Int} (e:Cl J w = some (a,m)):opn J 7 w = opn J 7 a ++ [m]:=by
 rw[Jc e,AaX ((Xe bk.jo w).step e)]
theorem Ag5 (bk:Da U M J) {a m w:Int} (e:jnd J a m = some w):Cl J w = some (a,m):=by
 unfold jnd at e
 obtain⟨j,h1,h2⟩:=map_eq_some_iff.mp e
 have h3:decide (j.2.1 = a/\j.2.2 = m) = true:=(List.find?_eq_some_iff_append.mp h1).1
 have h4:=Yi bk.jo.nw (List.mem_of_find?_eq_some h1)
 rw[<- h2,h4,<- (of_decide_eq_true h3).1,<- (of_decide_eq_true h3).2]
theorem Ab3 (bk:Da U M J) {w:Int} {p:Int × Int} (e:Cl J w = some p):Fc U M w = Fc U M p.1:=by
 obtain⟨k,_,e2,e3⟩:=bk.jo.kd _ (Fx e)
 unfold knd at e2 e3
 rw[Jk e2,Jk e3]
theorem AdK (bk:Da U M J):∀ {n:Nat} {s c:Int} {cm:List Int},opn J n s = c :: cm->Fc U M c = Fc U M s
 | 0,s,c,cm,h=>by cases h; rfl
 | n + 1,s,c,cm,h=>by
  cases e:Cl J s with
  | none=>rw[Fg e] at h; cases h; rfl
  | some m =>
   rw[Jc e] at h
   cases z:opn J n m.1 with
   | nil =>
    obtain⟨_,_,q,_⟩:=Vz bk n m.1
    rw[q] at z; cases z
   | cons c' cm' =>
    rw[z] at h
    cases h
    rw[AdK bk z,Ab3 bk e]
theorem Acd (bk:Da U M J) {m:Int} (h:Be U M m = true):Cl J m = none:=by
 cases e:Cl J m with
 | none=>rfl
 | some p =>
  have:=(Sa bk (Fx e)).2.2
  rw[h] at this; cases this
structure LW (U:List Sg) (M:List (Int × Int)) (J:List Jn) (h:Int) (r:List Int):Prop where
 no:Cl J h = none
 ms:∀ m ∈ r,Be U M m = true
 pw:(h :: r).Pairwise fun a b=>Bw U a <= Bw U b
theorem LW.op (bk:Da U M J) {h:Int} {r:List Int} (l:LW U M J h r):opT J (h :: r) = h :: r:=by
 rw[Fw,Fg l.no,Nx bk l.ms]; rfl
theorem LW.lng (bk:Da U M J) {h:Int} {r:List Int} (l:LW U M J h r):Ca U J (h :: r) = h :: r:=by
 unfold Ca; rw[l.op bk]; exact Amd l.pw
theorem Xd (bk:Da U M J) {n:Int} {r:List Int} (hr:∀ m ∈ r,Be U M m = true):∃ h q,Ca U J (n :: r) = h :: q/\LW U M J h q/\Be U M h = Be U M n/\(Be U M n = false->Fc U M h = Fc U M n):=by
 obtain⟨h,q,e,h1,h2⟩:=Qr bk (n:=n) hr
 have pw:(Ca U J (n :: r)).Pairwise fun a b=>Bw U a <= Bw U b:=(Jd _ _).pw
 rw[e] at pw
 refine⟨h,q,e,⟨?_,h1,pw⟩,h2,fun z=>?_⟩
 ·cases z:Be U M n with
  | true=>exact Acd bk (h2.trans z)
  | false =>
   obtain⟨c,cm,e1,e2⟩:=Vu (Xe bk.jo n)
   obtain⟨c',cm',w1,w2,w3,w4⟩:=opW bk (n:=n) hr
   unfold Ca at e
   rw[w1,Ry fun m hm=>by rw[Qv bk (w4.trans z)]; have:=Oi bk (w3 m hm); omega] at e
   rw[w2,e1] at w1
   cases w1
   cases e
   exact e2
 ·obtain⟨c',cm',w1,w2,w3,w4⟩:=opW bk (n:=n) hr
  unfold Ca at e
  rw[w1,Ry fun m hm=>by rw[Qv bk (w4.trans z)]; have:=Oi bk (w3 m hm); omega] at e
  obtain⟨c,cm,e1,e2⟩:=Vu (Xe bk.jo n)
  rw[w2,e1] at w1
  cases w1
  cases e
  exact AdK bk e1
theorem Uu (bk:Da U M J):∀ (r:List Int) (b:Int) (kp:List Int),∃ tk q,(r.foldl (shS J (Bw U)) (b,kp)).2 = kp ++ q/\q.Sublist r/\opn J 7 (r.foldl (shS J (Bw U)) (b,kp)).1 = opn J 7 b ++ tk/\Fc U M (r.foldl (shS J (Bw U)) (b,kp)).1 = Fc U M b /\
  ((∀ k:Int,(tk ++ q).filter (fun d=>decide (Bw U d = k)) = r.filter fun d=>decide (Bw U d = k))/\∀ x ∈ kp,∀ y ∈ tk,Bw U x ≠ Bw U y)
 | [],b,kp=>⟨[],[],by simp,Sublist.refl _,by simp,rfl,fun k=>rfl,fun x _ y hy=>by cases hy⟩
 | m :: r,b,kp=>by
  rw[foldl_cons]
  have kept:shS J (Bw U) (b,kp) m = (b,kp ++ [m])->∃ tk q,(r.foldl (shS J (Bw U)) (shS J (Bw U) (b,kp) m)).2 = kp ++ q/\q.Sublist (m :: r)/\opn J 7 (r.foldl (shS J (Bw U)) (shS J (Bw U) (b,kp) m)).1 = opn J 7 b ++ tk/\Fc U M (r.foldl (shS J (Bw U)) (shS J (Bw U) (b,kp) m)).1 = Fc U M b /\
    ((∀ k:Int,(tk ++ q).filter (fun d=>decide (Bw U d = k)) = (m :: r).filter fun d=>decide (Bw U d = k))/\∀ x ∈ kp,∀ y ∈ tk,Bw U x ≠ Bw U y):=fun e=>by
   rw[e]
   obtain⟨tk,q,e1,s,e2,e3,f,d⟩:=Uu bk r b (kp ++ [m])
   refine⟨tk,m :: q,by rw[e1]; simp,s.cons₂ m,e2,e3,fun k=>?_,fun x hx=>d x (mem_append_left _ hx)⟩
   have fk:=f k
   rw[filter_append] at fk
   rw[filter_append,List.filter_cons,List.filter_cons (x:=m),<- fk]
   by_cases z:Bw U m = k
   ·have t0:tk.filter (fun d=>decide (Bw U d = k)) = []:=List.filter_eq_nil_iff.mpr fun y hy=>by
     have:=d m (mem_append_right _ mem_cons_self) y hy
     simp; omega
    rw[t0]; simp [z]
   ·simp [z]
  cases e:jnd J b m with
  | none=>exact kept (by unfold shS; rw[e])
  | some w =>
   by_cases z:kp.any (fun k=>decide (Bw U k = Bw U m)) = true
   ·exact kept (by unfold shS; rw[e]; show (if _ then _ else _) = _; rw[if_pos z])
   ·have es:shS J (Bw U) (b,kp) m = (w,kp):=by unfold shS; rw[e]; show (if _ then _ else _) = _; rw[if_neg z]
    rw[es]
    obtain⟨tk,q,e1,s,e2,e3,f,d⟩:=Uu bk r w kp
    have ep:=Ag5 bk e
    refine⟨m :: tk,q,e1,s.cons m,by rw[e2,AaA bk ep]; simp,by rw[e3,Ab3 bk ep],fun k=>?_,fun x hx y hy=>?_⟩
    ·rw[cons_append,List.filter_cons,List.filter_cons (x:=m),f k]
    ·rcases mem_cons.mp hy with w | w
     ·intro q
      apply z
      rw[any_eq_true]
      exact⟨x,hx,by rw[<- w]; simpa using q⟩
     ·exact d x hx y w
theorem Aab (bk:Da U M J) {h:Int} {r:List Int} (l:LW U M J h r):∃ b q,shW J (Bw U) (h :: r) = b :: q/\q.Sublist r/\Fc U M b = Fc U M h/\Ca U J (b :: q) = h :: r:=by
 obtain⟨tk,q,e1,s,e2,e3,f,_⟩:=Uu bk r h []
 rw[nil_append] at e1
 refine⟨_,q,by show _ :: _ = _; rw[e1],s,e3,?_⟩
 unfold Ca
 rw[Fw,Nx bk fun m hm=>l.ms m (s.subset hm),e2,Fg l.no]
 refine Tr l.pw fun k=>?_
 show (h :: r).filter _ = (h :: (tk ++ q)).filter _
 rw[List.filter_cons,List.filter_cons,f k]
theorem AhU {a b:Int} (h:Fc U M a = Fc U M b):Be U M a = Be U M b:=by unfold Be; rw[h]
def shL (U:List Sg) (J:List Jn) (w:List Int):List Int:=shW J (Bw U) (Ca U J w)
def knW (U:List Sg) (M:List (Int × Int)):List Int->Str
 | []=>"plain"
 | n :: _=>if Be U M n = true then "plain" else Fc U M n
structure WF (U:List Sg) (M:List (Int × Int)) (J:List Jn) (w:List Int):Prop where
 ll:Ca U J (Ca U J w) = Ca U J w
 ls:Ca U J (shL U J w) = Ca U J w
 sl:shL U J (Ca U J w) = shL U J w
 ss:shL U J (shL U J w) = shL U J w
 le:(shL U J w).length <= (Ca U J w).length
 lo:w.length <= (Ca U J w).length
 kl:knW U M (Ca U J w) = knW U M w
 ks:knW U M (shL U J w) = knW U M w
theorem wf (bk:Da U M J) {n:Int} {r:List Int} (hr:∀ m ∈ r,Be U M m = true):WF U M J (n :: r):=by
 obtain⟨h,q,e,l,k1,k2⟩:=Xd bk (n:=n) hr
 obtain⟨b,p,e2,s,k3,e3⟩:=Aab bk l
 have ll:Ca U J (Ca U J (n :: r)) = Ca U J (n :: r):=by rw[e]; exact l.lng bk
 have ls:Ca U J (shL U J (n :: r)) = Ca U J (n :: r):=by unfold shL; rw[e,e2]; exact e3
 have kh:knW U M (h :: q) = knW U M (n :: r):=by
  show (if Be U M h = true then _ else _) = if Be U M n = true then _ else _
  rw[k1]
  cases z:Be U M n with
  | true=>rfl
  | false=>exact k2 z
 refine⟨ll,ls,by unfold shL; rw[ll],by unfold shL; unfold shL at ls; rw[ls],Ab1 _ _ _,?_,by rw[e]; exact kh,?_⟩
 ·unfold Ca
  rw[Gc]
  obtain⟨c,cm,w1,w2,_⟩:=opW bk (n:=n) hr
  obtain⟨c',cm',e',_⟩:=Vz bk 7 n
  rw[w2,e']
  simp
 ·rw[<- kh]
  unfold shL
  rw[e,e2]
  show (if Be U M b = true then _ else _) = if Be U M h = true then _ else _
  rw[AhU k3,k3]
theorem Abt (bk:Da U M J) (ts:List Int):grp (Be U M) (sht U M J ts) = (grp (Be U M) ts).map (shL U J) :=
 Xl fun n r hr=>by
  obtain⟨h,q,e,l,k1,k2⟩:=Xd bk (n:=n) hr
  obtain⟨b,p,e2,s,k3,e3⟩:=Aab bk l
  exact⟨b,p,by show shW _ _ (Ca U J (n :: r)) = _; rw[e,e2],fun m hm=>l.ms m (s.subset hm),fun z=>by rw[AhU k3,k1]; exact z⟩
theorem Sx (bk:Da U M J) {ts w:List Int} (h:w ∈ grp (Be U M) ts):WF U M J w:=by
 obtain⟨n,r,rfl,hr⟩:=(Dd (Be U M) ts).ne w h
 exact wf bk hr
theorem Zz {f:List Int->List Int} {g:List Int->List Int} {gs:List (List Int)} (h:∀ w ∈ gs,f (g w) = f w):(gs.map g).flatMap f = gs.flatMap f:=by
 rw[List.flatMap_def,List.flatMap_def,map_map]
 congr 1
 exact List.map_congr_left fun w hw=>h w hw
theorem Abz (bk:Da U M J) (ts:List Int):lng U M J (lng U M J ts) = lng U M J ts:=by
 show (grp _ (lng U M J ts)).flatMap _ = _
 rw[Ft bk,List.flatMap_def,map_map]
 show _ = (grp _ ts).flatMap _
 rw[List.flatMap_def]
 congr 1
 exact List.map_congr_left fun w hw=>(Sx bk hw).ll
theorem Xp (bk:Da U M J) (ts:List Int):lng U M J (sht U M J ts) = lng U M J ts:=by
 show (grp _ (sht U M J ts)).flatMap _ = _
 rw[Abt bk,List.flatMap_def,map_map]
 show _ = (grp _ ts).flatMap _
 rw[List.flatMap_def]
 congr 1
 exact List.map_congr_left fun w hw=>(Sx bk hw).ls
theorem Ri {f g:List Int->List Int}:∀ {gs:List (List Int)},(∀ w ∈ gs,(f w).length <= (g w).length)->(gs.flatMap f).length <= (gs.flatMap g).length
 | [],_=>Nat.le_refl _
 | w :: gs,h=>by
  rw[List.flatMap_cons,List.flatMap_cons,length_append,length_append]
  exact Nat.add_le_add (h w mem_cons_self) (Ri fun x hx=>h x (mem_cons_of_mem _ hx))
theorem Ad0 (bk:Da U M J) (ts:List Int):(sht U M J ts).length <= (lng U M J ts).length:=Ri fun _ hw=>(Sx bk hw).le
theorem Wi (bk:Da U M J) (ts:List Int):ts.length <= (lng U M J ts).length:=by
 have:=Ri (f:=id) (g:=Ca U J) (gs:=grp (Be U M) ts) fun w hw=>(Sx bk hw).lo
 rw[List.flatMap_id,(Dd (Be U M) ts).fl] at this
 exact this
theorem Ab5 (U:List Sg) (M:List (Int × Int)) (J:List Jn) (ts:List Int):(lng U M J ts).length = (opT J ts).length:=by
 have h1:opT J ts = (grp (Be U M) ts).flatMap (opT J):=by
  rw[List.flatMap_def,<- Aac,(Dd (Be U M) ts).fl]
 rw[h1]
 apply Nat.le_antisymm
 ·exact Ri fun w _=>by unfold Ca; rw[Gc]; exact Nat.le_refl _
 ·exact Ri fun w _=>by unfold Ca; rw[Gc]; exact Nat.le_refl _
theorem Ai7 (bk:Da U M J) {n:Int} {r:List Int} (hr:∀ m ∈ r,Be U M m = true):opT J (Ca U J (n :: r)) = Ca U J (n :: r):=by
 obtain⟨h,q,e,l,_⟩:=Xd bk (n:=n) hr
 rw[e]; exact l.op bk
theorem Fit.lng (bk:Da U M J) {ts:List Int} (f:Fit U M J ts):Fit U M J (lng U M J ts):=fun w hw=>by
 rw[Ft bk] at hw
 obtain⟨g,hg,rfl⟩:=mem_map.mp hw
 have h1:=f g hg
 obtain⟨n,r,rfl,hr⟩:=(Dd (Be U M) ts).ne g hg
 rw[Ai7 bk hr]
 unfold Ca; rw[Gc]; exact h1
theorem Fit.sht (bk:Da U M J) {ts:List Int} (f:Fit U M J ts):Fit U M J (sht U M J ts):=fun w hw=>by
 rw[Abt bk] at hw
 obtain⟨g,hg,rfl⟩:=mem_map.mp hw
 have h1:=f g hg
 have h2:=congrArg length (Sx bk hg).ls
 unfold Ca at h2
 rw[Gc,Gc] at h2
 omega
end
theorem AgV {α:Type} (xs:List α) (lo hi:Option Int):(Fo xs lo hi).length <= xs.length:=by
 unfold Fo; rw[length_take,length_drop]; omega
section
variable {U:List Sg} {M:List (Int × Int)} {J:List Jn}
theorem Ajg (bk:Da U M J) (ts:List Int):grp (Be U M) (opT J ts) = (grp (Be U M) ts).map (opT J):=by
 have h:=Xl (mk:=Be U M) (ts:=ts) (f:=opT J) fun n r hr=>by
  obtain⟨c,cm,e,_,h1,h2⟩:=opW bk (n:=n) hr
  exact⟨c,cm,e,h1,fun z=>h2.trans z⟩
 rwa [List.flatMap_def,<- Aac,(Dd (Be U M) ts).fl] at h
theorem Agw (bk:Da U M J) {n:Int} {r:List Int} (hr:∀ m ∈ r,Be U M m = true):opT J (opT J (n :: r)) = opT J (n :: r):=by
 obtain⟨c,cm,e,e2,h1,h2⟩:=opW bk (n:=n) hr
 obtain⟨c',cm',e3,e4⟩:=Vu (Xe bk.jo n)
 rw[e] at e2 ⊢
 rw[e3] at e2
 cases e2
 rw[Fw,Fg e4,Nx bk h1]
 rfl
theorem Abj (bk:Da U M J) (ts:List Int):lng U M J (opT J ts) = lng U M J ts:=by
 show (grp _ (opT J ts)).flatMap _ = (grp _ ts).flatMap _
 rw[Ajg bk]
 refine Zz fun w hw=>?_
 obtain⟨n,r,rfl,hr⟩:=(Dd (Be U M) ts).ne w hw
 unfold Ca; rw[Agw bk hr]
theorem Anu {n:Int} (h:Bw U n > 0):n ∈ U.map (·.1):=by
 by_cases z:n ∈ U.map (·.1)
 ·exact z
 ·rw[Aaz z] at h; omega
end
section
variable {U:List Sg} {M:List (Int × Int)} {J:List Jn}
end
theorem Ai0 {α:Type} (x:α) (l:List α):Fo (x :: l) none (some 1) = [x]:=by
 unfold Fo
 rw[show (some (1:Int)) = some ((1:Nat):Int) from rfl,HT.sIx_nat,HT.sIx_none]
 simp
section
variable {U:List Sg} {M:List (Int × Int)} {J:List Jn}
end
theorem Lz {α:Type} (xs:List α) (p:Nat):Fo xs none (some (p:Int)) = xs.take p:=by
 unfold Fo
 rw[HT.sIx_nat,HT.sIx_none]
 simp
theorem Ui {α:Type} (xs:List α) (p:Nat):Fo xs (some (p:Int)) none = xs.drop p:=by
 unfold Fo
 rw[HT.sIx_nat,HT.sIx_none]
 by_cases h:p <= xs.length
 ·rw[Nat.min_eq_left h]
  exact List.take_of_length_le (by rw[length_drop]; omega)
 ·rw[Nat.min_eq_right (by omega),List.drop_eq_nil_of_le (by omega)]
  simp; omega
theorem Ajn {mk:Int->Bool} {x y:Int} (hx:mk x = true) (hy:mk y = true) (a b:List Int):∃ pre g t post,grp mk (a ++ x :: y :: b) = pre ++ (g ++ x :: y :: t) :: post/\grp mk (a ++ y :: x :: b) = pre ++ (g ++ y :: x :: t) :: post:=by
 have Nq:∃ pre g,∀ u v:Int,mk u = true->mk v = true->Gn mk (Gn mk (grp mk a) u) v = pre ++ [g ++ [u,v]]:=by
  rcases eq_nil_or_concat (grp mk a) with e | ⟨pre,g,e⟩
  ·refine⟨[],[],fun u v hu hv=>?_⟩
   rw[e,Jw (.inl rfl)]
   exact Gm (gs:=[]) hv
  ·rw[concat_eq_append] at e
   refine⟨pre,g,fun u v hu hv=>?_⟩
   rw[e,Gm hu,Gm hv,append_assoc]; rfl
 obtain⟨pre,g,st⟩:=Nq
 have go:∀ (b:List Int) (t:List Int) (post:List (List Int)),∃ t' post',b.foldl (Gn mk) (pre ++ (g ++ x :: y :: t) :: post) = pre ++ (g ++ x :: y :: t') :: post'/\b.foldl (Gn mk) (pre ++ (g ++ y :: x :: t) :: post) = pre ++ (g ++ y :: x :: t') :: post':=by
  intro b
  induction b with
  | nil=>intro t post; exact⟨t,post,rfl,rfl⟩
  | cons m b ih =>
   intro t post
   rw[foldl_cons,foldl_cons]
   cases hm:mk m with
   | false =>
    obtain⟨t',post',e1,e2⟩:=ih t (post ++ [[m]])
    refine⟨t',post',?_,?_⟩
    ·rw[Jw (.inr hm),<- e1]; simp
    ·rw[Jw (.inr hm),<- e2]; simp
   | true =>
    rcases eq_nil_or_concat post with e | ⟨q,l,e⟩
    ·subst e
     obtain⟨t',post',e1,e2⟩:=ih (t ++ [m]) []
     refine⟨t',post',?_,?_⟩
     ·rw[Gm hm,<- e1]; simp
     ·rw[Gm hm,<- e2]; simp
    ·rw[concat_eq_append] at e
     subst e
     obtain⟨t',post',e1,e2⟩:=ih t (q ++ [l ++ [m]])
     refine⟨t',post',?_,?_⟩
     ·rw[show pre ++ (g ++ x :: y :: t) :: (q ++ [l]) = (pre ++ (g ++ x :: y :: t) :: q) ++ [l] by simp,Gm hm,<- e1]; simp
     ·rw[show pre ++ (g ++ y :: x :: t) :: (q ++ [l]) = (pre ++ (g ++ y :: x :: t) :: q) ++ [l] by simp,Gm hm,<- e2]; simp
 obtain⟨t,post,e1,e2⟩:=go b [] []
 refine⟨pre,g,t,post,?_,?_⟩
 ·unfold grp
  rw[List.foldl_append,foldl_cons,foldl_cons]
  show b.foldl (Gn mk) (Gn mk (Gn mk (grp mk a) x) y) = _
  rw[st x y hx hy]; exact e1
 ·unfold grp
  rw[List.foldl_append,foldl_cons,foldl_cons]
  show b.foldl (Gn mk) (Gn mk (Gn mk (grp mk a) y) x) = _
  rw[st y x hy hx]; exact e2
section
variable {U:List Sg} {M:List (Int × Int)} {J:List Jn}
inductive Stp (U:List Sg) (J:List Jn):List Int->List Int->Prop where
 | op {a b:List Int} {s x y:Int} (e:Cl J s = some (x,y)):Stp U J (a ++ s :: b) (a ++ x :: y :: b)
 | jn {a b:List Int} {s x y:Int} (e:Cl J s = some (x,y)):Stp U J (a ++ x :: y :: b) (a ++ s :: b)
 | tu {a b:List Int} {x y:Int} (hx:Bw U x > 0) (hy:Bw U y > 0) (ne:Bw U x ≠ Bw U y):Stp U J (a ++ x :: y :: b) (a ++ y :: x :: b)
theorem Zt (bk:Da U M J) {x:Int} (h:Bw U x > 0):Be U M x = true:=by rw[AjS bk]; exact decide_eq_true h
theorem Zv (bk:Da U M J) {a b:List Int} {s x y:Int} (e:Cl J s = some (x,y)):opT J (a ++ s :: b) = opT J (a ++ x :: y :: b):=by
 have hy:=(Sa bk (Fx e)).1
 rw[La,La,Fw,Fw,Fw,AaA bk e,Op bk hy,append_assoc]
theorem Yu (bk:Da U M J) {ts us:List Int} (h:opT J ts = opT J us):lng U M J ts = lng U M J us:=by
 rw[<- Abj bk ts,h,Abj bk us]
theorem AgQ (bk:Da U M J) {a b:List Int} {x y:Int} (hx:Be U M x = true) (hy:Be U M y = true) (ne:Bw U x ≠ Bw U y):lng U M J (a ++ x :: y :: b) = lng U M J (a ++ y :: x :: b):=by
 obtain⟨pre,g,t,post,e1,e2⟩:=Ajn hx hy a b
 unfold lng
 rw[e1,e2,List.flatMap_append,List.flatMap_append,List.flatMap_cons,List.flatMap_cons]
 congr 2
 unfold Ca
 refine Afm fun r=>?_
 rw[La,La,Fw,Fw,Fw,Fw,Op bk hx,Op bk hy]
 simp only [filter_append,List.filter_cons,List.filter_nil]
 by_cases z1:Bw U x = r
 ·have z2:¬ Bw U y = r:=fun z=>ne (z1.trans z.symm)
  simp [z1,z2]
 ·simp [z1]
theorem Stp.lng (bk:Da U M J) {ts us:List Int} (h:Stp U J ts us):My.lng U M J us = My.lng U M J ts:=by
 cases h with
 | op e=>exact Yu bk (Zv bk e).symm
 | jn e=>exact Yu bk (Zv bk e)
 | tu hx hy ne=>exact (AgQ bk (Zt bk hx) (Zt bk hy) ne).symm
end
structure T2 (sg:List Int) (U:List Sg):Prop where
 at':∀ (k:Nat) (s:Sg),U[k]? = some s->sg[k]? = some s.1/\s.2.1 ∈ toldK/\Oc s.2.1 s.2.2
 wd:∀ (k:Nat) (s:Sg),U[k]? = some s->k < 8->toldK[k]? = some s.2.1
structure K2 (S:Nat->Int) (R0:List Sg):Prop where
 inj:∀ i j,i < 6->j < 6->S (10 + i) = S (10 + j)->i = j
 ne:∀ s ∈ R0,∀ i,i < 6->¬ s.1 = S (10 + i)
 nd:(R0.map (·.1)).Nodup
 ok:∀ s ∈ R0,s.2.1 ∈ joinedK/\s.2.2 = 0
section
variable {S:Nat->Int} {R0 Mk R:List Sg} {J:List Jn} {k:Nat}
theorem JB.row2 (h:JB S R0 Mk k R J):∀ s ∈ R,s ∈ R0\/∃ i,i < k/\s.1 = S (10 + i):=by
 induction h with
 | nil=>intro s hs; exact .inl hs
 | skip h ih =>
  intro s hs
  rcases ih s hs with z | ⟨i,a,b⟩
  ·exact .inl z
  ·exact .inr ⟨i,by omega,b⟩
 | add h hs hm hn ih =>
  rename_i k R J s m
  intro u hu
  rcases mem_append.mp hu with hu | hu
  ·rcases ih u hu with z | ⟨i,a,b⟩
   ·exact .inl z
   ·exact .inr ⟨i,by omega,b⟩
  ·rw[mem_singleton.mp hu]; exact .inr ⟨k,by omega,rfl⟩
theorem JB.kind2 (h:JB S R0 Mk k R J) (hB:K2 S R0):∀ s ∈ R,s.2.1 ∈ joinedK/\s.2.2 = 0:=by
 induction h with
 | nil=>exact hB.ok
 | skip h ih=>exact ih
 | add h hs hm hn ih =>
  intro u hu
  rcases mem_append.mp hu with hu | hu
  ·exact ih u hu
  ·rw[mem_singleton.mp hu]; exact⟨(ih _ hs).1,rfl⟩
theorem JB.old2 (h:JB S R0 Mk k R J) (hk:k < 6) (hB:K2 S R0):∀ u ∈ R,¬ u.1 = S (10 + k):=fun u hu e=>by
 rcases h.row2 u hu with z | ⟨i,a,b⟩
 ·exact hB.ne u z k hk e
 ·rw[b] at e
  have:=hB.inj i k (by omega) hk e
  omega
theorem JB.nodup2 (h:JB S R0 Mk k R J) (hk:k <= 6) (hB:K2 S R0):(R.map (·.1)).Nodup/\(J.map (·.1)).Nodup/\(J.map (·.2)).Nodup:=by
 induction h with
 | nil=>exact⟨hB.nd,nodup_nil,nodup_nil⟩
 | skip h ih=>exact ih (by omega)
 | add h hs hm hn ih =>
  rename_i k R J s m
  obtain⟨a,b,c⟩:=ih (by omega)
  refine⟨?_,?_,?_⟩
  ·rw[map_append]
   refine nodup_append.mpr ⟨a,by simp,fun x hx y hy e=>?_⟩
   obtain⟨u,hu,rfl⟩:=mem_map.mp hx
   have e2:y = S (10 + k):=by simpa using hy
   exact h.old2 (by omega) hB u hu (e.trans e2)
  ·rw[map_append]
   refine nodup_append.mpr ⟨b,by simp,fun x hx y hy e=>?_⟩
   obtain⟨u,hu,rfl⟩:=mem_map.mp hx
   obtain⟨i,h1,h3⟩:=h.whole u hu
   have e2:y = S (10 + k):=by simpa using hy
   rw[h3,e2] at e
   have:=hB.inj i k (by omega) (by omega) e
   omega
  ·rw[map_append]
   refine nodup_append.mpr ⟨c,by simp,fun x hx y hy e=>?_⟩
   have e2:y = (s.1,m.1):=by simpa using hy
   rw[<- e2,<- e] at hn
   exact hn hx
theorem JB.ends2 (h:JB S R0 Mk k R J) (hk:k <= 6) (hB:K2 S R0):∀ s ∈ R,Cl J (jGo J k s.1) = none:=by
 induction h with
 | nil=>intro s hs; rfl
 | skip h ih =>
  intro s hs
  have z:=ih (by omega) s hs
  rename_i k R J
  show Cl J (Fn J (jGo J k s.1)) = none
  unfold Fn
  rw[z]; exact z
 | add h hs hm hn ih =>
  rename_i k R J s m
  have ih:=ih (by omega)
  have old:=h.old2 (by omega) hB
  have hb:∀ j ∈ J,¬ j.2.1 = ((S (10 + k),s.1,m.1):Jn).1:=fun j hj=>by
   obtain⟨⟨_,_,u,hu,_,e,_⟩,_⟩:=h.join j hj
   rw[<- e]; exact old u hu
  have one:∀ u ∈ R,Cl (J ++ [(S (10 + k),s.1,m.1)]) (jGo (J ++ [(S (10 + k),s.1,m.1)]) k u.1) = none:=fun u hu=>by
   obtain⟨e,ne⟩:=Ab8 hb k u.1 (old u hu)
   rw[e,Yj fun z=>ne z.symm]
   exact ih u hu
  intro u hu
  rcases mem_append.mp hu with hu | hu
  ·show Cl _ (Fn _ (jGo _ k u.1)) = none
   unfold Fn
   rw[one u hu]; exact one u hu
  ·rw[mem_singleton.mp hu]
   rw[Ve]
   have hw:¬ S (10 + k) ∈ J.map (·.1):=fun z=>by
    obtain⟨j,hj,e⟩:=mem_map.mp z
    obtain⟨⟨v,hv,_,_,e2,_,_⟩,_⟩:=h.join j hj
    exact old v hv (e2.trans e)
   have st:Fn (J ++ [(S (10 + k),s.1,m.1)]) (S (10 + k)) = s.1:=by
    unfold Fn
    have:∀ J':List Jn,¬ S (10 + k) ∈ J'.map (·.1)->Cl (J' ++ [(S (10 + k),s.1,m.1)]) (S (10 + k)) = some (s.1,m.1):=by
     intro J'
     induction J' with
     | nil=>intro _; show (if S (10 + k) = S (10 + k) then _ else _) = _; rw[if_pos rfl]
     | cons x r ih2 =>
      intro hx
      show (if x.1 = S (10 + k) then some x.2 else Cl (r ++ _) _) = _
      rw[if_neg fun z=>hx (by rw[<- z]; exact mem_cons_self)]
      exact ih2 fun z=>hx (mem_cons_of_mem _ z)
    rw[this J hw]
   show Cl _ (jGo _ k (Fn _ (S (10 + k)))) = none
   rw[st]
   exact one s hs
theorem JB.ends27 (h:JB S R0 Mk k R J) (hk:k <= 6) (hB:K2 S R0):∀ j ∈ J,Cl J (jGo J 7 j.1) = none:=by
 intro j hj
 obtain⟨⟨s,hs,_,_,e,_,_⟩,_⟩:=h.join j hj
 have z:=h.ends2 hk hB s hs
 rw[e] at z
 have e7:jGo J 7 j.1 = jGo J k j.1:=by
  have e:=Vf z (7 - k)
  rw[show k + (7 - k) = 7 by omega] at e
  exact e
 rw[e7]; exact z
end
structure S28 (f:Nat->Int):Prop where
 nn:∀ i,0 <= f i
 inj:∀ i j,i < 28->j < 28->f i = f j->i = j
def bs4:List Str:=["fore","back","num","blank"]
theorem Zx:∀ k ∈ bs4,k ∈ joinedK/\k ∈ toldK/\¬ k = "mark"/\¬ k = "plain":=by decide +kernel
theorem AcS:∀ k ∈ joinedK,¬ k = "plain"->k ∈ bs4:=by decide +kernel
def r0G (f:Nat->Int) (U:List Sg):List Sg:=(U.filter fun (s:Sg)=>decide (s.2.1 ∈ bs4)).map (fun (s:Sg)=>((s.1,s.2.1,0):Sg)) ++ ([(f 24,"plain",0),(f 25,"plain",0)]:List Sg)
def Nn (U:List Sg):List Sg:=U.filter fun (s:Sg)=>decide (s.2.1 = "mark")
def upG (U R:List Sg) (n:Nat):List Sg:=U ++ (R.drop n).filter fun (s:Sg)=>decide (¬ s.2.1 = "plain")
def mtG (f:Nat->Int) (y:Nat):List (Int × Int):=[(f 14,f 15),(f 16,f 17)].take y
section
variable {f:Nat->Int} {U R:List Sg} {J:List Jn} {k y:Nat}
theorem T2.ix (h:T2 ((range 28).map f) U) (ul:U.length = 14):∀ s ∈ U,(∃ i,i < 14/\s.1 = f i)/\s.2.1 ∈ toldK/\Oc s.2.1 s.2.2:=fun s hs=>by
 obtain⟨i,hi⟩:=getElem?_of_mem hs
 have li:=(List.getElem?_eq_some_iff.mp hi).1
 obtain⟨a,b,c⟩:=h.at' i s hi
 rw[getElem?_map,getElem?_range (by omega)] at a
 exact⟨⟨i,by omega,(Option.some.inj a).symm⟩,b,c⟩
theorem T2.nd (h:T2 ((range 28).map f) U) (ul:U.length = 14) (hf:S28 f):(U.map (·.1)).Nodup:=by
 refine Nm fun i j x h1 h2=>?_
 rw[getElem?_map] at h1 h2
 obtain⟨s1,e1,z1⟩:=map_eq_some_iff.mp h1
 obtain⟨s2,e2,z2⟩:=map_eq_some_iff.mp h2
 have l1:=(List.getElem?_eq_some_iff.mp e1).1
 have l2:=(List.getElem?_eq_some_iff.mp e2).1
 have a1:=(h.at' i s1 e1).1
 have a2:=(h.at' j s2 e2).1
 rw[getElem?_map,getElem?_range (by omega)] at a1 a2
 exact hf.inj i j (by omega) (by omega) (by rw[Option.some.inj a1,Option.some.inj a2,z1,z2])
theorem Rx (h:T2 ((range 28).map f) U) (ul:U.length = 14) (hf:S28 f):K2 (fun i=>f (i + 8)) (r0G f U) where
 inj:=fun i j hi hj e=>by have:=hf.inj (10 + i + 8) (10 + j + 8) (by omega) (by omega) e; omega
 ne:=fun s hs i hi e=>by
  have e':s.1 = f (10 + i + 8):=e
  rcases mem_append.mp hs with hs | hs
  ·obtain⟨u,hu,rfl⟩:=mem_map.mp hs
   obtain⟨⟨a,h1,h2⟩,_⟩:=h.ix ul u (mem_filter.mp hu).1
   have:=hf.inj a (10 + i + 8) (by omega) (by omega) (by rw[<- h2]; exact e')
   omega
  ·simp only [mem_cons,not_mem_nil,or_false] at hs
   rcases hs with rfl | rfl
   ·have:=hf.inj 24 (10 + i + 8) (by omega) (by omega) e'; omega
   ·have:=hf.inj 25 (10 + i + 8) (by omega) (by omega) e'; omega
 nd:=by
  unfold r0G
  rw[map_append,map_map]
  refine nodup_append.mpr ⟨?_,?_,fun x hx z hz e=>?_⟩
  ·exact Nodup.sublist (Sublist.map (fun s:Sg=>s.1) List.filter_sublist) (h.nd ul hf)
  ·refine nodup_cons.mpr ⟨fun z=>?_,nodup_cons.mpr ⟨(fun z=>by cases z),nodup_nil⟩⟩
   have:=hf.inj 24 25 (by omega) (by omega) (mem_singleton.mp z)
   omega
  ·obtain⟨u,hu,rfl⟩:=mem_map.mp hx
   obtain⟨⟨a,h1,h2⟩,_⟩:=h.ix ul u (mem_filter.mp hu).1
   have hz':z = f 24\/z = f 25:=by simpa using hz
   have e':f a = z:=by rw[<- h2]; exact e
   rcases hz' with rfl | rfl
   ·have:=hf.inj a 24 (by omega) (by omega) e'; omega
   ·have:=hf.inj a 25 (by omega) (by omega) e'; omega
 ok:=fun s hs=>by
  rcases mem_append.mp hs with hs | hs
  ·obtain⟨u,hu,rfl⟩:=mem_map.mp hs
   exact⟨(Zx _ (of_decide_eq_true (mem_filter.mp hu).2)).1,rfl⟩
  ·simp only [mem_cons,not_mem_nil,or_false] at hs
   have:("plain" : Str) ∈ joinedK:=by decide +kernel
   rcases hs with rfl | rfl <;> exact⟨this,rfl⟩
abbrev JG (f:Nat->Int) (U:List Sg) (k:Nat) (R:List Sg) (J:List Jn):Prop:=JB (fun i=>f (i + 8)) (r0G f U) (Nn U) k R J
theorem Uc (h:JG f U k R J):∃ X,R = r0G f U ++ X/\∀ s ∈ X,∃ i,i < k/\s.1 = f (18 + i):=by
 induction h with
 | nil=>exact⟨[],by simp,fun s h=>by cases h⟩
 | skip h ih=>obtain⟨X,e,hx⟩:=ih; exact⟨X,e,fun s hs=>let ⟨i,a,b⟩:=hx s hs; ⟨i,by omega,b⟩⟩
 | add h hs hm hn ih =>
  rename_i k R J s m
  obtain⟨X,e,hx⟩:=ih
  refine⟨X ++ [(f (10 + k + 8),s.2.1,0)],by rw[e,append_assoc],fun u hu=>?_⟩
  rcases mem_append.mp hu with hu | hu
  ·obtain⟨i,a,b⟩:=hx u hu; exact⟨i,by omega,b⟩
  ·rw[mem_singleton.mp hu]; exact⟨k,by omega,by show f (10 + k + 8) = f (18 + k); congr 1; omega⟩
theorem Acw {X:List Sg} (e:R = r0G f U ++ X):upG U R (r0G f U).length = U ++ X.filter fun (s:Sg)=>decide (¬ s.2.1 = "plain"):=by
 unfold upG; rw[e,List.drop_append,drop_of_length_le (Nat.le_refl _),Nat.sub_self]; rfl
theorem AeY (h:JG f U k R J) (hk:k <= 6) (ht:T2 ((range 28).map f) U) (ul:U.length = 14) (hf:S28 f):∀ s ∈ R,(¬ s.2.1 = "plain"/\∃ r,(s.1,s.2.1,r) ∈ upG U R (r0G f U).length)\/(s.2.1 = "plain"/\∀ u ∈ upG U R (r0G f U).length,¬ u.1 = s.1):=by
 intro s hs
 obtain⟨X,e,hx⟩:=Uc h
 have nd:=(h.nodup2 hk (Rx ht ul hf)).1
 rw[Acw e]
 by_cases z:s.2.1 = "plain"
 ·refine .inr ⟨z,fun u hu e2=>?_⟩
  rcases mem_append.mp hu with hu | hu
  ·obtain⟨⟨a,h1,h2⟩,h3,_⟩:=ht.ix ul u hu
   rw[e] at hs
   rcases mem_append.mp hs with hs | hs
   ·rcases mem_append.mp hs with hs | hs
    ·obtain⟨v,hv,rfl⟩:=mem_map.mp hs
     exact (Zx _ (of_decide_eq_true (mem_filter.mp hv).2)).2.2.2 z
    ·have hs':s.1 = f 24\/s.1 = f 25:=by
      simp only [mem_cons,not_mem_nil,or_false] at hs
      rcases hs with rfl | rfl
      ·exact .inl rfl
      ·exact .inr rfl
     rcases hs' with q | q
     ·have:=hf.inj a 24 (by omega) (by omega) (by rw[<- h2,e2,q]); omega
     ·have:=hf.inj a 25 (by omega) (by omega) (by rw[<- h2,e2,q]); omega
   ·obtain⟨i,a1,a2⟩:=hx s hs
    have:=hf.inj a (18 + i) (by omega) (by omega) (by rw[<- h2,e2,a2]); omega
  ·obtain⟨hu1,hu2⟩:=mem_filter.mp hu
   have hu3:u ∈ R:=by rw[e]; exact mem_append_right _ hu1
   have:u = s:=by
    obtain⟨i,hi⟩:=getElem?_of_mem hu3
    obtain⟨j,hj⟩:=getElem?_of_mem hs
    have q1:(R.map (·.1))[i]? = some s.1:=by rw[getElem?_map,hi]; exact congrArg some e2
    have q2:(R.map (·.1))[j]? = some s.1:=by rw[getElem?_map,hj]; rfl
    have:i = j:=by
     rcases Nat.lt_trichotomy i j with c | c | c
     ·exact absurd (mem_of_getElem? (by rw[getElem?_take,if_pos c]; exact q1)) (Rs nd q2)
     ·exact c
     ·exact absurd (mem_of_getElem? (by rw[getElem?_take,if_pos c]; exact q2)) (Rs nd q1)
    subst this
    rw[hi] at hj
    exact Option.some.inj hj
   subst this
   exact of_decide_eq_true hu2 z
 ·refine .inl ⟨z,?_⟩
  rw[e] at hs
  rcases mem_append.mp hs with hs | hs
  ·rcases mem_append.mp hs with hs | hs
   ·obtain⟨v,hv,rfl⟩:=mem_map.mp hs
    exact⟨v.2.2,mem_append_left _ (mem_filter.mp hv).1⟩
   ·simp only [mem_cons,not_mem_nil,or_false] at hs
    rcases hs with rfl | rfl <;> exact absurd rfl z
  ·exact⟨s.2.2,mem_append_right _ (mem_filter.mpr ⟨hs,decide_eq_true z⟩)⟩
theorem Wa (h:JG f U k R J) (hk:k <= 6) (ht:T2 ((range 28).map f) U) (ul:U.length = 14) (hf:S28 f):((upG U R (r0G f U).length).map (·.1)).Nodup/\∀ s ∈ upG U R (r0G f U).length,(∃ i,(i < 14\/(18 <= i/\i < 24))/\s.1 = f i)/\s.2.1 ∈ toldK/\Oc s.2.1 s.2.2:=by
 obtain⟨X,e,hx⟩:=Uc h
 have nd:=(h.nodup2 hk (Rx ht ul hf)).1
 have kd:=h.kind2 (Rx ht ul hf)
 rw[Acw e]
 refine⟨?_,fun s hs=>?_⟩
 ·rw[map_append]
  refine nodup_append.mpr ⟨ht.nd ul hf,?_,fun x hx' z hz e2=>?_⟩
  ·rw[e,map_append] at nd
   exact Nodup.sublist (Sublist.map (fun s:Sg=>s.1) List.filter_sublist) (nodup_append.mp nd).2.1
  ·obtain⟨u,hu,rfl⟩:=mem_map.mp hx'
   obtain⟨v,hv,rfl⟩:=mem_map.mp hz
   obtain⟨⟨a,h1,h2⟩,_⟩:=ht.ix ul u hu
   obtain⟨i,a1,a2⟩:=hx v (mem_filter.mp hv).1
   have:=hf.inj a (18 + i) (by omega) (by omega) (by rw[<- h2,e2,a2])
   omega
 ·rcases mem_append.mp hs with hs | hs
  ·obtain⟨⟨a,h1,h2⟩,h3⟩:=ht.ix ul s hs
   exact⟨⟨a,.inl h1,h2⟩,h3⟩
  ·obtain⟨hs1,hs2⟩:=mem_filter.mp hs
   obtain⟨i,a1,a2⟩:=hx s hs1
   have k1:=kd s (by rw[e]; exact mem_append_right _ hs1)
   have k2:=AcS _ k1.1 (of_decide_eq_true hs2)
   have k3:=Zx _ k2
   exact⟨⟨18 + i,.inr ⟨by omega,by omega⟩,a2⟩,k3.2.1,.inr ⟨k3.2.2.1,k1.2⟩⟩
theorem Za (f:Nat->Int) (y:Nat):∀ n ∈ Gg (mtG f y),∃ j,14 <= j/\j < 18/\n = f j:=fun n hn=>by
 have:n ∈ Gg [(f 14,f 15),(f 16,f 17)]:=by
  unfold mtG at hn
  have e:=Uq ([(f 14,f 15),(f 16,f 17)].take y) ([(f 14,f 15),(f 16,f 17)].drop y)
  rw[take_append_drop] at e
  rw[e]; exact mem_append_left _ hn
 simp only [Gg,mem_cons,not_mem_nil,or_false] at this
 rcases this with rfl | rfl | rfl | rfl
 ·exact⟨14,by omega,by omega,rfl⟩
 ·exact⟨15,by omega,by omega,rfl⟩
 ·exact⟨16,by omega,by omega,rfl⟩
 ·exact⟨17,by omega,by omega,rfl⟩
theorem AnN (hf:S28 f) (y:Nat):(Gg (mtG f y)).Nodup:=by
 have e:=Uq ([(f 14,f 15),(f 16,f 17)].take y) ([(f 14,f 15),(f 16,f 17)].drop y)
 rw[take_append_drop] at e
 have nd:(Gg [(f 14,f 15),(f 16,f 17)]).Nodup:=by
  show ([14,15,16,17].map f).Nodup
  refine Nm fun i j x h1 h2=>?_
  rw[getElem?_map] at h1 h2
  obtain⟨a,e1,z1⟩:=map_eq_some_iff.mp h1
  obtain⟨b,e2,z2⟩:=map_eq_some_iff.mp h2
  have l1:=(List.getElem?_eq_some_iff.mp e1).1
  have l2:=(List.getElem?_eq_some_iff.mp e2).1
  have key:∀ i:Nat,i < 4->([14,15,16,17]:List Nat)[i]? = some (14 + i):=by decide
  rw[key i l1] at e1; rw[key j l2] at e2
  cases e1; cases e2
  have:=hf.inj (14 + i) (14 + j) (by simp at l1; omega) (by simp at l2; omega) (by rw[z1,z2])
  omega
 rw[e] at nd
 exact (nodup_append.mp nd).1
theorem Zd (h:JG f U k R J) (hk:k <= 6) (ht:T2 ((range 28).map f) U) (ul:U.length = 14) (hf:S28 f) (y:Nat):Da (upG U R (r0G f U).length) (mtG f y) J:=by
 obtain⟨und,uix⟩:=Wa h hk ht ul hf
 have nd:((upG U R (r0G f U).length).map (·.1) ++ Gg (mtG f y)).Nodup:=by
  refine nodup_append.mpr ⟨und,AnN hf y,fun a ha b hb e=>?_⟩
  obtain⟨s,hs,rfl⟩:=mem_map.mp ha
  obtain⟨⟨i,h1,h2⟩,_⟩:=uix s hs
  obtain⟨j,h3,h4,h5⟩:=Za f y b hb
  have:=hf.inj i j (by omega) (by omega) (by rw[<- h2,e,h5])
  omega
 have kn:∀ s ∈ R,knd (kK (upG U R (r0G f U).length) ++ kM (mtG f y)) s.1 = .str s.2.1:=fun s hs=>by
  unfold knd
  rcases AeY h hk ht ul hf s hs with ⟨z,r,hr⟩ | ⟨z,hr⟩
  ·exact Um (s:=(s.1,s.2.1,r)) nd hr
  ·rw[z]
   refine AaQ fun w=>?_
   rcases mem_append.mp w with w | w
   ·obtain⟨u,hu,e⟩:=mem_map.mp w
    exact hr u hu e
   ·obtain⟨j,h3,h4,h5⟩:=Za f y _ w
    rcases h.row2 s hs with q | ⟨i,a,b⟩
    ·rcases mem_append.mp q with q | q
     ·obtain⟨v,hv,rfl⟩:=mem_map.mp q
      obtain⟨⟨i,h1,h2⟩,_⟩:=ht.ix ul v (mem_filter.mp hv).1
      have:=hf.inj i j (by omega) (by omega) (by rw[<- h2]; exact h5)
      omega
     ·simp only [mem_cons,not_mem_nil,or_false] at q
      rcases q with rfl | rfl
      ·have:=hf.inj 24 j (by omega) (by omega) h5; omega
      ·have:=hf.inj 25 j (by omega) (by omega) h5; omega
    ·have:=hf.inj (10 + i + 8) j (by omega) (by omega) (by rw[<- h5]; exact b.symm)
     omega
 have mkk:∀ m ∈ Nn U,m ∈ upG U R (r0G f U).length/\m.2.1 = "mark":=fun m hm=>by
  obtain⟨h1,h2⟩:=mem_filter.mp hm
  exact⟨mem_append_left _ h1,of_decide_eq_true h2⟩
 obtain⟨_,n1,n2⟩:=h.nodup2 hk (Rx ht ul hf)
 have ln:=h.len.1
 exact {
  so:=fun s hs=>by
   obtain⟨⟨i,h1,h2⟩,h3,h4⟩:=uix s hs
   exact⟨by rw[h2]; exact hf.nn i,h3,h4⟩
  mo:=fun m hm=>by
   have:m ∈ [(f 14,f 15),(f 16,f 17)]:=List.mem_of_mem_take hm
   simp only [mem_cons,not_mem_nil,or_false] at this
   rcases this with rfl | rfl <;> exact⟨hf.nn _,hf.nn _⟩
  nd:=nd
  jo:={
   nn:=fun j hj=>by
    obtain⟨⟨s,hs,u,hu,e1,e2,_⟩,m,hm,e3⟩:=h.join j hj
    have q:∀ s ∈ R,0 <= s.1:=fun s hs=>by
     rcases h.row2 s hs with q | ⟨i,a,b⟩
     ·rcases mem_append.mp q with q | q
      ·obtain⟨v,hv,rfl⟩:=mem_map.mp q
       obtain⟨⟨i,h1,h2⟩,_⟩:=ht.ix ul v (mem_filter.mp hv).1
       show 0 <= v.1
       rw[h2]; exact hf.nn i
      ·simp only [mem_cons,not_mem_nil,or_false] at q
       rcases q with rfl | rfl <;> exact hf.nn _
     ·rw[b]; exact hf.nn _
    obtain⟨⟨i,h1,h2⟩,_⟩:=ht.ix ul m (mem_filter.mp hm).1
    exact⟨by rw[<- e1]; exact q s hs,by rw[<- e2]; exact q u hu,by rw[<- e3,h2]; exact hf.nn i⟩
   mr:=fun j hj=>by
    obtain⟨_,m,hm,e3⟩:=h.join j hj
    unfold knd
    rw[<- e3,Um nd (mkk m hm).1,(mkk m hm).2]
   kd:=fun j hj=>by
    obtain⟨⟨s,hs,u,hu,e1,e2,e3⟩,_⟩:=h.join j hj
    exact⟨s.2.1,(h.kind2 (Rx ht ul hf) s hs).1,by rw[<- e1]; exact kn s hs,by rw[<- e2,kn u hu,e3]⟩
   nw:=n1
   np:=n2
   en:=h.ends27 hk (Rx ht ul hf)
   ln:=by omega }
  ln:=by
   obtain⟨X,e,_⟩:=Uc h
   have l1:=h.len.2
   rw[Acw e,length_append]
   have l2:=length_filter_le (fun (s:Sg)=>decide (¬ s.2.1 = "plain")) X
   have l3:R.length = (r0G f U).length + X.length:=by rw[e,length_append]
   have l4:(mtG f y).length <= 2:=by unfold mtG; rw[length_take]; exact Nat.min_le_right _ _
   omega
  jl:=by omega
  mr:=by
   have h4:4 < U.length:=by omega
   have:=ht.wd 4 _ (getElem?_eq_getElem h4) (by omega)
   exact⟨_,mem_append_left _ (getElem_mem h4),(Option.some.inj this).symm⟩ }
end
section
variable {K:Frag} {C:Addr} {ω:Om} {rm:Rm}
def AeR (ps:List PV) (P:PV->Prop):Prop:=∃ ns:List (Int × Int),ps = [.lst (ns.map prP)]/\ns.Nodup/\ns.length < 64/\∀ ns':List (Int × Int),ns'.Perm ns->ns'.Pairwise (fun x y=>lxB x y = true)->P (.lst (ns'.map prP))
theorem AcN {m:Bool} {t:TA} {u:UA} (ha:AU K C ω [m] t u):EF K C ω (tCB (fun xs H Q=>∃ (p:Addr) (vs:List V) (ns:List (Int × Int)),xs = [.ref p]/\SqL K H p vs/\vs.length = ns.length/\(∀ (i:Nat) (v:V) (x:Int × Int),vs[i]? = some v->ns[i]? = some x->∃ b,v = .ref b/\H b = some (.tup [.int x.1,.int x.2]))/\ns.Nodup/\ns.length < 64 /\
  ∀ (l:Addr) (H':Hp) (is:List Nat),H l = none->Same H H'->H' l = some (.lst (is.map fun i=>vs.getD i V.non))->is.Perm (range ns.length)->is.Pairwise (fun i j=>lxB (ns.getD i (0,0)) (ns.getD j (0,0)) = true)->Q (.ref l) H') t) (uCB AeR u) :=
 fun B G0 H0 own G σ H ρ P Q S hu k=>ha B G0 H0 own G σ H ρ _ _ S hu fun vs ps G1 H1 w1 r1 h1=>by
  obtain⟨v,p,rfl,rfl,r⟩:=Np r1
  obtain⟨ns,e,nd,hl,h2⟩:=h1
  cases e
  obtain⟨a,vs,rfl,ea,l⟩:=r.lst w1.i
  have l1:vs.length = ns.length:=by rw[l.1,length_map]
  have lt:∀ (i:Nat) (v:V) (x:Int × Int),vs[i]? = some v->ns[i]? = some x->∃ b,v = .ref b/\H1 b = some (.tup [.int x.1,.int x.2]):=fun i v x e1 e2=>by
   have r:=l.2 i v (prP x) e1 (by rw[getElem?_map,e2]; rfl)
   unfold prP at r
   cases r with
   | tup e l' h' =>
    rename_i b ws
    have:ws = [x.1,x.2].map V.int:=Ln (K:=K) (C:=C) (G:=G1) ⟨l',h'⟩
    rw[this] at e
    exact⟨b,rfl,w1.i _ _ e⟩
  refine⟨a,vs,ns,rfl,SqL.of ea,l1,lt,nd,hl,fun b H4 is hb s4 e4 hp hs=>?_⟩
  have il:∀ i ∈ is,i < ns.length:=fun i hi=>mem_range.mp (hp.mem_iff.mp hi)
  have rp:Reps K C G1 (is.map fun i=>vs.getD i V.non) ((is.map fun i=>ns.getD i (0,0)).map prP):=by
   refine⟨by rw[length_map,length_map,length_map],fun j v p e1 e2=>?_⟩
   rw[getElem?_map] at e1
   rw[getElem?_map,getElem?_map] at e2
   obtain⟨i,hi,rfl⟩:=map_eq_some_iff.mp e1
   rw[hi] at e2
   cases e2
   have il:=il i (mem_of_getElem? hi)
   have e3:vs[i]? = some (vs.getD i V.non):=by simp [show i < vs.length by omega]
   have e4:ns[i]? = some (ns.getD i (0,0)):=by simp [il]
   exact l.2 i _ _ e3 (by rw[getElem?_map,e4]; rfl)
  refine k b _ G1 H4 (w1.trans (Grow.own w1.i s4)) (w1.h.free hb) (w1.i.free hb) (OwnA.ofL e4 rp) (h2 _ ?_ ?_)
  ·have:=hp.map fun i=>ns.getD i (0,0)
   rw[show (range ns.length).map (fun i=>ns.getD i (0,0)) = ns by
    refine ext_getElem? fun j=>?_
    rw[getElem?_map]
    by_cases h:j < ns.length
    ·rw[getElem?_range h]
     simp [h]
    ·rw[getElem?_eq_none (by rw[length_range]; omega),getElem?_eq_none (by omega)]; rfl] at this
   exact this
  ·exact List.pairwise_map.mpr hs
def AlS (p q:PV) (P:PV->Prop):Prop:=∃ xs ys:List Int,p = .lst (xs.map .int)/\q = .lst (ys.map .int)/\P (.bl (lxL xs ys))
def AlT (ua ub:UE):UE:=fun ρ P=>ua ρ fun p=>ub ρ fun q=>AlS p q P
theorem Alw {ta tb:TE} {ua ub:UE} (ha:EB K C ω ta ua) (hb:EB K C ω tb ub):EU K C ω (tOp (AkR K) ta tb) (AlT ua ub) :=
 fun B G0 H0 own G σ H ρ P Q S hu k=>two ha hb S hu fun v w p q G' H' gr r1 r2 ⟨xs,ys,e1,e2,h⟩=>by
  subst e1 e2
  obtain⟨a,vs,rfl,ea,l⟩:=r1.lst gr.i
  obtain⟨b,ws,rfl,eb,l2⟩:=r2.lst gr.i
  exact⟨a,b,xs,ys,rfl,rfl,SqL.of (by rw[<- Ln l]; exact ea),SqL.of (by rw[<- Ln l2]; exact eb),k _ _ G' H' gr (.bl _) h⟩
theorem Ane {ua ub:UE} {ρ:Bl} {P:PV->Prop} (h:ua ρ fun p=>ub ρ fun q=>AlS p q P):AlT ua ub ρ P:=h
def Akk (p q:PV) (P:PV->Prop):Prop:=∃ b c:Bool,p = .bl b/\q = .bl c/\P (.bl (decide (b = c)))
def Akc (ua ub:UE):UE:=fun ρ P=>ua ρ fun p=>ub ρ fun q=>Akk p q P
theorem Al5 {ta tb:TE} {ua ub:UE} (ha:EB K C ω ta ua) (hb:EB K C ω tb ub):EU K C ω (tOp AlM ta tb) (Akc ua ub) :=
 fun B G0 H0 own G σ H ρ P Q S hu k=>two ha hb S hu fun v w p q G' H' gr r1 r2 ⟨b,c,e1,e2,h⟩=>by
  subst e1 e2
  exact⟨b,c,r1.bl,r2.bl,k _ _ G' H' gr (.bl _) h⟩
theorem AnK {ua ub:UE} {ρ:Bl} {P:PV->Prop} (h:ua ρ fun p=>ub ρ fun q=>Akk p q P):Akc ua ub ρ P:=h
end
local macro_rules | `(tactic| walk_at "rd")=>`(tactic| repeat (first
 | (with_reducible first | refine Ab9 ?_ | refine AmC rfl ?_ | refine i_c ?_ | refine An4 ?_ | refine AnR ?_ | refine Aok ?_ | refine Am3 ?_ | refine AhJ ?_ | refine Ais ?_ | refine Ahz ?_ | refine Ahw ?_ | refine Aom ?_ | refine AlR ?_ | refine Ant ?_ | refine Any ?_ | refine An1 ?_ | refine Anp ?_ | refine AlQ ?_ | refine Akl ?_ | refine i_notN ?_ | refine An9 ?_ | refine Alj ?_ | refine Anl ?_ | refine AnU ?_ | refine AmU ?_ | refine Ajl ?_ | refine Akz (SqT.of (by assumption)) rfl ?_ | refine AiY ?_ | refine Amg ?_ | refine Aj9 ?_ | refine Amh ?_ | refine i_make ?_ | refine AmW ?_ | refine AjV ?_ | refine AmF ?_ | refine Anw ?_ | refine Aol ?_ | refine AmL ?_ | refine AgU ?_ | refine AkG ?_ | refine AiP ?_ | refine AjI ?_ | refine AjP ?_ | refine Akt ?_ | refine AnZ ?_ | refine Aj6 ?_ | refine i_int1 ?_ | refine Ale ?_ | refine Ak1 ?_ | refine Jq ?_ | refine Jy ?_ | refine Adh ?_ | refine AcK ?_ | refine Af4 ?_ | refine Ae3 ?_ | refine Afq ?_ | refine AjM (by assumption) ?_ | refine Amx (by assumption) ?_ | refine Aep (by assumption) ?_ | refine Aep (SqL.of (by assumption)) ?_ | refine AlX (by assumption) ?_ | refine j_min ?_ | refine AmX (by assumption) ?_ | refine AdC (by assumption) ?_ ?_ | refine AnO (by assumption) ?_ | refine Alh (by assumption) ?_ | refine Am1 (by assumption) ?_ | refine j_clear (by assumption) ?_)
 | walk_at "u" | dsimp only [List.set,cons_append,nil_append,append_nil]))
local macro_rules | `(tactic| walk_at "cs")=>`(tactic| dsimp only [compσ,replicate,map_cons,map_nil,List.getElem?_cons_succ,List.getElem?_cons_zero,Option.join_some,cons_append,nil_append])
local macro_rules | `(tactic| walk_at "ma")=>`(tactic| (all_goals try (first | decide | exact⟨by decide,by decide⟩)))
local macro_rules | `(tactic| walk_at "mb")=>`(tactic| (all_goals try (first | decide | exact⟨by decide,by decide,by decide⟩)))
local macro_rules | `(tactic| walk_at "mc")=>`(tactic| (all_goals try (first | decide | exact⟨by decide,by decide⟩ | exact⟨by decide,by decide,by decide⟩)))
local macro_rules | `(tactic| walk_at "md")=>`(tactic| (refine⟨by rw[length_map]; omega,?_⟩))
local macro_rules | `(tactic| walk_at "me")=>`(tactic| (rw[length_map,take_length]))
local macro_rules | `(tactic| walk_at "s")=>`(tactic| simp only [Wm,List.zipWith_cons_cons,List.zipWith_nil_left,List.zipWith_nil_right,length_cons,length_nil,Nat.zero_add,Nat.reduceAdd,Nat.reduceSub,List.replicate_succ,List.replicate_zero,false_eq_true,if_false,if_true,cons_append,nil_append,Agt])
local macro_rules | `(tactic| ext)=>`(tactic| repeat (first
 | (with_reducible first | refine Dy ?_ | refine Ahc rfl rfl ?_ | refine AeQ rfl ?_ | refine p_c ?_ | refine AjZ ?_ | refine AkM ?_ | refine p_i ?_ | refine p_u ?_ | refine b_u ?_ | refine Ahs ?_ | refine Aiu ?_ | refine AhD ?_ | refine Ah8 ?_ | refine Aio ?_ | refine Ahk ?_ | refine Aer ?_ | refine p_b ?_ | refine b_b ?_ | refine AhZ ?_ | refine Aly ?_ | refine Aim ?_ | refine Afd ?_ | refine Ah5 ?_ | refine Aef ?_ | refine AhO ?_ | refine Adw rfl ?_ | refine Akq ?_ | refine AhT ?_ | refine AdL ?_ | refine p_asg ?_ | refine AbO ?_ | refine AbE ?_ | refine AbU ?_ | refine Aix ?_ | refine Abx ?_ | refine AdU ?_ | refine Ahu ?_ | refine AdM ?_ | refine Aiy ?_ | refine Aip ?_ | refine Ahh ?_ | refine Ain ?_ | refine AeO ?_ | refine Aeg ?_ | refine Ady ?_ | refine AeI ?_ | refine Ad3 ?_ | refine AdN ?_ | refine AaZ ?_ | refine AdA ?_ | refine Aeb ?_ | refine Aiw ?_ | refine AhI ?_ | refine AhP ?_ | refine AhQ ?_ ?_ | refine AhV ?_ ?_ | refine Ahy ?_ ?_ | refine Air ?_ ?_ | refine Aik ?_ ?_ | refine AjN ?_ | refine Aee ?_ | refine Ad4 ?_ | refine AhW ?_ | refine Aev ?_ | refine AbA ?_ | refine b_listS ?_ | refine Ahx rfl ?_ | refine Ait rfl ?_ ?_ | refine AhK ?_ | refine AhM ?_ | refine Ael ?_ | refine AbT rfl rfl ?_ | refine Ab2 ?_ | refine Ae6 rfl ?_ | refine Afp rfl ?_ ?_ | refine Aib ?_ | refine Ahq ?_ | refine b_L ?_ | refine Afg rfl ?_ | refine AeU rfl ?_ | refine Ae7 ?_ | refine Ad8 ?_ | refine AeX ?_ | refine AbC ?_ | refine Adt ?_ | refine AdZ ?_ | refine Aiz ?_ | refine AkP ?_ | refine AhY ?_ | refine AdX ?_ | refine Alb ?_ ?_ | refine Aj3 ?_ ?_ | refine AjR ?_ | refine AkA ?_ | refine AlC ?_ | refine Alf ?_ | refine pf_dnew ?_ | refine b_abs ?_ | refine Abo rfl ?_ | refine Jq ?_ | refine Jy ?_ | refine Adh ?_ | refine AcK ?_)
 | walk_at "u" | dsimp only [List.set,cons_append,nil_append,append_nil,Rg]))
local macro_rules | `(tactic| walk_at "u")=>`(tactic| first | with_reducible refine b_ins0 rfl ?_ ?_)
local macro_rules | `(tactic| walk_at "u")=>`(tactic| first | (with_reducible first | refine Amy rfl ?_ | refine Anj rfl ?_ ?_ | refine Ai8 ?_ | refine Ajt (fun _ _=>?_) ?_ | refine AnE ?_ | refine AkW ?_ (by decide)) | with_reducible refine b_dputT rfl ?_ ?_)
local macro_rules | `(tactic| walk_at "c")=>`(tactic| dsimp only [compρ,replicate,map_cons,map_nil,List.getElem?_cons_succ,List.getElem?_cons_zero,Option.getD_some,boS,cons_append,nil_append])
local macro_rules | `(tactic| walk_at "u")=>`(tactic| first | with_reducible refine b_neB ?_)
local macro_rules | `(tactic| walk_at "d")=>`(tactic| all_goals try first
 | ((with_reducible show (_:Int) < _); first | decide | omega | (simp only [length_map,length_replicate,length_range,length_append,length_reverse]; omega))
 | ((with_reducible show Zr _ _); exact⟨by omega,by omega⟩)
 | ((with_reducible show AcW _ _); exact⟨by decide,by decide,by decide⟩)
 | ((with_reducible show CMul _ _); first | exact .inr ⟨by omega,by omega⟩ | exact .inl ⟨by omega,by omega⟩)
 | ((with_reducible show (_:Nat) < _); first | omega | (simp only [length_map,length_replicate,length_range,length_append,length_reverse]; omega))
 | ((with_reducible show (_:Nat) <= _); first | omega | (simp only [length_map,length_replicate,length_range,length_append,length_reverse]; omega))
 | ((with_reducible show (_:Int) <= _/\_); first | omega | (simp only [length_map,length_replicate,length_range,length_append,length_reverse]; omega)))
local macro_rules | `(tactic| walk_at "u")=>`(tactic| first | (with_reducible first | refine AmY ?_ | refine AfH rfl rfl ?_ | refine Ak6 rfl rfl (by decide) ?_ | refine AkB rfl ?_ | refine AkX rfl ?_ ?_ | refine AjL (by decide) rfl ?_ | refine AmH rfl (fun z=>?_) | refine AiU rfl rfl ?_) | with_reducible refine b_aug ?_)
local macro_rules | `(tactic| ext1)=>`(tactic| repeat (first
 | (with_reducible first | refine Ahc rfl rfl ?_ | refine AeQ rfl ?_ | refine p_c ?_ | refine AjZ ?_ | refine AkM ?_ | refine p_i ?_ | refine p_u ?_ | refine b_u ?_ | refine Ahs ?_ | refine Aiu ?_ | refine AhD ?_ | refine Ah8 ?_ | refine Aio ?_ | refine Ahk ?_ | refine Aer ?_ | refine p_b ?_ | refine b_b ?_ | refine AhZ ?_ | refine Aly ?_ | refine Aim ?_ | refine Afd ?_ | refine Ah5 ?_ | refine Aef ?_ | refine AhO ?_ | refine Adw rfl ?_ | refine Akq ?_ | refine AhT ?_ | refine AdL ?_ | refine p_asg ?_ | refine AbO ?_ | refine AbE ?_ | refine AbU ?_ | refine Aix ?_ | refine Abx ?_ | refine AdU ?_ | refine Ahu ?_ | refine AdM ?_ | refine Aiy ?_ | refine Aip ?_ | refine Ahh ?_ | refine Ain ?_ | refine AeO ?_ | refine Aeg ?_ | refine Ady ?_ | refine AeI ?_ | refine Ad3 ?_ | refine AdN ?_ | refine AaZ ?_ | refine AdA ?_ | refine Aeb ?_ | refine Aiw ?_ | refine AhI ?_ | refine AhP ?_ | refine AhQ ?_ ?_ | refine AhV ?_ ?_ | refine Ahy ?_ ?_ | refine Air ?_ ?_ | refine Aik ?_ ?_ | refine AjN ?_ | refine Aee ?_ | refine Ad4 ?_ | refine AhW ?_ | refine Aev ?_ | refine AbA ?_ | refine b_listS ?_ | refine Ahx rfl ?_ | refine Ait rfl ?_ ?_ | refine AhK ?_ | refine AhM ?_ | refine Ael ?_ | refine AbT rfl rfl ?_ | refine Ab2 ?_ | refine Ae6 rfl ?_ | refine Afp rfl ?_ ?_ | refine Aib ?_ | refine Ahq ?_ | refine b_L ?_ | refine Afg rfl ?_ | refine AeU rfl ?_ | refine Ae7 ?_ | refine Ad8 ?_ | refine AeX ?_ | refine AbC ?_ | refine Adt ?_ | refine AdZ ?_ | refine Aiz ?_ | refine AkP ?_ | refine AhY ?_ | refine AdX ?_ | refine Alb ?_ ?_ | refine Aj3 ?_ ?_ | refine AjR ?_ | refine AkA ?_ | refine AlC ?_ | refine Alf ?_ | refine pf_dnew ?_ | refine b_abs ?_ | refine Abo rfl ?_ | refine Jq ?_ | refine Jy ?_ | refine Adh ?_ | refine AcK ?_)
 | walk_at "u" | dsimp only [List.set,cons_append,nil_append,append_nil,Rg]))
section
variable {P:Program} {w:World} {K:Frag} {mg:Str->Option Value} {base:Heap} {t:Adr}
def To:Sp:=fun vs H Q _=>∃ b,vs = [.bl true,b]/\Q .non H
theorem Ago {b:Bool} {z:V} {H:Hp} {Q:VK} {E:XK} (q:Q .non H) (h:b = true):To [.bl b,z] H Q E:=⟨z,by rw[h],q⟩
theorem Afh {z:V} {H:Hp} {Q:VK} {E:XK} (q:Q .non H):To [.bl true,z] H Q E:=⟨z,rfl,q⟩
local macro_rules | `(tactic| walk_at "u")=>`(tactic| with_reducible refine Ago ?_ ?_)
local macro_rules | `(tactic| walk_at "u")=>`(tactic| with_reducible refine Afh ?_)
theorem Nl (T:Txt K mg t):Binds K t.d_qb ["held","words"] []:=T.F_qb.binds (by walk_at "b2")
theorem Lc (T:Txt K mg t):FnOk P w K mg base CX0 1 t.f_qb t.d_qb ["held","words"] (To):=by
 refine T.F_qb.ok AmE (fun vs H Q E h=>?_) (fun cdv A outer s H vs Q E hr h=>?_)
 ·obtain⟨b,rfl,q⟩:=h
  rfl
 ·obtain⟨b,rfl,q⟩:=h
  have hu:=Cy hr
  have hu64:=hr.units
  refine⟨_,(Bi (Dx (Wo (Ta (pv 0)))
    Yl
    Dg)),?_⟩
  try dsimp only [Cm,By]
  walk_at "rd"
  exact q
def Aam:Sp:=fun vs H Q _=>∃ n,vs = [.int n]/\Q (.bl true) H
theorem AiT {n:Int} {H:Hp} {Q:VK} {E:XK} (q:Q (.bl true) H):Aam [.int n] H Q E:=⟨n,rfl,q⟩
local macro_rules | `(tactic| walk_at "u")=>`(tactic| with_reducible refine AiT ?_)
theorem AlB (T:Txt K mg t):Binds K t.d_qa ["thing"] []:=T.F_qa.binds (by walk_at "b1")
theorem Aic (T:Txt K mg t):FnOk P w K mg base CX0 1 t.f_qa t.d_qa ["thing"] (Aam):=by
 refine T.F_qa.ok Amz (fun vs H Q E h=>?_) (fun cdv A outer s H vs Q E hr h=>?_)
 ·obtain⟨n,rfl,q⟩:=h
  rfl
 ·obtain⟨n,rfl,q⟩:=h
  have hu:=Cy hr
  have hu64:=hr.units
  refine⟨_,(Bi (Cd (Ny (Ch (Jj) rfl T.z_isinstance boot_isinstance (Ba (pv 0) (Ba (Ni (v:=.ty "int") rfl T.z_int boot_int rfl) Bd))) (Ow (Amf (Ch (Jj) rfl T.z_isinstance boot_isinstance (Ba (pv 0) (Ba (Ni (v:=.ty "bool") rfl T.z_bool boot_bool rfl) Bd)))))))),?_⟩
  try dsimp only [Cm,By]
  walk_at "rd"
  exact q
def Abr:Sp:=fun vs H Q _=>∃ n,vs = [.int n]/\Q (.bl (decide (0 <= n))) H
theorem AjW {n:Int} {H:Hp} {Q:VK} {E:XK} (q:Q (.bl (decide (0 <= n))) H):Abr [.int n] H Q E:=⟨n,rfl,q⟩
local macro_rules | `(tactic| walk_at "u")=>`(tactic| with_reducible refine AjW ?_)
theorem Yz (T:Txt K mg t):Binds K t.d_qbw ["thing"] []:=T.F_qbw.binds (by walk_at "b1")
theorem Vy (T:Txt K mg t):FnOk P w K mg base CX0 2 t.f_qbw t.d_qbw ["thing"] (Abr):=by
 refine T.F_qbw.ok AlG (fun vs H Q E h=>?_) (fun cdv A outer s H vs Q E hr h=>?_)
 ·obtain⟨n,rfl,q⟩:=h
  rfl
 ·obtain⟨n,rfl,q⟩:=h
  have hu:=Cy hr
  have hu64:=hr.units
  refine⟨_,(Bi (Cd (Ny (Bm (Aic T) (hr.mono (by decide)) rfl T.m_qa T.F_qa.kp (AlB T) .nil Br (Ba (pv 0) Bd)) (Ow (Gd Zk (pv 0) Bg (Co _)))))),?_⟩
  try dsimp only [Cm,By]
  walk_at "rd"
  exact q
def AgC:Sp:=fun vs H Q _=>∃ a xs n,vs = [.ref a,.int n]/\H a = some (.lst xs)/\(∀ x ∈ xs,∃ b ys,x = .ref b/\H b = some (.tup ys)/\((ys.length:Nat):Int) = n)/\Q .non H
theorem Afs (T:Txt K mg t):Binds K t.d_qc ["rows","length"] []:=T.F_qc.binds (by walk_at "b2")
theorem Ace (T:Txt K mg t):FnOk P w K mg base CX0 2 t.f_qc t.d_qc ["rows","length"] (AgC):=by
 refine T.F_qc.ok sc_qc (fun vs H Q E h=>?_) (fun cdv A outer s H vs Q E hr h=>?_)
 ·obtain⟨a,xs,n,rfl,hx,hr',q⟩:=h
  rfl
 ·obtain⟨a,xs,n,rfl,hx,hr',q⟩:=h
  have hu:=Cy hr
  have hu64:=hr.units
  refine⟨_,(Bc (Cj (Bm (Lc T) (hr.mono (by decide)) rfl T.m_qb T.F_qb.kp (Nl T) .nil Br (Ba (Ch (Jj) rfl T.z_isinstance boot_isinstance (Ba (pv 0) (Ba (Ni (v:=.ty "list") rfl T.z_list PyProof.Rows.boot_list rfl) Bd))) (Ba Cf Bd))))
   (Bi (Dj PassesOwn.never rfl (Cs (pv 0)) (Bq (i:=2) sc_qc.nd rfl (Or.inl rfl))
    (Bi (Cj (Bm (Lc T) (hr.mono (by decide)) rfl T.m_qb T.F_qb.kp (Nl T) .nil Br (Ba (Ny (Ch (Jj) rfl T.z_isinstance boot_isinstance (Ba (pv 2) (Ba (Ni (v:=.ty "tuple") rfl T.z_tuple boot_tuple rfl) Bd))) (Ow (Gd Gi (Ch (Lx) rfl T.z_len PySem.boot_len (Ba (pv 2) Bd)) (pv 1) (Co _)))) (Ba Cf Bd)))))))),?_⟩
  try dsimp only [Cm,By]
  walk_at "rd"
  refine Nv rfl (SqL.of hx) (fun i σ H'=>∃ v,σ = [some (.ref a),some (.int n),v]/\H' = H) ⟨none,rfl,rfl⟩ (fun i σ H' _ ⟨_,_,e⟩=>by subst e; exact SqL.of hx) ?_ ?_
  ·rintro i x σ H' hi ⟨v,rfl,rfl⟩
   obtain⟨b,ys,rfl,hy,hl⟩:=hr' x (mem_of_getElem? hi)
   walk_at "rd"
   ·exact⟨_,rfl,rfl⟩
   ·exact decide_eq_true hl
  ·rintro σ H' ⟨v,rfl,rfl⟩
   exact q
theorem AiE {k:Str} (h:k ∈ toldK):inV (V.str k) [V.str "fore",V.str "back",V.str "num",V.str "blank",V.str "mark",V.str "forein",V.str "backin",V.str "out"] = true:=by
 have e:inV (V.str k) (toldK.map V.str) = true:=by
  unfold inV
  rw[any_map]
  exact any_eq_true.mpr ⟨k,h,by show (k == k) = true; exact beq_self_eq_true k⟩
 exact e
def Abh:Sp:=fun vs H Q _=>∃ k,vs = [.str k]/\k ∈ toldK/\Q (.bl true) H
theorem Amp {k:Str} {H:Hp} {Q:VK} {E:XK} (q:Q (.bl true) H) (h:k ∈ toldK):Abh [.str k] H Q E:=⟨k,rfl,h,q⟩
local macro_rules | `(tactic| walk_at "u")=>`(tactic| with_reducible refine Amp ?_ ?_)
theorem An8 (T:Txt K mg t):Binds K t.d_qe ["thing"] []:=T.F_qe.binds (by walk_at "b1")
theorem AmA (T:Txt K mg t):FnOk P w K mg base CX0 1 t.f_qe t.d_qe ["thing"] (Abh):=by
 refine T.F_qe.ok Anx (fun vs H Q E h=>?_) (fun cdv A outer s H vs Q E hr h=>?_)
 ·obtain⟨k,rfl,hk,q⟩:=h
  rfl
 ·obtain⟨k,rfl,hk,q⟩:=h
  have hu:=Cy hr
  have hu64:=hr.units
  refine⟨_,(Bi (Cd (Ny (Ch (Jj) rfl T.z_isinstance boot_isinstance (Ba (pv 0) (Ba (Ni (v:=.ty "str") rfl T.z_str boot_str rfl) Bd))) (Ow (Gd (Tb) (pv 0) (Xc (v:=.ref t.a_TOLD_KINDS) rfl T.g_TOLD_KINDS rfl) rfl))))),?_⟩
  try dsimp only [Cm,By]
  walk_at "rd"
  refine⟨_,_,rfl,.inr (T.q_TOLD_KINDS _),rfl,rfl,?_⟩
  rw[show (if false = true then !inV (V.str k) _ else inV (V.str k) [V.str "fore",V.str "back",V.str "num",V.str "blank",V.str "mark",V.str "forein",V.str "backin",V.str "out"]) = true from AiE hk]
  exact q
def Yn:Sp:=fun vs H Q _=>∃ k r,vs = [.str k,.int r]/\Oc k r/\Q (.bl true) H
theorem AfG {k:Str} {r:Int} {H:Hp} {Q:VK} {E:XK} (q:Q (.bl true) H) (h:Oc k r):Yn [.str k,.int r] H Q E:=⟨k,r,rfl,h,q⟩
local macro_rules | `(tactic| walk_at "u")=>`(tactic| with_reducible refine AfG ?_ ?_)
theorem Aob (T:Txt K mg t):Binds K t.d_qo ["kind","thing"] []:=T.F_qo.binds (by walk_at "b2")
theorem Ank (T:Txt K mg t):FnOk P w K mg base CX0 2 t.f_qo t.d_qo ["kind","thing"] (Yn):=by
 refine T.F_qo.ok Anc (fun vs H Q E h=>?_) (fun cdv A outer s H vs Q E hr h=>?_)
 ·obtain⟨k,r,rfl,hk,q⟩:=h
  rfl
 ·obtain⟨k,r,rfl,hk,q⟩:=h
  have hu:=Cy hr
  have hu64:=hr.units
  refine⟨_,(Bc (Dx (Wo (Ta (Bm (Aic T) (hr.mono (by decide)) rfl T.m_qa T.F_qa.kp (AlB T) .nil Br (Ba (pv 1) Bd))))
    (Bi (Cd Of))
    Dg)
   (Bc (Dx (Cr Gi (pv 0) Cf (Co _))
    (Bi (Cd (Gd Zk (pv 1) Bg (Co _))))
    Dg)
   (Bi (Cd (Gd Gi (pv 1) Bg (Co _)))))),?_⟩
  try dsimp only [Cm,By]
  walk_at "rd"
  refine Te (fun h=>?_) (fun h=>?_)
  ·have h':k = "mark":=of_decide_eq_true h
   walk_at "rd"
   rcases hk with ⟨_,hr1⟩ | ⟨hn,_⟩
   ·rw[decide_eq_true hr1]; exact q
   ·exact absurd h' hn
  ·have h':¬ k = "mark":=fun z=>h (decide_eq_true z)
   walk_at "rd"
   rcases hk with ⟨hm,_⟩ | ⟨_,hr0⟩
   ·exact absurd hm h'
   ·rw[decide_eq_true hr0]; exact q
def Aax:Sp:=fun vs H Q _=>∃ d kvs n,vs = [.ref d,.int n]/\H d = some (.dK kvs)/\Q ((Cp kvs (.inl n)).getD (.str "plain")) H
theorem Ajc {d:Addr} {kvs:List (Key × V)} {n:Int} {H:Hp} {Q:VK} {E:XK} (h:H d = some (.dK kvs)) (q:Q ((Cp kvs (.inl n)).getD (.str "plain")) H):Aax [.ref d,.int n] H Q E:=⟨d,kvs,n,rfl,h,q⟩
local macro_rules | `(tactic| walk_at "u")=>`(tactic| with_reducible refine Ajc (by assumption) ?_)
theorem Adq (T:Txt K mg t):Binds K t.d_qp ["kinds","sign"] []:=T.F_qp.binds (by walk_at "b2")
theorem Zh (T:Txt K mg t):FnOk P w K mg base CX0 1 t.f_qp t.d_qp ["kinds","sign"] (Aax):=by
 refine T.F_qp.ok Am8 (fun vs H Q E h=>?_) (fun cdv A outer s H vs Q E hr h=>?_)
 ·obtain⟨d,kvs,n,rfl,hd,q⟩:=h
  rfl
 ·obtain⟨d,kvs,n,rfl,hd,q⟩:=h
  have hu:=Cy hr
  have hu64:=hr.units
  refine⟨_,(Bi (Cd (Oo hu (pv 0) (pv 1) Cf ⟨rfl,rfl,rfl,rfl⟩))),?_⟩
  try dsimp only [Cm,By]
  walk_at "rd"
  exact q
def AeT:Sp:=fun vs H Q _=>∃ d kvs n k,vs = [.ref d,.int n,.str k]/\H d = some (.dK kvs)/\0 <= n/\Cp kvs (Sum.inl n) = none/\kvs.length <= 1000/\Q .non (upd H d (.dK (Jp kvs (Sum.inl n) (.str k))))
theorem AmG {d:Addr} {kvs:List (Key × V)} {n:Int} {k:Str} {H:Hp} {Q:VK} {E:XK} (h:H d = some (.dK kvs)) (q:Q .non (upd H d (.dK (kvs ++ [(Sum.inl n,.str k)])))) (hn:0 <= n) (hv:Cp kvs (Sum.inl n) = none) (hl:kvs.length <= 1000) :
  AeT [.ref d,.int n,.str k] H Q E:=⟨d,kvs,n,k,rfl,h,hn,hv,hl,by rw[Nh _ hv]; exact q⟩
local macro_rules | `(tactic| walk_at "u")=>`(tactic| with_reducible refine AmG (by assumption) ?_ ?_ ?_ ?_)
theorem AcC (T:Txt K mg t):Binds K t.d_qbm ["kinds","sign","kind"] []:=T.F_qbm.binds (by walk_at "b3")
theorem Zp (T:Txt K mg t):FnOk P w K mg base CX0 3 t.f_qbm t.d_qbm ["kinds","sign","kind"] (AeT):=by
 refine T.F_qbm.ok AjY (fun vs H Q E h=>?_) (fun cdv A outer s H vs Q E hr h=>?_)
 ·obtain⟨d,kvs,n,k,rfl,hd,hn,hv,hl,q⟩:=h
  rfl
 ·obtain⟨d,kvs,n,k,rfl,hd,hn,hv,hl,q⟩:=h
  have hu:=Cy hr
  have hu64:=hr.units
  refine⟨_,(Bc (Cj (Bm (Lc T) (hr.mono (by decide)) rfl T.m_qb T.F_qb.kp (Nl T) .nil Br (Ba (Bm (Vy T) (hr.mono (by decide)) rfl T.m_qbw T.F_qbw.kp (Yz T) .nil Br (Ba (pv 1) Bd)) (Ba Cf Bd))))
   (Bc (Cj (Bm (Lc T) (hr.mono (by decide)) rfl T.m_qb T.F_qb.kp (Nl T) .nil Br (Ba (Vp (Qa hu (pv 1) (pv 0))) (Ba Cf Bd))))
   (Bi (Gj hu (pv 0) (pv 1) (pv 2) rfl)))),?_⟩
  try dsimp only [Cm,By]
  walk_at "rd"
  ·exact q
  ·exact Je hl
  ·rw[hv]; rfl
  ·exact decide_eq_true hn
def Ags:Sp:=fun vs H Q _=>∃ a b xs ys signs mates,vs = [.ref a,.ref b]/\H a = some (.lst xs)/\H b = some (.lst ys)/\LAt TripAt H xs signs/\LAt PairAt H ys mates/\(∀ s ∈ signs,Ze s)/\(∀ m ∈ mates,0 <= m.1/\0 <= m.2) /\
 (signs.map (·.1) ++ Gg mates).Nodup/\signs.length + 2 * mates.length <= 900/\∀ d,H d = none->Q (.ref d) (upd H d (.dK (kK signs ++ kM mates)))
theorem Aoh (T:Txt K mg t):Binds K t.d_qq ["signs","mates"] []:=T.F_qq.binds (by walk_at "b2")
theorem AmN (T:Txt K mg t):FnOk P w K mg base CX0 4 t.f_qq t.d_qq ["signs","mates"] (Ags):=by
 refine T.F_qq.ok sc_qq (fun vs H Q E h=>?_) (fun cdv A outer s H vs Q E hr h=>?_)
 ·obtain⟨a,b,xs,ys,signs,mates,rfl,ha,hb,ls,lm,so,mo,nd,hl,q⟩:=h
  rfl
 ·obtain⟨a,b,xs,ys,signs,mates,rfl,ha,hb,ls,lm,so,mo,nd,hl,q⟩:=h
  have hu:=Cy hr
  have hu64:=hr.units
  refine⟨_,(Bc (Bo (i:=2) sc_qq.nd rfl (Or.inl rfl) Jv)
   (Bc (Dj PassesOwn.never rfl (Cs (pv 0)) (Os rfl (Ci (Bq (i:=3) sc_qq.nd rfl (Or.inl rfl)) (Ci (Bq (i:=4) sc_qq.nd rfl (Or.inl rfl)) (Ci (Bq (i:=5) sc_qq.nd rfl (Or.inl rfl)) Ge))))
    (Bc (Cj (Bm (Lc T) (hr.mono (by decide)) rfl T.m_qb T.F_qb.kp (Nl T) .nil Br (Ba (Bm (AmA T) (hr.mono (by decide)) rfl T.m_qe T.F_qe.kp (An8 T) .nil Br (Ba (pv 4) Bd)) (Ba Cf Bd))))
   (Bc (Cj (Bm (Lc T) (hr.mono (by decide)) rfl T.m_qb T.F_qb.kp (Nl T) .nil Br (Ba (Bm (Ank T) (hr.mono (by decide)) rfl T.m_qo T.F_qo.kp (Aob T) .nil Br (Ba (pv 4) (Ba (pv 5) Bd))) (Ba Cf Bd))))
   (Bi (Cj (Bm (Zp T) (hr.mono (by decide)) rfl T.m_qbm T.F_qbm.kp (AcC T) .nil Br (Ba (pv 2) (Ba (pv 3) (Ba (pv 4) Bd)))))))))
   (Bc (Dj PassesOwn.never rfl (Cs (pv 1)) (Os rfl (Ci (Bq (i:=6) sc_qq.nd rfl (Or.inl rfl)) (Ci (Bq (i:=7) sc_qq.nd rfl (Or.inl rfl)) Ge)))
    (Bc (Cj (Bm (Zp T) (hr.mono (by decide)) rfl T.m_qbm T.F_qbm.kp (AcC T) .nil Br (Ba (pv 2) (Ba (pv 6) (Ba Cf Bd)))))
   (Bi (Cj (Bm (Zp T) (hr.mono (by decide)) rfl T.m_qbm T.F_qbm.kp (AcC T) .nil Br (Ba (pv 2) (Ba (pv 7) (Ba Cf Bd))))))))
   (Bi (Cd (pv 2)))))),?_⟩
  try dsimp only [Cm,By]
  walk_at "rd"
  intro d hd
  walk_at "rd"
  have nda:a ≠ d:=Bu ha hd
  have ndb:b ≠ d:=Bu hb hd
  have ndk:((kK signs ++ kM mates).map (·.1)).Nodup:=by rw[map_append,Abs,show (kK signs).map (·.1) = (signs.map (·.1)).map Sum.inl by simp [kK],<- map_append]; exact Oa nd
  refine Nv rfl (SqL.of (xs:=xs) (by rw[Bk nda]; exact ha)) (fun i σ H'=>∃ v3 v4 v5,σ = [some (.ref a),some (.ref b),some (.ref d),v3,v4,v5,none,none]/\H' = upd H d (.dK (kK (signs.take i)))) ⟨none,none,none,rfl,rfl⟩ (fun i σ H' _ ⟨_,_,_,_,e⟩=>by subst e; exact SqL.of (by rw[Bk nda]; exact ha)) ?_ ?_
  ·rintro i x σ H' hi ⟨v3,v4,v5,rfl,rfl⟩
   obtain⟨s,es,p,rfl,hp⟩:=ls.get hi
   have hp':(upd H d (.dK (kK (signs.take i)))) p = some (.tup [.int s.1,.str s.2.1,.int s.2.2]):=by rw[Bk (Bu hp hd)]; exact hp
   have hd':(upd H d (.dK (kK (signs.take i)))) d = some (.dK (kK (signs.take i))):=Bp
   have ok:=so s (mem_of_getElem? es)
   have et:=Db es
   have hlt:i < signs.length:=(List.getElem?_eq_some_iff.mp es).1
   walk_at "rd"
   ·refine⟨_,_,_,rfl,?_⟩
    rw[Gz,et]
    simp [kK]
   ·exact ok.nn
   ·refine Lp fun m=>?_
    have q1:(kK signs ++ kM mates) = kK (signs.take i) ++ ((Sum.inl s.1,V.str s.2.1) :: (kK (signs.drop (i + 1)) ++ kM mates)):=by
     rw[<- cons_append,<- append_assoc]
     congr 1
     rw[show ((Sum.inl s.1,V.str s.2.1) :: kK (signs.drop (i + 1)):List (Key × V)) = kK (s :: signs.drop (i + 1)) from rfl,kK,kK,kK,<- map_append]
     congr 1
     rw[<- take_append_drop i signs]
     congr 1
     ·simp
     ·rw[take_append_drop,drop_eq_getElem_cons hlt]
      have:=getElem?_eq_getElem hlt
      rw[es] at this
      rw[Option.some.inj this]
    rw[q1,map_append,map_cons] at ndk
    exact (nodup_append.mp ndk).2.2 _ m _ mem_cons_self rfl
   ·have:(kK (signs.take i)).length <= signs.length:=by simp [kK]; omega
    omega
   ·exact ok.rk
   ·exact ok.kd
  ·rintro σ H' ⟨v3,v4,v5,rfl,rfl⟩
   rw[ls.1,take_length]
   refine Ab9 ?_
   refine Nv rfl (SqL.of (xs:=ys) (by rw[Bk ndb]; exact hb)) (fun i σ H'=>∃ v3 v4 v5 v6 v7,σ = [some (.ref a),some (.ref b),some (.ref d),v3,v4,v5,v6,v7]/\H' = upd H d (.dK (kK signs ++ kM (mates.take i)))) ⟨_,_,_,_,_,rfl,by simp [kM]⟩ (fun i σ H' _ ⟨_,_,_,_,_,_,e⟩=>by subst e; exact SqL.of (by rw[Bk ndb]; exact hb)) ?_ ?_
   ·rintro i x σ H' hi ⟨v3,v4,v5,v6,v7,rfl,rfl⟩
    obtain⟨m,em,p,rfl,hp⟩:=lm.get hi
    have hp':(upd H d (.dK (kK signs ++ kM (mates.take i)))) p = some (.tup [.int m.1,.int m.2]):=by rw[Bk (Bu hp hd)]; exact hp
    have hd':(upd H d (.dK (kK signs ++ kM (mates.take i)))) d = some (.dK (kK signs ++ kM (mates.take i))):=Bp
    have ok:=mo m (mem_of_getElem? em)
    have et:=Db em
    have hlt:i < mates.length:=(List.getElem?_eq_some_iff.mp em).1
    have q1:kK signs ++ kM mates = kK signs ++ kM (mates.take i) ++ ((Sum.inl m.1,V.str "open") :: (Sum.inl m.2,V.str "shut") :: kM (mates.drop (i + 1))):=by
     rw[append_assoc]
     congr 1
     rw[show ((Sum.inl m.1,V.str "open") :: (Sum.inl m.2,V.str "shut") :: kM (mates.drop (i + 1)):List (Key × V)) = kM (m :: mates.drop (i + 1)) from rfl,<- Qg]
     congr 1
     have:=getElem?_eq_getElem hlt
     rw[em] at this
     rw[Option.some.inj this,<- drop_eq_getElem_cons hlt,take_append_drop]
    rw[q1,map_append,map_cons,map_cons] at ndk
    have nd1:=(nodup_append.mp ndk).2.2
    have nd2:=(nodup_append.mp ndk).2.1
    have hlen:(kK signs ++ kM (mates.take i)).length + 1 <= 1000:=by
     rw[length_append,Aj7,length_take]; simp only [kK,length_map]; omega
    walk_at "rd"
    have hd2:(upd (upd H d (.dK (kK signs ++ kM (mates.take i)))) d (.dK (kK signs ++ kM (mates.take i) ++ [(Sum.inl m.1,.str "open")]))) d = some (.dK (kK signs ++ kM (mates.take i) ++ [(Sum.inl m.1,.str "open")])):=Bp
    walk_at "rd"
    ·refine⟨_,_,_,_,_,rfl,?_⟩
     rw[Gz,Gz,et,Qg]
     simp [kM]
    ·exact ok.2
    ·refine Lp fun z=>?_
     rw[map_append,mem_append] at z
     rcases z with z | z
     ·exact nd1 _ z _ (mem_cons_of_mem _ mem_cons_self) rfl
     ·have e:(Sum.inl m.2:Key) = Sum.inl m.1:=mem_singleton.mp z
      have nd3:=(nodup_cons.mp nd2).1
      exact nd3 (mem_cons.mpr (.inl e.symm))
    ·rw[length_append]; exact hlen
    ·exact ok.1
    ·exact Lp fun z=>nd1 _ z _ mem_cons_self rfl
    ·omega
   ·rintro σ H' ⟨v3,v4,v5,v6,v7,rfl,rfl⟩
    rw[lm.1,take_length]
    walk_at "rd"
    exact q d hd
def Agn:Sp:=fun vs H Q _=>∃ a xs signs,vs = [.ref a]/\H a = some (.lst xs)/\LAt TripAt H xs signs/\(signs.map (·.1)).Nodup/\signs.length <= 900/\∀ d,H d = none->Q (.ref d) (upd H d (.dK (kR signs)))
theorem An0 (T:Txt K mg t):Binds K t.d_qv ["signs"] []:=T.F_qv.binds (by walk_at "b1")
theorem Am2 (T:Txt K mg t):FnOk P w K mg base CX0 1 t.f_qv t.d_qv ["signs"] (Agn):=by
 refine T.F_qv.ok sc_qv (fun vs H Q E h=>?_) (fun cdv A outer s H vs Q E hr h=>?_)
 ·obtain⟨a,xs,signs,rfl,ha,ls,nd,hl,q⟩:=h
  rfl
 ·obtain⟨a,xs,signs,rfl,ha,ls,nd,hl,q⟩:=h
  have hu:=Cy hr
  have hu64:=hr.units
  refine⟨_,(Bc (Bo (i:=1) sc_qv.nd rfl (Or.inl rfl) Jv)
   (Bc (Dj PassesOwn.never rfl (Cs (pv 0)) (Os rfl (Ci (Bq (i:=2) sc_qv.nd rfl (Or.inl rfl)) (Ci (Bq (i:=3) sc_qv.nd rfl (Or.inl rfl)) (Ci (Bq (i:=4) sc_qv.nd rfl (Or.inl rfl)) Ge))))
    (Bi (Gj hu (pv 1) (pv 2) (pv 4) rfl)))
   (Bi (Cd (pv 1))))),?_⟩
  try dsimp only [Cm,By]
  walk_at "rd"
  intro d hd
  walk_at "rd"
  have nda:a ≠ d:=Bu ha hd
  have ndk:((kR signs).map (·.1)).Nodup:=by rw[show (kR signs).map (·.1) = (signs.map (·.1)).map Sum.inl by simp [kR]]; exact Oa nd
  refine Nv rfl (SqL.of (xs:=xs) (by rw[Bk nda]; exact ha)) (fun i σ H'=>∃ v3 v4 v5,σ = [some (.ref a),some (.ref d),v3,v4,v5]/\H' = upd H d (.dK (kR (signs.take i)))) ⟨none,none,none,rfl,rfl⟩ (fun i σ H' _ ⟨_,_,_,_,e⟩=>by subst e; exact SqL.of (by rw[Bk nda]; exact ha)) ?_ ?_
  ·rintro i x σ H' hi ⟨v3,v4,v5,rfl,rfl⟩
   obtain⟨s,es,p,rfl,hp⟩:=ls.get hi
   have hp':(upd H d (.dK (kR (signs.take i)))) p = some (.tup [.int s.1,.str s.2.1,.int s.2.2]):=by rw[Bk (Bu hp hd)]; exact hp
   have hd':(upd H d (.dK (kR (signs.take i)))) d = some (.dK (kR (signs.take i))):=Bp
   have et:=Db es
   have hlt:i < signs.length:=(List.getElem?_eq_some_iff.mp es).1
   have hno:Cp (kR (signs.take i)) (Sum.inl s.1) = none:=by
    refine Lp fun m=>?_
    have q1:kR signs = kR (signs.take i) ++ ((Sum.inl s.1,V.int s.2.2) :: kR (signs.drop (i + 1))):=by
     rw[show ((Sum.inl s.1,V.int s.2.2) :: kR (signs.drop (i + 1)):List (Key × V)) = kR (s :: signs.drop (i + 1)) from rfl,kR,kR,kR,<- map_append]
     congr 1
     have:=getElem?_eq_getElem hlt
     rw[es] at this
     rw[Option.some.inj this,<- drop_eq_getElem_cons hlt,take_append_drop]
    rw[q1,map_append,map_cons] at ndk
    exact (nodup_append.mp ndk).2.2 _ m _ mem_cons_self rfl
   walk_at "rd"
   ·refine⟨_,_,_,rfl,?_⟩
    rw[Gz,et,Nh _ hno]
    simp [kR]
   ·have:(kR (signs.take i)).length <= signs.length:=by simp [kR]; omega
    exact Je (by omega)
  ·rintro σ H' ⟨v3,v4,v5,rfl,rfl⟩
   rw[ls.1,take_length]
   walk_at "rd"
   exact q d hd
def Ajf:Sp:=fun vs H Q _=>∃ b ys mates,vs = [.ref b]/\H b = some (.lst ys)/\LAt PairAt H ys mates/\(Gg mates).Nodup/\mates.length <= 400/\∀ d,H d = none->Q (.ref d) (upd H d (.dK (kB mates)))
theorem AnL (T:Txt K mg t):Binds K t.d_qbb ["mates"] []:=T.F_qbb.binds (by walk_at "b1")
theorem Amq (T:Txt K mg t):FnOk P w K mg base CX0 1 t.f_qbb t.d_qbb ["mates"] (Ajf):=by
 refine T.F_qbb.ok sc_qbb (fun vs H Q E h=>?_) (fun cdv A outer s H vs Q E hr h=>?_)
 ·obtain⟨b,ys,mates,rfl,hb,lm,nd,hl,q⟩:=h
  rfl
 ·obtain⟨b,ys,mates,rfl,hb,lm,nd,hl,q⟩:=h
  have hu:=Cy hr
  have hu64:=hr.units
  refine⟨_,(Bc (Bo (i:=1) sc_qbb.nd rfl (Or.inl rfl) Jv)
   (Bc (Dj PassesOwn.never rfl (Cs (pv 0)) (Os rfl (Ci (Bq (i:=2) sc_qbb.nd rfl (Or.inl rfl)) (Ci (Bq (i:=3) sc_qbb.nd rfl (Or.inl rfl)) Ge)))
    (Bc (Gj hu (pv 1) (pv 2) (pv 3) rfl)
   (Bi (Gj hu (pv 1) (pv 3) (pv 2) rfl))))
   (Bi (Cd (pv 1))))),?_⟩
  try dsimp only [Cm,By]
  walk_at "rd"
  intro d hd
  walk_at "rd"
  have ndb:b ≠ d:=Bu hb hd
  have ndk:((kB mates).map (·.1)).Nodup:=by rw[Aji]; exact Oa nd
  refine Nv rfl (SqL.of (xs:=ys) (by rw[Bk ndb]; exact hb)) (fun i σ H'=>∃ v3 v4,σ = [some (.ref b),some (.ref d),v3,v4]/\H' = upd H d (.dK (kB (mates.take i)))) ⟨none,none,rfl,rfl⟩ (fun i σ H' _ ⟨_,_,_,e⟩=>by subst e; exact SqL.of (by rw[Bk ndb]; exact hb)) ?_ ?_
  ·rintro i x σ H' hi ⟨v3,v4,rfl,rfl⟩
   obtain⟨m,em,p,rfl,hp⟩:=lm.get hi
   have hp':(upd H d (.dK (kB (mates.take i)))) p = some (.tup [.int m.1,.int m.2]):=by rw[Bk (Bu hp hd)]; exact hp
   have hd':(upd H d (.dK (kB (mates.take i)))) d = some (.dK (kB (mates.take i))):=Bp
   have et:=Db em
   have hlt:i < mates.length:=(List.getElem?_eq_some_iff.mp em).1
   have q1:kB mates = kB (mates.take i) ++ ((Sum.inl m.1,V.int m.2) :: (Sum.inl m.2,V.int m.1) :: kB (mates.drop (i + 1))):=by
    rw[show ((Sum.inl m.1,V.int m.2) :: (Sum.inl m.2,V.int m.1) :: kB (mates.drop (i + 1)):List (Key × V)) = kB (m :: mates.drop (i + 1)) from rfl,<- Ym]
    congr 1
    have:=getElem?_eq_getElem hlt
    rw[em] at this
    rw[Option.some.inj this,<- drop_eq_getElem_cons hlt,take_append_drop]
   rw[q1,map_append,map_cons,map_cons] at ndk
   have nd1:=(nodup_append.mp ndk).2.2
   have nd2:=(nodup_append.mp ndk).2.1
   have hlen:(kB (mates.take i)).length + 1 <= 1000:=by
    rw[Amk,length_take]; omega
   have n1:Cp (kB (mates.take i)) (Sum.inl m.1) = none:=Lp fun z=>nd1 _ z _ mem_cons_self rfl
   have n2:Cp (kB (mates.take i) ++ [(Sum.inl m.1,V.int m.2)]) (Sum.inl m.2) = none:=by
    refine Lp fun z=>?_
    rw[map_append,mem_append] at z
    rcases z with z | z
    ·exact nd1 _ z _ (mem_cons_of_mem _ mem_cons_self) rfl
    ·have e:(Sum.inl m.2:Key) = Sum.inl m.1:=mem_singleton.mp z
     have nd3:=(nodup_cons.mp nd2).1
     exact nd3 (mem_cons.mpr (.inl e.symm))
   walk_at "rd"
   ·rw[Nh _ n1]
    have hd2:(upd (upd H d (.dK (kB (mates.take i)))) d (.dK (kB (mates.take i) ++ [(Sum.inl m.1,.int m.2)]))) d = some (.dK (kB (mates.take i) ++ [(Sum.inl m.1,.int m.2)])):=Bp
    walk_at "rd"
    ·refine⟨_,_,rfl,?_⟩
     rw[Gz,Gz,et,Ym,Nh _ n2]
     simp [kB]
    ·rw[length_append]; exact Je hlen
   ·exact Je (by omega)
  ·rintro σ H' ⟨v3,v4,rfl,rfl⟩
   rw[lm.1,take_length]
   walk_at "rd"
   exact q d hd
theorem Aez {k:Str} (h:k ∈ joinedK):inV (V.str k) [V.str "fore",V.str "back",V.str "num",V.str "blank",V.str "plain"] = true:=by
 have e:inV (V.str k) (joinedK.map V.str) = true:=by
  unfold inV
  rw[any_map]
  exact any_eq_true.mpr ⟨k,h,by show (k == k) = true; exact beq_self_eq_true k⟩
 exact e
def AjE:Sp:=fun vs H Q _=>∃ d kk w b m k,vs = [.ref d,.int w,.int b,.int m]/\H d = some (.dK kk)/\0 <= w/\0 <= b/\0 <= m/\knd kk m = .str "mark"/\k ∈ joinedK/\knd kk w = .str k/\knd kk b = .str k/\Q .non H
theorem An2 (T:Txt K mg t):Binds K t.d_qn ["kinds","whole","base","mark"] []:=T.F_qn.binds (by walk_at "b4")
theorem Am9 (T:Txt K mg t):FnOk P w K mg base CX0 3 t.f_qn t.d_qn ["kinds","whole","base","mark"] (AjE):=by
 refine T.F_qn.ok sc_qn (fun vs H Q E h=>?_) (fun cdv A outer s H vs Q E hr h=>?_)
 ·obtain⟨d,kk,w,b,m,k,rfl,hd,w0,b0,m0,hm,hk,hw,hb,q⟩:=h
  rfl
 ·obtain⟨d,kk,w,b,m,k,rfl,hd,w0,b0,m0,hm,hk,hw,hb,q⟩:=h
  have hu:=Cy hr
  have hu64:=hr.units
  refine⟨_,(Bc (Cj (Bm (Lc T) (hr.mono (by decide)) rfl T.m_qb T.F_qb.kp (Nl T) .nil Br (Ba (Ny (Bm (Vy T) (hr.mono (by decide)) rfl T.m_qbw T.F_qbw.kp (Yz T) .nil Br (Ba (pv 1) Bd)) (Ny (Bm (Vy T) (hr.mono (by decide)) rfl T.m_qbw T.F_qbw.kp (Yz T) .nil Br (Ba (pv 2) Bd)) (Ow (Bm (Vy T) (hr.mono (by decide)) rfl T.m_qbw T.F_qbw.kp (Yz T) .nil Br (Ba (pv 3) Bd))))) (Ba Cf Bd))))
   (Bc (Cj (Bm (Lc T) (hr.mono (by decide)) rfl T.m_qb T.F_qb.kp (Nl T) .nil Br (Ba (Gd Gi (Bm (Zh T) (hr.mono (by decide)) rfl T.m_qp T.F_qp.kp (Adq T) .nil Br (Ba (pv 0) (Ba (pv 3) Bd))) Cf (Co _)) (Ba Cf Bd))))
   (Bc (Bo (i:=4) sc_qn.nd rfl (Or.inl rfl) (Bm (Zh T) (hr.mono (by decide)) rfl T.m_qp T.F_qp.kp (Adq T) .nil Br (Ba (pv 0) (Ba (pv 1) Bd))))
   (Bc (Cj (Bm (Lc T) (hr.mono (by decide)) rfl T.m_qb T.F_qb.kp (Nl T) .nil Br (Ba (Gd (Tb) (pv 4) (Xc (v:=.ref t.a_JOINED_KINDS) rfl T.g_JOINED_KINDS rfl) rfl) (Ba Cf Bd))))
   (Bi (Cj (Bm (Lc T) (hr.mono (by decide)) rfl T.m_qb T.F_qb.kp (Nl T) .nil Br (Ba (Gd Gi (Bm (Zh T) (hr.mono (by decide)) rfl T.m_qp T.F_qp.kp (Adq T) .nil Br (Ba (pv 0) (Ba (pv 2) Bd))) (pv 4) (Co _)) (Ba Cf Bd))))))))),?_⟩
  try dsimp only [Cm,By]
  unfold knd at hm hw hb
  walk_at "rd"
  refine AkH w0 ?_
  walk_at "rd"
  refine AkH b0 ?_
  walk_at "rd"
  ·rw[hm]
   walk_at "rd"
   ·rw[hw]
    walk_at "rd"
    refine⟨_,_,rfl,.inr (T.q_JOINED_KINDS _),rfl,rfl,?_⟩
    rw[show (if false = true then !inV (V.str k) _ else inV (V.str k) [V.str "fore",V.str "back",V.str "num",V.str "blank",V.str "plain"]) = true from Aez hk]
    walk_at "rd"
    rw[hb]
    walk_at "rd"
    ·exact q
    ·exact decide_eq_true rfl
   ·exact decide_eq_true rfl
  ·exact decide_eq_true m0
def Ajp:Sp:=fun vs H Q _=>∃ d kvs J n,vs = [.ref d,.int n]/\Rd H d (.dK kvs)/\LAt KvAt H kvs J/\Q (.bl (!(Cl J (jGo J 7 n)).isSome)) H
theorem Aoa (T:Txt K mg t):Binds K t.d_qd ["pairs","whole"] []:=T.F_qd.binds (by walk_at "b2")
theorem Am0 (T:Txt K mg t):FnOk P w K mg base CX0 1 t.f_qd t.d_qd ["pairs","whole"] (Ajp):=by
 refine T.F_qd.ok sc_qd (fun vs H Q E h=>?_) (fun cdv A outer s H vs Q E hr h=>?_)
 ·obtain⟨d,kvs,J,n,rfl,hd,lj,q⟩:=h
  rfl
 ·obtain⟨d,kvs,J,n,rfl,hd,lj,q⟩:=h
  have hu:=Cy hr
  have hu64:=hr.units
  refine⟨_,(Bc (Bo (i:=2) sc_qd.nd rfl (Or.inl rfl) (pv 1))
   (Bc (Dj PassesOwn.never rfl (Nz rfl T.z_range (Ba (Xc rfl T.g_MOST_GOINGS.choose_spec.1 T.g_MOST_GOINGS.choose_spec.2) Bd)) (Bq (i:=3) sc_qd.nd rfl (Or.inl rfl))
    (Bi (Dx (Tm (AaT hu (pv 2) (pv 0)))
    (Bi (Bo (i:=2) sc_qd.nd rfl (Or.inl rfl) (Ck (Aed) (No hu (pv 0) (pv 2) (fun _ _=>rfl)) Bg (fun _ _=>rfl))))
    Dg)))
   (Bi (Cd (Vp (Qa hu (pv 2) (pv 0))))))),?_⟩
  try dsimp only [Cm,By]
  walk_at "rd"
  refine AiN (hi:=7) (n:=7) (fun R q'=>by walk_at "rd"; exact q') ⟨by decide,by decide⟩ rfl (fun i σ H'=>∃ v3,σ = [some (.ref d),some (.int n),some (.int (jGo J i n)),v3]/\H' = H) ⟨none,rfl,rfl⟩ ?_ ?_
  ·rintro i σ H' hi ⟨v3,rfl,rfl⟩
   walk_at "rd"
   refine⟨d,_,rfl,.inl ⟨kvs,Sum.inl (jGo J i n),hd,rfl,rfl⟩,?_⟩
   walk_at "rd"
   rcases Wq lj (jGo J i n) with ⟨h1,h2⟩ | ⟨m,p,h1,h2,hp⟩
   ·rw[h2]
    refine Jy ?_
    walk_at "rd"
    exact⟨_,by show _ = [_,_,some (V.int (Fn J (jGo J i n))),_]; unfold Fn; rw[h1],rfl⟩
   ·rw[h2]
    refine Jq ?_
    walk_at "rd"
    refine⟨d,.ref p,rfl,.inl ⟨kvs,Sum.inl (jGo J i n),hd,rfl,h2.symm⟩,?_⟩
    walk_at "rd"
    refine AnH hp ?_ rfl
    walk_at "rd"
    exact⟨_,by show _ = [_,_,some (V.int (Fn J (jGo J i n))),_]; unfold Fn; rw[h1],rfl⟩
  ·rintro σ H' ⟨v3,rfl,rfl⟩
   walk_at "rd"
   refine⟨d,_,rfl,.inl ⟨kvs,Sum.inl (jGo J 7 n),hd,rfl,rfl⟩,?_⟩
   rcases Wq lj (jGo J 7 n) with ⟨h1,h2⟩ | ⟨m,p,h1,h2,hp⟩
   ·rw[h2]; rw[h1] at q; exact q
   ·rw[h2]; rw[h1] at q; exact q
def Af0:Sp:=fun vs H Q _=>∃ d b kk xs J,vs = [.ref d,.ref b]/\H d = some (.dK kk)/\H b = some (.lst xs)/\LAt TrjAt H xs J/\Zy kk J/\∀ p kvs H',H p = none->Same H H'->H' p = some (.dK kvs)->LAt KvAt H' kvs J->Q (.ref p) H'
theorem AnT (T:Txt K mg t):Binds K t.d_qu ["kinds","joins"] []:=T.F_qu.binds (by walk_at "b2")
theorem Am6 (T:Txt K mg t):FnOk P w K mg base CX0 4 t.f_qu t.d_qu ["kinds","joins"] (Af0):=by
 refine T.F_qu.ok sc_qu (fun vs H Q E h=>?_) (fun cdv A outer s H vs Q E hr h=>?_)
 ·obtain⟨d,b,kk,xs,J,rfl,hd,hb,lj,jo,q⟩:=h
  rfl
 ·obtain⟨d,b,kk,xs,J,rfl,hd,hb,lj,jo,q⟩:=h
  have hu:=Cy hr
  have hu64:=hr.units
  refine⟨_,(Bc (Bo (i:=2) sc_qu.nd rfl (Or.inl rfl) Jv)
   (Bc (Dj PassesOwn.never rfl (Cs (pv 1)) (Os rfl (Ci (Bq (i:=3) sc_qu.nd rfl (Or.inl rfl)) (Ci (Bq (i:=4) sc_qu.nd rfl (Or.inl rfl)) (Ci (Bq (i:=5) sc_qu.nd rfl (Or.inl rfl)) Ge))))
    (Bc (Cj (Bm (Am9 T) (hr.mono (by decide)) rfl T.m_qn T.F_qn.kp (An2 T) .nil Br (Ba (pv 0) (Ba (pv 3) (Ba (pv 4) (Ba (pv 5) Bd))))))
   (Bc (Cj (Bm (Lc T) (hr.mono (by decide)) rfl T.m_qb T.F_qb.kp (Nl T) .nil Br (Ba (Vp (Qa hu (pv 3) (pv 2))) (Ba Cf Bd))))
   (Bi (Gj hu (pv 2) (pv 3) (Ads (Ba (pv 4) (Ba (pv 5) Bd))) rfl)))))
   (Bc (Ws (Dj PassesOwn.never rfl (Vk (pv 2)) (Bq (i:=3) sc_qu.nd rfl (Or.inl rfl))
    (Bi (Cj (Bm (Lc T) (hr.mono (by decide)) rfl T.m_qb T.F_qb.kp (Nl T) .nil Br (Ba (Bm (Am0 T) (hr.mono (by decide)) rfl T.m_qd T.F_qd.kp (Aoa T) .nil Br (Ba (pv 2) (Ba (pv 3) Bd))) (Ba Cf Bd)))))))
   (Bi (Cd (pv 2)))))),?_⟩
  try dsimp only [Cm,By]
  walk_at "rd"
  intro p hp
  have s0:Same H (upd H p (.dK [])):=Same.new hp
  have e0:(upd H p (.dK [])) p = some (.dK []):=Bp
  generalize upd H p (.dK []) = H0 at s0 e0
  walk_at "rd"
  refine Nv (i:=1) rfl (SqL.of (s0 _ _ hb)) (fun i σ H'=>∃ v3 v4 v5 kvs,σ = [some (.ref d),some (.ref b),some (.ref p),v3,v4,v5]/\Same H H'/\H' p = some (.dK kvs)/\LAt KvAt H' kvs (J.take i)) ⟨none,none,none,[],rfl,s0,e0,LAt.nil⟩ (fun i σ H' _ ⟨_,_,_,_,_,s,_⟩=>SqL.of (s _ _ hb)) ?_ ?_
  ·rintro i x σ H' hi ⟨v3,v4,v5,kvs,rfl,s,e,lk⟩
   obtain⟨j,ej,a,rfl,ha⟩:=lj.get hi
   have hj:=mem_of_getElem? ej
   have ha':=s _ _ ha
   obtain⟨k,hk,hw,hb'⟩:=jo.kd j hj
   obtain⟨n1,n2,n3⟩:=jo.nn j hj
   have hlen:kvs.length <= 400:=by
    rw[lk.1,length_take]
    have:=jo.ln
    omega
   have hno:Cp kvs (Sum.inl j.1) = none:=by
    rcases Wq lk j.1 with ⟨_,h2⟩ | ⟨m,_,h1,_,_⟩
    ·exact h2
    ·exact absurd (show j.1 ∈ (J.take i).map (·.1) from mem_map.mpr ⟨_,Fx h1,rfl⟩) (Ju (f:=(·.1)) jo.nw ej)
   walk_at "rd"
   refine⟨d,kk,j.1,j.2.1,j.2.2,k,rfl,s _ _ hd,n1,n2,n3,jo.mr j hj,hk,hw,hb',?_⟩
   walk_at "rd"
   ·refine⟨by show 2 <= sizeLine; decide,fun t ht=>?_⟩
    walk_at "rd"
    refine AdC (Same.new ht _ _ e) ?_ (Je (by omega))
    rw[Nh _ hno]
    have ntp:t ≠ p:=(Bu e ht).symm
    have kt:∀ q' zs,H' q' = some (.tup zs)->(upd (upd H' t (.tup [.int j.2.1,.int j.2.2])) p (.dK (kvs ++ [(Sum.inl j.1,V.ref t)]))) q' = some (.tup zs):=fun q' zs z=>by
     rw[Bk (Fk z e (by intro w; cases w)),Bk (Bu z ht)]; exact z
    refine⟨_,_,_,_,rfl,fun q' o z=>?_,Bp,?_⟩
    ·rw[Bk (Bu z hp),Bk (Bu (s _ _ z) ht)]; exact s _ _ z
    ·rw[Db ej]
     exact LAt.snoc (lk.mono fun x y h=>h.mono kt) ⟨rfl,t,rfl,by rw[Bk ntp,Bp]⟩
   ·rw[hno]; rfl
  ·rintro σ H' ⟨v3,v4,v5,kvs,rfl,s,e,lk⟩
   rw[lj.1,take_length] at lk
   dsimp only
   with_reducible refine Ab9 ?_
   refine AjK (i:=2) (a:=p) (kvs:=kvs) rfl e (fun i σ H''=>∃ v3 v4 v5,σ = [some (.ref d),some (.ref b),some (.ref p),v3,v4,v5]/\H'' = H') ⟨_,_,_,rfl,rfl⟩ (fun i σ H' _ ⟨_,_,_,_,z⟩=>by subst z; exact e) ?_ ?_
   ·rintro o i kv σ H'' hi ⟨v3,v4,v5,rfl,rfl⟩
    obtain⟨j,ej,e1,_⟩:=lk.get hi
    have hj:=mem_of_getElem? ej
    obtain⟨key,val⟩:=kv
    dsimp only at e1
    subst e1
    show Na _ (.int j.1) _ _ _
    walk_at "rd"
    refine⟨p,kvs,J,j.1,rfl,Amc,lk.mono fun x y h=>h.mono fun q' zs z=>?_,?_⟩
    ·rw[Bk (Fk z e (by intro w; cases w))]; exact z
    ·walk_at "rd"
     ·exact⟨Bp,_,_,_,rfl,AfR e⟩
     ·rw[jo.en j hj]; rfl
   ·rintro σ H'' ⟨v3,v4,v5,rfl,rfl⟩
    walk_at "rd"
    exact q p kvs _ hp s e lk
def Afe:Sp:=fun vs H Q _=>∃ d kvs J,vs = [.ref d]/\H d = some (.dK kvs)/\LAt KvAt H kvs J/\(J.map (·.2)).Nodup/\J.length <= 400/\∀ p H',H p = none->Same H H'->H' p = some (.dT (kW J))->Q (.ref p) H'
theorem An6 (T:Txt K mg t):Binds K t.d_qk ["pairs"] []:=T.F_qk.binds (by walk_at "b1")
theorem Anb (T:Txt K mg t):FnOk P w K mg base CX0 2 t.f_qk t.d_qk ["pairs"] (Afe):=by
 refine T.F_qk.ok sc_qk (fun vs H Q E h=>?_) (fun cdv A outer s H vs Q E hr h=>?_)
 ·obtain⟨d,kvs,J,rfl,hd,lk,np,ln,q⟩:=h
  rfl
 ·obtain⟨d,kvs,J,rfl,hd,lk,np,ln,q⟩:=h
  have hu:=Cy hr
  have hu64:=hr.units
  refine⟨_,(Bc (Bo (i:=1) sc_qk.nd rfl (Or.inl rfl) Afx)
   (Bc (Ws (Dj PassesOwn.never rfl (Aew (pv 0)) (Os rfl (Ci (Bq (i:=2) sc_qk.nd rfl (Or.inl rfl)) (Ci (Bq (i:=3) sc_qk.nd rfl (Or.inl rfl)) Ge)))
    (Bc (Cj (Bm (Lc T) (hr.mono (by decide)) rfl T.m_qb T.F_qb.kp (Nl T) .nil Br (Ba (Vp (Qa hu (pv 3) (pv 1))) (Ba Cf Bd))))
   (Bi (Gj hu (pv 1) (pv 3) (pv 2) rfl)))))
   (Bi (Cd (pv 1))))),?_⟩
  try dsimp only [Cm,By]
  walk_at "rd"
  intro p hp
  have s0:Same H (upd H p (.dT [])):=Same.new hp
  have e0:(upd H p (.dT [])) p = some (.dT []):=Bp
  generalize upd H p (.dT []) = H0 at s0 e0
  have ndp:d ≠ p:=Bu hd hp
  walk_at "rd"
  refine AjX (i:=0) (a:=d) (kvs:=kvs) rfl (s0 _ _ hd) (fun i σ H'=>∃ v2 v3,σ = [some (.ref d),some (.ref p),v2,v3]/\Same H H'/\H' p = some (.dT (kW (J.take i)))) ⟨none,none,rfl,s0,e0⟩ ?_ ?_
  ·rintro o i kv t σ H' hi ht ntd ⟨v2,v3,rfl,s,e⟩
   obtain⟨j,ej,e1,a,e2,ha⟩:=lk.get hi
   obtain⟨key,val⟩:=kv
   dsimp only at e1 e2
   subst e1 e2
   have ntp:p ≠ t:=Bu e ht
   have had:a ≠ d:=Fk ha hd (by intro w; cases w)
   have hat:a ≠ t:=Bu (s _ _ ha) ht
   have hap:a ≠ p:=Bu ha hp
   have ep:(upd (upd H' d (.frz o (.dK kvs))) t (.tup [.int j.1,.ref a])) p = some (.dT (kW (J.take i))):=by rw[Bk ntp,Bk ndp.symm]; exact e
   have ea:(upd (upd H' d (.frz o (.dK kvs))) t (.tup [.int j.1,.ref a])) a = some (.tup ([Sum.inl j.2.1,Sum.inl j.2.2].map kV)):=by rw[Bk hat,Bk had]; exact s _ _ ha
   have et:(upd (upd H' d (.frz o (.dK kvs))) t (.tup [.int j.1,.ref a])) t = some (.tup [.int j.1,.ref a]):=Bp
   have ed:(upd (upd H' d (.frz o (.dK kvs))) t (.tup [.int j.1,.ref a])) d = some (.frz o (.dK kvs)):=by rw[Bk ntd.symm,Bp]
   have back:∀ q' u,H q' = some u->q' ≠ d->(upd (upd H' d (.frz o (.dK kvs))) t (.tup [.int j.1,.ref a])) q' = some u:=fun q' u z nz=>by
    rw[Bk (Bu (s _ _ z) ht),Bk nz]; exact s _ _ z
   show AaC _ _ _ _ _ (upd (upd H' d (.frz o (.dK kvs))) t (.tup [.int j.1,.ref a])) _
   generalize upd (upd H' d (.frz o (.dK kvs))) t (.tup [.int j.1,.ref a]) = H2 at ep ea et ed back
   have hno:Cp (kW (J.take i)) [Sum.inl j.2.1,Sum.inl j.2.2] = none:=Anm (Ju (f:=(·.2)) np ej)
   have hlen:(kW (J.take i)).length <= 400:=by unfold kW; rw[length_map,length_take]; omega
   walk_at "rd"
   refine⟨p,_,rfl,DGet.t ep ea,?_⟩
   rw[hno]
   walk_at "rd"
   rotate_left
   ·rfl
   refine⟨p,_,rfl,DPut.t ep ea (Je (by omega)),?_⟩
   rw[Nh _ hno]
   refine⟨by rw[Bk ndp]; exact ed,_,_,rfl,fun q' u z=>?_,?_⟩
   ·by_cases hq:q' = d
    ·subst hq
     rw[Bp]
     rw[hd] at z; exact z
    ·rw[Bk hq,Bk (Bu z hp)]; exact back _ _ z hq
   ·rw[Bk ndp.symm,Bp,Db ej]
    simp [kW]
  ·rintro σ H' ⟨v2,v3,rfl,s,e⟩
   rw[lk.1,take_length] at e
   walk_at "rd"
   exact q p _ hp s e
theorem AnX (T:Txt K mg t):Binds K t.d_qx ["self","signs","mates","joins"] []:=T.F_qx.binds (by walk_at "b4")
theorem Anq (T:Txt K mg t):FnOk P w K mg base CX0 5 t.f_qx t.d_qx ["self","signs","mates","joins"] (AbL t.C_Book):=by
 refine T.F_qx.ok AmB (fun vs H Q E h=>?_) (fun cdv A outer s H vs Q E hr h=>?_)
 ·obtain⟨p,dx,a,b,cc,xs,ys,zs,signs,mates,J,rfl,hp,ha,hb,hc,ls,lm,lj,so,mo,nd,jo,hl,q⟩:=h
  rfl
 ·obtain⟨p,dx,a,b,cc,xs,ys,zs,signs,mates,J,rfl,hp,ha,hb,hc,ls,lm,lj,so,mo,nd,jo,hl,q⟩:=h
  have hu:=Cy hr
  have hu64:=hr.units
  refine⟨_,(Bc (Cj (Bm (Ace T) (hr.mono (by decide)) rfl T.m_qc T.F_qc.kp (Afs T) .nil Br (Ba (pv 1) (Ba Bg Bd))))
   (Bc (Cj (Bm (Ace T) (hr.mono (by decide)) rfl T.m_qc T.F_qc.kp (Afs T) .nil Br (Ba (pv 2) (Ba Bg Bd))))
   (Bc (Cj (Bm (Ace T) (hr.mono (by decide)) rfl T.m_qc T.F_qc.kp (Afs T) .nil Br (Ba (pv 3) (Ba Bg Bd))))
   (Bc (Tq (pv 0) (Bm (AmN T) (hr.mono (by decide)) rfl T.m_qq T.F_qq.kp (Aoh T) .nil Br (Ba (pv 1) (Ba (pv 2) Bd))) rfl)
   (Bc (Tq (pv 0) (Bm (Am2 T) (hr.mono (by decide)) rfl T.m_qv T.F_qv.kp (An0 T) .nil Br (Ba (pv 1) Bd)) rfl)
   (Bc (Tq (pv 0) (Bm (Amq T) (hr.mono (by decide)) rfl T.m_qbb T.F_qbb.kp (AnL T) .nil Br (Ba (pv 2) Bd)) rfl)
   (Bc (Tq (pv 0) (Bm (Am6 T) (hr.mono (by decide)) rfl T.m_qu T.F_qu.kp (AnT T) .nil Br (Ba (Qy (pv 0) rfl) (Ba (pv 3) Bd))) rfl)
   (Bi (Tq (pv 0) (Bm (Anb T) (hr.mono (by decide)) rfl T.m_qk T.F_qk.kp (An6 T) .nil Br (Ba (Qy (pv 0) rfl) Bd)) rfl))))))))),?_⟩
  try dsimp only [Cm,By]
  have nt:∀ q' zs,H q' = some (.tup zs)->q' ≠ p:=fun q' zs h=>Fk h hp (by intro z; cases z)
  have nap:a ≠ p:=Fk ha hp (by intro z; cases z)
  have nbp:b ≠ p:=Fk hb hp (by intro z; cases z)
  have ncp:cc ≠ p:=Fk hc hp (by intro z; cases z)
  have c3:∀ x ∈ xs,∃ b ys,x = V.ref b/\H b = some (.tup ys)/\((ys.length:Nat):Int) = 3:=fun x hx=>by
   obtain⟨i,hi⟩:=getElem?_of_mem hx
   obtain⟨s,_,q',e,h⟩:=ls.get hi
   exact⟨q',_,e,h,rfl⟩
  have c2:∀ x ∈ ys,∃ b ys,x = V.ref b/\H b = some (.tup ys)/\((ys.length:Nat):Int) = 2:=fun x hx=>by
   obtain⟨i,hi⟩:=getElem?_of_mem hx
   obtain⟨s,_,q',e,h⟩:=lm.get hi
   exact⟨q',_,e,h,rfl⟩
  have c3j:∀ x ∈ zs,∃ b ys,x = V.ref b/\H b = some (.tup ys)/\((ys.length:Nat):Int) = 3:=fun x hx=>by
   obtain⟨i,hi⟩:=getElem?_of_mem hx
   obtain⟨s,_,q',e,h⟩:=lj.get hi
   exact⟨q',_,e,h,rfl⟩
  have mJ:∀ {H'},Keep p H H'->LAt TrjAt H' zs J:=fun k=>lj.mono fun x y h=>h.mono fun q' zs e=>k q' _ e (nt q' zs e)
  have mT:∀ {H'},Keep p H H'->LAt TripAt H' xs signs:=fun k=>ls.mono fun x y h=>h.mono fun q' zs e=>k q' _ e (nt q' zs e)
  have mP:∀ {H'},Keep p H H'->LAt PairAt H' ys mates:=fun k=>lm.mono fun x y h=>h.mono fun q' zs e=>k q' _ e (nt q' zs e)
  have nd1:=(nodup_append.mp nd).1
  have nd2:=(nodup_append.mp nd).2.1
  walk_at "rd"
  refine⟨a,xs,_,rfl,ha,c3,?_⟩
  walk_at "rd"
  refine⟨b,ys,_,rfl,hb,c2,?_⟩
  walk_at "rd"
  refine⟨cc,zs,_,rfl,hc,c3j,?_⟩
  walk_at "rd"
  refine⟨a,b,xs,ys,signs,mates,rfl,ha,hb,ls,lm,so,mo,nd,by omega,fun dk hk=>?_⟩
  have fk:H dk = none:=hk
  walk_at "rd"
  have k1:Keep p H (upd H dk (.dK (kK signs ++ kM mates))):=Keep.new hk
  have p1:(upd H dk (.dK (kK signs ++ kM mates))) p = some (.ins t.C_Book dx []):=by rw[Bk (Bu hp hk)]; exact hp
  have e1:(upd H dk (.dK (kK signs ++ kM mates))) dk = some (.dK (kK signs ++ kM mates)):=Bp
  generalize upd H dk (.dK (kK signs ++ kM mates)) = H1 at k1 p1 e1
  refine⟨p,_,_,_,rfl,p1,T.cl_Book,T.n_Book_kinds,by show 0 < 1000; decide,?_⟩
  have k2:Keep p H (upd H1 p (.ins t.C_Book dx (Bx "kinds" (.ref dk) []))):=k1.trans Keep.put
  have p2:(upd H1 p (.ins t.C_Book dx (Bx "kinds" (.ref dk) []))) p = some (.ins t.C_Book dx (Bx "kinds" (.ref dk) [])):=Bp
  have e2:(upd H1 p (.ins t.C_Book dx (Bx "kinds" (.ref dk) []))) dk = some (.dK (kK signs ++ kM mates)):=by rw[Bk (Fk e1 p1 (by intro z; cases z))]; exact e1
  generalize upd H1 p (.ins t.C_Book dx (Bx "kinds" (.ref dk) [])) = H2 at k2 p2 e2
  walk_at "rd"
  refine⟨a,xs,signs,rfl,k2 _ _ ha nap,mT k2,nd1,by omega,fun dr hk=>?_⟩
  have fr':H dr = none:=k2.free p2 hk
  walk_at "rd"
  have k3:Keep p H (upd H2 dr (.dK (kR signs))):=k2.trans (Keep.new hk)
  have p3:(upd H2 dr (.dK (kR signs))) p = some (.ins t.C_Book dx (Bx "kinds" (.ref dk) [])):=by rw[Bk (Bu p2 hk)]; exact p2
  have e3:(upd H2 dr (.dK (kR signs))) dk = some (.dK (kK signs ++ kM mates)):=by rw[Bk (Bu e2 hk)]; exact e2
  have r3:(upd H2 dr (.dK (kR signs))) dr = some (.dK (kR signs)):=Bp
  generalize upd H2 dr (.dK (kR signs)) = H3 at k3 p3 e3 r3
  refine⟨p,_,_,_,rfl,p3,T.cl_Book,T.n_Book_ranks,Nat.lt_of_le_of_lt (Fb _ _ _) (by show 0 + 1 < 1000; decide),?_⟩
  have k4:Keep p H (upd H3 p (.ins t.C_Book dx (Bx "ranks" (.ref dr) (Bx "kinds" (.ref dk) [])))):=k3.trans Keep.put
  have p4:(upd H3 p (.ins t.C_Book dx (Bx "ranks" (.ref dr) (Bx "kinds" (.ref dk) [])))) p = some (.ins t.C_Book dx (Bx "ranks" (.ref dr) (Bx "kinds" (.ref dk) []))):=Bp
  have e4:(upd H3 p (.ins t.C_Book dx (Bx "ranks" (.ref dr) (Bx "kinds" (.ref dk) [])))) dk = some (.dK (kK signs ++ kM mates)):=by rw[Bk (Fk e3 p3 (by intro z; cases z))]; exact e3
  have r4:(upd H3 p (.ins t.C_Book dx (Bx "ranks" (.ref dr) (Bx "kinds" (.ref dk) [])))) dr = some (.dK (kR signs)):=by rw[Bk (Fk r3 p3 (by intro z; cases z))]; exact r3
  generalize upd H3 p (.ins t.C_Book dx (Bx "ranks" (.ref dr) (Bx "kinds" (.ref dk) []))) = H4 at k4 p4 e4 r4
  walk_at "rd"
  refine⟨b,ys,mates,rfl,k4 _ _ hb nbp,mP k4,nd2,by omega,fun dm hk=>?_⟩
  have fm:H dm = none:=k4.free p4 hk
  walk_at "rd"
  have k5:Keep p H (upd H4 dm (.dK (kB mates))):=k4.trans (Keep.new hk)
  have p5:(upd H4 dm (.dK (kB mates))) p = some (.ins t.C_Book dx (Bx "ranks" (.ref dr) (Bx "kinds" (.ref dk) []))):=by rw[Bk (Bu p4 hk)]; exact p4
  have e5:(upd H4 dm (.dK (kB mates))) dk = some (.dK (kK signs ++ kM mates)):=by rw[Bk (Bu e4 hk)]; exact e4
  have r5:(upd H4 dm (.dK (kB mates))) dr = some (.dK (kR signs)):=by rw[Bk (Bu r4 hk)]; exact r4
  have m5:(upd H4 dm (.dK (kB mates))) dm = some (.dK (kB mates)):=Bp
  generalize upd H4 dm (.dK (kB mates)) = H5 at k5 p5 e5 r5 m5
  refine⟨p,_,_,_,rfl,p5,T.cl_Book,T.n_Book_mates,Nat.lt_of_le_of_lt (Fb _ _ _) (Nat.lt_of_le_of_lt (succ_le_succ (Fb _ _ _)) (by show 0 + 1 + 1 < 1000; decide)),?_⟩
  have k6:Keep p H (upd H5 p (.ins t.C_Book dx (Bx "mates" (.ref dm) (Bx "ranks" (.ref dr) (Bx "kinds" (.ref dk) []))))):=k5.trans Keep.put
  have p6:(upd H5 p (.ins t.C_Book dx (Bx "mates" (.ref dm) (Bx "ranks" (.ref dr) (Bx "kinds" (.ref dk) []))))) p = some (.ins t.C_Book dx (Bx "mates" (.ref dm) (Bx "ranks" (.ref dr) (Bx "kinds" (.ref dk) [])))):=Bp
  have e6:(upd H5 p (.ins t.C_Book dx (Bx "mates" (.ref dm) (Bx "ranks" (.ref dr) (Bx "kinds" (.ref dk) []))))) dk = some (.dK (kK signs ++ kM mates)):=by rw[Bk (Fk e5 p5 (by intro z; cases z))]; exact e5
  have r6:(upd H5 p (.ins t.C_Book dx (Bx "mates" (.ref dm) (Bx "ranks" (.ref dr) (Bx "kinds" (.ref dk) []))))) dr = some (.dK (kR signs)):=by rw[Bk (Fk r5 p5 (by intro z; cases z))]; exact r5
  have m6:(upd H5 p (.ins t.C_Book dx (Bx "mates" (.ref dm) (Bx "ranks" (.ref dr) (Bx "kinds" (.ref dk) []))))) dm = some (.dK (kB mates)):=by rw[Bk (Fk m5 p5 (by intro z; cases z))]; exact m5
  generalize upd H5 p (.ins t.C_Book dx (Bx "mates" (.ref dm) (Bx "ranks" (.ref dr) (Bx "kinds" (.ref dk) [])))) = H6 at k6 p6 e6 r6 m6
  walk_at "rd"
  refine⟨p,_,_,_,_,rfl,p6,T.cl_Book,T.n_Book_kinds,by rw[Cu,if_neg (by decide +kernel),Cu,if_neg (by decide +kernel),Cu,if_pos rfl],?_⟩
  walk_at "rd"
  refine⟨dk,cc,_,zs,J,rfl,e6,k6 _ _ hc ncp,mJ k6,jo,fun dp kvs H7 hk s7 q7 lk7=>?_⟩
  have fp:H dp = none:=k6.free p6 hk
  walk_at "rd"
  have k7:Keep p H H7:=fun q' o e n=>s7 _ _ (k6 _ _ e n)
  have p7:=s7 _ _ p6
  have e7:=s7 _ _ e6
  have r7:=s7 _ _ r6
  have m7:=s7 _ _ m6
  clear k6 p6 e6 r6 m6 s7
  refine⟨p,_,_,_,rfl,p7,T.cl_Book,T.n_Book_pairs,Nat.lt_of_le_of_lt (Fb _ _ _) (Nat.lt_of_le_of_lt (succ_le_succ (Nat.le_trans (Fb _ _ _) (succ_le_succ (Fb _ _ _)))) (by show 0 + 1 + 1 + 1 < 1000; decide)),?_⟩
  have k8:Keep p H (upd H7 p (.ins t.C_Book dx (Bx "pairs" (.ref dp) (Bx "mates" (.ref dm) (Bx "ranks" (.ref dr) (Bx "kinds" (.ref dk) [])))))):=k7.trans Keep.put
  have p8:(upd H7 p (.ins t.C_Book dx (Bx "pairs" (.ref dp) (Bx "mates" (.ref dm) (Bx "ranks" (.ref dr) (Bx "kinds" (.ref dk) [])))))) p = some (.ins t.C_Book dx (Bx "pairs" (.ref dp) (Bx "mates" (.ref dm) (Bx "ranks" (.ref dr) (Bx "kinds" (.ref dk) []))))):=Bp
  have e8:(upd H7 p (.ins t.C_Book dx (Bx "pairs" (.ref dp) (Bx "mates" (.ref dm) (Bx "ranks" (.ref dr) (Bx "kinds" (.ref dk) [])))))) dk = some (.dK (kK signs ++ kM mates)):=by rw[Bk (Fk e7 p7 (by intro z; cases z))]; exact e7
  have r8:(upd H7 p (.ins t.C_Book dx (Bx "pairs" (.ref dp) (Bx "mates" (.ref dm) (Bx "ranks" (.ref dr) (Bx "kinds" (.ref dk) [])))))) dr = some (.dK (kR signs)):=by rw[Bk (Fk r7 p7 (by intro z; cases z))]; exact r7
  have m8:(upd H7 p (.ins t.C_Book dx (Bx "pairs" (.ref dp) (Bx "mates" (.ref dm) (Bx "ranks" (.ref dr) (Bx "kinds" (.ref dk) [])))))) dm = some (.dK (kB mates)):=by rw[Bk (Fk m7 p7 (by intro z; cases z))]; exact m7
  have q8:(upd H7 p (.ins t.C_Book dx (Bx "pairs" (.ref dp) (Bx "mates" (.ref dm) (Bx "ranks" (.ref dr) (Bx "kinds" (.ref dk) [])))))) dp = some (.dK kvs):=by rw[Bk (Fk q7 p7 (by intro z; cases z))]; exact q7
  have lk8:LAt KvAt (upd H7 p (.ins t.C_Book dx (Bx "pairs" (.ref dp) (Bx "mates" (.ref dm) (Bx "ranks" (.ref dr) (Bx "kinds" (.ref dk) [])))))) kvs J:=lk7.mono fun x y h=>h.mono fun q' zs z=>by rw[Bk (Fk z p7 (by intro z; cases z))]; exact z
  generalize upd H7 p (.ins t.C_Book dx (Bx "pairs" (.ref dp) (Bx "mates" (.ref dm) (Bx "ranks" (.ref dr) (Bx "kinds" (.ref dk) []))))) = H8 at k8 p8 e8 r8 m8 q8 lk8
  clear k7 p7 e7 r7 m7 q7 lk7
  walk_at "rd"
  refine⟨p,_,_,_,_,rfl,p8,T.cl_Book,T.n_Book_pairs,by rw[Cu,if_pos rfl],?_⟩
  walk_at "rd"
  refine⟨dp,kvs,J,rfl,q8,lk8,jo.np,jo.ln,fun dw H9 hk s9 w9=>?_⟩
  have fw:H dw = none:=k8.free p8 hk
  walk_at "rd"
  have p9:=s9 _ _ p8
  refine⟨p,_,_,_,rfl,p9,T.cl_Book,T.n_Book_wholes,Nat.lt_of_le_of_lt (Fb _ _ _) (Nat.lt_of_le_of_lt (succ_le_succ (Nat.le_trans (Fb _ _ _) (succ_le_succ (Nat.le_trans (Fb _ _ _) (succ_le_succ (Fb _ _ _)))))) (by show 0 + 1 + 1 + 1 + 1 < 1000; decide)),?_⟩
  refine q _ kvs dx dk dr dm dp dw (fun q' o e n=>by rw[Bk n]; exact s9 _ _ (k8 _ _ e n)) fk fr' fm fp fw Bp ?_ ?_ ?_ ?_ ?_ ?_
  ·rw[Bk (Fk e8 p8 (by intro z; cases z))]; exact s9 _ _ e8
  ·rw[Bk (Fk r8 p8 (by intro z; cases z))]; exact s9 _ _ r8
  ·rw[Bk (Fk m8 p8 (by intro z; cases z))]; exact s9 _ _ m8
  ·rw[Bk (Fk q8 p8 (by intro z; cases z))]; exact s9 _ _ q8
  ·rw[Bk (Fk w9 p9 (by intro z; cases z))]; exact w9
  ·exact lk8.mono fun x y h=>h.mono fun q' zs z=>by rw[Bk (Fk z p8 (by intro z; cases z))]; exact s9 _ _ z
local macro_rules | `(tactic| walk_at "u")=>`(tactic| with_reducible refine Aeq (by assumption) ?_)
local macro_rules | `(tactic| walk_at "u")=>`(tactic| with_reducible refine Ql (by assumption) AgT ?_)
theorem AnS (T:Txt K mg t):Binds K t.d_qy ["self","sign"] []:=T.F_qy.binds (by walk_at "b2")
theorem Anz (T:Txt K mg t):FnOk P w K mg base CX0 2 t.f_qy t.d_qy ["self","sign"] (AbH t.C_Book):=by
 refine T.F_qy.ok AnC (fun vs H Q E h=>?_) (fun cdv A outer s H vs Q E hr h=>?_)
 ·obtain⟨b,n,k,r,m,p,w,rfl,⟨dx,dk,dr,dm,dp,dw,h1,h2,h3,h4,h5,h6⟩,q⟩:=h
  rfl
 ·obtain⟨b,n,k,r,m,p,w,rfl,⟨dx,dk,dr,dm,dp,dw,h1,h2,h3,h4,h5,h6⟩,q⟩:=h
  have hu:=Cy hr
  have hu64:=hr.units
  refine⟨_,(Bi (Cd (Bm (Zh T) (hr.mono (by decide)) rfl T.m_qp T.F_qp.kp (Adq T) .nil Br (Ba (Qy (pv 0) rfl) (Ba (pv 1) Bd))))),?_⟩
  try dsimp only [Cm,By]
  walk_at "rd"
  refine⟨b,_,_,_,_,rfl,h1,T.cl_Book,T.n_Book_kinds,Ad6,?_⟩
  walk_at "rd"
  exact q
def Aej (K:Frag) (C:Addr):Sp:=fun vs H Q _=>∃ b l U M r m p w ts,vs = [.ref b,.ref l]/\BookAt C H b (kK U ++ kM M) r m p w/\SqL K H l (map V.int ts)/\ts.length <= 300 /\
 ∀ (wl:Addr) (xs:List V) (H':Hp),H wl = none->Same H H'->(∀ x ∈ xs,∃ p,x = V.ref p/\H p = none)->LLat H' wl xs (grp (Be U M) ts)->Q (.ref wl) H'
-- EU_WOF
def AiX:PSp:=fun ps P=>∃ U M J ts,ps = [.bk U M J,.lst (map .int ts)]/\ts.length <= 300/\P (.lst (map (fun g=>PV.lst (map .int g)) (grp (Be U M) ts)))
theorem Tt {C:Addr} {ω:Om} {E:XK} {m n:Bool} {t:TA} {u:UA} (ha:AU K C ω [m,n] t u):EU K C ω (Ro (Aej K C) [] E t) (Vx AiX u) :=
 fun B G0 H0 own G σ H ρ P Q S hu k=>ha B G0 H0 own G σ H ρ _ _ S hu fun vs ps G1 H1 w1 ok ⟨U,M,J,ts,e,hl,h⟩=>by
  obtain⟨v,w,p,q,rfl,e2,r1,r2⟩:=Ud ok
  rw[e] at e2; cases e2
  obtain⟨b,kvs,rfl,bk,_⟩:=r1.bk
  obtain⟨a,xs,rfl,ea,l⟩:=r2.lst w1.i
  rw[Ln l] at ea
  refine⟨b,a,U,M,_,_,_,_,ts,rfl,bk.mono fun _ _ e _=>w1.i _ _ e,SqL.of ea,hl,fun wl xs H2 hwl s2 fx ll=>?_⟩
  refine k _ _ _ H2 (w1.trans (Rq w1.i s2)) (Rep.ofL (Fy hwl ll.li) ⟨by rw[ll.at'.1,length_map],fun i x y hx hy=>?_⟩) h
  rw[getElem?_map] at hy
  obtain⟨g,hg,rfl⟩:=map_eq_some_iff.mp hy
  obtain⟨p,e1,hp⟩:=ll.at'.2 i x g hx hg
  obtain⟨p',e2,hn⟩:=fx x (mem_of_getElem? hx)
  subst e1
  cases e2
  exact Rep.ofL (Fy hn hp) (Ga g)
theorem Wp (T:Txt K mg t):Binds K t.d_qbl ["book","text"] []:=T.F_qbl.binds (by walk_at "b2")
theorem Sn (T:Txt K mg t):FnOk P w K mg base CX0 3 t.f_qbl t.d_qbl ["book","text"] (Aej K t.C_Book):=by
 refine T.F_qbl.ok sc_qbl (fun vs H Q E h=>?_) (fun cdv A outer s H vs Q E hr h=>?_)
 ·obtain⟨b,l,U,M,r,m,pp,w,ts,rfl,hB,hT,hl,q⟩:=h
  rfl
 ·obtain⟨b,l,U,M,r,m,pp,w,ts,rfl,hB,hT,hl,q⟩:=h
  have hu:=Cy hr
  have hu64:=hr.units
  refine⟨_,(Bc (Bo (i:=2) sc_qbl.nd rfl (Or.inl rfl) (Cn Bd))
   (Bc (Dj PassesOwn.never rfl (Cs (pv 1)) (Bq (i:=3) sc_qbl.nd rfl (Or.inl rfl))
    (Bc (Dx (PW.pt (Wc (Cr Gi (Ch (Lx) rfl T.z_len PySem.boot_len (Ba (pv 2) Bd)) Bg (Co _)) (Sv (Cr Uo (Og (pv 0) T.cl_Book T.M_qy (Anz T) (hr.mono (by decide)) (AnS T) .nil Br (Ba (pv 3) Bd)) Cf (Co _)))))
    (Bi (Cj (Fv plainAttrs_list PySem.F.slot_list_append PySem.F.type_list_append Do (pv 2) (Ba (Cn Bd) Bd))))
    Dg)
   (Bi (Cj (Fv plainAttrs_list PySem.F.slot_list_append PySem.F.type_list_append Do (Ck (Xo) (pv 2) (Wk Sr Bg) (fun _ _=>rfl)) (Ba (pv 3) Bd))))))
   (Bi (Cd (pv 2))))),?_⟩
  try dsimp only [Cm,By]
  walk_at "rd"
  refine⟨by decide,fun wl H0 hwl s0 e0=>?_⟩
  walk_at "rd"
  refine Nv (i:=1) rfl (s0.seq hT) (fun i σ H'=>∃ v3 xs,σ = [some (.ref b),some (.ref l),some (.ref wl),v3]/\Same H H'/\(∀ x ∈ xs,∃ p,x = V.ref p/\H p = none)/\LLat H' wl xs (grp (Be U M) (ts.take i))) ⟨none,[],rfl,s0,(fun x h=>by cases h),⟨e0,LAt.nil,nodup_nil,by simp⟩⟩ (fun i σ H' _ ⟨_,_,_,s,_⟩=>s.seq hT) ?_ ?_
  ·rintro i x σ H' hi ⟨v3,xs,rfl,s,fx,ll⟩
   obtain⟨n,en,rfl⟩:=AaH hi
   have hlt:=(List.getElem?_eq_some_iff.mp en).1
   have eg:grp (Be U M) (ts.take (i + 1)) = Gn (Be U M) (grp (Be U M) (ts.take i)) n:=by rw[Db en,Aa3]
   have hli:=ll.li
   have hxl:xs.length <= 300:=by
    have:=(Dd (Be U M) (ts.take i)).ln
    rw[<- ll.at'.1,length_take] at this
    omega
   have hB':=hB.mono (H':=H') fun _ _ e _=>s _ _ e
   walk_at "rd"
   refine Te (fun h=>?_) (fun h=>?_)
   ·have hz:grp (Be U M) (ts.take i) = []\/Be U M n = false:=.inl (List.eq_nil_of_length_eq_zero (by
     have h':((xs.length:Nat):Int) = 0:=of_decide_eq_true h
     rw[<- ll.at'.1]; omega))
    refine Jq ?_
    walk_at "rd"
    refine⟨by decide,fun p H2 hp s2 e2=>?_⟩
    walk_at "rd"
    walk_at "rd"
    refine Ja (s2 _ _ hli) (Je (by omega)) fun H3 c3 e3=>?_
    have npw:p ≠ wl:=(Bu hli hp).symm
    have e2':=c3 _ _ e2 npw
    walk_at "rd"
    refine Zm (SqL.of e3) ?_ (Nd _ _)
    walk_at "rd"
    walk_at "rd"
    refine Ja e2' (by decide) fun H4 c4 e4=>?_
    walk_at "rd"
    refine⟨_,_,rfl,((s.trans s2).chg c3 hwl).chg c4 (s.free hp),fun x hx=>?_,by rw[eg,Jw (by assumption)]; exact ll.push hp s2 c3 e3 c4 e4⟩
    rcases mem_append.mp hx with w | w
    ·exact fx x w
    ·exact⟨p,mem_singleton.mp w,s.free hp⟩
   ·have h':¬ ((xs.length:Nat):Int) = 0:=fun z=>h (decide_eq_true z)
    walk_at "rd"
    rw[Zg]
    walk_at "rd"
    refine Te (fun h2=>?_) (fun h2=>?_)
    ·have hz:grp (Be U M) (ts.take i) = []\/Be U M n = false:=.inr (by
      unfold Be
      simpa using h2)
     walk_at "rd"
     refine⟨by decide,fun p H2 hp s2 e2=>?_⟩
     walk_at "rd"
     walk_at "rd"
     refine Ja (s2 _ _ hli) (Je (by omega)) fun H3 c3 e3=>?_
     have npw:p ≠ wl:=(Bu hli hp).symm
     have e2':=c3 _ _ e2 npw
     walk_at "rd"
     refine Zm (SqL.of e3) ?_ (Nd _ _)
     walk_at "rd"
     walk_at "rd"
     refine Ja e2' (by decide) fun H4 c4 e4=>?_
     walk_at "rd"
     refine⟨_,_,rfl,((s.trans s2).chg c3 hwl).chg c4 (s.free hp),fun x hx=>?_,by rw[eg,Jw (by assumption)]; exact ll.push hp s2 c3 e3 c4 e4⟩
     rcases mem_append.mp hx with w | w
     ·exact fx x w
     ·exact⟨p,mem_singleton.mp w,s.free hp⟩
    ·have hm:Be U M n = true:=by
      unfold Be
      simpa using h2
     obtain⟨xs',p,gs',g,rfl,eg',hp⟩:=ll.last (fun z=>h' (by rw[ll.at'.1,z]; rfl))
     rw[eg'] at ll eg
     have hgl:g.length <= 300:=by
      have z:=(Dd (Be U M) (ts.take i)).fl
      rw[eg'] at z
      have:=congrArg length z
      simp at this
      omega
     walk_at "rd"
     refine Zm (SqL.of hli) ?_ (Nd _ _)
     walk_at "rd"
     walk_at "rd"
     refine Ja hp (Je (by rw[length_map]; omega)) fun H4 c4 e4=>?_
     walk_at "rd"
     have fp:H p = none:=by
      obtain⟨p',e,z⟩:=fx _ (mem_append_right _ mem_cons_self)
      cases e; exact z
     exact⟨_,_,rfl,s.chg c4 fp,fx,by rw[eg,Gm hm]; exact ll.add c4 e4⟩
  ·rintro σ H' ⟨v3,xs,rfl,s,fx,ll⟩
   rw[length_map,take_length] at ll
   walk_at "rd"
   exact q wl xs H' hwl s fx ll
local macro_rules | `(tactic| walk_at "u")=>`(tactic| with_reducible refine u_sp_parts (by assumption) ?_)
local macro_rules | `(tactic| walk_at "u")=>`(tactic| with_reducible refine Ql (by assumption) Yt ?_)
theorem Alo (T:Txt K mg t):Binds K t.d_qm ["self","sign"] []:=T.F_qm.binds (by walk_at "b2")
theorem Aid (T:Txt K mg t):FnOk P w K mg base CX0 1 t.f_qm t.d_qm ["self","sign"] (Aau t.C_Book):=by
 refine T.F_qm.ok AmK (fun vs H Q E h=>?_) (fun cdv A outer s H vs Q E hr h=>?_)
 ·obtain⟨b,n,k,r,m,p,w,rfl,⟨dx,dk,dr,dm,dp,dw,h1,h2,h3,h4,h5,h6⟩,q⟩:=h
  rfl
 ·obtain⟨b,n,k,r,m,p,w,rfl,⟨dx,dk,dr,dm,dp,dw,h1,h2,h3,h4,h5,h6⟩,q⟩:=h
  have hu:=Cy hr
  have hu64:=hr.units
  refine⟨_,(Bi (Cd (Zq hu (Qy (pv 0) rfl) (pv 1) ⟨rfl,rfl,rfl,rfl⟩))),?_⟩
  try dsimp only [Cm,By]
  walk_at "rd"
  refine⟨b,_,_,_,_,rfl,h1,T.cl_Book,T.n_Book_pairs,Adu,?_⟩
  walk_at "rd"
  exact q
def AkE:PSp:=fun ps P=>∃ U M J s,ps = [.bk U M J,.int s]/\(∀ s,EndN J 7 s)/\P (.lst (map .int (opn J 7 s)))
theorem Aon (T:Txt K mg t):Binds K t.d_ql ["book","sign"] []:=T.F_ql.binds (by walk_at "b2")
theorem AmQ (T:Txt K mg t):FnOk P w K mg base CX0 2 t.f_ql t.d_ql ["book","sign"] (spOf K t.C_Book [false,true] .fr AkE):=by
 refine T.F_ql.ok sc_ql (fun vs H Q E h=>h.len) (fun cdv A outer s H vs Q E hr h=>?_)
 have hu:=Cy hr
 have hu64:=hr.units
 refine⟨_,(Bc (Bo (i:=2) sc_ql.nd rfl (Or.inl rfl) (pv 1))
   (Bc (Bo (i:=3) sc_ql.nd rfl (Or.inl rfl) (Cn Bd))
   (Bc (Bo (i:=4) sc_ql.nd rfl (Or.inl rfl) (Og (pv 0) T.cl_Book T.M_qm (Aid T) (hr.mono (by decide)) (Alo T) .nil Br (Ba (pv 2) Bd)))
   (Bc (Aah PassesOwn.never (Tm (Ajj (pv 4)))
    (Bc (Bo (i:=2) sc_ql.nd rfl (Or.inl rfl) (Ck (Dt K) (pv 4) Bg (fun _ _=>rfl)))
   (Bc (Bo (i:=3) sc_ql.nd rfl (Or.inl rfl) (Bs Fu (Cn (Ba (Ck (Dt K) (pv 4) Bg (fun _ _=>rfl)) Bd)) (pv 3)))
   (Bi (Bo (i:=4) sc_ql.nd rfl (Or.inl rfl) (Og (pv 0) T.cl_Book T.M_qm (Aid T) (hr.mono (by decide)) (Alo T) .nil Br (Ba (pv 2) Bd)))))))
   (Bi (Cd (Bs Fu (Cn (Ba (pv 2) Bd)) (pv 3)))))))),?_⟩
 try dsimp only [Cm,By]
 refine Df h (by decide) (Bj (Bz Cg)
   (Bj (Bz (EF.eu (Dc 0 Bf)))
   (Bj (Bz (AaN Bb Bb))
   (Bj (AaE (Du (EU.eb (Aje Bb)))
    (Bj (Bz (Ff Bb (EU.eb Bh)))
   (Bj (Bz (EF.eu (Gh (EF.eb (Dc 1 (Bv (Ff Bb (EU.eb Bh)) Bf))) Bb)))
   (Bz (AaN Bb Bb)))))
   (Gs (Gh (EF.eb (Dc 1 (Bv Cg Bf))) Bb)))))) (fun ps P hp=>?_)
 clear h hu hu64 hr
 obtain⟨U,M,J,s,rfl,en,q⟩:=hp
 walk_at "s"
 ext
 refine⟨fun m ρ=>∃ (n:Int) (ms:List Int),ρ = [.bo (.bk U M J),.sh (.int s),.sh (.int n),.sh (.lst (ms.map .int)),.sh (AaW J n)]/\opn J m n ++ ms = opn J 7 s/\EndN J m n,⟨7,s,[],rfl,by simp,en s⟩,?_⟩
 rintro m ρ ⟨n,ms,rfl,ho,he⟩
 have ml:ms.length <= 8:=by
  have:=congrArg length ho
  have h2:=Ol J 7 s
  rw[length_append] at this
  omega
 ext
 unfold AaW
 cases e:Cl J n with
 | none =>
  refine Jy ?_
  ext
  rotate_left
  ·simp; omega
  rw[Fg e] at ho
  rw[<- ho,map_append] at q
  exact q
 | some b =>
  refine Jq ?_
  cases m with
  | zero=>rw[he.zero] at e; cases e
  | succ m =>
   ext
   rotate_left
   ·simp; omega
   refine⟨m,lt_succ_self _,b.1,b.2 :: ms,rfl,?_,he.step e⟩
   rw[<- ho,Jc e]
   simp
local macro_rules | `(tactic| walk_at "u")=>`(tactic| with_reducible refine u_sp_rank (by assumption) ?_)
local macro_rules | `(tactic| walk_at "u")=>`(tactic| with_reducible refine Ql (by assumption) Vm ?_)
theorem Acu (T:Txt K mg t):Binds K t.d_qba ["self","sign"] []:=T.F_qba.binds (by walk_at "b2")
theorem AaI (T:Txt K mg t):FnOk P w K mg base CX0 1 t.f_qba t.d_qba ["self","sign"] (Xg t.C_Book):=by
 refine T.F_qba.ok Akd (fun vs H Q E h=>?_) (fun cdv A outer s H vs Q E hr h=>?_)
 ·obtain⟨b,n,k,r,m,p,w,rfl,⟨dx,dk,dr,dm,dp,dw,h1,h2,h3,h4,h5,h6⟩,q⟩:=h
  rfl
 ·obtain⟨b,n,k,r,m,p,w,rfl,⟨dx,dk,dr,dm,dp,dw,h1,h2,h3,h4,h5,h6⟩,q⟩:=h
  have hu:=Cy hr
  have hu64:=hr.units
  refine⟨_,(Bi (Cd (Oo hu (Qy (pv 0) rfl) (pv 1) Bg ⟨rfl,rfl,rfl,rfl⟩))),?_⟩
  try dsimp only [Cm,By]
  walk_at "rd"
  refine⟨b,_,_,_,_,rfl,h1,T.cl_Book,T.n_Book_ranks,AdJ,?_⟩
  walk_at "rd"
  exact q
def Ami:PSp:=fun ps P=>∃ U M J n r,ps = [.bk U M J,.lst (map .int (n :: r))]/\Da U M J/\(∀ m ∈ r,Be U M m = true)/\(opT J (n :: r)).length < 64/\P (.lst (map .int (Ca U J (n :: r))))
theorem AgS (T:Txt K mg t):Binds K t.d_qt ["book","whole"] []:=T.F_qt.binds (by walk_at "b2")
theorem Acv (T:Txt K mg t):FnOk P w K mg base CX0 4 t.f_qt t.d_qt ["book","whole"] (spOf K t.C_Book [false,false] .fr Ami):=by
 refine T.F_qt.ok Ana (fun vs H Q E h=>h.len) (fun cdv A outer s H vs Q E hr h=>?_)
 have hu:=Cy hr
 have hu64:=hr.units
 refine⟨_,(Bi (Cd (AfB (AaI T) (hr.mono (by decide)) (Acu T) no0 rfl T.z_sorted (Ba (Bs Fu (Bm (AmQ T) (hr.mono (by decide)) rfl T.m_ql T.F_ql.kp (Aon T) .nil Br (Ba (pv 0) (Ba (Ck (Cq K) (pv 1) Bg (fun _ _=>rfl)) Bd))) (Dh (Di K) (pv 1) (Cw Bg) Fi)) Bd) (AiO (Afv (pv 0) T.cl_Book T.B_qba) Akr)))),?_⟩
 try dsimp only [Cm,By]
 refine Df h (by decide) (Gs (Agi (Bn (EF.eb (Gh (EF.eb (Ct (Bn Bb (Bv (De Bb (EU.eb Bh)) Bf)))) (EF.eb (Fa Bb (Cz (EU.eb Bh)) Fj)))) Bf) Bb)) (fun ps P hp=>?_)
 clear h hu hu64 hr
 obtain⟨U,M,J,n,r,rfl,bk,hr,hl,q⟩:=hp
 walk_at "s"
 obtain⟨_,_,_,eo,_,_⟩:=opW bk (n:=n) hr
 ext
 refine Dw (l:=n :: r) (j:=0) (a:=n) rfl rfl ?_
 ext
 refine⟨U,M,J,n,rfl,fun s=>Xe bk.jo s,?_⟩
 ext
 rotate_left
 ·have:=Ol J 7 n
  have h2:=congrArg length eo
  rw[length_append] at h2
  rw[Dr,Qx,length_map,length_map]
  omega
 rw[Dr,Qx,<- map_append,<- eo]
 ext
 rotate_left
 ·exact hl
 rename_i ns' hs
 rw[Al9 hs]
 exact q
local macro_rules | `(tactic| walk_at "u")=>`(tactic| with_reducible refine u_joined (by assumption) ?_)
local macro_rules | `(tactic| walk_at "u")=>`(tactic| with_reducible refine Ql (by assumption) Vt ?_)
theorem Aog (T:Txt K mg t):Binds K t.d_qf ["self","base","mark"] []:=T.F_qf.binds (by walk_at "b3")
theorem Amv (T:Txt K mg t):FnOk P w K mg base CX0 1 t.f_qf t.d_qf ["self","base","mark"] (Yh t.C_Book):=by
 refine T.F_qf.ok Am7 (fun vs H Q E h=>?_) (fun cdv A outer s H vs Q E hr h=>?_)
 ·obtain⟨b,n,n2,k,r,m,p,w,rfl,⟨dx,dk,dr,dm,dp,dw,h1,h2,h3,h4,h5,h6⟩,q⟩:=h
  rfl
 ·obtain⟨b,n,n2,k,r,m,p,w,rfl,⟨dx,dk,dr,dm,dp,dw,h1,h2,h3,h4,h5,h6⟩,q⟩:=h
  have hu:=Cy hr
  have hu64:=hr.units
  refine⟨_,(Bi (Cd (Zq hu (Qy (pv 0) rfl) (Ads (Ba (pv 1) (Ba (pv 2) Bd))) ⟨rfl,rfl,rfl,rfl⟩))),?_⟩
  try dsimp only [Cm,By]
  walk_at "rd"
  refine⟨b,_,_,_,_,rfl,h1,T.cl_Book,T.n_Book_wholes,Ac3,?_⟩
  refine⟨dw,rfl,.inr ⟨_,.inl h6⟩,?_⟩
  walk_at "rd"
  refine⟨by show 2 <= sizeLine; decide,fun x hx=>?_⟩
  refine⟨_,DGet.t (k:=[Sum.inl n,Sum.inl n2]) (by rw[Bk (Bu h6 hx)]; exact h6) Bp,?_⟩
  exact q x hx
def AkF:PSp:=fun ps P=>∃ U M J h r,ps = [.bk U M J,.lst (map .int (h :: r))]/\(h :: r).length < 64/\r.Pairwise (fun a b=>Bw U a <= Bw U b)/\P (.lst (map .int (shW J (Bw U) (h :: r))))
theorem AnV (T:Txt K mg t):Binds K t.d_qj ["book","long_signs"] []:=T.F_qj.binds (by walk_at "b2")
theorem AnA (T:Txt K mg t):FnOk P w K mg base CX0 2 t.f_qj t.d_qj ["book","long_signs"] (spOf K t.C_Book [false,false] .fr AkF):=by
 refine T.F_qj.ok sc_qj (fun vs H Q E h=>h.len) (fun cdv A outer s H vs Q E hr h=>?_)
 have hu:=Cy hr
 have hu64:=hr.units
 refine⟨_,(Bc (Bo (i:=2) sc_qj.nd rfl (Or.inl rfl) (Ck (Cq K) (pv 1) Bg (fun _ _=>rfl)))
   (Bc (Bo (i:=3) sc_qj.nd rfl (Or.inl rfl) (Cn Bd))
   (Bc (Dj PassesOwn.never rfl (Cs (Dh (Di K) (pv 1) (Cw Bg) Fi)) (Bq (i:=4) sc_qj.nd rfl (Or.inl rfl))
    (Bc (Bo (i:=5) sc_qj.nd rfl (Or.inl rfl) (Og (pv 0) T.cl_Book T.M_qf (Amv T) (hr.mono (by decide)) (Aog T) .nil Br (Ba (pv 2) (Ba (pv 4) Bd))))
   (Bc (Bo (i:=6) sc_qj.nd rfl (Or.inl rfl) (Ny (Gd Acy (Ch (Ce K) rfl T.z_len PySem.boot_len (Ba (pv 3) Bd)) Bg (Co _)) (Ow (Gd Gi (Og (pv 0) T.cl_Book T.M_qba (AaI T) (hr.mono (by decide)) (Acu T) .nil Br (Ba (Ck (Cq K) (pv 3) (Wk Sr Bg) (fun _ _=>rfl)) Bd)) (Og (pv 0) T.cl_Book T.M_qba (AaI T) (hr.mono (by decide)) (Acu T) .nil Br (Ba (pv 4) Bd)) (Co _)))))
   (Bi (Dx (PW.pt (Wc (Tm (Ali (pv 5))) (Sv (Ta (pv 6)))))
    (Bi (Cj (Fv plainAttrs_list PySem.F.slot_list_append PySem.F.type_list_append Do (pv 3) (Ba (pv 4) Bd))))
    (Bi (Bo (i:=2) sc_qj.nd rfl (Or.inl rfl) (pv 5))))))))
   (Bi (Cd (Bs Fu (Cn (Ba (pv 2) Bd)) (pv 3))))))),?_⟩
 try dsimp only [Cm,By]
 refine Df h (by decide) (Bj (Bz (De Bb (EU.eb Bh)))
   (Bj (Dp (Dc 0 Bf))
   (Bj (Jx (EF.eu (Fa Bb (Cz (EU.eb Bh)) Fj)) (Cc (top:=7))
    (Bj (Bz (AeE Bb Bb Bb))
   (Bj (Bz (Abp (EU.eb (Fs (fun _ _ _=>.bl _) (EU.eb (Dv (Bn Bb Bf))) (EU.eb Bh))) (Lf (EU.eb (AbS Bb (EU.eb (De Bb (EU.eb (Ag8 (fun _ _=>.int _) (EU.eb Bh))))))) (EU.eb (AbS Bb Bb)))))
   (Fr (Zj (Du (EU.eb (Aki Bb))) (Xq Bb))
    (Jg (Bv Cg Bf))
    (Bz Cg)))))
   (Gs (Gh (EF.eb (Dc 1 (Bv Cg Bf))) Bb))))) (fun ps P hp=>?_)
 clear h hu hu64 hr
 obtain⟨U,M,J,h,r,rfl,hl,pw,q⟩:=hp
 walk_at "s"
 have hl':r.length < 63:=by rw[length_cons] at hl; omega
 ext
 refine Dw (l:=h :: r) (j:=0) (a:=h) rfl rfl ?_
 ext
 rw[Dr,Qx]
 refine⟨fun k ρ=>∃ v4 v5 v6,ρ = [.bo (.bk U M J),.bo (.lst ((h :: r).map .int)),.sh (.int ((r.take k).foldl (shS J (Bw U)) (h,[])).1),.ow (.lst (((r.take k).foldl (shS J (Bw U)) (h,[])).2.map .int)),v4,v5,v6],⟨_,_,_,rfl⟩,?_,?_⟩
 ·rintro k p ρ hp ⟨v4,v5,v6,rfl⟩
  rw[getElem?_map] at hp
  obtain⟨m,hm,rfl⟩:=map_eq_some_iff.mp hp
  have hk:k < r.length:=(List.getElem?_eq_some_iff.mp hm).1
  have step:=AfU (J:=J) (rk:=Bw U) (h:=h) hm
  obtain⟨kp,ekp,sub⟩:=Qs J (Bw U) (r.take k) h []
  rw[nil_append] at ekp
  have kl:=sub.length_le
  rw[length_take] at kl
  have kpw:kp.Pairwise fun a b=>Bw U a <= Bw U b:=(pw.sublist (List.take_sublist _ _)).sublist sub
  have kle:∀ x ∈ kp,Bw U x <= Bw U m:=fun x hx=>by
   obtain⟨i,hi,e⟩:=List.mem_iff_getElem.mp (sub.subset hx)
   rw[length_take] at hi
   rw[List.getElem_take] at e
   have z:=List.pairwise_iff_getElem.mp pw i k (by omega) hk (by omega)
   rw[getElem?_eq_getElem hk] at hm
   rw[e,Option.some.inj hm] at z
   exact z
  generalize (r.take k).foldl (shS J (Bw U)) (h,[]) = bs at ekp step ⊢
  obtain⟨b,kq⟩:=bs
  have ekp':kq = kp:=ekp
  subst ekp'
  have kept:shS J (Bw U) (b,kq) m = (b,kq ++ [m])->∀ j bd:PV,∃ v4 v5 v6,([.bo (.bk U M J),.bo (.lst ((h :: r).map .int)),.sh (.int b),.ow (.lst (kq.map .int ++ [.int m])),.sh (.int m),.sh j,.sh bd]:Bl) = [.bo (.bk U M J),.bo (.lst ((h :: r).map .int)),.sh (.int ((r.take (k + 1)).foldl (shS J (Bw U)) (h,[])).1),.ow (.lst (((r.take (k + 1)).foldl (shS J (Bw U)) (h,[])).2.map .int)),v4,v5,v6]:=fun e j bd=>⟨.sh (.int m),.sh j,.sh bd,by rw[step,e,map_append]; rfl⟩
  have took:∀ w,shS J (Bw U) (b,kq) m = (w,kq)->∀ j bd:PV,∃ v4 v5 v6,([.bo (.bk U M J),.bo (.lst ((h :: r).map .int)),.sh (.int w),.ow (.lst (kq.map .int)),.sh (.int m),.sh j,.sh bd]:Bl) = [.bo (.bk U M J),.bo (.lst ((h :: r).map .int)),.sh (.int ((r.take (k + 1)).foldl (shS J (Bw U)) (h,[])).1),.ow (.lst (((r.take (k + 1)).foldl (shS J (Bw U)) (h,[])).2.map .int)),v4,v5,v6]:=fun w e j bd=>⟨.sh (.int m),.sh j,.sh bd,by rw[step,e]⟩
  ext
  rw[AmI]
  rcases eq_nil_or_concat kq with e | ⟨kq',l,e⟩
  ·subst e
   refine Jy ?_
   ext
   cases ej:jnd J b m with
   | none =>
    refine Jq ?_
    ext
    rotate_left
    ·decide
    exact kept (by unfold shS; rw[ej]) _ _
   | some w =>
    refine Jy ?_
    ext
    exact took w (by unfold shS; rw[ej]; rfl) _ _
  ·rw[concat_eq_append] at e
   subst e
   have al:=Agv kpw (kle l (mem_append_right _ mem_cons_self))
   rw[show (decide ((((kq' ++ [l]).map PV.int).length:Int) > 0)) = true by simp]
   refine Jq ?_
   ext
   refine Ug (x:=.int l) (by rw[map_append]; exact Nd _ _) ?_
   ext
   cases ej:jnd J b m with
   | none =>
    refine Jq ?_
    ext
    rotate_left
    ·rw[length_map]; omega
    exact kept (by unfold shS; rw[ej]) _ _
   | some w =>
    refine Jy ?_
    ext
    refine Te (fun z=>?_) (fun z=>?_)
    ·ext
     rotate_left
     ·rw[length_map]; omega
     exact kept (by unfold shS; rw[ej]; show (if _ then _ else _) = _; rw[al,if_pos z]) _ _
    ·ext
     exact took w (by unfold shS; rw[ej]; show (if _ then _ else _) = _; rw[al,if_neg z]) _ _
 ·rintro ρ ⟨v4,v5,v6,rfl⟩
  obtain⟨kp,ekp,sub⟩:=Qs J (Bw U) r h []
  have kl:=sub.length_le
  walk_at "me"
  ext
  rotate_left
  ·rw[ekp]; simp; omega
  exact q
theorem Zf (T:Txt K mg t):Binds K t.d_qbj ["book","text"] []:=T.F_qbj.binds (by walk_at "b2")
theorem Wj (T:Txt K mg t):FnOk P w K mg base CX0 5 t.f_qbj t.d_qbj ["book","text"] (spOf K t.C_Book [false,false] .fr AgR):=by
 refine T.F_qbj.ok sc_qbj (fun vs H Q E h=>h.len) (fun cdv A outer s H vs Q E hr h=>?_)
 have hu:=Cy hr
 have hu64:=hr.units
 refine⟨_,(Bc (Bo (i:=2) sc_qbj.nd rfl (Or.inl rfl) (Cn Bd))
   (Bc (Dj PassesOwn.never rfl (Cs (Bm (Sn T) (hr.mono (by decide)) rfl T.m_qbl T.F_qbl.kp (Wp T) .nil Br (Ba (pv 0) (Ba (pv 1) Bd)))) (Bq (i:=3) sc_qbj.nd rfl (Or.inl rfl))
    (Bi (Cj (Fv plainAttrs_list PySem.F.slot_list_extend PySem.F.type_list_extend Ls (pv 2) (Ba (Bm (Acv T) (hr.mono (by decide)) rfl T.m_qt T.F_qt.kp (AgS T) .nil Br (Ba (pv 0) (Ba (pv 3) Bd))) Bd)))))
   (Bi (Cd (pv 2))))),?_⟩
 try dsimp only [Cm,By]
 refine Df h (by decide) (Bj (Dp (Dc 0 Bf))
   (Bj (Jx (Tt (Bn Bb (Bn Bb Bf))) (Cc (top:=4))
    (Tp (Bn (EF.eb (Ct (Bn Bb (Bn Bb Bf)))) Bf)))
   Gu)) (fun ps P hp=>?_)
 clear h hu hu64 hr
 obtain⟨U,M,J,ts,rfl,bk,hl,ft,q⟩:=hp
 walk_at "s"
 ext
 refine⟨U,M,J,ts,rfl,hl,?_⟩
 have gl:=(Dd (Be U M) ts).ln
 ext
 refine⟨fun k ρ=>∃ v3,ρ = [.bo (.bk U M J),.bo (.lst (ts.map .int)),.ow (.lst ((((grp (Be U M) ts).take k).flatMap (Ca U J)).map .int)),v3],⟨_,rfl⟩,?_,?_⟩
 ·rintro k p ρ hp ⟨v3,rfl⟩
  rw[getElem?_map] at hp
  obtain⟨g,hg,rfl⟩:=map_eq_some_iff.mp hp
  have hgm:=mem_of_getElem? hg
  obtain⟨n,r,rfl,hr⟩:=(Dd (Be U M) ts).ne g hgm
  have fl:=Us (f:=Ca U J) (n:=63) (gs:=(grp (Be U M) ts).take k) (fun x hx=>by
   have:=ft x (List.mem_of_mem_take hx)
   unfold Ca; rw[Gc]; omega)
  rw[length_take] at fl
  have f1:=ft _ hgm
  ext
  refine⟨U,M,J,n,r,rfl,bk,hr,f1,?_⟩
  ext
  rotate_left
  ·rw[length_map,length_map]
   unfold Ca at fl ⊢
   rw[Gc]; omega
  exact⟨_,by rw[Yo hg,map_append]⟩
 ·rintro ρ ⟨v3,rfl⟩
  walk_at "me"
  ext
  exact q
theorem AlI (T:Txt K mg t):Binds K t.d_qw ["book","text"] []:=T.F_qw.binds (by walk_at "b2")
theorem Ahj (T:Txt K mg t):FnOk P w K mg base CX0 5 t.f_qw t.d_qw ["book","text"] (spOf K t.C_Book [false,false] .fr AdP):=by
 refine T.F_qw.ok sc_qw (fun vs H Q E h=>h.len) (fun cdv A outer s H vs Q E hr h=>?_)
 have hu:=Cy hr
 have hu64:=hr.units
 refine⟨_,(Bc (Bo (i:=2) sc_qw.nd rfl (Or.inl rfl) (Cn Bd))
   (Bc (Dj PassesOwn.never rfl (Cs (Bm (Sn T) (hr.mono (by decide)) rfl T.m_qbl T.F_qbl.kp (Wp T) .nil Br (Ba (pv 0) (Ba (pv 1) Bd)))) (Bq (i:=3) sc_qw.nd rfl (Or.inl rfl))
    (Bi (Cj (Fv plainAttrs_list PySem.F.slot_list_extend PySem.F.type_list_extend Ls (pv 2) (Ba (Bm (AnA T) (hr.mono (by decide)) rfl T.m_qj T.F_qj.kp (AnV T) .nil Br (Ba (pv 0) (Ba (Bm (Acv T) (hr.mono (by decide)) rfl T.m_qt T.F_qt.kp (AgS T) .nil Br (Ba (pv 0) (Ba (pv 3) Bd))) Bd))) Bd)))))
   (Bi (Cd (pv 2))))),?_⟩
 try dsimp only [Cm,By]
 refine Df h (by decide) (Bj (Dp (Dc 0 Bf))
   (Bj (Jx (Tt (Bn Bb (Bn Bb Bf))) (Cc (top:=4))
    (Tp (Bn (EF.eb (Ct (Bn Bb (Bn (EF.eb (Ct (Bn Bb (Bn Bb Bf)))) Bf)))) Bf)))
   Gu)) (fun ps P hp=>?_)
 clear h hu hu64 hr
 obtain⟨U,M,J,ts,rfl,bk,hl,ft,q⟩:=hp
 walk_at "s"
 ext
 refine⟨U,M,J,ts,rfl,hl,?_⟩
 have gl:=(Dd (Be U M) ts).ln
 ext
 refine⟨fun k ρ=>∃ v3,ρ = [.bo (.bk U M J),.bo (.lst (ts.map .int)),.ow (.lst ((((grp (Be U M) ts).take k).flatMap fun w=>shW J (Bw U) (Ca U J w)).map .int)),v3],⟨_,rfl⟩,?_,?_⟩
 ·rintro k p ρ hp ⟨v3,rfl⟩
  rw[getElem?_map] at hp
  obtain⟨g,hg,rfl⟩:=map_eq_some_iff.mp hp
  have hgm:=mem_of_getElem? hg
  obtain⟨n,r,rfl,hr⟩:=(Dd (Be U M) ts).ne g hgm
  have ll:∀ x ∈ grp (Be U M) ts,(shW J (Bw U) (Ca U J x)).length <= 63:=fun x hx=>by
   have h1:=ft x hx
   have h2:=Ab1 J (Bw U) (Ca U J x)
   have h3:(Ca U J x).length = (opT J x).length:=Gc _ _
   omega
  have fl:=Us (f:=fun w=>shW J (Bw U) (Ca U J w)) (n:=63) (gs:=(grp (Be U M) ts).take k) (fun x hx=>ll x (List.mem_of_mem_take hx))
  rw[length_take] at fl
  have f1:=ft _ hgm
  have f2:=ll _ hgm
  obtain⟨n',r',el,_,_⟩:=Qr bk (n:=n) hr
  have pw:(Ca U J (n :: r)).Pairwise fun a b=>Bw U a <= Bw U b:=(Jd _ _).pw
  have sl:(Ca U J (n :: r)).length < 64:=by unfold Ca; rw[Gc]; exact f1
  ext
  refine⟨U,M,J,n,r,rfl,bk,hr,f1,?_⟩
  rw[el] at pw sl ⊢
  ext
  refine⟨U,M,J,n',r',rfl,sl,(List.pairwise_cons.mp pw).2,?_⟩
  rw[<- el]
  ext
  rotate_left
  ·rw[length_map,length_map]
   omega
  exact⟨_,by rw[Yo hg,map_append]⟩
 ·rintro ρ ⟨v3,rfl⟩
  walk_at "me"
  ext
  exact q
def cR (ns:List Int) (k:Nat):Int:=(ns[k]?).getD 0
def Aj5:PSp:=fun ps P=>∃ ns k,ps = [.scr ns,.int (k:Nat)]/\ns.length <= 63/\P (.int (cR ns k))
theorem Aca (T:Txt K mg t):Binds K t.d_qg ["_law_script","_law_k"] []:=T.F_qg.binds (by walk_at "b2")
theorem Zl (T:Txt K mg t):FnOk P w K mg base CX0 1 t.f_qg t.d_qg ["_law_script","_law_k"] (spOf K t.C_Book [false,false] .sh Aj5):=by
 refine T.F_qg.ok AmZ (fun vs H Q E h=>h.len) (fun cdv A outer s H vs Q E hr h=>?_)
 have hu:=Cy hr
 have hu64:=hr.units
 refine⟨_,(Bc (Dx (Cr AnB (pv 1) (Ch (Ce K) rfl T.z_len PySem.boot_len (Ba (pv 0) Bd)) (Co _))
    (Bi (Cd (Ck (Cq K) (pv 0) (pv 1) (fun _ _=>rfl))))
    Dg)
   (Bi (Cd Bg))),?_⟩
 try dsimp only [Cm,By]
 refine Df h (by decide) (Bj (Fr (Du (EU.eb (Fs (fun _ _ _=>.bl _) Bb (EU.eb (Dv (Bn Bb Bf))))))
    (Gv (De Bb Bb))
    Ds)
   (Gv Bh)) (fun ps P hp=>?_)
 clear h hu hu64 hr
 obtain⟨ns,k,rfl,hl,q⟩:=hp
 walk_at "s"
 unfold cR at q
 ext
 by_cases hk:k < ns.length
 ·rw[decide_eq_true (by omega:(k:Int) < (ns.length:Int))]
  rw[getElem?_eq_getElem hk] at q
  ext
  refine Anv (n:=ns[k]) (Gk (getElem?_eq_getElem hk)) ?_
  ext
  exact q
 ·rw[decide_eq_false (by omega:¬ (k:Int) < (ns.length:Int))]
  rw[getElem?_eq_none (by omega)] at q
  ext
  exact q
theorem Aas {n:Nat} {f:Nat->Option PV} {P:PV->Prop} {ug:PV->Bl->(Bl->Prop)->Prop} {ta:UT} {ue:UE} {ρ':Bl} (hn:n < 100000) (q:P (.lst ((range n).filterMap f))) (h:∀ k,k < n->∀ Z:Option PV->Prop,Z (f k)->ug (.int (k:Int)) ρ' fun ρ2=>ta ρ2 fun b=>if b = true then ue ρ2 fun q=>Z (some q) else Z none):We ug ta ue ρ' P [.int (n:Int)]:=by
 refine⟨_,rfl,by omega,by omega,fun k rs=>rs = (range k).filterMap f,rfl,fun k rs hk hr=>?_,fun rs hr=>?_⟩
 ·subst hr
  rw[Int.toNat_natCast] at hk
  rw[Int.zero_add]
  refine h k hk (fun o=>(match o with | some q=>(range k).filterMap f ++ [q] | none=>(range k).filterMap f) = (range (k + 1)).filterMap f) ?_
  rw[List.range_succ,List.filterMap_append]
  cases e:f k with
  | none=>simp [filterMap_cons,e]
  | some x=>simp [filterMap_cons,e]
 ·rw[Int.toNat_natCast] at hr
  rw[hr]; exact q
def byL:List Int:=[1,3,5,9,11,13,15,17]
def byF (c:Int):Int:=(byL[(c % 8).toNat]?).getD 1
def s2F (c:Int) (k:Nat):Int:=c / 8 % 10 ^ 28 + (1 + c / 64 % 10 ^ 26) * (((k:Int) * byF c + c / 512) % 28)
def s2L (c:Int):List Int:=(range 28).map (s2F c)
def Akg:PSp:=fun ps P=>∃ c:Int,ps = [.int c]/\0 <= c/\P (.lst ((s2L c).map .int))
theorem Amw (T:Txt K mg t):Binds K t.d_qbh ["_law_cell"] []:=T.F_qbh.binds (by walk_at "b1")
theorem Amo (T:Txt K mg t):FnOk P w K mg base CX0 1 t.f_qbh t.d_qbh ["_law_cell"] (spOf K t.C_Book [false] .fr Akg):=by
 refine T.F_qbh.ok sc_qbh (fun vs H Q E h=>h.len) (fun cdv A outer s H vs Q E hr h=>?_)
 have hu:=Cy hr
 have hu64:=hr.units
 refine⟨_,(Bc (Bo (i:=1) sc_qbh.nd rfl (by first | exact Or.inl rfl | exact Or.inr rfl) (Ck (Cq K) (Cn (Ba Bg (Ba Bg (Ba Bg (Ba Bg (Ba Bg (Ba Bg (Ba Bg (Ba Bg Bd))))))))) (Bs Dm (pv 0) Bg) (fun _ _=>rfl)))
   (Bc (Bo (i:=2) sc_qbh.nd rfl (by first | exact Or.inl rfl | exact Or.inr rfl) (Bs Dm (Bs Fd (pv 0) Bg) (Bs Lu Bg Bg)))
   (Bc (Bo (i:=3) sc_qbh.nd rfl (by first | exact Or.inl rfl | exact Or.inr rfl) (Bs Gb Bg (Bs Dm (Bs Fd (pv 0) Bg) (Bs Lu Bg Bg))))
   (Bi (Cd (Jt 1 [2,3,1,0] ["_law_k","_law_low","_law_step","_law_by","_law_cell"] ["_law_step","_law_low","_law_cell","_law_by"] rfl (Nz rfl T.z_range (Ba Bg Bd)) rfl (fun j y e1 i e2=>match j,e1,e2 with | 0,e1,e2=>by cases e1; cases e2; exact⟨rfl,rfl,rfl,by decide +kernel⟩ | 1,e1,e2=>by cases e1; cases e2; exact⟨rfl,rfl,rfl,by decide +kernel⟩ | 2,e1,e2=>by cases e1; cases e2; exact⟨rfl,rfl,rfl,by decide +kernel⟩ | 3,e1,e2=>by cases e1; cases e2; exact⟨rfl,rfl,rfl,by decide +kernel⟩ | _ + 4,_,e2=>by simp at e2) (forall_mem_cons.mpr ⟨rfl,forall_mem_cons.mpr ⟨rfl,forall_mem_cons.mpr ⟨rfl,forall_mem_cons.mpr ⟨rfl,fun _ h=>nomatch h⟩⟩⟩⟩) (by decide +kernel) (fun _ _ _ _=>(Bq (i:=0) (show Nodup (["_law_k","_law_low","_law_step","_law_by","_law_cell"]:List Str) by decide +kernel) rfl (Or.inl rfl))) (fun _ _ _ _=>Jo) (fun _ _ _ _=>(Bs Gb (pv 1) (Bs Wg (pv 2) (Bs Dm (Bs Gb (Bs Wg (pv 0) (pv 3)) (Bs Fd (pv 4) Bg)) Bg)))) rfl (by decide +kernel) rfl (by decide +kernel))))))),?_⟩
 try dsimp only [Cm,By]
 refine Df h (by decide) (Bj (Bz (De (EF.eb (Dc 8 (Bv Bh (Bv Bh (Bv Bh (Bv Bh (Bv Bh (Bv Bh (Bv Bh (Bv Bh Bf)))))))))) (EU.eb (Cv (fun _ _ _=>.int _) Bb (EU.eb Bh)))))
   (Bj (Bz (Cv (fun _ _ _=>.int _) (EU.eb (Cv (fun _ _ _=>.int _) Bb (EU.eb Bh))) (EU.eb (Cv (fun _ _ _=>.int _) (EU.eb Bh) (EU.eb Bh)))))
   (Bj (Bz (Fs (fun _ _ _=>.int _) (EU.eb Bh) (EU.eb (Cv (fun _ _ _=>.int _) (EU.eb (Cv (fun _ _ _=>.int _) Bb (EU.eb Bh))) (EU.eb (Cv (fun _ _ _=>.int _) (EU.eb Bh) (EU.eb Bh)))))))
   (Gs (Vi (Bn (EU.eb Bh) Bf) (Cc (top:=1)) Jm (Fs (fun _ _ _=>.int _) Bb (EU.eb (Cv (fun _ _ _=>.int _) Bb (EU.eb (Cv (fun _ _ _=>.int _) (EU.eb (Fs (fun _ _ _=>.int _) (EU.eb (Cv (fun _ _ _=>.int _) Bb Bb)) (EU.eb (Cv (fun _ _ _=>.int _) Bb (EU.eb Bh))))) (EU.eb Bh))))))))))) (fun ps P hp=>?_)
 clear h hu hu64 hr
 obtain⟨c,rfl,hc,q⟩:=hp
 walk_at "s"
 have h1:=emod_nonneg c (show (8:Int) ≠ 0 by decide)
 have h2:=emod_lt_of_pos c (show (0:Int) < 8 by decide)
 have hj:(c % 8).toNat < byL.length:=by show _ < 8; omega
 have eb:byL[(c % 8).toNat]? = some (byF c):=by unfold byF; rw[getElem?_eq_getElem hj]; rfl
 ext
 walk_at "mc"
 refine Dw (l:=byL) (f:=PV.int) (j:=(c % 8).toNat) (a:=byF c) eb (by omega) ?_
 ext
 walk_at "mc"
 have hb:0 <= byF c/\byF c < 20:=by
  have:∀ x ∈ byL,0 <= x/\x < 20:=by decide
  exact this _ (mem_of_getElem? eb)
 refine Aas (n:=28) (f:=fun k=>some (.int (s2F c k))) (by decide) ?_ (fun k hk Z hZ=>?_)
 rotate_left
 ·walk_at "c"
  ext
  walk_at "ma"
  have g1:=emod_nonneg ((k:Int) * byF c + c / 512) (show (28:Int) ≠ 0 by decide)
  have g2:=emod_lt_of_pos ((k:Int) * byF c + c / 512) (show (0:Int) < 28 by decide)
  all_goals try (first | exact .inr ⟨by omega,by omega⟩ | exact .inl ⟨by omega,by omega⟩)
  exact hZ
 rw[show (range 28).filterMap (fun k=>some (PV.int (s2F c k))) = (s2L c).map .int by unfold s2L; rw[map_map]; exact congrFun (filterMap_eq_map' (f:=fun k=>PV.int (s2F c k))) _]
 exact q
theorem T2.nil {sg:List Int}:T2 sg []:=⟨fun k s h=>by simp at h,fun k s h=>by simp at h⟩
theorem T2.snoc {sg:List Int} {U:List Sg} (h:T2 sg U) {s:Sg} (h1:sg[U.length]? = some s.1) (h2:s.2.1 ∈ toldK) (h3:Oc s.2.1 s.2.2) (h4:U.length < 8->toldK[U.length]? = some s.2.1):T2 sg (U ++ [s]):=by
 refine⟨fun k x e=>?_,fun k x e hk=>?_⟩
 ·rcases Tu e with e | ⟨rfl,rfl⟩
  ·exact h.at' k x e
  ·exact⟨h1,h2,h3⟩
 ·rcases Tu e with e | ⟨rfl,rfl⟩
  ·exact h.wd k x e hk
  ·exact h4 hk
def Akp:PSp:=fun ps P=>∃ (c m:Int) (sg:List Int),ps = [.int c,.int m,.lst (sg.map .int)]/\0 <= m/\sg.length = 28/\∀ U:List Sg,U.length = 14->T2 sg U->P (.lst (U.map sgP))
theorem Anf (T:Txt K mg t):Binds K t.d_qbs ["_law_cell","_law_more","_law_signs_here"] []:=T.F_qbs.binds (by walk_at "b3")
theorem AkD (T:Txt K mg t):FnOk P w K mg base CX0 1 t.f_qbs t.d_qbs ["_law_cell","_law_more","_law_signs_here"] (spOf K t.C_Book [false,true,false] .fr Akp):=by
 refine T.F_qbs.ok sc_qbs (fun vs H Q E h=>h.len) (fun cdv A outer s H vs Q E hr h=>?_)
 have hu:=Cy hr
 have hu64:=hr.units
 refine⟨_,(Bc (Bo (i:=3) sc_qbs.nd rfl (Or.inl rfl) (Cn (Ba Cf (Ba Cf (Ba Cf (Ba Cf (Ba Cf (Ba Cf (Ba Cf (Ba Cf Bd))))))))))
   (Bc (Bo (i:=4) sc_qbs.nd rfl (Or.inl rfl) (Cn Bd))
   (Bc (Dj PassesOwn.never rfl (Nz rfl T.z_range (Ba Bg Bd)) (Bq (i:=5) sc_qbs.nd rfl (Or.inl rfl))
    (Bc (Bo (i:=6) sc_qbs.nd rfl (Or.inl rfl) (Ck (Cq K) (pv 3) (Bs Dm (pv 5) Bg) (fun _ _=>rfl)))
   (Bc (Dx (Cr Acy (pv 5) Bg (Co _))
    (Bc (Bo (i:=6) sc_qbs.nd rfl (Or.inl rfl) (Ck (Cq K) (pv 3) (Bs Dm (pv 1) Bg) (fun _ _=>rfl)))
   (Bi (Bo (i:=1) sc_qbs.nd rfl (Or.inl rfl) (Bs Fd (pv 1) Bg))))
    Dg)
   (Bc (Bo (i:=7) sc_qbs.nd rfl (Or.inl rfl) Bg)
   (Bc (Dx (Cr Gi (pv 6) Cf (Co _))
    (Bc (Bo (i:=7) sc_qbs.nd rfl (Or.inl rfl) (Bs Wg (Bs Gb Bg (Bs Dm (pv 1) Bg)) (Ck (Cq K) (Cn (Ba Bg (Ba (Bs Lu Bg Bg) Bd))) (Bs Dm (Bs Fd (pv 0) Bg) Bg) (fun _ _=>rfl))))
   (Bi (Bo (i:=1) sc_qbs.nd rfl (Or.inl rfl) (Bs Fd (pv 1) Bg))))
    Dg)
   (Bi (Cj (Fv plainAttrs_list PySem.F.slot_list_append PySem.F.type_list_append Do (pv 4) (Ba (Lb (Ba (Ck (Cq K) (pv 2) (pv 5) (fun _ _=>rfl)) (Ba (pv 6) (Ba (pv 7) Bd)))) Bd)))))))))
   (Bi (Cd (pv 4)))))),?_⟩
 try dsimp only [Cm,By]
 refine Df h (by decide) (Bj (Bz (EF.eu (Dc 8 (Bv Dk (Bv Dk (Bv Dk (Bv Dk (Bv Dk (Bv Dk (Bv Dk (Bv Dk Bf)))))))))))
   (Bj (Dp (Dc 0 Bf))
   (Bj (Ajq (Bn (EU.eb Bh) Bf) (Cc (top:=8))
    (Bj (Bz (De Bb (EU.eb (Cv (fun _ _ _=>.int _) Bb (EU.eb Bh)))))
   (Bj (Fr (Du (EU.eb (Fs (fun _ _ _=>.bl _) Bb (EU.eb Bh))))
    (Bj (Bz (De Bb (EU.eb (Cv (fun _ _ _=>.int _) Bb (EU.eb Bh)))))
   (Bz (Cv (fun _ _ _=>.int _) Bb (EU.eb Bh))))
    Ds)
   (Bj (Bz Bh)
   (Bj (Fr (Du (EU.eb (Lf Bb (EU.eb Dk))))
    (Bj (Bz (Cv (fun _ _ _=>.int _) (EU.eb (Fs (fun _ _ _=>.int _) (EU.eb Bh) (EU.eb (Cv (fun _ _ _=>.int _) Bb (EU.eb Bh))))) (EU.eb (De (EF.eb (Dc 2 (Bv Bh (Bv (Cv (fun _ _ _=>.int _) (EU.eb Bh) (EU.eb Bh)) Bf)))) (EU.eb (Cv (fun _ _ _=>.int _) (EU.eb (Cv (fun _ _ _=>.int _) Bb (EU.eb Bh))) (EU.eb Bh)))))))
   (Bz (Cv (fun _ _ _=>.int _) Bb (EU.eb Bh))))
    Ds)
   (Jg (Bv (Lq 3 (Bv (De Bb Bb) (Bv Cg (Bv Cg Bf)))) Bf)))))))
   Gu))) (fun ps P hp=>?_)
 clear h hu hu64 hr
 obtain⟨c,m,sg,rfl,hm,hs,q⟩:=hp
 walk_at "s"
 have ew:([PV.str "fore",PV.str "back",PV.str "num",PV.str "blank",PV.str "mark",PV.str "forein",PV.str "backin",PV.str "out"]:List PV) = toldK.map PV.str:=rfl
 ext
 rotate_left
 ·exact⟨by decide,by decide⟩
 rw[ew]
 refine⟨fun k ρ=>∃ (m:Int) (U:List Sg) (v5 v6 v7:Sl),ρ = [.bo (.int c),.sh (.int m),.bo (.lst (sg.map .int)),.sh (.lst (toldK.map PV.str)),.ow (.lst (U.map sgP)),v5,v6,v7]/\0 <= m/\U.length = k/\T2 sg U,⟨m,[],_,_,_,rfl,hm,rfl,T2.nil⟩,?_,?_⟩
 ·rintro k ρ hk ⟨m,U,v5,v6,v7,rfl,h0,ul,ht⟩
  have hk':k < 14:=hk
  rw[Int.zero_add]
  have wl:∀ i:Int,∃ w,toldK[(i % 8).toNat]? = some w/\w ∈ toldK/\i % 8 = ((i % 8).toNat:Int):=fun i=>by
   have g1:=emod_nonneg i (show (8:Int) ≠ 0 by decide)
   have g2:=emod_lt_of_pos i (show (0:Int) < 8 by decide)
   have hj:(i % 8).toNat < toldK.length:=by show _ < 8; omega
   exact⟨_,getElem?_eq_getElem hj,getElem_mem hj,by omega⟩
  ext1
  refine Dy ?_
  obtain⟨w0,hw0,hm0,he0⟩:=wl (k:Int)
  ext1
  all_goals try decide
  refine Dw (l:=toldK) (f:=PV.str) (j:=((k:Int) % 8).toNat) (a:=w0) hw0 he0 ?_
  ext1
  refine On (fun ρ=>∃ (m':Int) (w:Str),0 <= m'/\w ∈ toldK/\(k < 8->toldK[k]? = some w)/\ρ = [.bo (.int c),.sh (.int m'),.bo (.lst (sg.map .int)),.sh (.lst (toldK.map PV.str)),.ow (.lst (U.map sgP)),.sh (.int k),.sh (.str w),v7]) (fun ρ h=>?_) ?_
  rotate_left
  ·ext
   by_cases h7:7 < k
   ·rw[decide_eq_true (by omega)]
    obtain⟨w1,hw1,hm1,he1⟩:=wl m
    ext
    walk_at "ma"
    refine Dw (l:=toldK) (f:=PV.str) (j:=(m % 8).toNat) (a:=w1) hw1 he1 ?_
    ext
    walk_at "ma"
    exact .inl ⟨m / 8,w1,by omega,hm1,fun z=>by omega,rfl⟩
   ·rw[decide_eq_false (by omega)]
    ext
    exact .inl ⟨m,w0,h0,hm0,fun z=>by rw[show ((k:Int) % 8).toNat = k by omega] at hw0; exact hw0,rfl⟩
  obtain⟨m',w,hm',hw,hw8,rfl⟩:=h
  ext1
  refine Dy ?_
  ext1
  refine On (fun ρ=>∃ (m' r:Int),0 <= m'/\Oc w r/\ρ = [.bo (.int c),.sh (.int m'),.bo (.lst (sg.map .int)),.sh (.lst (toldK.map PV.str)),.ow (.lst (U.map sgP)),.sh (.int k),.sh (.str w),.sh (.int r)]) (fun ρ h=>?_) ?_
  rotate_left
  ·ext
   by_cases hmk:w = "mark"
   ·rw[decide_eq_true hmk]
    have g1:=emod_nonneg (c / 16) (show (2:Int) ≠ 0 by decide)
    have g2:=emod_lt_of_pos (c / 16) (show (0:Int) < 2 by decide)
    obtain⟨f,hf,hf1⟩:∃ f:Int,([1,10 ^ 28]:List Int)[(c / 16 % 2).toNat]? = some f/\1 <= f:=by
     have hj:(c / 16 % 2).toNat < ([1,10 ^ 28]:List Int).length:=by show _ < 2; omega
     have:∀ x ∈ ([1,10 ^ 28]:List Int),1 <= x:=by decide
     exact⟨_,getElem?_eq_getElem hj,this _ (getElem_mem hj)⟩
    ext
    walk_at "mc"
    refine Dw (l:=([1,10 ^ 28]:List Int)) (f:=PV.int) (j:=(c / 16 % 2).toNat) (a:=f) hf (by omega) ?_
    have g3:=emod_nonneg m' (show (3:Int) ≠ 0 by decide)
    have g4:=emod_lt_of_pos m' (show (0:Int) < 3 by decide)
    ext
    all_goals try (first | decide | exact⟨by decide,by decide⟩ | exact .inl ⟨by omega,by omega⟩)
    refine .inl ⟨m' / 3,(1 + m' % 3) * f,by omega,.inl ⟨hmk,?_⟩,rfl⟩
    have:=Int.mul_le_mul (show (1:Int) <= 1 + m' % 3 by omega) hf1 (by decide) (by omega)
    omega
   ·rw[decide_eq_false hmk]
    ext
    exact .inl ⟨m',0,hm',.inr ⟨hmk,rfl⟩,rfl⟩
  obtain⟨m2,r,hm2,hr,rfl⟩:=h
  ext
  have hk28:k < sg.length:=by omega
  refine Dw (l:=sg) (f:=PV.int) (j:=k) (a:=sg[k]) (getElem?_eq_getElem hk28) rfl ?_
  ext
  rotate_left
  ·rw[length_map]; omega
  refine⟨m2,U ++ [(sg[k],w,r)],_,_,_,by rw[map_append]; rfl,hm2,by rw[length_append,ul]; rfl,ht.snoc (s:=(sg[k],w,r)) (by rw[ul]; exact getElem?_eq_getElem hk28) hw hr (by rw[ul]; exact hw8)⟩
 rintro ρ ⟨m,U,v5,v6,v7,rfl,h0,ul,ht⟩
 ext
 exact q U ul ht
theorem Aha {l:List Sg} {p:Sg->Prop} [DecidablePred p]:l.filterMap (fun s=>if p s then some (PV.int s.1) else none) = ((l.filter fun s=>decide (p s)).map (·.1)).map .int:=by
 induction l with
 | nil=>rfl
 | cons x r ih =>
  by_cases z:p x
  ·rw[List.filterMap_cons_some (by rw[if_pos z]),filter_cons_of_pos (by simp [z]),map_cons,map_cons,ih]
  ·rw[List.filterMap_cons_none (by rw[if_neg z]),filter_cons_of_neg (by simp [z]),ih]
theorem Aj2 {L:List Str} {x:Str} {P:PV->Prop} (q:P (.bl (decide (x ∈ L)))):bIn false (.str x) (.lst (L.map .str)) P:=by
 refine⟨L.map .str,rfl,rfl,fun y hy=>by obtain⟨z,_,rfl⟩:=mem_map.mp hy; rfl,fun b hb=>?_⟩
 have:b = decide (x ∈ L):=Gy (by
  rw[hb,decide_eq_true_iff]
  constructor
  ·intro h
   obtain⟨z,hz,e⟩:=mem_map.mp h
   injection e with e'
   rwa [<- e']
  ·intro h
   exact mem_map.mpr ⟨x,h,rfl⟩)
 rw[this]; exact q
def wdD (U:List Sg):List (Key × PV):=U.map fun s=>(Sum.inl s.1,.str s.2.1)
theorem AbF {U:List Sg} {k:Nat} {s:Sg} (nd:(U.map (·.1)).Nodup) (hs:U[k]? = some s):Lg (wdD (U.take k)) (.inl s.1) (.str s.2.1) = wdD (U.take (k + 1)):=by
 rw[Rp (kvs:=wdD (U.take k)) (fun z=>Ju (f:=fun s:Sg=>s.1) nd hs (Qj (f:=fun s:Sg=>s.1) z)),Db hs]
 unfold wdD; rw[map_append]; rfl
theorem AaK (f:Nat->Int):Fo ((range 28).map fun k=>PV.int (f k)) (some 24) (some 26) = [.int (f 24),.int (f 25)]:=rfl
theorem Ano {f:Nat->Int} {U:List Sg}:((U.filter fun s=>decide (s.2.1 ∈ bs4)).map (·.1)).map PV.int ++ [PV.int (f 24),PV.int (f 25)] = (r0G f U).map fun s=>PV.int s.1:=by
 unfold r0G
 rw[map_append,map_map,map_map]; rfl
theorem AmP {U:List Sg}:((U.filter fun s:Sg=>decide (s.2.1 = "mark")).map (·.1)).map PV.int = (Nn U).map fun s=>PV.int s.1:=by unfold Nn; rw[map_map]; rfl
theorem Aku {f:Nat->Int} {U:List Sg}:upG U (r0G f U) (r0G f U).length = U:=by
 unfold upG; rw[drop_of_length_le (Nat.le_refl _)]; simp
theorem AiG {U R:List Sg} {n:Nat} (h:n <= R.length) (x:Sg):upG U (R ++ [x]) n = upG U R n ++ (if x.2.1 = "plain" then [] else [x]):=by
 unfold upG
 rw[List.drop_append_of_le_length h,filter_append,append_assoc]
 by_cases z:x.2.1 = "plain"
 ·rw[if_pos z,filter_cons_of_neg (by simp [z])]; rfl
 ·rw[if_neg z,filter_cons_of_pos (by simp [z])]; rfl
theorem Amr {s:Int × Int} {ss:List (Int × Int)} {P:PV->Prop} (h1:¬ s ∈ ss->P (.bl true)) (h2:s ∈ ss->P (.bl false)):Agj (prP s) (.lst (ss.map prP)) P:=by
 refine⟨ss.map prP,rfl,fun x hx=>?_,fun x hx=>?_,fun b hb=>?_⟩
 ·obtain⟨z,_,rfl⟩:=mem_map.mp hx; exact⟨_,rfl⟩
 ·obtain⟨z,_,rfl⟩:=mem_map.mp hx
  refine .tup (n:=39) fun i u v hu hv=>?_
  match i,hu,hv with
  | 0,hu,hv=>cases hu; cases hv; exact .flat rfl rfl
  | 1,hu,hv=>cases hu; cases hv; exact .flat rfl rfl
  | _ + 2,hu,_=>simp at hu
 ·have hm:prP s ∈ ss.map prP ↔ s ∈ ss:=by
   constructor
   ·intro h
    obtain⟨z,hz,e⟩:=mem_map.mp h
    have e':PV.tup [.int z.1,.int z.2] = .tup [.int s.1,.int s.2]:=e
    injection e' with e'
    injection e' with e1 e2
    injection e2 with e2
    injection e1 with e1
    injection e2 with e2
    rwa [<- show z = s from Prod.ext e1 e2]
   ·exact fun h=>mem_map.mpr ⟨s,h,rfl⟩
  by_cases h:s ∈ ss
  ·rw[hb.mpr (hm.mpr h)]; exact h2 h
  ·have:b = false:=by
    cases b with
    | false=>rfl
    | true=>exact absurd (hm.mp (hb.mp rfl)) h
   rw[this]; exact h1 h
theorem Aay (U:List Sg):(wdD U).map (fun kv=>kP kv.1) = U.map fun s=>PV.int s.1:=by unfold wdD; rw[map_map]; rfl
theorem Ub {U:List Sg} (nd:(U.map (·.1)).Nodup) {s:Sg} (hs:s ∈ U):Fe (wdD U) (.inl s.1) = some (.str s.2.1):=by
 induction U with
 | nil=>cases hs
 | cons x r ih =>
  obtain⟨h1,h2⟩:=nodup_cons.mp (show (x.1 :: r.map (·.1)).Nodup from nd)
  show Fe ((Sum.inl x.1,PV.str x.2.1) :: wdD r) (Sum.inl s.1) = _
  rw[Nr]
  rcases mem_cons.mp hs with e | e
  ·subst e; rw[if_pos rfl]
  ·rw[if_neg (fun z=>h1 (mem_map.mpr ⟨s,e,(Sum.inl.inj z).symm⟩))]
   exact ih h2 e
theorem Ak2 {U:List Sg} {n:Int} (h:∀ u ∈ U,¬ u.1 = n):Fe (wdD U) (.inl n) = none:=by
 induction U with
 | nil=>rfl
 | cons x r ih =>
  show Fe ((Sum.inl x.1,PV.str x.2.1) :: wdD r) (Sum.inl n) = _
  rw[Nr,if_neg (fun z=>h x mem_cons_self (Sum.inl.inj z))]
  exact ih fun u hu=>h u (mem_cons_of_mem _ hu)
def Akj:Vh:=fun p q r P=>∃ (c:Int) (f:Nat->Int) (U:List Sg),p = .int c/\q = .lst (U.map sgP)/\r = .lst ((range 28).map fun k=>.int (f k))/\T2 ((range 28).map f) U/\U.length = 14/\S28 f/\∀ k R J,k <= 6->JG f U k R J->P (.lst (map jnP J)) (.lst (map sgP (upG U R (r0G f U).length)))
theorem AmO (T:Txt K mg t):Binds K t.d_qbd ["_law_cell","_law_told_here","_law_signs_here"] []:=T.F_qbd.binds (by walk_at "b3")
theorem Ake (T:Txt K mg t):FnOk P w K mg base CX0 1 t.f_qbd t.d_qbd ["_law_cell","_law_told_here","_law_signs_here"] (spM K t.C_Book Akj):=by
 refine T.F_qbd.ok sc_qbd (fun vs H Q E h=>h.len) (fun cdv A outer s H vs Q E hr h=>?_)
 have hu:=Cy hr
 have hu64:=hr.units
 refine⟨_,(Bc (Bo (i:=3) sc_qbd.nd rfl (by first | exact Or.inl rfl | exact Or.inr rfl) Jv)
   (Bc (Dj PassesOwn.never rfl (Cs (pv 1)) (Lm (K':=K) (n:=3) rfl rfl (Ci (Bq (i:=4) sc_qbd.nd rfl (Or.inl rfl)) (Ci (Bq (i:=5) sc_qbd.nd rfl (Or.inl rfl)) (Ci (Bq (i:=6) sc_qbd.nd rfl (Or.inl rfl)) Ge))))
    (Bi (Gj hu (pv 3) (pv 4) (pv 5) rfl)))
   (Bc (Ws (Ut 1 [3] ["_law_sign","_law_words_here"] ["_law_words_here"] rfl (Vk (pv 3)) rfl (fun j y e1 i e2=>match j,e1,e2 with | 0,e1,e2=>by cases e1; cases e2; exact⟨rfl,rfl,rfl,by decide +kernel⟩ | _ + 1,_,e2=>by simp at e2) (forall_mem_cons.mpr ⟨rfl,fun _ h=>nomatch h⟩) (by decide +kernel) (fun _ _ _ _=>(Bq (i:=0) (show Nodup (["_law_sign","_law_words_here"]:List Str) by decide +kernel) rfl (Or.inl rfl))) (fun _ _ _ _=>(Nc (Cr Gi (No hu (pv 1) (pv 0) (fun _ _=>rfl)) Cf (Co _)))) (fun _ _ _ _=>(pv 0)) rfl (by decide +kernel) rfl (by decide +kernel) (fun _=>rfl) (i:=7) sc_qbd.nd rfl (Or.inl rfl) rfl))
   (Bc (Ws (Bo (i:=8) sc_qbd.nd rfl (Or.inl rfl) (Bs Fu (Jt 1 [3] ["_law_sign","_law_words_here"] ["_law_words_here"] rfl (Vk (pv 3)) rfl (fun j y e1 i e2=>match j,e1,e2 with | 0,e1,e2=>by cases e1; cases e2; exact⟨rfl,rfl,rfl,by decide +kernel⟩ | _ + 1,_,e2=>by simp at e2) (forall_mem_cons.mpr ⟨rfl,fun _ h=>nomatch h⟩) (by decide +kernel) (fun _ _ _ _=>(Bq (i:=0) (show Nodup (["_law_sign","_law_words_here"]:List Str) by decide +kernel) rfl (Or.inl rfl))) (fun _ _ _ _=>(Nc (Cr (Vv K) (No hu (pv 1) (pv 0) (fun _ _=>rfl)) (Cn (Ba Cf (Ba Cf (Ba Cf (Ba Cf Bd))))) rfl))) (fun _ _ _ _=>(pv 0)) rfl (by decide +kernel) rfl (by decide +kernel)) (Dh (Di K) (pv 2) (Cw Bg) (Cw Bg)))))
   (Bc (Bo (i:=9) sc_qbd.nd rfl (Or.inl rfl) (Cn Bd))
   (Bc (Bo (i:=10) sc_qbd.nd rfl (Or.inl rfl) (Cn Bd))
   (Bc (Dj PassesOwn.never rfl (Aea rfl T.z_range (Ba Bg (Ba (Bs Gb Bg (Bs Dm (pv 0) Bg)) Bd))) (Bq (i:=11) sc_qbd.nd rfl (Or.inl rfl))
    (Bc (Bo (i:=0) sc_qbd.nd rfl (Or.inl rfl) (Bs Fd (pv 0) Bg))
   (Bc (Bo (i:=12) sc_qbd.nd rfl (Or.inl rfl) (Ck (Cq K) (pv 8) (Bs Dm (pv 0) (Ch (Ce K) rfl T.z_len PySem.boot_len (Ba (pv 8) Bd))) (fun _ _=>rfl)))
   (Bc (Bo (i:=13) sc_qbd.nd rfl (Or.inl rfl) (Ck (Cq K) (pv 7) (Bs Dm (Bs Fd (pv 0) (Ch (Ce K) rfl T.z_len PySem.boot_len (Ba (pv 8) Bd))) (Ch (Ce K) rfl T.z_len PySem.boot_len (Ba (pv 7) Bd))) (fun _ _=>rfl)))
   (Bc (Bo (i:=0) sc_qbd.nd rfl (Or.inl rfl) (Bs Fd (pv 0) (Bs Wg (Ch (Ce K) rfl T.z_len PySem.boot_len (Ba (pv 8) Bd)) (Ch (Ce K) rfl T.z_len PySem.boot_len (Ba (pv 7) Bd)))))
   (Bi (Dx (Cr (Yy hu64) (Lb (Ba (pv 12) (Ba (pv 13) Bd))) (pv 10) rfl)
    (Bc (Cj (Fv plainAttrs_list PySem.F.slot_list_append PySem.F.type_list_append Do (pv 10) (Ba (Lb (Ba (pv 12) (Ba (pv 13) Bd))) Bd)))
   (Bc (Cj (Fv plainAttrs_list PySem.F.slot_list_append PySem.F.type_list_append Do (pv 9) (Ba (Lb (Ba (Ck (Cq K) (pv 2) (pv 11) (fun _ _=>rfl)) (Ba (pv 12) (Ba (pv 13) Bd)))) Bd)))
   (Bc (Cj (Fv plainAttrs_list PySem.F.slot_list_append PySem.F.type_list_append Do (pv 8) (Ba (Ck (Cq K) (pv 2) (pv 11) (fun _ _=>rfl)) Bd)))
   (Bi (Dx (Tm (AaT hu (pv 12) (pv 3)))
    (Bc (Gj hu (pv 3) (Ck (Cq K) (pv 2) (pv 11) (fun _ _=>rfl)) (No hu (pv 3) (pv 12) (fun _ _=>rfl)) rfl)
   (Bi (Cj (Fv plainAttrs_list PySem.F.slot_list_append PySem.F.type_list_append Do (pv 1) (Ba (Lb (Ba (Ck (Cq K) (pv 2) (pv 11) (fun _ _=>rfl)) (Ba (No hu (pv 3) (pv 12) (fun _ _=>rfl)) (Ba Bg Bd)))) Bd)))))
    Dg)))))
    Dg)))))))
   (Bi (Cd (pv 9)))))))))),?_⟩
 try dsimp only [Cm,By]
 refine Afj h (by decide) (fun a=>(Bj (Dp Tz)
   (Bj (Ai4 (i:=1) (a:=a) (AiQ (Nt (Dn (Cc (top:=14)) (Dn (Cc (top:=14)) (Dn (Cc (top:=14)) Lk))))
    (Nk Bb Cg)))
   (Bj (AdS (i:=3) (Bz (EF.eu (Yd  (Cc (top:=1)) (Du (EU.eb (Lf (EU.eb (Zu Bb)) (EU.eb Dk)))) Cg))))
   (Bj (AdS (i:=3) (Dp (Gh (EF.eb (Yd  (Cc (top:=1)) (Du (EU.eb (Ah1 (Zu Bb) (EF.eb (Dc 4 (Bv Dk (Bv Dk (Bv Dk (Bv Dk Bf))))))))) Cg)) (EF.eb (Fa Bb (Cz (EU.eb Bh)) (Cz (EU.eb Bh)))))))
   (Bj (Dp (Dc 0 Bf))
   (Bj (Dp (Dc 0 Bf))
   (Bj (AiL (Bn (EU.eb Bh) (Bn (EU.eb (Fs (fun _ _ _=>.int _) (EU.eb Bh) (EU.eb (Cv (fun _ _ _=>.int _) Bb (EU.eb Bh))))) Bf)) (Cc (top:=14))
    (Bj (Bz (Cv (fun _ _ _=>.int _) Bb (EU.eb Bh)))
   (Bj (Bz (De Bb (EU.eb (Cv (fun _ _ _=>.int _) Bb (EU.eb (Dv (Bn Bb Bf)))))))
   (Bj (Bz (De Bb (EU.eb (Cv (fun _ _ _=>.int _) (EU.eb (Cv (fun _ _ _=>.int _) Bb (EU.eb (Dv (Bn Bb Bf))))) (EU.eb (Dv (Bn Bb Bf)))))))
   (Bj (Bz (Cv (fun _ _ _=>.int _) Bb (EU.eb (Cv (fun _ _ _=>.int _) (EU.eb (Dv (Bn Bb Bf))) (EU.eb (Dv (Bn Bb Bf)))))))
   (Fr (Du (EU.eb (Aey (Lq 2 (Bv Cg (Bv Cg Bf))) Bb)))
    (Bj (Jg (Bv (Lq 2 (Bv Cg (Bv Cg Bf))) Bf))
   (Bj (Jg (Bv (Lq 3 (Bv (De Bb Bb) (Bv Cg (Bv Cg Bf)))) Bf))
   (Bj (Jg (Bv (De Bb Bb) Bf))
   (Fr (Du (EU.eb (Ae5 Bb Bb)))
    (Bj (Nk (EU.eb (De Bb Bb)) (Tw Bb Bb))
   (Ajm (a:=a) (Bv (Lq 3 (Bv (De Bb Bb) (Bv (Tw Bb Bb) (Bv Bh Bf)))) Bf)))
    Ds))))
    Ds))))))
   (Aja (i:=1)))))))))) (fun a p0 q0 r0 P hp=>?_)
 clear h hu hu64 hr
 obtain⟨c,f,U,rfl,rfl,rfl,ht,ul,hf,q⟩:=hp
 walk_at "s"
 have nd:=ht.nd ul hf
 ext
 refine Al2 rfl (fun z=>?_)
 refine Amm rfl ⟨fun k ρ=>∃ v4 v5 v6,k <= 14/\ρ = [.sh (.int c),.fl z (U.map sgP),.sh (.lst ((range 28).map fun k=>.int (f k))),.ow (.dk (wdD (U.take k))),v4,v5,v6,.un,.un,.un,.un,.un,.un,.un],⟨_,_,_,zero_le _,rfl⟩,?_,?_,?_⟩
 ·rintro k ρ ⟨v4,v5,v6,_,rfl⟩; rfl
 ·rintro k p ρ hp ⟨v4,v5,v6,hk14,rfl⟩
  rw[getElem?_map] at hp
  obtain⟨s,hs,rfl⟩:=map_eq_some_iff.mp hp
  have hk:k < U.length:=(List.getElem?_eq_some_iff.mp hs).1
  ext
  rotate_left
  ·unfold wdD; rw[length_map,length_take]; omega
  rw[show Lg (wdD (U.take k)) (Sum.inl s.1) (.str s.2.1) = wdD (U.take (k + 1)) from AbF nd hs]
  exact⟨_,_,_,by omega,rfl⟩
 ·rintro ρ ⟨v4,v5,v6,hk14,rfl⟩
  walk_at "me"
  refine⟨rfl,?_⟩
  have wl:(wdD U).length = 14:=by unfold wdD; rw[length_map,ul]
  ext
  refine⟨by omega,?_⟩
  rw[Aay]
  refine Gf (S:=U) (enc:=fun s=>PV.int s.1) (f:=fun s=>if s.2.1 = "mark" then some (.int s.1) else none) ?_ (fun d hd Z hZ=>?_)
  rotate_left
  ·walk_at "c"
   ext
   refine Qo (Ub nd hd) ?_
   ext
   by_cases hm:d.2.1 = "mark"
   ·rw[decide_eq_true hm]
    rw[if_pos hm] at hZ
    ext
    exact hZ
   ·rw[decide_eq_false hm]
    rw[if_neg hm] at hZ
    ext
    exact hZ
  rw[Aha,AmP]
  show fzE _ _ _ _ _
  refine⟨rfl,?_⟩
  ext
  refine⟨by omega,?_⟩
  rw[Aay]
  refine Gf (S:=U) (enc:=fun s=>PV.int s.1) (f:=fun s=>if s.2.1 ∈ bs4 then some (.int s.1) else none) ?_ (fun d hd Z hZ=>?_)
  rotate_left
  ·walk_at "c"
   ext
   refine Qo (Ub nd hd) ?_
   ext
   refine Aj2 (L:=bs4) (x:=d.2.1) ?_
   by_cases hm:d.2.1 ∈ bs4
   ·rw[decide_eq_true hm]
    rw[if_pos hm] at hZ
    ext
    exact hZ
   ·rw[decide_eq_false hm]
    rw[if_neg hm] at hZ
    ext
    exact hZ
  rw[Aha]
  have fl:=length_filter_le (fun s:Sg=>decide (s.2.1 ∈ bs4)) U
  ext
  all_goals try (first | decide | (rw[length_map,length_map,AaK]; show _ + 2 <= _; omega))
  rw[AaK,Ano]
  have rl:(r0G f U).length <= 16:=by unfold r0G; rw[length_append,length_map]; show _ + 2 <= _; omega
  have g1:=emod_nonneg c (show (7:Int) ≠ 0 by decide)
  have g2:=emod_lt_of_pos c (show (0:Int) < 7 by decide)
  show fzE _ _ _ _ _
  refine⟨rfl,?_⟩
  ext
  all_goals try (first | decide | exact⟨by decide,by decide⟩ | omega)
  refine⟨fun n ρ=>∃ (c':Int) (R:List Sg) (J:List Jn) (v11 v12 v13:Sl),n <= 6/\ρ = [.sh (.int c'),.om a (.lst ((upG U R (r0G f U).length).map sgP)),.sh (.lst ((range 28).map fun k=>.int (f k))),.ow (.dk (wdD (upG U R (r0G f U).length))),v4,v5,v6,.sh (.lst ((Nn U).map fun s=>PV.int s.1)),.ow (.lst (R.map fun s=>PV.int s.1)),.ow (.lst (J.map jnP)),.ow (.lst ((J.map (·.2)).map prP)),v11,v12,v13]/\JG f U n R J,⟨c,r0G f U,[],_,_,_,zero_le _,by rw[Aku]; rfl,.nil⟩,?_,?_⟩
  ·rintro n ρ hn ⟨c',R,J,v11,v12,v13,hn6,rfl,jg⟩
   have hn':n < 6:=by omega
   obtain⟨und,uix⟩:=Wa jg hn6 ht ul hf
   have kk:=Rx ht ul hf
   have old:=jg.old2 hn' kk
   have jl:=jg.len
   have rp:0 < R.length:=by rw[jl.2]; unfold r0G; rw[length_append]; show 0 < _ + 2 + _; omega
   have ml:=length_filter_le (fun s:Sg=>decide (s.2.1 = "mark")) U
   have mp:0 < (Nn U).length:=by
    have h4:4 < U.length:=by omega
    have:=ht.wd 4 _ (getElem?_eq_getElem h4) (by omega)
    exact List.length_pos_of_mem (mem_filter.mpr ⟨getElem_mem h4,decide_eq_true (Option.some.inj this).symm⟩)
   have ulen:(upG U R (r0G f U).length).length <= 60:=by
    have:=(Zd jg hn6 ht ul hf 0).ln
    omega
   have pick:∀ (l:List Sg) (i:Int),0 < l.length->∃ s,l[(i % (l.length:Int)).toNat]? = some s/\s ∈ l/\i % (l.length:Int) = ((i % (l.length:Int)).toNat:Int):=fun l i hl=>by
    have q1:=emod_nonneg i (show (l.length:Int) ≠ 0 by omega)
    have q2:=emod_lt_of_pos i (show (0:Int) < (l.length:Int) by omega)
    have hj:(i % (l.length:Int)).toNat < l.length:=by omega
    exact⟨_,getElem?_eq_getElem hj,getElem_mem hj,by omega⟩
   obtain⟨s,hs1,hs2,hs3⟩:=pick R (c' / 7) rp
   obtain⟨mr,hm1,hm2,hm3⟩:=pick (Nn U) (c' / 7 / (R.length:Int)) mp
   have fk:((range 28).map fun k=>PV.int (f k))[18 + n]? = some (PV.int (f (18 + n))):=by rw[getElem?_map,getElem?_range (by omega)]; rfl
   have ai:atI ((range 28).map fun k=>PV.int (f k)) (18 + (n:Int)) = some (PV.int (f (18 + n))):=by
    rw[show (18 + (n:Int)) = ((18 + n:Nat):Int) by omega]; exact Gk fk
   ext
   all_goals try (first | decide | exact⟨by decide,by decide⟩ | (simp only [length_map]; omega))
   simp only [length_map]
   refine Dw (l:=R) (f:=fun s:Sg=>PV.int s.1) (j:=(c' / 7 % (R.length:Int)).toNat) (a:=s) hs1 hs3 ?_
   ext
   all_goals try (first | decide | exact⟨by decide,by decide⟩ | (simp only [length_map]; omega) | exact⟨by simp only [length_map]; omega,by simp only [length_map]; omega⟩)
   simp only [length_map]
   refine Dw (l:=Nn U) (f:=fun s:Sg=>PV.int s.1) (j:=(c' / 7 / (R.length:Int) % ((Nn U).length:Int)).toNat) (a:=mr) hm1 hm3 ?_
   have mlen:(Nn U).length <= 14:=by unfold Nn; omega
   have prd:0 < (R.length:Int) * ((Nn U).length:Int):=Int.mul_pos (by omega) (by omega)
   have prd2:(R.length:Int) * ((Nn U).length:Int) <= 22 * 14:=Int.mul_le_mul (by omega) (by omega) (by omega) (by decide)
   ext
   all_goals try (first | decide | exact⟨by decide,by decide⟩ | exact .inl ⟨by simp only [length_map]; omega,by simp only [length_map]; omega⟩ | exact⟨by simp only [length_map]; omega,by simp only [length_map]; omega⟩)
   refine Amr (s:=(s.1,mr.1)) (ss:=J.map (·.2)) (fun hnew=>?_) (fun hold=>?_)
   rotate_left
   ·ext
    exact⟨_,R,J,_,_,_,by omega,rfl,.skip jg⟩
   have jg2:JG f U (n + 1) (R ++ [(f (10 + n + 8),s.2.1,0)]) (J ++ [(f (10 + n + 8),s.1,mr.1)]):=.add jg hs2 hm2 hnew
   rw[show 10 + n + 8 = 18 + n by omega] at jg2
   obtain⟨und2,_⟩:=Wa jg2 (by omega) ht ul hf
   have us:=AiG (U:=U) (R:=R) (n:=(r0G f U).length) (by omega) (f (18 + n),s.2.1,0)
   have eh:(J.map (·.2)).map prP ++ [PV.tup [.int s.1,.int mr.1]] = ((J ++ [(f (18 + n),s.1,mr.1)]).map (·.2)).map prP:=by rw[map_append,map_append]; rfl
   have ej:J.map jnP ++ [PV.tup [.int (f (18 + n)),.int s.1,.int mr.1]] = (J ++ [(f (18 + n),s.1,mr.1)]).map jnP:=by rw[map_append]; rfl
   have er:R.map (fun s:Sg=>PV.int s.1) ++ [PV.int (f (18 + n))] = (R ++ [((f (18 + n),s.2.1,0):Sg)]).map fun s:Sg=>PV.int s.1:=by rw[map_append]; rfl
   ext
   all_goals try (first | (simp only [length_map]; omega))
   refine Ug ai ?_
   ext
   all_goals try (first | (simp only [length_map]; omega))
   refine Ug ai ?_
   ext
   all_goals try (first | (simp only [length_map]; omega))
   rw[eh,ej,er]
   rcases AeY jg hn6 ht ul hf s hs2 with ⟨np,r,hr⟩ | ⟨pl,hr⟩
   ·have hv:=Ub und hr
    rw[if_neg np] at us
    have hv2:=Ub (s:=(s.1,s.2.1,r)) und2 (by rw[us]; exact mem_append_left _ hr)
    have ep:Lg (wdD (upG U R (r0G f U).length)) (Sum.inl (f (18 + n))) (.str s.2.1) = wdD (upG U (R ++ [(f (18 + n),s.2.1,0)]) (r0G f U).length):=by
     rw[us] at und2 ⊢
     have hx:(upG U R (r0G f U).length ++ [(f (18 + n),s.2.1,0)])[(upG U R (r0G f U).length).length]? = some (f (18 + n),s.2.1,0):=by simp
     have:=AbF und2 hx
     rwa [List.take_left,List.take_of_length_le (by simp)] at this
    have et:(upG U R (r0G f U).length).map sgP ++ [PV.tup [.int (f (18 + n)),.str s.2.1,.int 0]] = (upG U (R ++ [(f (18 + n),s.2.1,0)]) (r0G f U).length).map sgP:=by rw[us,map_append]; rfl
    rw[hv,isSome_some]
    ext
    refine Qo hv ?_
    ext
    refine Ug ai ?_
    ext
    rotate_left
    ·unfold wdD; rw[length_map]; omega
    rw[ep]
    refine Ug ai ?_
    ext
    refine Qo hv2 ?_
    ext
    rotate_left
    ·rw[length_map]; omega
    rw[et]
    exact⟨_,_,_,_,_,_,by omega,rfl,jg2⟩
   ·have hv:=Ak2 hr
    rw[if_pos pl,append_nil] at us
    rw[hv,Option.isSome_none]
    ext
    exact⟨_,R ++ [(f (18 + n),s.2.1,0)],_,_,_,_,by omega,(by rw[us]),jg2⟩
  ·rintro ρ ⟨c',R,J,v11,v12,v13,hn6,rfl,jg⟩
   ext
   exact⟨_,_,rfl,q _ R J hn6 jg⟩
theorem AhH {c:Int} (hc:0 <= c):S28 (s2F c):=by
 have hst:(0:Int) < 1 + c / 64 % 10 ^ 26:=by have:=emod_nonneg (c / 64) (show (10:Int) ^ 26 ≠ 0 by decide); omega
 have hb:byF c ∈ byL:=by
  have h1:=emod_nonneg c (show (8:Int) ≠ 0 by decide)
  have h2:=emod_lt_of_pos c (show (0:Int) < 8 by decide)
  have hj:(c % 8).toNat < byL.length:=by show _ < 8; omega
  unfold byF; rw[getElem?_eq_getElem hj]; exact getElem_mem hj
 refine⟨fun i=>?_,fun i j hi hj e=>?_⟩
 ·unfold s2F
  have h1:=emod_nonneg (c / 8) (show (10:Int) ^ 28 ≠ 0 by decide)
  have h2:=emod_nonneg ((i:Int) * byF c + c / 512) (show (28:Int) ≠ 0 by decide)
  have:=Int.mul_nonneg (Int.le_of_lt hst) h2
  omega
 ·unfold s2F at e
  have e2:=Int.eq_of_mul_eq_mul_left (show 1 + c / 64 % 10 ^ 26 ≠ 0 by omega) (show (1 + c / 64 % 10 ^ 26) * (((i:Int) * byF c + c / 512) % 28) = (1 + c / 64 % 10 ^ 26) * (((j:Int) * byF c + c / 512) % 28) by omega)
  generalize c / 512 = z at e2
  generalize byF c = b at hb e2
  simp only [byL,mem_cons,not_mem_nil,or_false] at hb
  rcases hb with rfl | rfl | rfl | rfl | rfl | rfl | rfl | rfl <;> omega
structure G2A (f:Nat->Int) (U R:List Sg) (J:List Jn) (k y:Nat):Prop where
 hf:S28 f
 ht:T2 ((range 28).map f) U
 ul:U.length = 14
 hk:k <= 6
 jg:JG f U k R J
 hy:y = 1\/y = 2
def g2P (f:Nat->Int) (U R:List Sg) (J:List Jn) (y:Nat):PV:=.tup [.lst ((range 28).map fun k=>.int (f k)),.lst ((upG U R (r0G f U).length).map sgP),.lst ((mtG f y).map prP),.lst (J.map jnP)]
def Aj0:PSp:=fun ps P=>∃ ns,ps = [.scr ns]/\ns.length <= 63/\∀ f U R J k y,G2A f U R J k y->P (g2P f U R J y)
theorem Ann (T:Txt K mg t):Binds K t.d_qbf ["_law_script"] []:=T.F_qbf.binds (by walk_at "b1")
theorem Ald (T:Txt K mg t):FnOk P w K mg base CX0 2 t.f_qbf t.d_qbf ["_law_script"] (spOf K t.C_Book [false] .sh Aj0):=by
 refine T.F_qbf.ok sc_qbf (fun vs H Q E h=>h.len) (fun cdv A outer s H vs Q E hr h=>?_)
 have hu:=Cy hr
 have hu64:=hr.units
 refine⟨_,(Bc (Bo (i:=1) sc_qbf.nd rfl (Or.inl rfl) (Bs Dm (Bm (Zl T) (hr.mono (by decide)) rfl T.m_qg T.F_qg.kp (Aca T) .nil Br (Ba (pv 0) (Ba Bg Bd))) (Bs Lu Bg Bg)))
   (Bc (Bo (i:=2) sc_qbf.nd rfl (Or.inl rfl) (Bm (Amo T) (hr.mono (by decide)) rfl T.m_qbh T.F_qbh.kp (Amw T) .nil Br (Ba (pv 1) Bd)))
   (Bc (Bo (i:=3) sc_qbf.nd rfl (Or.inl rfl) (Bm (AkD T) (hr.mono (by decide)) rfl T.m_qbs T.F_qbs.kp (Anf T) .nil Br (Ba (pv 1) (Ba (Bs Dm (Bm (Zl T) (hr.mono (by decide)) rfl T.m_qg T.F_qg.kp (Aca T) .nil Br (Ba (pv 0) (Ba Bg Bd))) (Bs Lu Bg Bg)) (Ba (pv 2) Bd)))))
   (Bc (Bo (i:=4) sc_qbf.nd rfl (Or.inl rfl) (Bm (Ake T) (hr.mono (by decide)) rfl T.m_qbd T.F_qbd.kp (AmO T) .nil Br (Ba (Bs Dm (Bm (Zl T) (hr.mono (by decide)) rfl T.m_qg T.F_qg.kp (Aca T) .nil Br (Ba (pv 0) (Ba Bg Bd))) (Bs Lu Bg Bg)) (Ba (pv 3) (Ba (pv 2) Bd)))))
   (Bc (Bo (i:=5) sc_qbf.nd rfl (Or.inl rfl) (Dh (Di K) (Cn (Ba (Lb (Ba (Ck (Cq K) (pv 2) Bg (fun _ _=>rfl)) (Ba (Ck (Cq K) (pv 2) Bg (fun _ _=>rfl)) Bd))) (Ba (Lb (Ba (Ck (Cq K) (pv 2) Bg (fun _ _=>rfl)) (Ba (Ck (Cq K) (pv 2) Bg (fun _ _=>rfl)) Bd))) Bd))) Fi (Cw (Bs Gb Bg (Bs Dm (Bs Fd (pv 1) Bg) Bg)))))
   (Bi (Cd (Lb (Ba (pv 2) (Ba (pv 3) (Ba (pv 5) (Ba (pv 4) Bd)))))))))))),?_⟩
 try dsimp only [Cm,By]
 refine Df h (by decide) (Bj (Bz (Cv (fun _ _ _=>.int _) (EU.eb (Nj (Bn Bb (Bn (EU.eb Bh) Bf)))) (EU.eb (Cv (fun _ _ _=>.int _) (EU.eb Bh) (EU.eb Bh)))))
   (Bj (Bz (EF.eu (Ct (Bn Bb Bf))))
   (Bj (Dp (Ct (Bn Bb (Bv (Cv (fun _ _ _=>.int _) (EU.eb (Nj (Bn Bb (Bn (EU.eb Bh) Bf)))) (EU.eb (Cv (fun _ _ _=>.int _) (EU.eb Bh) (EU.eb Bh)))) (Bn Bb Bf)))))
   (Bj (Ajo (Cv (fun _ _ _=>.int _) (EU.eb (Nj (Bn Bb (Bn (EU.eb Bh) Bf)))) (EU.eb (Cv (fun _ _ _=>.int _) (EU.eb Bh) (EU.eb Bh)))) Cg)
   (Bj (Bz (EF.eu (Fa (EF.eb (Dc 2 (Bv (Lq 2 (Bv (De Bb (EU.eb Bh)) (Bv (De Bb (EU.eb Bh)) Bf))) (Bv (Lq 2 (Bv (De Bb (EU.eb Bh)) (Bv (De Bb (EU.eb Bh)) Bf))) Bf)))) Fj (Cz (EU.eb (Fs (fun _ _ _=>.int _) (EU.eb Bh) (EU.eb (Cv (fun _ _ _=>.int _) (EU.eb (Cv (fun _ _ _=>.int _) Bb (EU.eb Bh))) (EU.eb Bh)))))))))
   (Zw 3 (Zw 4 (Gv (Lq 4 (Bv Cg (Bv Cg (Bv Cg (Bv Cg Bf))))))))))))) (fun ps P hp=>?_)
 clear h hu hu64 hr
 obtain⟨ns,rfl,hl,q⟩:=hp
 walk_at "s"
 ext
 refine⟨ns,0,rfl,hl,?_⟩
 ext
 walk_at "mb"
 have hc:=emod_nonneg (cR ns 0) (show (10:Int) ^ 30 ≠ 0 by decide)
 rw[show (10:Int) ^ toNat 30 = 10 ^ 30 from rfl]
 generalize cR ns 0 % 10 ^ 30 = c at hc
 refine⟨c,rfl,hc,?_⟩
 ext
 refine⟨ns,1,rfl,hl,?_⟩
 ext
 walk_at "mb"
 refine⟨c,_,s2L c,rfl,emod_nonneg _ (by decide),by unfold s2L; rw[length_map,length_range],fun U ul ht=>?_⟩
 ext
 refine⟨ns,2,rfl,hl,?_⟩
 ext
 walk_at "mb"
 refine⟨_,s2F c,U,rfl,rfl,(by unfold s2L; rw[map_map]; rfl),ht,ul,AhH hc,fun k R J hk jg=>?_⟩
 have gx:∀ i,i < 28->(s2L c)[i]? = some (s2F c i):=fun i hi=>by unfold s2L; rw[getElem?_map,getElem?_range hi]; rfl
 ext
 refine Dw (l:=s2L c) (f:=PV.int) (j:=14) (a:=s2F c 14) (gx 14 (by decide)) rfl ?_
 ext
 refine Dw (l:=s2L c) (f:=PV.int) (j:=15) (a:=s2F c 15) (gx 15 (by decide)) rfl ?_
 ext
 refine Dw (l:=s2L c) (f:=PV.int) (j:=16) (a:=s2F c 16) (gx 16 (by decide)) rfl ?_
 ext
 refine Dw (l:=s2L c) (f:=PV.int) (j:=17) (a:=s2F c 17) (gx 17 (by decide)) rfl ?_
 ext
 walk_at "ma"
 obtain⟨y,hy,ey⟩:∃ y:Nat,(y = 1\/y = 2)/\1 + c / 32 % 2 = (y:Int):=by
  have h1:=emod_nonneg (c / 32) (show (2:Int) ≠ 0 by decide)
  have h2:=emod_lt_of_pos (c / 32) (show (0:Int) < 2 by decide)
  exact⟨(1 + c / 32 % 2).toNat,by omega,by omega⟩
 rw[ey]
 have em:Fo [PV.tup [.int (s2F c 14),.int (s2F c 15)],PV.tup [.int (s2F c 16),.int (s2F c 17)]] none (some (y:Int)) = (mtG (s2F c) y).map prP:=by
  rcases hy with rfl | rfl <;> rfl
 have z:=q (s2F c) U R J k y ⟨AhH hc,ht,ul,hk,jg,hy⟩
 unfold g2P at z
 rw[<- em,show ((range 28).map fun k=>PV.int (s2F c k)) = (s2L c).map .int by unfold s2L; rw[map_map]; rfl] at z
 exact z
def cvD (l:List (Key × V)):List (Key × PV):=l.map fun kv=>(kv.1,vP kv.2)
def kkD (U:List Sg) (M:List (Int × Int)):List (Key × PV):=cvD (kK U ++ kM M)
theorem Xu {l:List (Key × V)} {k:Key} {v:V} (nd:((l ++ [(k,v)]).map (·.1)).Nodup):Lg (cvD l) k (vP v) = cvD (l ++ [(k,v)]):=by
 rw[Rp (kvs:=cvD l) (fun z=>by
  rw[map_append] at nd
  refine (nodup_append.mp nd).2.2 k ?_ k mem_cons_self rfl
  unfold cvD at z
  rw[map_map] at z
  exact z)]
 unfold cvD
 rw[map_append]; rfl
theorem Ajv (l:List (Key × V)) (k:Key):Fe (cvD l) k = (Cp l k).map vP:=by
 induction l with
 | nil=>rfl
 | cons x r ih =>
  show Fe ((x.1,vP x.2) :: cvD r) k = _
  rw[Nr]
  by_cases z:x.1 = k
  ·rw[if_pos z,Jr z]; rfl
  ·rw[if_neg z,Js z,ih]
theorem Xb (U:List Sg) (M:List (Int × Int)) (n:Int):(Fe (kkD U M) (.inl n)).getD (.str "plain") = .str (Fc U M n):=by
 unfold kkD
 rw[Ajv]
 have:=Zg U M n
 cases e:Cp (kK U ++ kM M) (Sum.inl n) with
 | none=>rw[e] at this; show PV.str "plain" = _; injection this with this; rw[this]
 | some v=>rw[e] at this; have t:v = V.str (Fc U M n):=this; rw[t]; rfl
def AlA:PSp:=fun ps P=>∃ f U R J k y,ps = [g2P f U R J y]/\G2A f U R J k y/\P (.dk (kkD (upG U R (r0G f U).length) (mtG f y)))
theorem AmV (T:Txt K mg t):Binds K t.d_qbi ["_law_lists_here"] []:=T.F_qbi.binds (by walk_at "b1")
theorem AkY (T:Txt K mg t):FnOk P w K mg base CX0 1 t.f_qbi t.d_qbi ["_law_lists_here"] (spOf K t.C_Book [true] .fr AlA):=by
 refine T.F_qbi.ok sc_qbi (fun vs H Q E h=>h.len) (fun cdv A outer s H vs Q E hr h=>?_)
 have hu:=Cy hr
 have hu64:=hr.units
 refine⟨_,(Bc (Bo (i:=1) sc_qbi.nd rfl (Or.inl rfl) Jv)
   (Bc (Dj PassesOwn.never rfl (Cs (Ck (Dt K) (pv 0) Bg (fun _ _=>rfl))) (Lm (K':=K) (n:=3) rfl rfl (Ci (Bq (i:=2) sc_qbi.nd rfl (Or.inl rfl)) (Ci (Bq (i:=3) sc_qbi.nd rfl (Or.inl rfl)) (Ci (Bq (i:=4) sc_qbi.nd rfl (Or.inl rfl)) Ge))))
    (Bi (Gj hu (pv 1) (pv 2) (pv 3) rfl)))
   (Bc (Dj PassesOwn.never rfl (Cs (Ck (Dt K) (pv 0) Bg (fun _ _=>rfl))) (Lm (K':=K) (n:=2) rfl rfl (Ci (Bq (i:=5) sc_qbi.nd rfl (Or.inl rfl)) (Ci (Bq (i:=6) sc_qbi.nd rfl (Or.inl rfl)) Ge)))
    (Bc (Gj hu (pv 1) (pv 5) Cf rfl)
   (Bi (Gj hu (pv 1) (pv 6) Cf rfl))))
   (Bi (Cd (pv 1)))))),?_⟩
 try dsimp only [Cm,By]
 refine Df h (by decide) (Bj (Dp Tz)
   (Bj (Jx (Ff Bb (EU.eb Bh)) (Nt (Dn (Cc (top:=7)) (Dn (Cc (top:=7)) (Dn (Cc (top:=7)) Lk))))
    (Nk Bb Cg))
   (Bj (Jx (Ff Bb (EU.eb Bh)) (Nt (Dn (Cc (top:=7)) (Dn (Cc (top:=7)) Lk)))
    (Bj (Nk Bb Dk)
   (Nk Bb Dk)))
   Gu))) (fun ps P hp=>?_)
 clear h hu hu64 hr
 obtain⟨f,U,R,J,k0,y,rfl,ga,q⟩:=hp
 walk_at "s"
 have bk:=Zd ga.jg ga.hk ga.ht ga.ul ga.hf y
 unfold g2P
 generalize upG U R (r0G f U).length = W at bk q
 generalize mtG f y = M at bk q
 have ndk:=Adj bk.nd
 have wl:W.length <= 60:=by have:=bk.ln; omega
 have ml:M.length <= 30:=by have:=bk.ln; omega
 ext
 refine⟨fun k ρ=>∃ v2 v3 v4,ρ = [.sh (.tup [.lst ((range 28).map fun k=>.int (f k)),.lst (W.map sgP),.lst (M.map prP),.lst (J.map jnP)]),.ow (.dk (cvD (kK (W.take k)))),v2,v3,v4,.un,.un],⟨_,_,_,rfl⟩,?_,?_⟩
 ·rintro k p ρ hp ⟨v2,v3,v4,rfl⟩
  rw[getElem?_map] at hp
  obtain⟨s,hs,rfl⟩:=map_eq_some_iff.mp hp
  have e1:kK (W.take (k + 1)) = kK (W.take k) ++ [(Sum.inl s.1,V.str s.2.1)]:=by rw[Db hs]; unfold kK; rw[map_append]; rfl
  have n1:((kK (W.take (k + 1))).map (·.1)).Nodup:=by
   rw[map_append] at ndk
   refine Nodup.sublist (Sublist.map _ ?_) (nodup_append.mp ndk).1
   unfold kK
   exact Sublist.map _ (List.take_sublist _ _)
  rw[e1] at n1
  ext
  rotate_left
  ·unfold cvD kK; rw[length_map,length_map,length_take]; omega
  rw[show Lg (cvD (kK (W.take k))) (Sum.inl s.1) (PV.str s.2.1) = cvD (kK (W.take (k + 1))) by rw[e1]; exact Xu n1]
  exact⟨_,_,_,rfl⟩
 rintro ρ ⟨v2,v3,v4,rfl⟩
 walk_at "me"
 ext
 refine⟨fun k ρ=>∃ v5 v6,ρ = [.sh (.tup [.lst ((range 28).map fun k=>.int (f k)),.lst (W.map sgP),.lst (M.map prP),.lst (J.map jnP)]),.ow (.dk (cvD (kK W ++ kM (M.take k)))),v2,v3,v4,v5,v6],⟨_,_,by rw[List.take_zero]; unfold kM; rw[append_nil]⟩,?_,?_⟩
 ·rintro k p ρ hp ⟨v5,v6,rfl⟩
  rw[getElem?_map] at hp
  obtain⟨m,hm,rfl⟩:=map_eq_some_iff.mp hp
  have hk:k < M.length:=(List.getElem?_eq_some_iff.mp hm).1
  have e1:kK W ++ kM (M.take (k + 1)) = (kK W ++ kM (M.take k) ++ [(Sum.inl m.1,V.str "open")]) ++ [(Sum.inl m.2,V.str "shut")]:=by rw[Db hm,Qg,append_assoc,append_assoc]; rfl
  have n1:((kK W ++ kM (M.take (k + 1))).map (·.1)).Nodup:=by
   have e:=Qg (M.take (k + 1)) (M.drop (k + 1))
   rw[take_append_drop] at e
   rw[e,<- append_assoc,map_append] at ndk
   exact (nodup_append.mp ndk).1
  rw[e1] at n1
  have n2:=n1
  rw[map_append] at n2
  have n3:=(nodup_append.mp n2).1
  have kl:(cvD (kK W ++ kM (M.take k))).length <= 1000:=by
   have:∀ M:List (Int × Int),(kM M).length = 2 * M.length:=fun M=>by
    induction M with
    | nil=>rfl
    | cons x r ih=>show (kM r).length + 1 + 1 = _; rw[ih,length_cons]; omega
   unfold cvD kK
   rw[length_map,length_append,length_map,this,length_take]; omega
  have p1:Lg (cvD (kK W ++ kM (M.take k))) (Sum.inl m.1) (PV.str "open") = cvD (kK W ++ kM (M.take k) ++ [(Sum.inl m.1,V.str "open")]):=Xu n3
  have p2:Lg (cvD (kK W ++ kM (M.take k) ++ [(Sum.inl m.1,V.str "open")])) (Sum.inl m.2) (PV.str "shut") = cvD (kK W ++ kM (M.take (k + 1))):=by rw[e1]; have z:=Xu n1; exact z
  have l2:(cvD (kK W ++ kM (M.take k) ++ [(Sum.inl m.1,V.str "open")])).length < 100000:=by
   unfold cvD at kl ⊢; rw[length_map] at kl ⊢; rw[length_append]; show _ + 1 < _; omega
  have l1:(cvD (kK W ++ kM (M.take k))).length < 100000:=by omega
  ext
  all_goals try (first | exact l1 | (rw[p1]; exact l2))
  rw[p1,p2]
  exact⟨_,_,rfl⟩
 rintro ρ ⟨v5,v6,rfl⟩
 walk_at "me"
 ext
 exact q
def gpF (f:Nat->Int) (W:List Sg) (M:List (Int × Int)) (w:Str):List Int:=((range 28).map f).filter fun n=>decide (Fc W M n = w)
def Aj8:PSp:=fun ps P=>∃ (f:Nat->Int) (W:List Sg) (M:List (Int × Int)) (J:List Jn) (ws:List Str),ps = [.tup [.lst ((range 28).map fun k=>.int (f k)),.lst (W.map sgP),.lst (M.map prP),.lst (J.map jnP)],.dk (kkD W M),.lst (ws.map .str)]/\ws.length <= 100/\P (.lst (ws.map fun w=>.lst ((gpF f W M w).map .int)))
theorem AnW (T:Txt K mg t):Binds K t.d_qr ["_law_lists_here","_law_words_here","_law_chosen"] []:=T.F_qr.binds (by walk_at "b3")
theorem AnJ (T:Txt K mg t):FnOk P w K mg base CX0 1 t.f_qr t.d_qr ["_law_lists_here","_law_words_here","_law_chosen"] (spOf K t.C_Book [false,false,true] .fr Aj8):=by
 refine T.F_qr.ok sc_qr (fun vs H Q E h=>h.len) (fun cdv A outer s H vs Q E hr h=>?_)
 have hu:=Cy hr
 have hu64:=hr.units
 refine⟨_,(Bc (Bo (i:=3) sc_qr.nd rfl (Or.inl rfl) (Cn Bd))
   (Bc (Dj PassesOwn.never rfl (Cs (pv 2)) (Bq (i:=4) sc_qr.nd rfl (by first | exact Or.inl rfl | exact Or.inr rfl))
    (Bi (Cj (Fv plainAttrs_list PySem.F.slot_list_append PySem.F.type_list_append Do (pv 3) (Ba (Jt 1 [1,4] ["_law_sign","_law_words_here","_law_word"] ["_law_words_here","_law_word"] rfl (Cs (Ck (Dt K) (pv 0) Bg (fun _ _=>rfl))) rfl (fun j y e1 i e2=>match j,e1,e2 with | 0,e1,e2=>by cases e1; cases e2; exact⟨rfl,rfl,rfl,by decide +kernel⟩ | 1,e1,e2=>by cases e1; cases e2; exact⟨rfl,rfl,rfl,by decide +kernel⟩ | _ + 2,_,e2=>by simp at e2) (forall_mem_cons.mpr ⟨rfl,forall_mem_cons.mpr ⟨rfl,fun _ h=>nomatch h⟩⟩) (by decide +kernel) (fun _ _ _ _=>(Bq (i:=0) (show Nodup (["_law_sign","_law_words_here","_law_word"]:List Str) by decide +kernel) rfl (Or.inl rfl))) (fun _ _ _ _=>(Nc (Cr Gi (Oo hu (pv 1) (pv 0) Cf ⟨rfl,rfl,rfl,rfl⟩) (pv 2) (Co _)))) (fun _ _ _ _=>(pv 0)) rfl (by decide +kernel) rfl (by decide +kernel)) Bd)))))
   (Bi (Cd (pv 3))))),?_⟩
 try dsimp only [Cm,By]
 refine Df h (by decide) (Bj (Dp (Dc 0 Bf))
   (Bj (Oh (Cc (top:=5))
    (Jg (Bv (EF.eu (Gr (EU.eb (Ff Bb (EU.eb Bh))) (Cc (top:=1)) (Du (EU.eb (Lf (EU.eb (Aaw Bb Dk)) Bb))) Cg)) Bf)))
   Gu)) (fun ps P hp=>?_)
 clear h hu hu64 hr
 obtain⟨f,W,M,J,ws,rfl,hw,q⟩:=hp
 walk_at "s"
 ext
 refine⟨fun k ρ=>∃ v4,ρ = [.bo (.tup [.lst ((range 28).map fun k=>.int (f k)),.lst (W.map sgP),.lst (M.map prP),.lst (J.map jnP)]),.bo (.dk (kkD W M)),.sh (.lst (ws.map .str)),.ow (.lst ((ws.take k).map fun w=>.lst ((gpF f W M w).map .int))),v4],⟨_,rfl⟩,?_,?_⟩
 ·rintro k p ρ hp ⟨v4,rfl⟩
  rw[getElem?_map] at hp
  obtain⟨w,hk,rfl⟩:=map_eq_some_iff.mp hp
  ext
  refine⟨by simp,?_⟩
  refine Gf (S:=(range 28).map f) (enc:=PV.int) (f:=fun n=>if Fc W M n = w then some (.int n) else none) ?_ (fun d hd Z hZ=>?_)
  rotate_left
  ·walk_at "c"
   ext
   rw[Xb]
   ext
   by_cases hm:Fc W M d = w
   ·rw[decide_eq_true hm]
    rw[if_pos hm] at hZ
    ext
    exact hZ
   ·rw[decide_eq_false hm]
    rw[if_neg hm] at hZ
    ext
    exact hZ
  rw[show ((range 28).map f).filterMap (fun n=>if Fc W M n = w then some (PV.int n) else none) = (gpF f W M w).map .int by
   unfold gpF
   generalize (range 28).map f = l
   induction l with
   | nil=>rfl
   | cons x r ih =>
    by_cases z:Fc W M x = w
    ·rw[List.filterMap_cons_some (by rw[if_pos z]),filter_cons_of_pos (by simp [z]),map_cons,ih]
    ·rw[List.filterMap_cons_none (by rw[if_neg z]),filter_cons_of_neg (by simp [z]),ih]]
  ext
  rotate_left
  ·rw[length_map,length_take]; omega
  exact⟨_,by rw[Db hk,map_append]; rfl⟩
 rintro ρ ⟨v4,rfl⟩
 walk_at "me"
 ext
 exact q
def AlY:PSp:=fun ps P=>∃ (gs:List (List Int)) (cs:List Int),ps = [.lst (gs.map fun g=>.lst (g.map .int)),.lst (cs.map .int)]/\(0 < gs.length/\gs.length <= 100)/\(∀ g ∈ gs,0 < g.length/\g.length <= 100)/\cs.length <= 300/\∀ ts:List Int,ts.length = cs.length->(∀ t ∈ ts,∃ g ∈ gs,t ∈ g)->P (.lst (ts.map .int))
theorem Amu (T:Txt K mg t):Binds K t.d_qbr ["_law_groups_here","_law_cells"] []:=T.F_qbr.binds (by walk_at "b2")
theorem Akx (T:Txt K mg t):FnOk P w K mg base CX0 1 t.f_qbr t.d_qbr ["_law_groups_here","_law_cells"] (spOf K t.C_Book [true,true] .fr AlY):=by
 refine T.F_qbr.ok sc_qbr (fun vs H Q E h=>h.len) (fun cdv A outer s H vs Q E hr h=>?_)
 have hu:=Cy hr
 have hu64:=hr.units
 refine⟨_,(Bc (Bo (i:=2) sc_qbr.nd rfl (Or.inl rfl) (Cn Bd))
   (Bc (Dj PassesOwn.never rfl (Cs (pv 1)) (Bq (i:=3) sc_qbr.nd rfl (Or.inl rfl))
    (Bc (Bo (i:=4) sc_qbr.nd rfl (Or.inl rfl) (Ck (Cq K) (pv 0) (Bs Dm (pv 3) (Ch (Ce K) rfl T.z_len PySem.boot_len (Ba (pv 0) Bd))) (fun _ _=>rfl)))
   (Bi (Cj (Fv plainAttrs_list PySem.F.slot_list_append PySem.F.type_list_append Do (pv 2) (Ba (Ck (Cq K) (pv 4) (Bs Dm (Bs Fd (pv 3) (Ch (Ce K) rfl T.z_len PySem.boot_len (Ba (pv 0) Bd))) (Ch (Ce K) rfl T.z_len PySem.boot_len (Ba (pv 4) Bd))) (fun _ _=>rfl)) Bd))))))
   (Bi (Cd (pv 2))))),?_⟩
 try dsimp only [Cm,By]
 refine Df h (by decide) (Bj (Dp (Dc 0 Bf))
   (Bj (Oh (Cc (top:=5))
    (Bj (Bz (De Bb (EU.eb (Cv (fun _ _ _=>.int _) Bb (EU.eb (Dv (Bn Bb Bf)))))))
   (Jg (Bv (De Bb (EU.eb (Cv (fun _ _ _=>.int _) (EU.eb (Cv (fun _ _ _=>.int _) Bb (EU.eb (Dv (Bn Bb Bf))))) (EU.eb (Dv (Bn Bb Bf)))))) Bf))))
   Gu)) (fun ps P hp=>?_)
 clear h hu hu64 hr
 obtain⟨gs,cs,rfl,hg,hg2,hc,q⟩:=hp
 walk_at "s"
 ext
 refine⟨fun k ρ=>∃ (ts:List Int) (v3 v4:Sl),ρ = [.sh (.lst (gs.map fun g=>.lst (g.map .int))),.sh (.lst (cs.map .int)),.ow (.lst (ts.map .int)),v3,v4]/\ts.length = k/\∀ t ∈ ts,∃ g ∈ gs,t ∈ g,⟨[],_,_,rfl,rfl,fun t h=>by cases h⟩,?_,?_⟩
 ·rintro k p ρ hp ⟨ts,v3,v4,rfl,tl,ht⟩
  rw[getElem?_map] at hp
  obtain⟨c,hk,rfl⟩:=map_eq_some_iff.mp hp
  have hkl:k < cs.length:=(List.getElem?_eq_some_iff.mp hk).1
  have g1:=emod_nonneg c (show (gs.length:Int) ≠ 0 by omega)
  have g2:=emod_lt_of_pos c (show (0:Int) < (gs.length:Int) by omega)
  have hj:(c % (gs.length:Int)).toNat < gs.length:=by omega
  obtain⟨g,hgm,hgi⟩:∃ g,g ∈ gs/\gs[(c % (gs.length:Int)).toNat]? = some g:=⟨_,getElem_mem hj,getElem?_eq_getElem hj⟩
  obtain⟨gp,gl⟩:=hg2 g hgm
  have g3:=emod_nonneg (c / (gs.length:Int)) (show (g.length:Int) ≠ 0 by omega)
  have g4:=emod_lt_of_pos (c / (gs.length:Int)) (show (0:Int) < (g.length:Int) by omega)
  have hj2:(c / (gs.length:Int) % (g.length:Int)).toNat < g.length:=by omega
  obtain⟨t,htm,hti⟩:∃ t,t ∈ g/\g[(c / (gs.length:Int) % (g.length:Int)).toNat]? = some t:=⟨_,getElem_mem hj2,getElem?_eq_getElem hj2⟩
  ext
  all_goals try (simp only [length_map]; omega)
  simp only [length_map]
  refine Dw (l:=gs) (f:=fun g:List Int=>PV.lst (g.map .int)) (j:=(c % (gs.length:Int)).toNat) (a:=g) hgi (by omega) ?_
  ext
  all_goals try (first | (simp only [length_map]; omega) | exact⟨by simp only [length_map]; omega,by simp only [length_map]; omega⟩)
  simp only [length_map]
  refine Dw (l:=g) (f:=PV.int) (j:=(c / (gs.length:Int) % (g.length:Int)).toNat) (a:=t) hti (by omega) ?_
  ext
  rotate_left
  ·rw[length_map]; omega
  refine⟨ts ++ [t],_,_,by rw[map_append]; rfl,by rw[length_append,tl]; rfl,fun x hx=>?_⟩
  rcases mem_append.mp hx with hx | hx
  ·exact ht x hx
  ·rw[mem_singleton.mp hx]; exact⟨g,hgm,htm⟩
 rintro ρ ⟨ts,v3,v4,rfl,tl,ht⟩
 rw[length_map] at tl
 ext
 exact q ts tl ht
def Adv (K:Frag):Sp:=fun vs H Q _=>∃ l d m kvs ts,vs = [.ref d,.ref l]/\H d = some (.dK kvs)/\SqL K H l (map V.int ts)/\ts.length <= 300/\(∀ n:Int,∃ w:Str,(Cp kvs (Sum.inl n)).getD (.str "plain") = .str w/\m n = decide (w = "mark")) /\
 ∀ (wl:Addr) (xs:List V) (H':Hp),H wl = none->Same H H'->(∀ x ∈ xs,∃ p,x = V.ref p/\H p = none)->LLat H' wl xs (grp m ts)->Q (.ref wl) H'
theorem Ua {c:Prop} [Decidable c] {A B:Prop} (h:¬ c) (q:B):if c then A else B:=by rw[if_neg h]; exact q
theorem Acz {c:Prop} [Decidable c] {A B:Prop} (h:c) (q:A):if c then A else B:=by rw[if_pos h]; exact q
def Ai2:PSp:=fun ps P=>∃ W M ts,ps = [.dk (kkD W M),.lst (map .int ts)]/\ts.length <= 300/\P (.lst (map (fun g=>PV.lst (map .int g)) (grp (Be W M) ts)))
theorem Aa5 {C:Addr} {ω:Om} {E:XK} {m n:Bool} {t:TA} {u:UA} (ha:AU K C ω [m,n] t u):EU K C ω (Ro (Adv K) [] E t) (Vx Ai2 u) :=
 fun B G0 H0 own G σ H ρ P Q S hu k=>ha B G0 H0 own G σ H ρ _ _ S hu fun vs ps G1 H1 w1 ok ⟨W,M,ts,e,hl,h⟩=>by
  obtain⟨v,w,p,q,rfl,e2,r2,r1⟩:=Ud ok
  rw[e] at e2; cases e2
  obtain⟨a,xs,rfl,ea,l⟩:=r1.lst w1.i
  rw[Ln l] at ea
  obtain⟨d,kvs,rfl,ed,ld⟩:=r2.dk w1.i
  refine⟨a,d,Be W M,kvs,ts,rfl,ed,SqL.of ea,hl,fun n=>⟨Fc W M n,?_,rfl⟩,fun wl xs H2 hwl s2 fx ll=>?_⟩
  ·have kv:=Xb W M n
   rcases Wb (Sum.inl n) ld with ⟨h1,h2⟩ | ⟨x,p,h1,h2,h3⟩
   ·rw[h2] at kv
    rw[h1]
    have kv':PV.str "plain" = .str (Fc W M n):=kv
    injection kv' with kv'
    rw[<- kv']; rfl
   ·rw[h2] at kv
    have kv':p = .str (Fc W M n):=kv
    subst kv'
    cases h3
    rw[h1]; rfl
  ·refine k _ _ _ H2 (w1.trans (Rq w1.i s2)) (Rep.ofL (Fy hwl ll.li) ⟨by rw[ll.at'.1,length_map],fun i x y hx hy=>?_⟩) h
   rw[getElem?_map] at hy
   obtain⟨g,hg,rfl⟩:=map_eq_some_iff.mp hy
   obtain⟨p,e1,hp⟩:=ll.at'.2 i x g hx hg
   obtain⟨p',e2,hn⟩:=fx x (mem_of_getElem? hx)
   subst e1
   cases e2
   exact Rep.ofL (Fy hn hp) (Ga g)
theorem Agy (T:Txt K mg t):Binds K t.d_qs ["_law_words_here","_law_signs_here"] []:=T.F_qs.binds (by walk_at "b2")
theorem AcV (T:Txt K mg t):FnOk P w K mg base CX0 1 t.f_qs t.d_qs ["_law_words_here","_law_signs_here"] (Adv K):=by
 refine T.F_qs.ok sc_qs (fun vs H Q E h=>?_) (fun cdv A outer s H vs Q E hr h=>?_)
 ·obtain⟨l,d,m,kvs,ts,rfl,hD,hT,hl,hm,q⟩:=h
  rfl
 ·obtain⟨l,d,m,kvs,ts,rfl,hD,hT,hl,hm,q⟩:=h
  have hu:=Cy hr
  have hu64:=hr.units
  refine⟨_,(Bc (Bo (i:=2) sc_qs.nd rfl (Or.inl rfl) (Cn Bd))
   (Bc (Dj PassesOwn.never rfl (Cs (pv 1)) (Bq (i:=3) sc_qs.nd rfl (Or.inl rfl))
    (Bi (Dx (PW.pt (Vr (Cr Gi (Oo hu (pv 0) (pv 3) Cf ⟨rfl,rfl,rfl,rfl⟩) Cf (Co _)) (Uf (Cr Acy (Ch (Lx) rfl T.z_len PySem.boot_len (Ba (pv 2) Bd)) Bg (Co _)))))
    (Bi (Cj (Fv plainAttrs_list PySem.F.slot_list_append PySem.F.type_list_append Do (Ck (Xo) (pv 2) (Wk Sr Bg) (fun _ _=>rfl)) (Ba (pv 3) Bd))))
    (Bi (Cj (Fv plainAttrs_list PySem.F.slot_list_append PySem.F.type_list_append Do (pv 2) (Ba (Cn (Ba (pv 3) Bd)) Bd)))))))
   (Bi (Cd (pv 2))))),?_⟩
  try dsimp only [Cm,By]
  walk_at "rd"
  refine⟨by decide,fun wl H0 hwl s0 e0=>?_⟩
  walk_at "rd"
  refine Nv (i:=1) rfl (s0.seq hT) (fun i σ H'=>∃ v3 xs,σ = [some (.ref d),some (.ref l),some (.ref wl),v3]/\Same H H'/\(∀ x ∈ xs,∃ p,x = V.ref p/\H p = none)/\LLat H' wl xs (grp m (ts.take i))) ⟨none,[],rfl,s0,(fun x h=>by cases h),⟨e0,LAt.nil,nodup_nil,by simp⟩⟩ (fun i σ H' _ ⟨_,_,_,s,_⟩=>s.seq hT) ?_ ?_
  ·rintro i x σ H' hi ⟨v3,xs,rfl,s,fx,ll⟩
   obtain⟨n,en,rfl⟩:=AaH hi
   have hlt:=(List.getElem?_eq_some_iff.mp en).1
   have eg:grp m (ts.take (i + 1)) = Gn m (grp m (ts.take i)) n:=by rw[Db en,Aa3]
   have hli:=ll.li
   have hxl:xs.length <= 300:=by
    have:=(Dd m (ts.take i)).ln
    rw[<- ll.at'.1,length_take] at this
    omega
   have hD':H' d = some (.dK kvs):=s _ _ hD
   have push:(grp m (ts.take i) = []\/m n = false)->∀ (p:Addr) (H3 H4:Hp),H' p = none->Same H' H3->H3 p = some (.lst [V.int n])->Chg wl H3 H4->H4 wl = some (.lst (xs ++ [.ref p]))->∃ v3 xs,[some (V.ref d),some (.ref l),some (.ref wl),some (.int n)] = [some (V.ref d),some (.ref l),some (.ref wl),v3]/\Same H H4/\(∀ x ∈ xs,∃ p,x = V.ref p/\H p = none)/\LLat H4 wl xs (grp m (ts.take (i + 1))):=fun hz p H3 H4 hp s3 e3 c4 e4=>by
    have npw:p ≠ wl:=(Bu hli hp).symm
    refine⟨_,_,rfl,(s.trans s3).chg c4 hwl,fun x hx=>?_,by rw[eg,Jw hz]; exact ll.push hp s3 c4 e4 (fun _ _ h _=>h) (c4 _ _ e3 npw)⟩
    rcases mem_append.mp hx with w | w
    ·exact fx x w
    ·exact⟨p,mem_singleton.mp w,s.free hp⟩
   walk_at "rd"
   obtain⟨w,hw,hmw⟩:=hm n
   rw[hw]
   walk_at "rd"
   by_cases hx:w = "mark"
   ·have hmt:m n = true:=by rw[hmw,decide_eq_true hx]
    refine Acz (by simp [hx]) ?_
    walk_at "rd"
    by_cases hz0:xs.length = 0
    ·have hz:grp m (ts.take i) = []\/m n = false:=.inl (List.eq_nil_of_length_eq_zero (by rw[<- ll.at'.1]; exact hz0))
     refine Ua (by simp [hz0]) ?_
     walk_at "rd"
     refine⟨(by decide:1 <= sizeLine),fun p H3 hp s3 e3=>?_⟩
     walk_at "rd"
     walk_at "rd"
     refine Ja (s3 _ _ hli) (Je (by omega)) fun H4 c4 e4=>?_
     walk_at "rd"
     exact push hz p H3 H4 hp s3 e3 c4 e4
    ·refine Acz (decide_eq_true (by omega)) ?_
     obtain⟨xs',p,gs',g,ex,eg',hp⟩:=ll.last (fun z=>hz0 (by rw[ll.at'.1,z]; rfl))
     have ll2:=ll
     rw[eg',ex] at ll2
     rw[eg'] at eg
     have hgl:g.length <= 300:=by
      have z:=(Dd m (ts.take i)).fl
      rw[eg'] at z
      have:=congrArg length z
      simp at this
      omega
     walk_at "rd"
     refine Zm (SqL.of ll2.li) ?_ (Nd _ _)
     walk_at "rd"
     walk_at "rd"
     refine Ja hp (Je (by rw[length_map]; omega)) fun H4 c4 e4=>?_
     walk_at "rd"
     have fp:H p = none:=by
      obtain⟨p',e,z⟩:=fx (V.ref p) (by rw[ex]; exact mem_append_right _ mem_cons_self)
      cases e; exact z
     exact⟨_,_,rfl,s.chg c4 fp,fun x hx=>fx x (by rw[ex]; exact hx),by rw[eg,Gm hmt]; exact ll2.add c4 e4⟩
   ·have hmt:m n = false:=by rw[hmw,decide_eq_false hx]
    refine Ua (by simp [hx]) ?_
    refine Ua (by simp) ?_
    walk_at "rd"
    refine⟨(by decide:1 <= sizeLine),fun p H3 hp s3 e3=>?_⟩
    walk_at "rd"
    walk_at "rd"
    refine Ja (s3 _ _ hli) (Je (by omega)) fun H4 c4 e4=>?_
    walk_at "rd"
    exact push (.inr hmt) p H3 H4 hp s3 e3 c4 e4
  ·rintro σ H' ⟨v3,xs,rfl,s,fx,ll⟩
   rw[length_map,take_length] at ll
   walk_at "rd"
   exact q wl xs H' hwl s fx ll
theorem AiC {xs:List PV} {P:PV->Prop} (h0:xs = []->P (.bl false)) (h1:xs ≠ []->P (.bl true)):Uz true (.lst xs) (.lst []) P:=⟨xs,[],rfl,rfl,(fun _ i x y _ h=>by cases h),fun b hb=>by
 by_cases z:xs = []
 ·rw[hb.mpr z]; exact h0 z
 ·have:b = false:=by
   cases b with
   | false=>rfl
   | true=>exact absurd (hb.mp rfl) z
  rw[this]; exact h1 z⟩
theorem Ra {α:Type} (l:List α) (g:α->Int):l.filterMap (fun j=>some (PV.int (g j))) = (l.map g).map .int:=by
 rw[map_map]
 exact congrFun (filterMap_eq_map' (f:=fun j=>PV.int (g j))) l
def myW:List Str:=["fore","mark","back","mark","plain","num","mark","blank","open","out"]
def Alx:PSp:=fun ps P=>∃ (f:Nat->Int) (W:List Sg) (M:List (Int × Int)) (J:List Jn),ps = [.tup [.lst ((range 28).map fun k=>.int (f k)),.lst (W.map sgP),.lst (M.map prP),.lst (J.map jnP)],.dk (kkD W M)]/\(∀ w ∈ myW,0 < (gpF f W M w).length)/\J.length <= 7/\∀ gs:List (List Int),(10 <= gs.length/\gs.length <= 100)->(∀ g ∈ gs,0 < g.length/\g.length <= 100)->P (.lst (gs.map fun g=>.lst (g.map .int)))
theorem Ans (T:Txt K mg t):Binds K t.d_qbg ["_law_lists_here","_law_words_here"] []:=T.F_qbg.binds (by walk_at "b2")
theorem AlJ (T:Txt K mg t):FnOk P w K mg base CX0 2 t.f_qbg t.d_qbg ["_law_lists_here","_law_words_here"] (spOf K t.C_Book [true,false] .fr Alx):=by
 refine T.F_qbg.ok sc_qbg (fun vs H Q E h=>h.len) (fun cdv A outer s H vs Q E hr h=>?_)
 have hu:=Cy hr
 have hu64:=hr.units
 refine⟨_,(@Bc _ _ _ _ _ (Bo (i:=2) sc_qbg.nd rfl (Or.inl rfl) (Bm (AnJ T) (hr.mono (by decide)) rfl T.m_qr T.F_qr.kp (AnW T) .nil Br (@Ba _ _ _ _ _ (pv 0) (@Ba _ _ _ _ _ (pv 1) (@Agl _ _ _ _ _ _ (@Cn _ _ _ _ (@Gx _ _ _ _ _ _ _ Cf (@Gx _ _ _ _ _ _ _ Cf (@Gx _ _ _ _ _ _ _ Cf (@Gx _ _ _ _ _ _ _ Cf (@Gx _ _ _ _ _ _ _ Cf (@Gx _ _ _ _ _ _ _ Cf (@Gx _ _ _ _ _ _ _ Cf (@Gx _ _ _ _ _ _ _ Cf (@Gx _ _ _ _ _ _ _ Cf (@Gx _ _ _ _ _ _ _ Cf Bd))))))))))) Bd) rfl) rfl)))
   (@Bc _ _ _ _ _ (Dx (Cr (Re K hu64) (@Ck _ _ _ _ _ _ _ (Dt K) (pv 0) Bg (fun _ _=>rfl)) (@Cn _ _ _ _ Bd) (Co _))
    (@Bc _ _ _ _ _ (Cj (Fv plainAttrs_list PySem.F.slot_list_append PySem.F.type_list_append Do (pv 2) (@Ba _ _ _ _ _ (Ot 1 ["_law_join"] rfl rfl (Cs (@Ck _ _ _ _ _ _ _ (Dt K) (pv 0) Bg (fun _ _=>rfl))) (fun _ _ _ _=>(Bq (i:=0) (show Nodup (["_law_join"]:List Str) by decide +kernel) rfl (Or.inl rfl))) (fun _ _ _ _=>Jo) (fun _ _ _ _=>(@Ck _ _ _ _ _ _ _ (Dt K) (pv 0) Bg (fun _ _=>rfl))) (by decide +kernel) (by decide +kernel) rfl (by decide +kernel)) Bd rfl)))
   (@Bc _ _ _ _ _ (Cj (Fv plainAttrs_list PySem.F.slot_list_append PySem.F.type_list_append Do (pv 2) (@Ba _ _ _ _ _ (Ot 1 ["_law_join"] rfl rfl (Cs (@Ck _ _ _ _ _ _ _ (Dt K) (pv 0) Bg (fun _ _=>rfl))) (fun _ _ _ _=>(Bq (i:=0) (show Nodup (["_law_join"]:List Str) by decide +kernel) rfl (Or.inl rfl))) (fun _ _ _ _=>Jo) (fun _ _ _ _=>(@Ck _ _ _ _ _ _ _ (Dt K) (pv 0) Bg (fun _ _=>rfl))) (by decide +kernel) (by decide +kernel) rfl (by decide +kernel)) Bd rfl)))
   (@Bi _ _ _ (Cj (Fv plainAttrs_list PySem.F.slot_list_append PySem.F.type_list_append Do (pv 2) (@Ba _ _ _ _ _ (Ot 1 ["_law_join"] rfl rfl (Cs (@Ck _ _ _ _ _ _ _ (Dt K) (pv 0) Bg (fun _ _=>rfl))) (fun _ _ _ _=>(Bq (i:=0) (show Nodup (["_law_join"]:List Str) by decide +kernel) rfl (Or.inl rfl))) (fun _ _ _ _=>Jo) (fun _ _ _ _=>(@Ck _ _ _ _ _ _ _ (Dt K) (pv 0) Bg (fun _ _=>rfl))) (by decide +kernel) (by decide +kernel) rfl (by decide +kernel)) Bd rfl))))))
    Dg)
   (@Bi _ _ _ (@Cd _ _ _ _ (pv 2))))),?_⟩
 try dsimp only [Cm,By]
 refine Df h (by decide) (Bj (Dp (Ct (Bn Bb (Bn Bb (Bv (EF.eu (Dc 10 (Bv Dk (Bv Dk (Bv Dk (Bv Dk (Bv Dk (Bv Dk (Bv Dk (Bv Dk (Bv Dk (Bv Dk Bf)))))))))))) Bf)))))
   (Bj (Fr (Du (EU.eb (Jh (EU.eb (Ff Bb (EU.eb Bh))) (EF.eb (Dc 0 Bf)))))
    (Bj (Jg (Bv (EF.eu (Gr (EU.eb (Ff Bb (EU.eb Bh))) (Cc (top:=1)) Jm (Ff Bb (EU.eb Bh)))) Bf))
   (Bj (Jg (Bv (EF.eu (Gr (EU.eb (Ff Bb (EU.eb Bh))) (Cc (top:=1)) Jm (Ff Bb (EU.eb Bh)))) Bf))
   (Jg (Bv (EF.eu (Gr (EU.eb (Ff Bb (EU.eb Bh))) (Cc (top:=1)) Jm (Ff Bb (EU.eb Bh)))) Bf))))
    Ds)
   Gu)) (fun ps P hp=>?_)
 clear h hu hu64 hr
 obtain⟨f,W,M,J,rfl,hg,jl,q⟩:=hp
 walk_at "s"
 ext
 refine⟨f,W,M,J,myW,rfl,by decide,?_⟩
 rw[show (myW.map fun w=>PV.lst ((gpF f W M w).map .int)) = (myW.map (gpF f W M)).map (fun g:List Int=>PV.lst (g.map .int)) by rw[map_map]; rfl]
 have g0:∀ g ∈ myW.map (gpF f W M),0 < g.length/\g.length <= 100:=fun g hg2=>by
  obtain⟨w,hw,rfl⟩:=mem_map.mp hg2
  refine⟨hg w hw,?_⟩
  unfold gpF
  refine Nat.le_trans (length_filter_le _ _) ?_
  rw[length_map,length_range]; decide
 have gl:(myW.map (gpF f W M)).length = 10:=by rw[length_map]; rfl
 generalize myW.map (gpF f W M) = gs0 at g0 gl
 ext
 refine⟨3,_,_,rfl,rfl,Gk (j:=3) rfl,?_⟩
 ext
 refine AiC (xs:=J.map jnP) (fun h0=>?_) (fun h1=>?_)
 ·ext
  exact q gs0 ⟨by omega,by omega⟩ g0
 ·have hJ:0 < J.length:=by
   cases J with
   | nil=>exact absurd rfl h1
   | cons x r=>exact Nat.succ_pos _
  ext
  refine⟨3,_,_,rfl,rfl,Gk (j:=3) rfl,?_⟩
  ext
  walk_at "md"
  refine Gf (S:=J) (enc:=jnP) (f:=fun j=>some (.int j.1)) ?_ (fun d hd Z hZ=>?_)
  rotate_left
  ·walk_at "c"
   ext
   exact hZ
  rw[Ra J fun j=>j.1]
  ext
  rotate_left
  ·simp only [length_append,length_map,length_cons,length_nil]; show _ < _; omega
  refine⟨3,_,_,rfl,rfl,Gk (j:=3) rfl,?_⟩
  ext
  walk_at "md"
  refine Gf (S:=J) (enc:=jnP) (f:=fun j=>some (.int j.2.1)) ?_ (fun d hd Z hZ=>?_)
  rotate_left
  ·walk_at "c"
   ext
   exact hZ
  rw[Ra J fun j=>j.2.1]
  ext
  rotate_left
  ·simp only [length_append,length_map,length_cons,length_nil]; show _ < _; omega
  refine⟨3,_,_,rfl,rfl,Gk (j:=3) rfl,?_⟩
  ext
  walk_at "md"
  refine Gf (S:=J) (enc:=jnP) (f:=fun j=>some (.int j.2.2)) ?_ (fun d hd Z hZ=>?_)
  rotate_left
  ·walk_at "c"
   ext
   exact hZ
  rw[Ra J fun j=>j.2.2]
  ext
  rotate_left
  ·simp only [length_append,length_map,length_cons,length_nil]; show _ < _; omega
  have z:=q (gs0 ++ [J.map (·.1)] ++ [J.map (·.2.1)] ++ [J.map (·.2.2)]) ⟨by simp only [length_append,length_cons,length_nil]; omega,by simp only [length_append,length_cons,length_nil]; omega⟩ (fun g hg2=>by
   simp only [mem_append,mem_singleton] at hg2
   rcases hg2 with ((hg2 | rfl) | rfl) | rfl
   ·exact g0 g hg2
   ·rw[length_map]; exact⟨hJ,by omega⟩
   ·rw[length_map]; exact⟨hJ,by omega⟩
   ·rw[length_map]; exact⟨hJ,by omega⟩)
  simpa using z
theorem AlV {gs hs:List (List Int)}:CmpL (gs.map fun g=>PV.lst (g.map .int)) (hs.map fun g=>PV.lst (g.map .int)):=fun _ i x y hx hy=>by
 rw[getElem?_map] at hx hy
 obtain⟨a,_,rfl⟩:=map_eq_some_iff.mp hx
 obtain⟨b,_,rfl⟩:=map_eq_some_iff.mp hy
 exact .lst fun _ j u v hu hv=>by
  rw[getElem?_map] at hu hv
  obtain⟨c,_,rfl⟩:=map_eq_some_iff.mp hu
  obtain⟨d,_,rfl⟩:=map_eq_some_iff.mp hv
  exact .flat rfl rfl
theorem AiS {xs ys:List (List Int)}:xs.map (fun g:List Int=>PV.lst (g.map .int)) = ys.map (fun g:List Int=>PV.lst (g.map .int)) ↔ xs = ys:=by
 refine⟨fun h=>?_,fun h=>by rw[h]⟩
 refine (List.map_inj_right (f:=fun g:List Int=>PV.lst (g.map .int)) fun a b e=>?_).mp h
 injection e with e
 exact (List.map_inj_right (f:=PV.int) fun a b e=>by injection e).mp e
theorem Akm {xs ys:List (List Int)} {P:PV->Prop} (q:P (.bl (decide (xs = ys)))):Uz false (.lst (xs.map fun g=>PV.lst (g.map .int))) (.lst (ys.map fun g=>PV.lst (g.map .int))) P:=⟨_,_,rfl,rfl,AlV,fun b hb=>by
 have:b = decide (xs = ys):=Gy (by rw[hb,decide_eq_true_iff,AiS])
 rw[this]; exact q⟩
theorem Aeo {α:Type} (xs:List α) (p q:Nat):Fo xs (some (p:Int)) (some (q:Int)) = (xs.take q).drop p:=by
 unfold Fo
 rw[HT.sIx_nat,HT.sIx_nat,List.drop_take]
 by_cases h:p <= xs.length
 ·rw[Nat.min_eq_left h]
  by_cases h2:q <= xs.length
  ·rw[Nat.min_eq_left h2]
  ·rw[Nat.min_eq_right (by omega),List.take_of_length_le (by rw[length_drop]; omega),List.take_of_length_le (by rw[length_drop]; omega)]
 ·rw[Nat.min_eq_right (show xs.length <= p by omega),drop_of_length_le (Nat.le_refl _),drop_of_length_le (by omega),take_nil,take_nil]
def hvD (J:List Jn):List (Key × PV):=J.map fun j=>(Sum.inl j.1,.lst [.int j.2.1,.int j.2.2])
theorem AbJ (J:List Jn) (n:Int):Fe (hvD J) (.inl n) = (Cl J n).map fun m=>.lst [.int m.1,.int m.2]:=by
 have h:=Abq J n
 have e:Fe (hvD J) (.inl n) = (Fe (ptD J) (.inl n)).map fun | .tup l=>.lst l | x=>x:=by
  unfold hvD ptD Fe
  induction J with
  | nil=>rfl
  | cons j r ih =>
   by_cases z:(Sum.inl j.1:Key) = Sum.inl n
   ·simp [find?_cons,z]
   ·simpa [find?_cons,z] using ih (Abq r n)
 rw[e,h]
 cases Cl J n <;> rfl
theorem AjH {J:List Jn} {k:Nat} {s:Jn} (nd:(J.map (·.1)).Nodup) (hs:J[k]? = some s):Lg (hvD (J.take k)) (.inl s.1) (.lst [.int s.2.1,.int s.2.2]) = hvD (J.take (k + 1)):=by
 rw[Rp (kvs:=hvD (J.take k)) (fun z=>Ju (f:=fun s:Jn=>s.1) nd hs (Qj (f:=fun s:Jn=>s.1) z)),Db hs]
 unfold hvD; rw[map_append]; rfl
def ixL (rk:Int->Int) (l:List Int):List (Int × Int):=(range l.length).map fun k=>(rk (l.getD k 0),(k:Int))
theorem Xm {rk:Int->Int} {l:List Int} {p:Int × Int} (h:p ∈ ixL rk l):∃ k:Nat,k < l.length/\p.2 = k/\p.1 = rk (l.getD k 0):=by
 obtain⟨k,hk,rfl⟩:=mem_map.mp h
 exact⟨k,mem_range.mp hk,rfl,rfl⟩
theorem Alp (rk:Int->Int) (l:List Int):(ixL rk l).Nodup:=by
 unfold ixL Nodup
 rw[List.pairwise_map]
 refine (List.pairwise_lt_range (n:=l.length)).imp ?_
 intro a b h z
 have:=congrArg Prod.snd z
 have:(a:Int) = b:=this
 omega
theorem AfV (l:List Int) (rk:Int->Int):(ixL rk l).map (fun p=>l.getD p.2.toNat 0) = l:=by
 unfold ixL
 rw[map_map]
 refine ext_getElem? fun j=>?_
 rw[getElem?_map]
 by_cases h:j < l.length
 ·rw[getElem?_range h]
  simp [h]
 ·rw[getElem?_eq_none (by rw[length_range]; omega),getElem?_eq_none (by omega)]; rfl
theorem Al0 {rk:Int->Int} {l:List Int} {ns:List (Int × Int)} (hp:ns.Perm (ixL rk l)) (hs:ns.Pairwise fun x y=>lxB x y = true):(ns.map fun p=>l.getD p.2.toNat 0) = srt rk l:=by
 have at1:∀ p ∈ ns,p.1 = rk (l.getD p.2.toNat 0):=fun p h=>by
  obtain⟨k,_,h2,h3⟩:=Xm (hp.mem_iff.mp h)
  rw[h3,h2]; rfl
 symm
 refine Tr ?_ fun r=>?_
 ·rw[List.pairwise_map]
  refine Pairwise.imp_of_mem ?_ hs
  intro a b ha hb h
  have:=of_decide_eq_true h
  rw[<- at1 a ha,<- at1 b hb]
  omega
 ·conv=>rhs; rw[<- AfV l rk]
  rw[List.filter_map,List.filter_map]
  congr 1
  have c:∀ {q:List (Int × Int)},(∀ p ∈ q,p ∈ ixL rk l)->q.filter ((fun d=>decide (rk d = r)) ∘ fun p=>l.getD p.2.toNat 0) = q.filter fun p=>decide (p.1 = r):=fun {q} h=>by
   refine List.filter_congr fun p hpq=>?_
   obtain⟨k,_,h2,h3⟩:=Xm (h p hpq)
   show decide (rk (l.getD p.2.toNat 0) = r) = _
   rw[h3,h2]; rfl
  rw[c (fun p h=>hp.mem_iff.mp h),c (fun p h=>h)]
  refine List.Perm.eq_of_pairwise (le:=fun a b:Int × Int=>a.2 < b.2) (fun a b _ _ h1 h2=>absurd h1 (by omega)) ?_ ?_ (hp.filter _)
  ·refine Pairwise.imp_of_mem ?_ (hs.filter _)
   intro a b ha hb h
   have h1:=of_decide_eq_true (mem_filter.mp ha).2
   have h2:=of_decide_eq_true (mem_filter.mp hb).2
   have:=of_decide_eq_true h
   omega
  ·refine Pairwise.filter _ ?_
   unfold ixL
   rw[List.pairwise_map]
   refine (List.pairwise_lt_range (n:=l.length)).imp ?_
   intro a b h
   show (a:Int) < b
   omega
theorem AfL (bk:Da W M J) {c:Int} {cm:List Int} (hm:∀ m ∈ cm,Be W M m = true):srt (Bw W) (c :: cm) = (if Be W M c = true then [] else [c]) ++ srt (Bw W) (if Be W M c = true then c :: cm else cm):=by
 by_cases h:Be W M c = true
 ·rw[if_pos h,if_pos h]; rfl
 ·rw[if_neg h,if_neg h]
  have h0:=Qv bk (n:=c) (by simpa using h)
  exact Ry fun m hmm=>by have:=Oi bk (hm m hmm); omega
def Ams:PSp:=fun ps P=>∃ (f:Nat->Int) (W:List Sg) (M:List (Int × Int)) (J:List Jn) (ts:List Int),ps = [.tup [.lst ((range 28).map fun k=>.int (f k)),.lst (W.map sgP),.lst (M.map prP),.lst (J.map jnP)],.dk (kkD W M),.lst (ts.map .int)]/\Da W M J/\ts.length <= 300/\Fit W M J ts/\P (.lst ((grp (Be W M) (lng W M J ts)).map fun g:List Int=>.lst (g.map .int)))
theorem Ach (T:Txt K mg t):Binds K t.d_qbq ["_law_lists_here","_law_words_here","_law_signs_here"] []:=T.F_qbq.binds (by walk_at "b3")
theorem AaU (T:Txt K mg t):FnOk P w K mg base CX0 2 t.f_qbq t.d_qbq ["_law_lists_here","_law_words_here","_law_signs_here"] (spOf K t.C_Book [false,false,true] .fr Ams):=by
 refine T.F_qbq.ok sc_qbq (fun vs H Q E h=>h.len) (fun cdv A outer s H vs Q E hr h=>?_)
 have hu:=Cy hr
 have hu64:=hr.units
 refine⟨_,(Bc (Bo (i:=3) sc_qbq.nd rfl (by first | exact Or.inl rfl | exact Or.inr rfl) Jv)
   (Bc (Dj PassesOwn.never rfl (Cs (Ck (Dt K) (pv 0) Bg (fun _ _=>rfl))) (Lm (K':=K) (n:=3) rfl rfl (Ci (Bq (i:=4) sc_qbq.nd rfl (Or.inl rfl)) (Ci (Bq (i:=5) sc_qbq.nd rfl (Or.inl rfl)) (Ci (Bq (i:=6) sc_qbq.nd rfl (Or.inl rfl)) Ge))))
    (Bi (Gj hu (pv 3) (pv 4) (pv 6) rfl)))
   (Bc (Bo (i:=7) sc_qbq.nd rfl (Or.inl rfl) Jv)
   (Bc (Dj PassesOwn.never rfl (Cs (Ck (Dt K) (pv 0) Bg (fun _ _=>rfl))) (Lm (K':=K) (n:=3) rfl rfl (Ci (Bq (i:=8) sc_qbq.nd rfl (Or.inl rfl)) (Ci (Bq (i:=9) sc_qbq.nd rfl (Or.inl rfl)) (Ci (Bq (i:=10) sc_qbq.nd rfl (Or.inl rfl)) Ge))))
    (Bi (Gj hu (pv 7) (pv 8) (Cn (Ba (pv 9) (Ba (pv 10) Bd))) rfl)))
   (Bc (Bo (i:=11) sc_qbq.nd rfl (Or.inl rfl) (Cn Bd))
   (Bc (Dj PassesOwn.never rfl (Cs (Bm (AcV T) (hr.mono (by decide)) rfl T.m_qs T.F_qs.kp (Agy T) .nil Br (Ba (pv 1) (Ba (pv 2) Bd)))) (Bq (i:=8) sc_qbq.nd rfl (Or.inl rfl))
    (Bc (Bo (i:=12) sc_qbq.nd rfl (Or.inl rfl) (Lj (Jf K) rfl T.z_list PyProof.Rows.boot_list (Ba (pv 8) Bd)))
   (Bc (Aah PassesOwn.never (Tm (AaT hu (Ck (Cq K) (pv 12) Bg (fun _ _=>rfl)) (pv 7)))
    (Bi (Bo (i:=12) sc_qbq.nd rfl (Or.inl rfl) (Bs Fu (No hu (pv 7) (Ck (Cq K) (pv 12) Bg (fun _ _=>rfl)) (fun _ _=>rfl)) (Dh (Di K) (pv 12) (Cw Bg) Fi)))))
   (Bc (Bo (i:=13) sc_qbq.nd rfl (Or.inl rfl) (Lj AdB rfl T.z_int boot_int (Ba (Gd Uo (Oo hu (pv 1) (Ck (Cq K) (pv 12) Bg (fun _ _=>rfl)) Cf ⟨rfl,rfl,rfl,rfl⟩) Cf (Co _)) Bd)))
   (Bc (Bo (i:=14) sc_qbq.nd rfl (by first | exact Or.inl rfl | exact Or.inr rfl) (Dh (Di K) (pv 12) (Cw (pv 13)) Fi))
   (Bc (Bo (i:=15) sc_qbq.nd rfl (Or.inl rfl) (Ch (Aak K) rfl T.z_sorted PyProof.Rows.boot_sorted (Ba (Jt 1 [3,14] ["_law_k","_law_ranks","_law_marks"] ["_law_ranks","_law_marks"] rfl (Nz rfl T.z_range (Ba (Ch (Ce K) rfl T.z_len PySem.boot_len (Ba (pv 14) Bd)) Bd)) rfl (fun j y e1 i e2=>match j,e1,e2 with | 0,e1,e2=>by cases e1; cases e2; exact⟨rfl,rfl,rfl,by decide +kernel⟩ | 1,e1,e2=>by cases e1; cases e2; exact⟨rfl,rfl,rfl,by decide +kernel⟩ | _ + 2,_,e2=>by simp at e2) (forall_mem_cons.mpr ⟨rfl,forall_mem_cons.mpr ⟨rfl,fun _ h=>nomatch h⟩⟩) (by decide +kernel) (fun _ _ _ _=>(Bq (i:=0) (show Nodup (["_law_k","_law_ranks","_law_marks"]:List Str) by decide +kernel) rfl (Or.inl rfl))) (fun _ _ _ _=>Jo) (fun _ _ _ _=>(Lb (Ba (No hu (pv 1) (Ck (Cq K) (pv 2) (pv 0) (fun _ _=>rfl)) (fun _ _=>rfl)) (Ba (pv 0) Bd)))) rfl (by decide +kernel) rfl (by decide +kernel)) Bd)))
   (Bi (Cj (Fv plainAttrs_list PySem.F.slot_list_append PySem.F.type_list_append Do (pv 11) (Ba (Bs Fu (Dh (Di K) (pv 12) Fi (Cw (pv 13))) (Jt 2 [14] ["_law_rank","_law_k","_law_marks"] ["_law_marks"] rfl (Cs (pv 15)) rfl (fun j y e1 i e2=>match j,e1,e2 with | 0,e1,e2=>by cases e1; cases e2; exact⟨rfl,rfl,rfl,by decide +kernel⟩ | _ + 1,_,e2=>by simp at e2) (forall_mem_cons.mpr ⟨rfl,fun _ h=>nomatch h⟩) (by decide +kernel) (fun _ _ _ _=>(Lm (K':=K) (n:=2) rfl rfl (Ci (Bq (i:=0) (show Nodup (["_law_rank","_law_k","_law_marks"]:List Str) by decide +kernel) rfl (Or.inl rfl)) (Ci (Bq (i:=1) (show Nodup (["_law_rank","_law_k","_law_marks"]:List Str) by decide +kernel) rfl (Or.inl rfl)) Ge)))) (fun _ _ _ _=>Jo) (fun _ _ _ _=>(Ck (Cq K) (pv 2) (pv 1) (fun _ _=>rfl))) rfl (by decide +kernel) rfl (by decide +kernel))) Bd))))))))))
   (Bi (Cd (pv 11))))))))),?_⟩
 try dsimp only [Cm,By]
 refine Df h (by decide) (Bj (Dp Tz)
   (Bj (Jx (Ff Bb (EU.eb Bh)) (Nt (Dn (Cc (top:=16)) (Dn (Cc (top:=16)) (Dn (Cc (top:=16)) Lk))))
    (Nk Bb Cg))
   (Bj (Dp Tz)
   (Bj (Jx (Ff Bb (EU.eb Bh)) (Nt (Dn (Cc (top:=16)) (Dn (Cc (top:=16)) (Dn (Cc (top:=16)) Lk))))
    (Nk Bb (EF.eu (Dc 2 (Bv Cg (Bv Cg Bf))))))
   (Bj (Dp (Dc 0 Bf))
   (Bj (Jx (Aa5 (Bn Bb (Bn Bb Bf))) (Cc (top:=16))
    (Bj (Bz (EF.eu (Qp (Bn Bb Bf))))
   (Bj (AaE (Du (EU.eb (Ae5 (EU.eb (De Bb (EU.eb Bh))) Bb)))
    (Bz (EF.eu (Gh (EU.eb (Tw Bb (EU.eb (De Bb (EU.eb Bh))))) (EF.eb (Fa Bb (Cz (EU.eb Bh)) Fj))))))
   (Bj (Bz (AjD (Bn (EU.eb (Wr (EU.eb (Aaw (EU.eb (De Bb (EU.eb Bh))) Dk)) (EU.eb Dk))) Bf)))
   (Bj (Bz (EF.eu (Fa Bb (Cz Bb) Fj)))
   (Bj (Bz (EF.eu (AcN (Bn (EF.eb (Vi (Bn (EU.eb (Dv (Bn Bb Bf))) Bf) (Cc (top:=1)) Jm (Lq 2 (Bv (Tw Bb (EU.eb (De Bb Bb))) (Bv Cg Bf))))) Bf))))
   (Jg (Bv (EF.eu (Gh (EF.eb (Fa Bb Fj (Cz Bb))) (EF.eb (Gr Bb (Nt (Dn (Cc (top:=2)) (Dn (Cc (top:=2)) Lk))) Jm (De Bb Bb))))) Bf))))))))
   Gu)))))) (fun ps P hp=>?_)
 clear h hu hu64 hr
 obtain⟨f,W,M,J,ts,rfl,bk,hl,ft,q⟩:=hp
 walk_at "s"
 have Wl:W.length + 2 * M.length <= 60:=bk.ln
 have Jl:=bk.jl
 have ndW:(W.map (·.1)).Nodup:=(nodup_append.mp bk.nd).1
 have ndJ:(J.map (·.1)).Nodup:=bk.jo.nw
 ext
 refine⟨fun k ρ=>∃ v4 v5 v6,ρ = [.bo (.tup [.lst ((range 28).map fun k=>.int (f k)),.lst (W.map sgP),.lst (M.map prP),.lst (J.map jnP)]),.bo (.dk (kkD W M)),.sh (.lst (ts.map .int)),.ow (.dk (rkD (W.take k))),v4,v5,v6,.un,.un,.un,.un,.un,.un,.un,.un,.un],⟨_,_,_,rfl⟩,?_,?_⟩
 ·rintro k p ρ hp ⟨v4,v5,v6,rfl⟩
  rw[getElem?_map] at hp
  obtain⟨s,hs,rfl⟩:=map_eq_some_iff.mp hp
  ext
  rotate_left
  ·unfold rkD; rw[length_map,length_take]; omega
  rw[AjG ndW hs]
  exact⟨_,_,_,rfl⟩
 rintro ρ ⟨v4,v5,v6,rfl⟩
 walk_at "me"
 ext
 refine⟨3,_,_,rfl,rfl,Gk (j:=3) rfl,?_⟩
 ext
 refine⟨fun k ρ=>∃ v8 v9 v10,ρ = [.bo (.tup [.lst ((range 28).map fun k=>.int (f k)),.lst (W.map sgP),.lst (M.map prP),.lst (J.map jnP)]),.bo (.dk (kkD W M)),.sh (.lst (ts.map .int)),.ow (.dk (rkD W)),v4,v5,v6,.ow (.dk (hvD (J.take k))),v8,v9,v10,.un,.un,.un,.un,.un],⟨_,_,_,rfl⟩,?_,?_⟩
 ·rintro k p ρ hp ⟨v8,v9,v10,rfl⟩
  rw[getElem?_map] at hp
  obtain⟨s,hs,rfl⟩:=map_eq_some_iff.mp hp
  ext
  rotate_left
  ·unfold hvD; rw[length_map,length_take]; omega
  rw[AjH ndJ hs]
  exact⟨_,_,_,rfl⟩
 rintro ρ ⟨v8,v9,v10,rfl⟩
 walk_at "me"
 ext
 refine⟨W,M,ts,rfl,hl,?_⟩
 have go:=Dd (Be W M) ts
 have gl:=go.ln
 rw[Ft bk] at q
 have ft':∀ w ∈ grp (Be W M) ts,(opT J w).length < 64:=ft
 generalize grp (Be W M) ts = gs at go gl q ft'
 ext
 refine⟨fun k ρ=>∃ w8 w12 w13 w14 w15,ρ = [.bo (.tup [.lst ((range 28).map fun k=>.int (f k)),.lst (W.map sgP),.lst (M.map prP),.lst (J.map jnP)]),.bo (.dk (kkD W M)),.sh (.lst (ts.map .int)),.ow (.dk (rkD W)),v4,v5,v6,.ow (.dk (hvD J)),w8,v9,v10,.ow (.lst (((gs.take k).map (Ca W J)).map fun g:List Int=>.lst (g.map .int))),w12,w13,w14,w15],⟨_,_,_,_,_,rfl⟩,?_,?_⟩
 rotate_left
 ·rintro ρ ⟨w8,w12,w13,w14,w15,rfl⟩
  walk_at "me"
  ext
  exact q
 rintro k p ρ hp ⟨w8,w12,w13,w14,w15,rfl⟩
 rw[getElem?_map] at hp
 obtain⟨g,hg,rfl⟩:=map_eq_some_iff.mp hp
 have hk:=(List.getElem?_eq_some_iff.mp hg).1
 have hgm:=mem_of_getElem? hg
 obtain⟨n,r,rfl,hr⟩:=go.ne g hgm
 obtain⟨c,cm,eo,eo2,hcm,hcn⟩:=opW bk (n:=n) hr
 have ol:=ft' _ hgm
 have el:Ca W J (n :: r) = srt (Bw W) (c :: cm):=by unfold Ca; rw[eo]
 have fine:(((gs.take (k + 1)).map (Ca W J)).map fun g:List Int=>PV.lst (g.map .int)) = ((gs.take k).map (Ca W J)).map (fun g:List Int=>PV.lst (g.map .int)) ++ [.lst ((srt (Bw W) (c :: cm)).map .int)]:=by
  rw[Db hg,map_append,map_append,<- el]; rfl
 rw[AfL bk hcm] at fine
 have ilm:∀ m,Be W M m = true->m ∈ W.map (·.1):=fun m h=>Anu (by have:=Oi bk h; omega)
 ext
 refine⟨fun m ρ=>∃ (x:Int) (ms:List Int),ρ = [.bo (.tup [.lst ((range 28).map fun k=>.int (f k)),.lst (W.map sgP),.lst (M.map prP),.lst (J.map jnP)]),.bo (.dk (kkD W M)),.sh (.lst (ts.map .int)),.ow (.dk (rkD W)),v4,v5,v6,.ow (.dk (hvD J)),.sh (.lst ((n :: r).map .int)),v9,v10,.ow (.lst (((gs.take k).map (Ca W J)).map fun g:List Int=>.lst (g.map .int))),.sh (.lst ((x :: ms).map .int)),w13,w14,w15]/\opn J m x ++ ms = c :: cm/\EndN J m x,⟨7,n,r,rfl,by rw[<- eo2,eo],Xe bk.jo n⟩,?_⟩
 rintro m ρ ⟨x,ms,rfl,ho,he⟩
 have ml:ms.length <= 64:=by
  have:=congrArg length ho
  rw[length_append] at this
  rw[eo] at ol
  omega
 ext
 refine Dw (l:=x :: ms) (j:=0) (a:=x) rfl rfl ?_
 ext
 rw[AbJ]
 cases e:Cl J x with
 | some b =>
  refine Jq ?_
  cases m with
  | zero=>rw[he.zero] at e; cases e
  | succ m =>
   ext
   refine Dw (l:=x :: ms) (j:=0) (a:=x) rfl rfl ?_
   ext
   refine Qo (by rw[AbJ,e]; rfl) ?_
   ext
   rotate_left
   ·rw[Dr,Qx,length_map]; show 2 + _ <= _; omega
   rw[Dr,Qx]
   refine⟨m,lt_succ_self _,b.1,b.2 :: ms,rfl,?_,he.step e⟩
   rw[<- ho,Jc e]
   simp
 | none =>
  refine Jy ?_
  rw[Fg e] at ho
  obtain⟨rfl,rfl⟩:=List.cons.inj (show x :: ms = c :: cm from ho)
  ext
  refine Dw (l:=x :: ms) (j:=0) (a:=x) rfl rfl ?_
  ext
  rw[Xb]
  ext
  obtain⟨st,l,est,ecut,elow,eif⟩:∃ (st:Int) (l:List Int),(if (!decide (Fc W M x = "mark")) = true then (1:Int) else 0) = st/\Fo (map PV.int (x :: ms)) (some st) none = l.map .int/\Fo (map PV.int (x :: ms)) none (some st) = (if Be W M x = true then [] else [x]:List Int).map .int/\(if Be W M x = true then x :: ms else ms) = l:=by
   unfold Be
   by_cases h:Fc W M x = "mark"
   ·refine⟨0,x :: ms,by rw[decide_eq_true h]; rfl,?_,?_,by rw[decide_eq_true h,if_pos rfl]⟩
    ·rw[show (some (0:Int)) = some ((0:Nat):Int) from rfl,Ui]; rfl
    ·rw[show (some (0:Int)) = some ((0:Nat):Int) from rfl,Lz,decide_eq_true h,if_pos rfl]; rfl
   ·refine⟨1,ms,by rw[decide_eq_false h]; rfl,?_,?_,by rw[decide_eq_false h,if_neg (by decide)]⟩
    ·rw[Dr,Qx]
    ·rw[Dr,Ai0,decide_eq_false h,if_neg (by decide)]
  rw[eif] at fine
  have ll:l.length <= ms.length + 1:=by
   rw[<- eif]
   split <;> simp
  have lm:∀ m ∈ l,Be W M m = true:=fun m h=>by
   rw[<- eif] at h
   split at h
   ·rcases mem_cons.mp h with rfl | h
    ·assumption
    ·exact hcm m h
   ·exact hcm m h
  have msl:ms.length < 63:=by
   rw[eo] at ol
   exact Nat.lt_of_succ_lt_succ ol
  have lr:(srt (Bw W) l).length = l.length:=Gc _ _
  rw[est,ecut]
  ext
  rw[length_map]
  refine Aas (n:=l.length) (f:=fun k=>some (prP (Bw W (l.getD k 0),(k:Int)))) (by omega) ?_ (fun k hk Z hZ=>?_)
  rotate_left
  ·walk_at "c"
   ext
   have eg:l[k]? = some (l.getD k 0):=by simp [hk]
   refine Dw (l:=l) (j:=k) (a:=l.getD k 0) eg rfl ?_
   refine Qo (AiB (ilm _ (lm _ (mem_of_getElem? eg)))) ?_
   ext
   exact hZ
  rw[show (range l.length).filterMap (fun k=>some (prP (Bw W (l.getD k 0),(k:Int)))) = (ixL (Bw W) l).map prP by unfold ixL; rw[map_map]; exact congrFun (filterMap_eq_map' (f:=fun k:Nat=>prP (Bw W (l.getD k 0),(k:Int)))) _]
  ext
  have il:(ixL (Bw W) l).length = l.length:=by unfold ixL; rw[length_map,length_range]
  refine⟨ixL (Bw W) l,rfl,Alp _ _,by omega,fun ns' hp hs=>?_⟩
  have nl:=hp.length_eq
  ext
  rw[elow]
  walk_at "md"
  refine Gf (S:=ns') (enc:=prP) (f:=fun p=>some (.int (l.getD p.2.toNat 0))) ?_ (fun d hd Z hZ=>?_)
  rotate_left
  ·obtain⟨k2,hk2,e2,e1⟩:=Xm (hp.mem_iff.mp hd)
   obtain⟨d1,d2⟩:=d
   have e2:d2 = (k2:Int):=e2
   subst e2
   walk_at "c"
   ext
   have eg:l[k2]? = some (l.getD k2 0):=by simp [hk2]
   refine Dw (l:=l) (j:=k2) (a:=l.getD k2 0) eg rfl ?_
   exact hZ
  rw[Ra ns' fun p=>l.getD p.2.toNat 0,Al0 hp hs]
  ext
  rotate_left
  ·rw[length_map,length_map,length_take]; omega
  ·rw[length_map,length_map,lr]; split <;> simp <;> omega
  rw[<- map_append,<- fine]
  exact⟨_,_,_,_,_,rfl⟩
section
variable {W:List Sg} {M:List (Int × Int)} {J:List Jn}
def eS (W:List Sg) (M:List (Int × Int)) (J:List Jn) (ts:List Int):Nat:=((grp (Be W M) ts).map fun w=>(opT J w).length - 8).sum
theorem AdY {mk:Int->Bool} {n:Int} {r:List Int} (h:∀ m ∈ r,mk m = true):grp mk (n :: r) = [n :: r]:=by
 have:=Lh (mk:=mk) (gs:=[]) r [n] h
 have e:grp mk (n :: r) = r.foldl (Gn mk) ([] ++ [[n]]):=by
  unfold grp
  rw[foldl_cons]
  congr 1
 rw[e,this]; rfl
theorem AnM (bk:Da W M J) (ts:List Int):eS W M J ts <= ts.length:=by
 have go:=Dd (Be W M) ts
 have key:∀ gs:List (List Int),(∀ g ∈ gs,∃ n r,g = n :: r/\∀ m ∈ r,Be W M m = true)->(gs.map fun w=>(opT J w).length - 8).sum <= gs.flatten.length:=fun gs=>by
  induction gs with
  | nil=>intro _; exact Nat.le_refl _
  | cons g gs ih =>
   intro h
   have ih:=ih fun g hg=>h g (.tail _ hg)
   obtain⟨n,r,rfl,hr⟩:=h g (.head _)
   obtain⟨_,_,_,e2,_,_⟩:=opW bk (n:=n) hr
   have:=Ol J 7 n
   rw[map_cons,List.sum_cons,flatten_cons,length_append,e2,length_append,length_cons]
   omega
 have:=key _ go.ne
 rw[go.fl] at this
 exact this
theorem Ti (ts:List Int):(lng W M J ts).length <= 8 * ts.length:=by
 rw[Ab5]; exact Abi J ts
structure Tx (W:List Sg) (M:List (Int × Int)) (J:List Jn) (e n:Nat) (ts:List Int):Prop where
 rm:eS W M J ts <= e
 ln:(lng W M J ts).length <= n
theorem Tx.of (bk:Da W M J) {ts:List Int} {k:Nat} (h:ts.length <= k):Tx W M J k (8 * k) ts:=⟨Nat.le_trans (AnM bk ts) h,Nat.le_trans (Ti ts) (Nat.mul_le_mul_left 8 h)⟩
end
theorem Anr {L:List Int} {x:Int} {P:PV->Prop} (q:P (.bl (decide (x ∈ L)))):bIn false (.int x) (.lst (L.map .int)) P:=by
 refine⟨L.map .int,rfl,rfl,fun y hy=>by obtain⟨z,_,rfl⟩:=mem_map.mp hy; rfl,fun b hb=>?_⟩
 have:b = decide (x ∈ L):=Gy (by
  rw[hb,decide_eq_true_iff]
  constructor
  ·intro h
   obtain⟨z,hz,e⟩:=mem_map.mp h
   injection e with e'
   rwa [<- e']
  ·intro h
   exact mem_map.mpr ⟨x,h,rfl⟩)
 rw[this]; exact q
theorem AaS {T:List Int}:∀ {W:List Sg},W.filterMap (fun s:Sg=>if s.2.1 = ("mark" : Str)/\s.1 ∈ T then some (PV.int s.2.2) else none) = ((W.filter fun s:Sg=>decide (s.2.1 = ("mark" : Str)/\s.1 ∈ T)).map (·.2.2)).map .int
 | []=>rfl
 | s :: r=>by
  by_cases h:s.2.1 = "mark"/\s.1 ∈ T
  ·rw[List.filterMap_cons_some (by rw[if_pos h]),filter_cons_of_pos (by simpa using h),AaS]; rfl
  ·rw[List.filterMap_cons_none (by rw[if_neg h]),filter_cons_of_neg (by simpa using h),AaS]
def Agf:PSp:=fun ps P=>∃ (f:Nat->Int) (W:List Sg) (M:List (Int × Int)) (J:List Jn) (ts:List Int) (c:Int),ps = [.tup [.lst ((range 28).map fun k=>.int (f k)),.lst (W.map sgP),.lst (M.map prP),.lst (J.map jnP)],.lst (ts.map .int),.int c]/\Da W M J/\ts.length <= 300/\∀ us:List Int,lng W M J us = lng W M J ts->P (.lst (us.map .int))
theorem Aoi (T:Txt K mg t):Binds K t.d_qh ["_law_lists_here","_law_signs_here","_law_cell"] []:=T.F_qh.binds (by walk_at "b3")
theorem AmJ (T:Txt K mg t):FnOk P w K mg base CX0 1 t.f_qh t.d_qh ["_law_lists_here","_law_signs_here","_law_cell"] (spOf K t.C_Book [false,false,true] .fr Agf):=by
 refine T.F_qh.ok sc_qh (fun vs H Q E h=>h.len) (fun cdv A outer s H vs Q E hr h=>?_)
 have hu:=Cy hr
 have hu64:=hr.units
 refine⟨_,(Bc (Bo (i:=3) sc_qh.nd rfl (Or.inl rfl) (Bs Dm (pv 2) (Ch (Ye rfl) rfl T.z_max boot_max (Ba Bg (Ba (Ch (Ce K) rfl T.z_len PySem.boot_len (Ba (pv 1) Bd)) Bd)))))
   (Bc (Bo (i:=2) sc_qh.nd rfl (Or.inl rfl) (Bs Fd (pv 2) (Ch (Ye rfl) rfl T.z_max boot_max (Ba Bg (Ba (Ch (Ce K) rfl T.z_len PySem.boot_len (Ba (pv 1) Bd)) Bd)))))
   (Bc (Bo (i:=4) sc_qh.nd rfl (by first | exact Or.inl rfl | exact Or.inr rfl) (Dh (Di K) (pv 1) (Cw (pv 3)) (Cw (Bs Gb (pv 3) Bg))))
   (Bc (Dj PassesOwn.never rfl (Cs (Ck (Dt K) (pv 0) Bg (fun _ _=>rfl))) (Lm (K':=K) (n:=3) rfl rfl (Ci (Bq (i:=5) sc_qh.nd rfl (Or.inl rfl)) (Ci (Bq (i:=6) sc_qh.nd rfl (Or.inl rfl)) (Ci (Bq (i:=7) sc_qh.nd rfl (Or.inl rfl)) Ge))))
    (Bc (Dx (PW.pt (Vr (Cr (Ng K hu64) (Dh (Di K) (pv 4) Fi (Cw Bg)) (Cn (Ba (pv 5) Bd)) (Co _)) (Uf (Cr Gi (Bs Dm (pv 2) Bg) Bg (Co _)))))
    (Bi (Cd (Bs Fu (Bs Fu (Dh (Di K) (pv 1) Fi (Cw (pv 3))) (Cn (Ba (pv 6) (Ba (pv 7) Bd)))) (Dh (Di K) (pv 1) (Cw (Bs Gb (pv 3) Bg)) Fi))))
    Dg)
   (Bi (Dx (Cr (Ng K hu64) (pv 4) (Cn (Ba (pv 6) (Ba (pv 7) Bd))) (Co _))
    (Bi (Cd (Bs Fu (Bs Fu (Dh (Di K) (pv 1) Fi (Cw (pv 3))) (Cn (Ba (pv 5) Bd))) (Dh (Di K) (pv 1) (Cw (Bs Gb (pv 3) Bg)) Fi))))
    Dg))))
   (Bc (Ut 3 [4] ["_law_sign","_law_word","_law_rank","_law_two"] ["_law_two"] rfl (Cs (Ck (Dt K) (pv 0) Bg (fun _ _=>rfl))) rfl (fun j y e1 i e2=>match j,e1,e2 with | 0,e1,e2=>by cases e1; cases e2; exact⟨rfl,rfl,rfl,by decide +kernel⟩ | _ + 1,_,e2=>by simp at e2) (forall_mem_cons.mpr ⟨rfl,fun _ h=>nomatch h⟩) (by decide +kernel) (fun _ _ _ _=>(Lm (K':=K) (n:=3) rfl rfl (Ci (Bq (i:=0) (show Nodup (["_law_sign","_law_word","_law_rank","_law_two"]:List Str) by decide +kernel) rfl (Or.inl rfl)) (Ci (Bq (i:=1) (show Nodup (["_law_sign","_law_word","_law_rank","_law_two"]:List Str) by decide +kernel) rfl (Or.inl rfl)) (Ci (Bq (i:=2) (show Nodup (["_law_sign","_law_word","_law_rank","_law_two"]:List Str) by decide +kernel) rfl (Or.inl rfl)) Ge))))) (fun _ _ _ _=>(Nc (PW.pt (Vr (Cr Gi (pv 1) Cf (Co _)) (Uf (Cr (Vv K) (pv 0) (pv 3) rfl)))))) (fun _ _ _ _=>(pv 2)) rfl (by decide +kernel) rfl (by decide +kernel) (fun _=>rfl) (i:=8) sc_qh.nd rfl (Or.inl rfl) rfl)
   (Bc (Dx (PW.pt (Vr (Cr Gi (Ch (Ce K) rfl T.z_len PySem.boot_len (Ba (pv 8) Bd)) Bg (Co _)) (Uf (Cr Uo (Ck (Cq K) (pv 8) Bg (fun _ _=>rfl)) (Ck (Cq K) (pv 8) Bg (fun _ _=>rfl)) (Co _)))))
    (Bi (Cd (Bs Fu (Bs Fu (Dh (Di K) (pv 1) Fi (Cw (pv 3))) (Cn (Ba (Ck (Cq K) (pv 4) Bg (fun _ _=>rfl)) (Ba (Ck (Cq K) (pv 4) Bg (fun _ _=>rfl)) Bd)))) (Dh (Di K) (pv 1) (Cw (Bs Gb (pv 3) Bg)) Fi))))
    Dg)
   (Bi (Cd (Lj (Jf K) rfl T.z_list PyProof.Rows.boot_list (Ba (pv 1) Bd)))))))))),?_⟩
 try dsimp only [Cm,By]
 refine Df h (by decide) (Bj (Bz (Cv (fun _ _ _=>.int _) Bb (EU.eb (Aen (Bn (EU.eb Bh) (Bn (EU.eb (Dv (Bn Bb Bf))) Bf))))))
   (Bj (Bz (Cv (fun _ _ _=>.int _) Bb (EU.eb (Aen (Bn (EU.eb Bh) (Bn (EU.eb (Dv (Bn Bb Bf))) Bf))))))
   (Bj (Bz (EF.eu (Fa Bb (Cz Bb) (Cz (EU.eb (Fs (fun _ _ _=>.int _) Bb (EU.eb Bh)))))))
   (Bj (Jx (Ff Bb (EU.eb Bh)) (Nt (Dn (Cc (top:=9)) (Dn (Cc (top:=9)) (Dn (Cc (top:=9)) Lk))))
    (Bj (Fr (Aaq (Du (EU.eb (Jh (EF.eb (Fa Bb Fj (Cz (EU.eb Bh)))) (EF.eb (Dc 1 (Bv Cg Bf)))))) (Du (EU.eb (Lf (EU.eb (Cv (fun _ _ _=>.int _) Bb (EU.eb Bh))) (EU.eb Bh)))))
    (Gs (Gh (EF.eb (Gh (EF.eb (Fa Bb Fj (Cz Bb))) (EF.eb (Dc 2 (Bv Cg (Bv Cg Bf)))))) (EF.eb (Fa Bb (Cz (EU.eb (Fs (fun _ _ _=>.int _) Bb (EU.eb Bh)))) Fj))))
    Ds)
   (Fr (Du (EU.eb (Jh Bb (EF.eb (Dc 2 (Bv Cg (Bv Cg Bf)))))))
    (Gs (Gh (EF.eb (Gh (EF.eb (Fa Bb Fj (Cz Bb))) (EF.eb (Dc 1 (Bv Cg Bf))))) (EF.eb (Fa Bb (Cz (EU.eb (Fs (fun _ _ _=>.int _) Bb (EU.eb Bh)))) Fj))))
    Ds)))
   (Bj (Bz (EF.eu (Gr (EU.eb (Ff Bb (EU.eb Bh))) (Nt (Dn (Cc (top:=3)) (Dn (Cc (top:=3)) (Dn (Cc (top:=3)) Lk)))) (Aaq (Du (EU.eb (Lf Bb (EU.eb Dk)))) (Du (EU.eb (Ah1 Cg Bb)))) Cg)))
   (Bj (Fr (Aaq (Du (EU.eb (Lf (EU.eb (Dv (Bn Bb Bf))) (EU.eb Bh)))) (Du (EU.eb (Wr (EU.eb (De Bb (EU.eb Bh))) (EU.eb (De Bb (EU.eb Bh)))))))
    (Gs (Gh (EF.eb (Gh (EF.eb (Fa Bb Fj (Cz Bb))) (EF.eb (Dc 2 (Bv (De Bb (EU.eb Bh)) (Bv (De Bb (EU.eb Bh)) Bf)))))) (EF.eb (Fa Bb (Cz (EU.eb (Fs (fun _ _ _=>.int _) Bb (EU.eb Bh)))) Fj))))
    Ds)
   (Gs (Qp (Bn Bb Bf))))))))) (fun ps P hp=>?_)
 clear h hu hu64 hr
 obtain⟨f,W,M,J,ts,c,rfl,bk,hl,q⟩:=hp
 walk_at "s"
 have Wl:W.length + 2 * M.length <= 60:=bk.ln
 have Jl:=bk.jl
 have ndW:(W.map (·.1)).Nodup:=(nodup_append.mp bk.nd).1
 have cl:∀ lo hi,(Fo (map PV.int ts) lo hi).length <= 300:=fun lo hi=>by
  have:=AgV (map PV.int ts) lo hi
  rw[length_map] at this
  omega
 obtain⟨mx,emx,m1,m2⟩:∃ mx:Int,(if ((map PV.int ts).length:Int) > 1 then ((map PV.int ts).length:Int) else 1) = mx/\0 < mx/\(mx <= ts.length\/ts = []/\mx = 1):=by
  rw[length_map]
  by_cases h:(ts.length:Int) > 1
  ·exact⟨_,if_pos h,by omega,.inl (Int.le_refl _)⟩
  ·refine⟨1,if_neg h,by decide,?_⟩
   by_cases z:ts = []
   ·exact .inr ⟨z,rfl⟩
   ·have:=List.length_pos_iff.mpr z
    exact .inl (by omega)
 have a0:=emod_nonneg c (show mx ≠ 0 by omega)
 have a1:=emod_lt_of_pos c m1
 obtain⟨a,ea⟩:∃ a:Nat,c % mx = (a:Int):=⟨(c % mx).toNat,by omega⟩
 have ha:a < ts.length\/ts = []/\a = 0:=by
  rcases m2 with h | ⟨h,h2⟩
  ·exact .inl (by omega)
  ·exact .inr ⟨h,by omega⟩
 refine Dy ?_
 ext1
 rotate_left
 ·show (0:Int) < _
  rw[emx]; exact m1
 rw[emx,ea]
 refine Dy ?_
 ext1
 rotate_left
 ·show Zr c _
  rw[emx]; exact⟨by omega,by omega⟩
 rw[emx]
 generalize c / mx = c2
 refine Dy ?_
 ext1
 rw[show some ((a:Int) + 2) = some ((a + 2:Nat):Int) by rw[Int.natCast_add]; rfl,Dr,Aeo]
 generalize eT:(ts.take (a + 2)).drop a = T
 have Tl:T.length <= 2:=by rw[<- eT,length_drop,length_take]; omega
 have eTs:ts = ts.take a ++ (T ++ ts.drop (a + 2)):=by
  rw[<- eT]
  have h1:(ts.take (a + 2)).take a = ts.take a:=by rw[List.take_take,Nat.min_eq_left (by omega)]
  conv=>lhs; rw[<- take_append_drop (a + 2) ts,<- take_append_drop a (ts.take (a + 2)),h1,append_assoc]
 ext1
 refine Dy ?_
 ext1
 refine⟨3,_,_,rfl,rfl,Gk (j:=3) rfl,?_⟩
 ext1
 refine⟨fun k ρ=>∃ v5 v6 v7,ρ = [.bo (.tup [.lst ((range 28).map fun k=>.int (f k)),.lst (W.map sgP),.lst (M.map prP),.lst (J.map jnP)]),.bo (.lst (ts.map .int)),.sh (.int c2),.sh (.int a),.sh (.lst (T.map .int)),v5,v6,v7,.un],⟨_,_,_,rfl⟩,?_,?_⟩
 ·rintro k p ρ hp ⟨v5,v6,v7,rfl⟩
  rw[getElem?_map] at hp
  obtain⟨j,hj,rfl⟩:=map_eq_some_iff.mp hp
  have hjm:=mem_of_getElem? hj
  have hjp:Cl J j.1 = some j.2:=Yi bk.jo.nw hjm
  ext1
  refine Jb ?_ ?_
  ·ext
   refine Wn (ys:=[j.2.1,j.2.2]) ?_
   by_cases h:T = [j.2.1,j.2.2]
   ·rw[decide_eq_true h]
    ext
    rw[Dr,Lz,show some ((a:Int) + 2) = some ((a + 2:Nat):Int) by rw[Int.natCast_add]; rfl,Dr,Ui]
    have e:ts = ts.take a ++ j.2.1 :: j.2.2 :: ts.drop (a + 2):=by rw[h] at eTs; exact eTs
    have z:=q (ts.take a ++ j.1 :: ts.drop (a + 2)) (by
     conv=>rhs; rw[e]
     exact Stp.lng bk (.jn hjp))
    rotate_left
    all_goals try (have h1:=cl none (some (a:Int)); have h2:=cl (some ((a:Int) + 2)) none; simp only [length_append,length_cons,length_nil]; omega)
    rw[map_append,map_cons] at z
    rw[append_assoc]
    exact z
   ·rw[decide_eq_false h]
    ext
    exact⟨_,_,_,rfl⟩
  ·ext
   rw[show Fo (T.map PV.int) none (some 1) = (T.take 1).map .int by rw[Dr,show (some (1:Int)) = some ((1:Nat):Int) from rfl,Lz]]
   refine Wn (ys:=[j.1]) ?_
   by_cases h:T.take 1 = [j.1]
   ·rw[decide_eq_true h]
    ext
    all_goals try decide
    refine Te (fun h2=>?_) (fun h2=>?_)
    ·ext
     rw[Dr,Lz,show some ((a:Int) + 1) = some ((a + 1:Nat):Int) by rw[Int.natCast_add]; rfl,Dr,Ui]
     have e:ts = ts.take a ++ j.1 :: ts.drop (a + 1):=by
      have h0:T[0]? = some j.1:=by
       have:=congrArg (fun l:List Int=>l[0]?) h
       simpa [getElem?_take] using this
      rw[<- eT,List.getElem?_drop,getElem?_take,if_pos (by omega)] at h0
      have h0:ts[a]? = some j.1:=h0
      obtain⟨hlt,hg⟩:=List.getElem?_eq_some_iff.mp h0
      rw[<- hg,<- drop_eq_getElem_cons hlt,take_append_drop]
     have z:=q (ts.take a ++ j.2.1 :: j.2.2 :: ts.drop (a + 1)) (by
      conv=>rhs; rw[e]
      exact Stp.lng bk (.op hjp))
     rotate_left
     all_goals try (have h1:=cl none (some (a:Int)); have h2:=cl (some ((a:Int) + 1)) none; simp only [length_append,length_cons,length_nil]; omega)
     rw[map_append,map_cons,map_cons] at z
     rw[append_assoc]
     exact z
    ·ext
     exact .inl rfl
   ·rw[decide_eq_false h]
    ext
    exact .inl rfl
 rintro ρ ⟨v5,v6,v7,rfl⟩
 ext1
 refine Dy ?_
 ext1
 walk_at "md"
 refine Gf (S:=W) (enc:=sgP) (f:=fun s:Sg=>if s.2.1 = ("mark" : Str)/\s.1 ∈ T then some (PV.int s.2.2) else none) ?_ (fun d hd Z hZ=>?_)
 rotate_left
 ·walk_at "c"
  ext
  by_cases h1:d.2.1 = "mark"
  ·rw[decide_eq_true h1]
   ext
   refine Anr (L:=T) (x:=d.1) ?_
   by_cases h2:d.1 ∈ T
   ·rw[decide_eq_true h2]
    rw[if_pos ⟨h1,h2⟩] at hZ
    ext
    exact hZ
   ·rw[decide_eq_false h2]
    rw[if_neg (fun z=>h2 z.2)] at hZ
    ext
    exact hZ
  ·rw[decide_eq_false h1]
   rw[if_neg (fun z=>h1 z.1)] at hZ
   ext
   exact hZ
 rw[AaS]
 generalize eR:W.filter (fun s:Sg=>decide (s.2.1 = ("mark" : Str)/\s.1 ∈ T)) = R
 have hR:∀ s ∈ R,s ∈ W/\s.2.1 = "mark"/\s.1 ∈ T:=fun s hs=>by
  rw[<- eR] at hs
  obtain⟨h1,h2⟩:=mem_filter.mp hs
  exact⟨h1,of_decide_eq_true h2⟩
 have ndR:(R.map (·.1)).Nodup:=by
  rw[<- eR]
  exact ndW.sublist ((List.filter_sublist (p:=fun s:Sg=>decide (s.2.1 = "mark"/\s.1 ∈ T))).map _)
 ext1
 refine Jb ?_ ?_
 ·ext
  exact q ts rfl
 ext
 rw[length_map]
 by_cases h:R.length = 2
 ·obtain⟨s1,s2,rfl⟩:∃ s1 s2,R = [s1,s2]:=by
   match R,h with
   | [s1,s2],_=>exact⟨s1,s2,rfl⟩
  rw[decide_eq_true (by rfl)]
  ext
  refine Dw (l:=[s1,s2].map fun x=>x.2.2) (j:=0) (a:=s1.2.2) rfl rfl ?_
  ext
  refine Dw (l:=[s1,s2].map fun x=>x.2.2) (j:=1) (a:=s2.2.2) rfl rfl ?_
  ext
  refine Te (fun h2=>?_) (fun h2=>?_)
  ·have hne:s1.2.2 ≠ s2.2.2:=by simpa using h2
   have hs1:=hR s1 (.head _)
   have hs2:=hR s2 (.tail _ (.head _))
   have n12:s1.1 ≠ s2.1:=by simpa using ndR
   have rk:∀ s:Sg,s ∈ W->s.2.1 = "mark"->Bw W s.1 = s.2.2/\Bw W s.1 > 0:=fun s h1 h2=>by
    have e:=Sw ndW h1
    refine⟨e,?_⟩
    have:=(bk.so s h1).rk
    rcases this with z | z
    ·rw[e]; omega
    ·exact absurd h2 z.1
   have r1:=rk s1 hs1.1 hs1.2.1
   have r2:=rk s2 hs2.1 hs2.2.1
   obtain⟨x,y,eT2,hxy⟩:∃ x y,T = [x,y]/\((x = s1.1/\y = s2.1)\/(x = s2.1/\y = s1.1)):=by
    have t1:=hs1.2.2
    have t2:=hs2.2.2
    match T,Tl,t1,t2 with
    | [],_,t1,_=>cases t1
    | [x],_,t1,t2 =>
     rw[mem_singleton] at t1 t2
     exact absurd (t1.trans t2.symm) n12
    | [x,y],_,t1,t2 =>
     simp only [mem_cons,not_mem_nil,or_false] at t1 t2
     rcases t1 with t1 | t1 <;> rcases t2 with t2 | t2
     ·exact absurd (t1.trans t2.symm) n12
     ·exact⟨x,y,rfl,.inl ⟨t1.symm,t2.symm⟩⟩
     ·exact⟨x,y,rfl,.inr ⟨t2.symm,t1.symm⟩⟩
     ·exact absurd (t1.trans t2.symm) n12
    | _ :: _ :: _ :: _,tl,_,_=>simp at tl
   subst eT2
   ext
   refine Dw (l:=[x,y]) (j:=1) (a:=y) rfl rfl ?_
   ext
   refine Dw (l:=[x,y]) (j:=0) (a:=x) rfl rfl ?_
   ext
   rw[Dr,Lz,show some ((a:Int) + 2) = some ((a + 2:Nat):Int) by rw[Int.natCast_add]; rfl,Dr,Ui]
   have z:=q (ts.take a ++ y :: x :: ts.drop (a + 2)) (by
    conv=>rhs; rw[eTs]
    refine Stp.lng bk (.tu ?_ ?_ ?_)
    ·rcases hxy with ⟨rfl,rfl⟩ | ⟨rfl,rfl⟩
     ·exact r1.2
     ·exact r2.2
    ·rcases hxy with ⟨rfl,rfl⟩ | ⟨rfl,rfl⟩
     ·exact r2.2
     ·exact r1.2
    ·rcases hxy with ⟨rfl,rfl⟩ | ⟨rfl,rfl⟩
     ·rw[r1.1,r2.1]; exact hne
     ·rw[r1.1,r2.1]; exact Ne.symm hne)
   rotate_left
   all_goals try (have h1:=cl none (some (a:Int)); have h2:=cl (some ((a:Int) + 2)) none; simp only [length_append,length_cons,length_nil]; omega)
   rw[map_append,map_cons,map_cons] at z
   rw[append_assoc]
   exact z
  ·ext
   exact .inl rfl
 ·rw[decide_eq_false (by rw[length_map]; omega)]
  ext
  exact .inl rfl
def Ai6:PSp:=fun ps P=>∃ U M J ts,ps = [.bk U M J,.lst (map .int ts)]/\Da U M J/\ts.length <= 300/\Fit U M J ts/\P (.lst ((grp (Be U M) (lng U M J ts)).map fun g:List Int=>.lst (g.map .int)))
theorem AjT (T:Txt K mg t):Binds K t.d_qi ["book","text"] []:=T.F_qi.binds (by walk_at "b2")
theorem Aiq (T:Txt K mg t):FnOk P w K mg base CX0 5 t.f_qi t.d_qi ["book","text"] (spOf K t.C_Book [false,false] .fr Ai6):=by
 refine T.F_qi.ok AnI (fun vs H Q E h=>h.len) (fun cdv A outer s H vs Q E hr h=>?_)
 have hu:=Cy hr
 have hu64:=hr.units
 refine⟨_,(Bi (Cd (Jt 1 [0] ["whole","book"] ["book"] rfl (Cs (Bm (Sn T) (hr.mono (by decide)) rfl T.m_qbl T.F_qbl.kp (Wp T) .nil Br (Ba (pv 0) (Ba (pv 1) Bd)))) rfl (fun j y e1 i e2=>match j,e1,e2 with | 0,e1,e2=>by cases e1; cases e2; exact⟨rfl,rfl,rfl,by decide +kernel⟩ | _ + 1,_,e2=>by simp at e2) (forall_mem_cons.mpr ⟨rfl,fun _ h=>nomatch h⟩) (by decide +kernel) (fun _ _ _ _=>(Bq (i:=0) (show Nodup (["whole","book"]:List Str) by decide +kernel) rfl (Or.inl rfl))) (fun _ _ _ _=>Jo) (fun _ _ _ _=>(Bm (Acv T) (hr.mono (by decide)) rfl T.m_qt T.F_qt.kp (AgS T) .nil Br (Ba (pv 1) (Ba (pv 0) Bd)))) rfl (by decide +kernel) rfl (by decide +kernel)))),?_⟩
 try dsimp only [Cm,By]
 refine Df h (by decide) (Gs (Gr (EU.eb (Tt (Bn Bb (Bn Bb Bf)))) (Cc (top:=1)) Jm (EF.eu (Ct (Bn Bb (Bn Bb Bf)))))) (fun ps P hp=>?_)
 clear h hu hu64 hr
 obtain⟨U,M,J,ts,rfl,bk,hl,ft,q⟩:=hp
 walk_at "s"
 ext
 refine⟨U,M,J,ts,rfl,hl,?_⟩
 rw[Ft bk] at q
 have go:=Dd (Be U M) ts
 have gl:=go.ln
 have ft':∀ w ∈ grp (Be U M) ts,(opT J w).length < 64:=ft
 generalize grp (Be U M) ts = gs at go gl q ft'
 ext
 walk_at "md"
 refine Gf (S:=gs) (enc:=fun g:List Int=>PV.lst (g.map .int)) (f:=fun g=>some (.lst ((Ca U J g).map .int))) ?_ (fun d hd Z hZ=>?_)
 rotate_left
 ·obtain⟨n,r,rfl,hr⟩:=go.ne d hd
  walk_at "c"
  ext
  refine⟨U,M,J,n,r,rfl,bk,hr,ft' _ hd,?_⟩
  exact hZ
 rw[show gs.filterMap (fun g=>some (PV.lst ((Ca U J g).map .int))) = (gs.map (Ca U J)).map fun g:List Int=>.lst (g.map .int) by rw[map_map]; exact congrFun (filterMap_eq_map' (f:=fun g=>PV.lst ((Ca U J g).map .int))) _]
 exact q
section
variable {W:List Sg} {M:List (Int × Int)} {J:List Jn}
def FitB (W:List Sg) (M:List (Int × Int)) (J:List Jn) (B:Nat) (ts:List Int):Prop:=∀ w ∈ grp (Be W M) ts,(opT J w).length <= B
theorem FitB.fit {B:Nat} {ts:List Int} (h:FitB W M J B ts) (hB:B <= 63):Fit W M J ts:=fun w hw=>by have:=h w hw; omega
theorem FitB.same (bk:Da W M J) {B:Nat} {ts us:List Int} (h:FitB W M J B ts) (l:lng W M J us = lng W M J ts):FitB W M J B us:=fun w hw=>by
 have h1:Ca W J w ∈ grp (Be W M) (lng W M J us):=by rw[Ft bk]; exact mem_map.mpr ⟨w,hw,rfl⟩
 rw[l,Ft bk] at h1
 obtain⟨v,hv,e⟩:=mem_map.mp h1
 have:=h v hv
 have e2:=congrArg length e
 unfold Ca at e2
 rw[Gc,Gc] at e2
 omega
theorem FitB.le {B C:Nat} {ts:List Int} (h:FitB W M J B ts) (hC:B <= C):FitB W M J C ts:=fun w hw=>Nat.le_trans (h w hw) hC
theorem Ad2 (bk:Da W M J) {ts w:List Int} (h:w ∈ grp (Be W M) ts):(opT J w).length <= w.length + 7:=by
 obtain⟨n,r,rfl,hr⟩:=(Dd (Be W M) ts).ne w h
 obtain⟨_,_,_,e,_,_⟩:=opW bk (n:=n) hr
 have:=Ol J 7 n
 rw[e,length_append,length_cons]
 omega
theorem FitB.of (bk:Da W M J) {ts:List Int} {k:Nat} (h:ts.length <= k):FitB W M J (k + 7) ts:=fun w hw=>by
 have:=Ad2 bk hw
 have:=Aky _ ts hw
 omega
theorem GW.drop {mk:Int->Bool} {gs:List (List Int)} (h:GW mk gs) (a m:Nat):GW mk ((gs.drop a).take m):=by
 refine⟨fun g hg=>h.ne g (List.mem_of_mem_drop (List.mem_of_mem_take hg)),fun i g hg hi=>?_⟩
 rw[getElem?_take] at hg
 split at hg
 ·rw[List.getElem?_drop] at hg
  exact h.hd _ g hg (by omega)
 ·cases hg
theorem Yg {mk:Int->Bool} (ts:List Int) (a m:Nat):grp mk (((grp mk ts).drop a).take m).flatten = ((grp mk ts).drop a).take m:=Ww ((Su mk ts).drop a m)
theorem AeK {B:Nat} {ts:List Int} (h:FitB W M J B ts) (a m:Nat):FitB W M J B (((grp (Be W M) ts).drop a).take m).flatten:=fun w hw=>by
 rw[Yg] at hw
 exact h w (List.mem_of_mem_drop (List.mem_of_mem_take hw))
theorem AkQ (bk:Da W M J) (ts:List Int):(lng W M J ts).length <= ts.length + 7 * (grp (Be W M) ts).length:=by
 rw[Ab5]
 have go:=Dd (Be W M) ts
 have key:∀ gs:List (List Int),(∀ g ∈ gs,g ∈ grp (Be W M) ts)->(opT J gs.flatten).length <= gs.flatten.length + 7 * gs.length:=fun gs=>by
  induction gs with
  | nil=>intro _; exact Nat.le_refl _
  | cons g gs ih =>
   intro h
   have ih:=ih fun x hx=>h x (.tail _ hx)
   have:=Ad2 bk (h g (.head _))
   rw[flatten_cons,La,length_append,length_append,length_cons]
   omega
 have:=key (grp (Be W M) ts) (fun g h=>h)
 rw[go.fl] at this
 exact this
end
theorem Uh {xs:List PV} {P:PV->Prop} (h0:xs = []->P (.bl true)) (h1:xs ≠ []->P (.bl false)):Uz false (.lst xs) (.lst []) P:=⟨xs,[],rfl,rfl,(fun _ i x y _ h=>by cases h),fun b hb=>by
 by_cases z:xs = []
 ·rw[hb.mpr z]; exact h0 z
 ·have:b = false:=by
   cases b with
   | false=>rfl
   | true=>exact absurd (hb.mp rfl) z
  rw[this]; exact h1 z⟩
theorem Afw {j:Int} {f:Nat->Option PV} {P:PV->Prop} {ug:PV->Bl->(Bl->Prop)->Prop} {ta:UT} {ue:UE} {ρ':Bl} (h0:-(2 ^ 62) <= j) (hn:j < 100000) (q:P (.lst ((range j.toNat).filterMap f))) (h:∀ k,k < j.toNat->∀ Z:Option PV->Prop,Z (f k)->ug (.int (k:Int)) ρ' fun ρ2=>ta ρ2 fun b=>if b = true then ue ρ2 fun q=>Z (some q) else Z none):We ug ta ue ρ' P [.int j]:=by
 refine⟨_,rfl,h0,hn,fun k rs=>rs = (range k).filterMap f,rfl,fun k rs hk hr=>?_,fun rs hr=>?_⟩
 ·subst hr
  rw[Int.zero_add]
  refine h k hk (fun o=>(match o with | some q=>(range k).filterMap f ++ [q] | none=>(range k).filterMap f) = (range (k + 1)).filterMap f) ?_
  rw[List.range_succ,List.filterMap_append]
  cases e:f k with
  | none=>simp [filterMap_cons,e]
  | some x=>simp [filterMap_cons,e]
 ·rw[hr]; exact q
def fdF (ws gs:List (List Int)):List Nat:=(range ws.length).filter fun k=>decide ((ws.drop k).take gs.length = gs)
theorem AjB {ws gs:List (List Int)} (hg:gs ≠ []):(range ((ws.length:Int) - gs.length + 1).toNat).filter (fun k=>decide ((ws.drop k).take gs.length = gs)) = fdF ws gs:=by
 unfold fdF
 have g1:=List.length_pos_iff.mpr hg
 have hle:((ws.length:Int) - gs.length + 1).toNat <= ws.length:=by omega
 obtain⟨d,hd⟩:∃ d,ws.length = ((ws.length:Int) - gs.length + 1).toNat + d:=⟨_,(Nat.add_sub_cancel' hle).symm⟩
 generalize hn:((ws.length:Int) - gs.length + 1).toNat = n at hd
 conv=>rhs; rw[hd,List.range_add,filter_append]
 have e:((range d).map fun x=>n + x).filter (fun k=>decide ((ws.drop k).take gs.length = gs)) = []:=List.filter_eq_nil_iff.mpr fun k hk z=>by
  obtain⟨i,hi,rfl⟩:=mem_map.mp hk
  have:=congrArg length (of_decide_eq_true z)
  rw[length_take,length_drop] at this
  omega
 rw[e,append_nil]
theorem Ac8 {ws gs:List (List Int)}:∀ l:List Nat,l.filterMap (fun k=>if (ws.drop k).take gs.length = gs then some (PV.int (k:Int)) else none) = (l.filter fun k=>decide ((ws.drop k).take gs.length = gs)).map fun k:Nat=>PV.int k
 | []=>rfl
 | k :: r=>by
  by_cases h:(ws.drop k).take gs.length = gs
  ·rw[List.filterMap_cons_some (by rw[if_pos h]),filter_cons_of_pos (by simpa using h),Ac8 r]; rfl
  ·rw[List.filterMap_cons_none (by rw[if_neg h]),filter_cons_of_neg (by simpa using h),Ac8 r]
theorem Aav {α:Type} (xs:List α) (k m:Nat):Fo xs (some (k:Int)) (some ((k:Int) + (m:Int))) = (xs.drop k).take m:=by
 rw[show some ((k:Int) + (m:Int)) = some ((k + m:Nat):Int) by rw[Int.natCast_add],Aeo,List.drop_take,show k + m - k = m by omega]
theorem Ov (bk:Da W M J) {ts:List Int}:lng W M J ts = [] ↔ ts = []:=by
 refine⟨fun h=>?_,fun h=>by rw[h]; rfl⟩
 have:=Wi bk ts
 rw[h] at this
 exact List.length_eq_zero_iff.mp (Nat.le_zero.mp this)
theorem grp_ne {mk:Int->Bool} {ts:List Int}:grp mk ts = [] ↔ ts = []:=by
 refine⟨fun h=>?_,fun h=>by rw[h]; rfl⟩
 have:=(Dd mk ts).fl
 rw[h] at this
 exact this.symm
def Als:PSp:=fun ps P=>∃ U M J ts us,ps = [.bk U M J,.lst (map .int ts),.lst (map .int us)]/\Da U M J/\ts.length <= 300/\us.length <= 300/\Fit U M J ts/\Fit U M J us/\us ≠ []/\P (.lst ((fdF (grp (Be U M) (lng U M J ts)) (grp (Be U M) (lng U M J us))).map fun k:Nat=>.int k))
theorem Tv (T:Txt K mg t):Binds K t.d_qbo ["book","text","what"] []:=T.F_qbo.binds (by walk_at "b3")
theorem Qq (T:Txt K mg t):FnOk P w K mg base CX0 6 t.f_qbo t.d_qbo ["book","text","what"] (spOf K t.C_Book [false,false,false] .fr Als):=by
 refine T.F_qbo.ok sc_qbo (fun vs H Q E h=>h.len) (fun cdv A outer s H vs Q E hr h=>?_)
 have hu:=Cy hr
 have hu64:=hr.units
 refine⟨_,(Bc (Dx (Cr Gi (Ch (Ce K) rfl T.z_len PySem.boot_len (Ba (pv 2) Bd)) Bg (Co _))
    Yl
    Dg)
   (Bc (Bo (i:=3) sc_qbo.nd rfl (by first | exact Or.inl rfl | exact Or.inr rfl) (Bm (Aiq T) (hr.mono (by decide)) rfl T.m_qi T.F_qi.kp (AjT T) .nil Br (Ba (pv 0) (Ba (pv 2) Bd))))
   (Bc (Bo (i:=4) sc_qbo.nd rfl (by first | exact Or.inl rfl | exact Or.inr rfl) (Bm (Aiq T) (hr.mono (by decide)) rfl T.m_qi T.F_qi.kp (AjT T) .nil Br (Ba (pv 0) (Ba (pv 1) Bd))))
   (Bc (Bo (i:=5) sc_qbo.nd rfl (by first | exact Or.inl rfl | exact Or.inr rfl) (Ch (Ce K) rfl T.z_len PySem.boot_len (Ba (pv 3) Bd)))
   (Bi (Cd (Jt 1 [4,5,3] ["k","wholes","number","wanted"] ["wholes","wanted","number"] rfl (Nz rfl T.z_range (Ba (Bs Gb (Bs Amj (Ch (Ce K) rfl T.z_len PySem.boot_len (Ba (pv 4) Bd)) (pv 5)) Bg) Bd)) rfl (fun j y e1 i e2=>match j,e1,e2 with | 0,e1,e2=>by cases e1; cases e2; exact⟨rfl,rfl,rfl,by decide +kernel⟩ | 1,e1,e2=>by cases e1; cases e2; exact⟨rfl,rfl,rfl,by decide +kernel⟩ | 2,e1,e2=>by cases e1; cases e2; exact⟨rfl,rfl,rfl,by decide +kernel⟩ | _ + 3,_,e2=>by simp at e2) (forall_mem_cons.mpr ⟨rfl,forall_mem_cons.mpr ⟨rfl,forall_mem_cons.mpr ⟨rfl,fun _ h=>nomatch h⟩⟩⟩) (by decide +kernel) (fun _ _ _ _=>(Bq (i:=0) (show Nodup (["k","wholes","number","wanted"]:List Str) by decide +kernel) rfl (Or.inl rfl))) (fun _ _ _ _=>(Nc (Cr (Ng K hu64) (Dh (Di K) (pv 1) (Cw (pv 0)) (Cw (Bs Gb (pv 0) (pv 2)))) (pv 3) (Co _)))) (fun _ _ _ _=>(pv 0)) rfl (by decide +kernel) rfl (by decide +kernel)))))))),?_⟩
 try dsimp only [Cm,By]
 refine Df h (by decide) (Bj (Fr (Du (EU.eb (Lf (EU.eb (Dv (Bn Bb Bf))) (EU.eb Bh))))
    AfF
    Ds)
   (Bj (Bz (EF.eu (Ct (Bn Bb (Bn Bb Bf)))))
   (Bj (Bz (EF.eu (Ct (Bn Bb (Bn Bb Bf)))))
   (Bj (Bz (Dv (Bn Bb Bf)))
   (Gs (Vi (Bn (EU.eb (Fs (fun _ _ _=>.int _) (EU.eb (Fs (fun _ _ _=>.int _) (EU.eb (Dv (Bn Bb Bf))) Bb)) (EU.eb Bh))) Bf) (Cc (top:=1)) (Du (EU.eb (Jh (EF.eb (Fa Bb (Cz Bb) (Cz (EU.eb (Fs (fun _ _ _=>.int _) Bb Bb))))) Bb))) Cg)))))) (fun ps P hp=>?_)
 clear h hu hu64 hr
 obtain⟨U,M,J,ts,us,rfl,bk,h1,h2,f1,f2,un,q0⟩:=hp
 walk_at "s"
 have q1:=fun _:us ≠ []=>q0

 ext1
 refine On (fun ρ=>us ≠ []/\ρ = [.bo (.bk U M J),.bo (.lst (ts.map .int)),.bo (.lst (us.map .int)),.un,.un,.un]) (fun ρ hh=>?_) ?_
 rotate_left
 ·ext
  rw[length_map]
  by_cases h:us = []
  ·rw[decide_eq_true (by rw[h]; rfl)]
   ext
   exact absurd h un
  ·rw[decide_eq_false (by have:=List.length_pos_iff.mpr h; omega)]
   ext
   exact .inl ⟨h,rfl⟩
 obtain⟨h,rfl⟩:=hh
 have q:=q1 h
 ext
 refine⟨U,M,J,us,rfl,bk,h2,f2,?_⟩
 ext
 refine⟨U,M,J,ts,rfl,bk,h1,f1,?_⟩
 have gn:grp (Be U M) (lng U M J us) ≠ []:=fun z=>h ((Ov bk).mp (grp_ne.mp z))
 have l1:(grp (Be U M) (lng U M J ts)).length <= 300:=by rw[Ft bk,length_map]; exact Nat.le_trans (Dd (Be U M) ts).ln h1
 have l2:(grp (Be U M) (lng U M J us)).length <= 300:=by rw[Ft bk,length_map]; exact Nat.le_trans (Dd (Be U M) us).ln h2
 generalize grp (Be U M) (lng U M J ts) = ws at q l1
 generalize grp (Be U M) (lng U M J us) = gs at q gn l2
 ext
 rw[length_map,length_map]
 refine Afw (f:=fun k=>if (ws.drop k).take gs.length = gs then some (.int (k:Int)) else none) (by omega) (by omega) ?_ (fun k hk Z hZ=>?_)
 rotate_left
 ·walk_at "c"
  ext
  rw[Dr,Aav]
  refine Akm ?_
  by_cases h3:(ws.drop k).take gs.length = gs
  ·rw[decide_eq_true h3]
   rw[if_pos h3] at hZ
   ext
   exact hZ
  ·rw[decide_eq_false h3]
   rw[if_neg h3] at hZ
   ext
   exact hZ
 rw[Ac8,AjB gn]
 exact q
theorem Uk (gs:List (List Int)) (g:List Int):(gs ++ [g]).flatten = gs.flatten ++ g:=by rw[List.flatten_append,flatten_cons,List.flatten_nil,append_nil]
theorem Tf (gs:List (List Int)) (k:Nat):(gs.take k).flatten.length <= gs.flatten.length:=by
 have e:gs.flatten = (gs.take k).flatten ++ (gs.drop k).flatten:=by rw[<- List.flatten_append,take_append_drop]
 rw[e,length_append]; omega
def Aml:PSp:=fun ps P=>∃ gs:List (List Int),ps = [.lst (gs.map fun g:List Int=>PV.lst (g.map .int))]/\gs.flatten.length <= 1000/\P (.lst (gs.flatten.map .int))
theorem Ah2 (T:Txt K mg t):Binds K t.d_qbv ["wholes"] []:=T.F_qbv.binds (by walk_at "b1")
theorem Afn (T:Txt K mg t):FnOk P w K mg base CX0 1 t.f_qbv t.d_qbv ["wholes"] (spOf K t.C_Book [false] .fr Aml):=by
 refine T.F_qbv.ok sc_qbv (fun vs H Q E h=>h.len) (fun cdv A outer s H vs Q E hr h=>?_)
 have hu:=Cy hr
 have hu64:=hr.units
 refine⟨_,(Bc (Bo (i:=1) sc_qbv.nd rfl (Or.inl rfl) (Cn Bd))
   (Bc (Dj PassesOwn.never rfl (Cs (pv 0)) (Bq (i:=2) sc_qbv.nd rfl (Or.inl rfl))
    (Bi (Cj (Fv plainAttrs_list PySem.F.slot_list_extend PySem.F.type_list_extend Ls (pv 1) (Ba (pv 2) Bd)))))
   (Bi (Cd (pv 1))))),?_⟩
 try dsimp only [Cm,By]
 refine Df h (by decide) (Bj (Dp (Dc 0 Bf))
   (Bj (Oh (Cc (top:=3))
    (Tp (Bn Bb Bf)))
   Gu)) (fun ps P hp=>?_)
 clear h hu hu64 hr
 obtain⟨gs,rfl,hl,q⟩:=hp
 walk_at "s"
 ext
 refine⟨fun k ρ=>∃ v2,ρ = [.bo (.lst (gs.map fun g:List Int=>PV.lst (g.map .int))),.ow (.lst ((gs.take k).flatten.map .int)),v2],⟨_,rfl⟩,?_,?_⟩
 ·rintro k p ρ hp ⟨v2,rfl⟩
  rw[getElem?_map] at hp
  obtain⟨g,hk,rfl⟩:=map_eq_some_iff.mp hp
  have e:=Db hk
  ext
  rotate_left
  ·have:=Tf gs (k + 1)
   rw[e,Uk,length_append] at this
   simp only [length_map]
   omega
  exact⟨_,by rw[e,Uk,map_append]⟩
 rintro ρ ⟨v2,rfl⟩
 walk_at "me"
 ext
 exact q
section
variable {α:Type} {ht:Nat->Bool} {m:Nat} {ws:List (List α)} {by':List α}
def rpG {α:Type} (ht:Nat->Bool) (m:Nat) (ws:List (List α)) (by':List α):Nat->Nat->List α
 | 0,_=>[]
 | f + 1,k=>match ws[k]? with
  | none=>[]
  | some w=>if ht k = true then by' ++ rpG ht m ws by' f (k + m) else w ++ rpG ht m ws by' f (k + 1)
theorem AaF (m1:1 <= m):∀ (f f' k:Nat),ws.length - k <= f->ws.length - k <= f'->rpG ht m ws by' f k = rpG ht m ws by' f' k:=by
 have none':∀ f k,ws[k]? = none->rpG ht m ws by' f k = []:=fun f k h=>by
  cases f with
  | zero=>rfl
  | succ f=>rw[rpG,h]
 intro f
 induction f with
 | zero =>
  intro f' k h _
  rw[none' f' k (getElem?_eq_none (show ws.length <= k by omega))]; rfl
 | succ f ih =>
  intro f' k h h'
  cases e:ws[k]? with
  | none=>rw[none' _ k e,none' _ k e]
  | some w =>
   have hk:=(List.getElem?_eq_some_iff.mp e).1
   cases f' with
   | zero=>omega
   | succ f' =>
    rw[rpG,rpG,e]
    show (if ht k = true then _ else _) = if ht k = true then _ else _
    rw[ih f' (k + m) (by omega) (by omega),ih f' (k + 1) (by omega) (by omega)]
def rpR {α:Type} (ht:Nat->Bool) (m:Nat) (ws:List (List α)) (by':List α) (k:Nat):List α:=rpG ht m ws by' (ws.length - k) k
theorem Li {k:Nat} (h:ws.length <= k):rpR ht m ws by' k = []:=by
 unfold rpR
 rw[show ws.length - k = 0 by omega]; rfl
theorem Jz (m1:1 <= m) {k:Nat} (hk:k < ws.length) (h:ht k = true):rpR ht m ws by' k = by' ++ rpR ht m ws by' (k + m):=by
 unfold rpR
 obtain⟨f,hf⟩:∃ f,ws.length - k = f + 1:=⟨ws.length - k - 1,by omega⟩
 rw[hf,rpG,getElem?_eq_getElem hk]
 show (if ht k = true then _ else _) = _
 rw[if_pos h,AaF m1 f (ws.length - (k + m)) (k + m) (by omega) (by omega)]
theorem Ll (m1:1 <= m) {k:Nat} {w:List α} (hk:ws[k]? = some w) (h:ht k = false):rpR ht m ws by' k = w ++ rpR ht m ws by' (k + 1):=by
 unfold rpR
 have hl:=(List.getElem?_eq_some_iff.mp hk).1
 obtain⟨f,hf⟩:∃ f,ws.length - k = f + 1:=⟨ws.length - k - 1,by omega⟩
 rw[hf,rpG,hk]
 show (if ht k = true then _ else _) = _
 rw[h,if_neg (by decide),AaF m1 f (ws.length - (k + 1)) (k + 1) (by omega) (by omega)]
theorem Rt (m1:1 <= m):∀ (d k:Nat),k + d <= ws.length->(∀ i,k <= i->i < k + d->ht i = false)->rpR ht m ws by' k = ((ws.drop k).take d).flatten ++ rpR ht m ws by' (k + d)
 | 0,k,_,_=>rfl
 | d + 1,k,hk,h=>by
  have hl:k < ws.length:=by omega
  rw[Ll m1 (getElem?_eq_getElem hl) (h k (Nat.le_refl _) (by omega)),Rt m1 d (k + 1) (by omega) (fun i h1 h2=>h i (by omega) (by omega)),drop_eq_getElem_cons hl,List.take_succ_cons,flatten_cons,append_assoc,show k + 1 + d = k + (d + 1) by omega]
theorem AaR (m1:1 <= m) {k:Nat} (hk:k <= ws.length) (h:∀ i,k <= i->i < ws.length->ht i = false):rpR ht m ws by' k = (ws.drop k).flatten:=by
 have:=Rt (ht:=ht) (by':=by') (ws:=ws) m1 (ws.length - k) k (by omega) (fun i h1 h2=>h i h1 (by omega))
 rw[this,Li (ws:=ws) (k:=k + (ws.length - k)) (by omega),append_nil,List.take_of_length_le (show (ws.drop k).length <= ws.length - k by rw[length_drop]; exact Nat.le_refl _)]
theorem Ajr (m1:1 <= m):∀ (d k:Nat),ws.length - k = d->(rpR ht m ws by' k).length <= (ws.drop k).flatten.length + by'.length * d:=by
 intro d
 induction d using Nat.strongRecOn with
 | _ d ih =>
  intro k e
  by_cases hk:k < ws.length
  ·have dr:(ws.drop k).flatten.length = ws[k].length + (ws.drop (k + 1)).flatten.length:=by
    rw[drop_eq_getElem_cons hk,flatten_cons,length_append]
   by_cases h:ht k = true
   ·rw[Jz m1 hk h,length_append]
    have:=ih (ws.length - (k + m)) (by omega) (k + m) rfl
    have h2:(ws.drop (k + m)).flatten.length <= (ws.drop k).flatten.length:=by
     have e:(ws.drop k).flatten = ((ws.drop k).take m).flatten ++ ((ws.drop k).drop m).flatten:=by rw[<- List.flatten_append,take_append_drop]
     rw[List.drop_drop] at e
     have:=congrArg length e
     rw[length_append] at this
     omega
    have h3:by'.length * (ws.length - (k + m)) <= by'.length * (d - 1):=Nat.mul_le_mul_left _ (by omega)
    have h4:by'.length * d = by'.length * (d - 1) + by'.length:=by
     obtain⟨c,rfl⟩:∃ c,d = c + 1:=⟨d - 1,by omega⟩
     rw[Nat.mul_succ]; rfl
    omega
   ·rw[Ll m1 (getElem?_eq_getElem hk) (by simpa using h),length_append]
    have:=ih (ws.length - (k + 1)) (by omega) (k + 1) rfl
    have h3:by'.length * (ws.length - (k + 1)) <= by'.length * d:=Nat.mul_le_mul_left _ (by omega)
    omega
  ·rw[Li (by omega)]
   exact zero_le _
end
def htF (LW G:List (List Int)) (k:Nat):Bool:=decide ((LW.drop k).take G.length = G)
theorem Aap {LW G:List (List Int)} (hG:G ≠ []) {k:Nat} (h:htF LW G k = true):k + G.length <= LW.length:=by
 have:=congrArg length (of_decide_eq_true h)
 rw[length_take,length_drop] at this
 have:=List.length_pos_iff.mpr hG
 omega
theorem AbW {LW G:List (List Int)} (hG:G ≠ []) {k:Nat}:k ∈ fdF LW G ↔ htF LW G k = true:=by
 unfold fdF
 rw[mem_filter,mem_range]
 refine⟨fun h=>h.2,fun h=>⟨?_,h⟩⟩
 have:=Aap hG h
 have:=List.length_pos_iff.mpr hG
 omega
theorem AeM (LW G:List (List Int)):(fdF LW G).Pairwise (· < ·):=by
 unfold fdF
 exact Pairwise.filter _ List.pairwise_lt_range
def Fq (W:List Sg) (M:List (Int × Int)) (J:List Jn) (ts us bs:List Int):List Int:=rpR (htF (grp (Be W M) (lng W M J ts)) (grp (Be W M) (lng W M J us))) (grp (Be W M) (lng W M J us)).length (grp (Be W M) ts) bs 0
def Aks:PSp:=fun ps P=>∃ U M J ts us bs,ps = [.bk U M J,.lst (map .int ts),.lst (map .int us),.lst (map .int bs)]/\Da U M J/\ts.length <= 300/\us.length <= 300/\bs.length <= 300/\Fit U M J ts/\Fit U M J us/\us ≠ []/\(Fq U M J ts us bs).length <= 1000/\P (.lst ((Fq U M J ts us bs).map .int))
theorem Ji {α β:Type} {ht:Nat->Bool} {m:Nat} (m1:1 <= m) (A:List (List α)) (B:List α) (φ:α->List β):∀ (d k:Nat),A.length - k = d->(rpR ht m A B k).flatMap φ = rpR ht m (A.map fun a=>a.flatMap φ) (B.flatMap φ) k:=by
 intro d
 induction d using Nat.strongRecOn with
 | _ d ih =>
  intro k e
  by_cases hk:k < A.length
  ·have hk':k < (A.map fun a=>a.flatMap φ).length:=by rw[length_map]; exact hk
   by_cases h:ht k = true
   ·rw[Jz m1 hk h,Jz m1 hk' h,List.flatMap_append,ih (A.length - (k + m)) (by omega) (k + m) rfl]
   ·rw[Ll m1 (getElem?_eq_getElem hk) (by simpa using h),Ll m1 (getElem?_eq_getElem hk') (by simpa using h),List.flatMap_append,ih (A.length - (k + 1)) (by omega) (k + 1) rfl,List.getElem_map]
  ·rw[Li (by omega),Li (by rw[length_map]; omega)]; rfl
theorem Abk {α β:Type} {ht:Nat->Bool} {m:Nat} (m1:1 <= m) (A:List (List α)) (B:List α) (φ:α->β) (k:Nat):(rpR ht m A B k).map φ = rpR ht m (A.map fun a=>a.map φ) (B.map φ) k:=by
 have:=Ji (ht:=ht) m1 A B (fun a=>[φ a]) _ k rfl
 have e:∀ l:List α,l.flatMap (fun a=>[φ a]) = l.map φ:=fun l=>by
  induction l with
  | nil=>rfl
  | cons x r ih=>rw[List.flatMap_cons,ih]; rfl
 rw[e,e] at this
 rw[this]
 congr 2
 funext a
 exact e a
theorem Wx {α:Type} {ht:Nat->Bool} {m:Nat} (m1:1 <= m) {A:List (List α)} {B:List α} {p:α->Prop} (k0:Nat) (hA:∀ k a,k0 <= k->A[k]? = some a->∀ x ∈ a,p x) (hB:(∃ k,k0 <= k/\k < A.length/\ht k = true)->∀ x ∈ B,p x):∀ (d k:Nat),k0 <= k->A.length - k = d->∀ x ∈ rpR ht m A B k,p x:=by
 intro d
 induction d using Nat.strongRecOn with
 | _ d ih =>
  intro k h0 e x hx
  by_cases hk:k < A.length
  ·by_cases h:ht k = true
   ·rw[Jz m1 hk h] at hx
    rcases mem_append.mp hx with hx | hx
    ·exact hB ⟨k,h0,hk,h⟩ x hx
    ·exact ih (A.length - (k + m)) (by omega) (k + m) (by omega) rfl x hx
   ·rw[Ll m1 (getElem?_eq_getElem hk) (by simpa using h)] at hx
    rcases mem_append.mp hx with hx | hx
    ·exact hA k _ h0 (getElem?_eq_getElem hk) x hx
    ·exact ih (A.length - (k + 1)) (by omega) (k + 1) (by omega) rfl x hx
  ·rw[Li (by omega)] at hx; cases hx
theorem Ag2 {LW G:List (List Int)} (hG:G ≠ []):∀ (d k:Nat),LW.length - k = d->rpR (htF LW G) G.length (LW.map fun w=>[w]) G k = LW.drop k:=by
 have m1:=List.length_pos_iff.mpr hG
 intro d
 induction d using Nat.strongRecOn with
 | _ d ih =>
  intro k e
  by_cases hk:k < LW.length
  ·have hk':k < (LW.map fun w=>[w]).length:=by rw[length_map]; exact hk
   by_cases h:htF LW G k = true
   ·rw[Jz m1 hk' h,ih (LW.length - (k + G.length)) (by omega) (k + G.length) rfl]
    have e2:(LW.drop k).take G.length = G:=of_decide_eq_true h
    have e3:=take_append_drop G.length (LW.drop k)
    rw[e2,List.drop_drop] at e3
    exact e3
   ·rw[Ll m1 (getElem?_eq_getElem hk') (by simpa using h),ih (LW.length - (k + 1)) (by omega) (k + 1) rfl,List.getElem_map,drop_eq_getElem_cons hk]; rfl
  ·rw[Li (by rw[length_map]; omega),drop_of_length_le (by omega)]
theorem AbG {V:List (List Int)} {us:List Int} {q:List Int->Bool} {ht:Nat->Bool} (hq:∀ k v,V[k]? = some v->ht k = q v):∀ (d k:Nat),V.length - k = d->rpR ht 1 V us k = (V.drop k).flatMap fun v=>if q v = true then us else v
 | 0,k,e=>by
  rw[Li (by omega),drop_of_length_le (by omega)]; rfl
 | d + 1,k,e=>by
  have hk:k < V.length:=by omega
  have hv:=getElem?_eq_getElem hk
  rw[drop_eq_getElem_cons hk,List.flatMap_cons,<- AbG hq d (k + 1) (by omega)]
  by_cases h:q V[k] = true
  ·rw[Jz (Nat.le_refl 1) hk (by rw[hq k _ hv]; exact h),if_pos h]
  ·rw[Ll (Nat.le_refl 1) hv (by rw[hq k _ hv]; simpa using h),if_neg h]
theorem AjC {L:List (List Int)} {g:List Int}:(fdF L [g]).length = (L.filter fun v=>decide (v = g)).length:=by
 unfold fdF
 have e:(range L.length).filter (fun k=>decide ((L.drop k).take [g].length = [g])) = (range L.length).filter ((fun v=>decide (v = g)) ∘ fun k=>L.getD k []):=List.filter_congr fun k hk=>by
  have hk:=mem_range.mp hk
  refine decide_eq_decide.mpr ?_
  show _ ↔ L.getD k [] = g
  rw[drop_eq_getElem_cons hk,show [g].length = 1 from rfl,List.take_succ_cons,List.take_zero,show L.getD k [] = L[k] by simp [hk]]
  exact⟨fun h=>(List.cons.inj h).1,fun h=>by rw[h]⟩
 rw[e]
 have e2:(range L.length).map (fun k=>L.getD k []) = L:=by
  refine ext_getElem? fun j=>?_
  rw[getElem?_map]
  by_cases h:j < L.length
  ·rw[getElem?_range h]
   simp [h]
  ·rw[getElem?_eq_none (by rw[length_range]; omega),getElem?_eq_none (by omega)]; rfl
 conv=>rhs; rw[<- e2,List.filter_map,length_map]
section
variable {W:List Sg} {M:List (Int × Int)} {J:List Jn}
structure Str75 (W:List Sg) (M:List (Int × Int)) (J:List Jn) (s:Int):Prop where
 mb:Be W M s = false
 pr:Cl J s = none
 ba:∀ j ∈ J,j.2.1 ≠ s/\j.2.2 ≠ s
theorem Str75.opn {s:Int} (h:Str75 W M J s):∀ (n:Nat) (x:Int),x ≠ s->¬ s ∈ My.opn J n x
 | 0,x,hx,z=>hx (mem_singleton.mp z).symm
 | n + 1,x,hx,z=>by
  cases e:Cl J x with
  | none =>
   rw[Fg e] at z
   exact hx (mem_singleton.mp z).symm
  | some b =>
   have hb:=h.ba _ (Fx e)
   rw[Jc e] at z
   rcases mem_append.mp z with z | z
   ·exact h.opn n b.1 hb.1 z
   ·exact hb.2 (mem_singleton.mp z).symm
theorem Str75.self {s:Int} (h:Str75 W M J s):Ca W J [s] = [s]:=by
 unfold Ca
 rw[Fw,Fg h.pr]; rfl
theorem Str75.ne {s:Int} (h:Str75 W M J s) {w:List Int} (hs:¬ s ∈ w):¬ Ca W J w = [s]:=fun z=>by
 have:s ∈ Ca W J w:=by rw[z]; exact .head _
 unfold Ca at this
 have:=srt_mem.mp this
 unfold opT at this
 obtain⟨x,hx,h2⟩:=List.mem_flatMap.mp this
 exact h.opn 7 x (fun e=>hs (e ▸ hx)) h2
theorem Ahf {ts:List Int} {B:List (List Int)} {ht:Nat->Bool} {m:Nat} (m1:1 <= m) (gB:GW (Be W M) B) (hB:(∃ k,1 <= k/\k < (grp (Be W M) ts).length/\ht k = true)->∀ g ∈ B,∃ n r,g = n :: r/\Be W M n = false):GW (Be W M) (rpR ht m ((grp (Be W M) ts).map fun w=>[w]) B 0):=by
 have gw:=Su (Be W M) ts
 generalize grp (Be W M) ts = ws at gw hB
 have at1:∀ {k a},(ws.map fun w=>[w])[k]? = some a->∃ w,ws[k]? = some w/\a = [w]:=fun {k a} h=>by
  rw[getElem?_map] at h
  obtain⟨w,hw,e⟩:=map_eq_some_iff.mp h
  exact⟨w,hw,e.symm⟩
 have ne:∀ x ∈ rpR ht m (ws.map fun w=>[w]) B 0,∃ n r,x = n :: r/\∀ m ∈ r,Be W M m = true:=Wx m1 0 (fun k a _ ha x hx=>by
  obtain⟨w,hw,rfl⟩:=at1 ha
  rw[mem_singleton.mp hx]
  exact gw.ne w (mem_of_getElem? hw)) (fun _ x hx=>gB.ne x hx) _ 0 (Nat.le_refl _) rfl
 have hd:∀ k,1 <= k->∀ x ∈ rpR ht m (ws.map fun w=>[w]) B k,∃ n r,x = n :: r/\Be W M n = false:=fun k h1=>Wx m1 1 (fun k a h0 ha x hx=>by
  obtain⟨w,hw,rfl⟩:=at1 ha
  rw[mem_singleton.mp hx]
  exact gw.hd k w hw (by omega)) (fun⟨k,h0,h2,h3⟩ x hx=>hB ⟨k,h0,by rw[length_map] at h2; exact h2,h3⟩ x hx) _ k h1 rfl
 refine⟨ne,fun i g hg hi=>?_⟩
 by_cases h0:0 < ws.length
 ·have h0':0 < (ws.map fun w=>[w]).length:=by rw[length_map]; exact h0
  by_cases h:ht 0 = true
  ·rw[Jz m1 h0' h,Nat.zero_add] at hg
   by_cases hl:i < B.length
   ·rw[getElem?_append_left hl] at hg
    exact gB.hd i g hg hi
   ·rw[getElem?_append_right (by omega)] at hg
    exact hd m m1 g (mem_of_getElem? hg)
  ·rw[Ll m1 (getElem?_eq_getElem h0') (by simpa using h),List.getElem_map] at hg
   obtain⟨j,rfl⟩:∃ j,i = j + 1:=⟨i - 1,by omega⟩
   rw[show ([ws[0]] ++ rpR ht m (ws.map fun w=>[w]) B (0 + 1))[j + 1]? = (rpR ht m (ws.map fun w=>[w]) B (0 + 1))[j]? from rfl] at hg
   exact hd 1 (Nat.le_refl _) g (mem_of_getElem? hg)
 ·rw[Li (by rw[length_map]; omega)] at hg
  simp at hg
theorem Af7 (l:List (List Int)):(l.map fun w=>[w]).map (fun a=>a.flatMap fun x=>x) = l:=by
 rw[map_map]
 conv=>rhs; rw[<- List.map_id l]
 refine List.map_congr_left fun w _=>?_
 show w ++ [] = w
 exact append_nil w
def nhF (ht:Nat->Bool) (m n k:Nat):Nat:=(rpR ht m (replicate n ([]:List Int)) [0] k).length
theorem Akb (bk:Da W M J) {s:Int} (hs:Str75 W M J s) {ts us:List Int} (ns:¬ s ∈ ts) (un:us ≠ []) :
  grp (Be W M) (Fq W M J ts us [s]) = rpR (htF (grp (Be W M) (lng W M J ts)) (grp (Be W M) (lng W M J us))) (grp (Be W M) (lng W M J us)).length ((grp (Be W M) ts).map fun w=>[w]) [[s]] 0 /\
  ((Fq W M J ts us [s]).filter fun x=>decide (x = s)).length = nhF (htF (grp (Be W M) (lng W M J ts)) (grp (Be W M) (lng W M J us))) (grp (Be W M) (lng W M J us)).length (grp (Be W M) ts).length 0 /\
  (fdF (grp (Be W M) (lng W M J (Fq W M J ts us [s]))) (grp (Be W M) (lng W M J [s]))).length = nhF (htF (grp (Be W M) (lng W M J ts)) (grp (Be W M) (lng W M J us))) (grp (Be W M) (lng W M J us)).length (grp (Be W M) ts).length 0 /\
  lng W M J (Fq W M J (Fq W M J ts us [s]) [s] us) = lng W M J ts:=by
 have gn:grp (Be W M) (lng W M J us) ≠ []:=fun z=>un ((Ov bk).mp (grp_ne.mp z))
 have m1:=List.length_pos_iff.mpr gn
 have gl:=Ft bk ts
 have gu:=Ft bk us
 have go:=Dd (Be W M) ts
 have sw:∀ w ∈ grp (Be W M) ts,¬ s ∈ w:=fun w hw z=>ns (by rw[<- go.fl]; exact List.mem_flatten.mpr ⟨w,hw,z⟩)
 have g1:grp (Be W M) [s] = [[s]]:=AdY fun m hm=>by cases hm
 have l1:lng W M J [s] = [s]:=by
  unfold lng
  rw[g1]
  show Ca W J [s] ++ [] = [s]
  rw[hs.self]; rfl
 have hdB:(∃ k,1 <= k/\k < (grp (Be W M) ts).length/\htF (grp (Be W M) (lng W M J ts)) (grp (Be W M) (lng W M J us)) k = true)->∀ g ∈ grp (Be W M) us,∃ n r,g = n :: r/\Be W M n = false:=fun⟨k,k1,k2,k3⟩ g hg=>by
  obtain⟨i,hi⟩:=getElem?_of_mem hg
  by_cases i0:0 < i
  ·exact (Dd (Be W M) us).hd i g hi i0
  ·have i0:i = 0:=by omega
   subst i0
   have e:((grp (Be W M) (lng W M J ts)).drop k).take (grp (Be W M) (lng W M J us)).length = grp (Be W M) (lng W M J us):=of_decide_eq_true k3
   have e0:=congrArg (fun l:List (List Int)=>l[0]?) e
   have e0:(((grp (Be W M) (lng W M J ts)).drop k).take (grp (Be W M) (lng W M J us)).length)[0]? = (grp (Be W M) (lng W M J us))[0]?:=e0
   rw[getElem?_take,if_pos m1,List.getElem?_drop,Nat.add_zero,gl,gu,getElem?_map,getElem?_map,hi,getElem?_eq_getElem k2] at e0
   have e0:Ca W J (grp (Be W M) ts)[k] = Ca W J g:=Option.some.inj e0
   obtain⟨n,r,en,hn⟩:=go.hd k _ (getElem?_eq_getElem k2) (by omega)
   obtain⟨n1,r1,en1,hr1⟩:=go.ne _ (getElem_mem k2)
   obtain⟨n2,r2,en2,hr2⟩:=(Dd (Be W M) us).ne g hg
   rw[en1] at en
   obtain⟨rfl,rfl⟩:=List.cons.inj en
   obtain⟨a,ra,ea,_,ma⟩:=Qr bk (n:=n1) hr1
   obtain⟨b,rb,eb,_,mb⟩:=Qr bk (n:=n2) hr2
   rw[en1,en2,ea,eb] at e0
   obtain⟨rfl,_⟩:=List.cons.inj e0
   exact⟨n2,r2,en2,by rw[<- mb,ma]; exact hn⟩
 have gw1:GW (Be W M) [[s]]:=by rw[<- g1]; exact Su _ _
 have V1:=Ahf (W:=W) (M:=M) (ts:=ts) (ht:=htF (grp (Be W M) (lng W M J ts)) (grp (Be W M) (lng W M J us))) m1 gw1 (fun _ g hg=>⟨s,[],mem_singleton.mp hg,hs.mb⟩)
 have V2:=Ahf (W:=W) (M:=M) (ts:=ts) (ht:=htF (grp (Be W M) (lng W M J ts)) (grp (Be W M) (lng W M J us))) m1 (Su (Be W M) us) hdB
 have f1:=Ji (ht:=htF (grp (Be W M) (lng W M J ts)) (grp (Be W M) (lng W M J us))) m1 ((grp (Be W M) ts).map fun w=>[w]) [[s]] (fun x=>x) _ 0 rfl
 have f2:=Ji (ht:=htF (grp (Be W M) (lng W M J ts)) (grp (Be W M) (lng W M J us))) m1 ((grp (Be W M) ts).map fun w=>[w]) (grp (Be W M) us) (fun x=>x) _ 0 rfl
 rw[Af7] at f1 f2
 have r1:=Ww V1
 have r2:=Ww V2
 have e1:(rpR (htF (grp (Be W M) (lng W M J ts)) (grp (Be W M) (lng W M J us))) (grp (Be W M) (lng W M J us)).length ((grp (Be W M) ts).map fun w=>[w]) [[s]] 0).flatten = Fq W M J ts us [s]:=by
  rw[<- List.flatMap_id']; exact f1
 have e2:(rpR (htF (grp (Be W M) (lng W M J ts)) (grp (Be W M) (lng W M J us))) (grp (Be W M) (lng W M J us)).length ((grp (Be W M) ts).map fun w=>[w]) (grp (Be W M) us) 0).flatten = Fq W M J ts us us:=by
  rw[<- List.flatMap_id',f2]
  have:(grp (Be W M) us).flatMap (fun x=>x) = us:=by rw[List.flatMap_id']; exact (Dd (Be W M) us).fl
  rw[this]; rfl
 rw[e1] at r1
 rw[e2] at r2
 have cnt:∀ {α:Type} (B:List α) (k:Nat),B.length = 1->(rpR (htF (grp (Be W M) (lng W M J ts)) (grp (Be W M) (lng W M J us))) (grp (Be W M) (lng W M J us)).length ((grp (Be W M) ts).map fun _=>([]:List α)) B k).length = nhF (htF (grp (Be W M) (lng W M J ts)) (grp (Be W M) (lng W M J us))) (grp (Be W M) (lng W M J us)).length (grp (Be W M) ts).length k:=fun {α} B k hB=>by
  have:=congrArg length (Abk (ht:=htF (grp (Be W M) (lng W M J ts)) (grp (Be W M) (lng W M J us))) m1 ((grp (Be W M) ts).map fun _=>([]:List α)) B (fun _=>(0:Int)) k)
  rw[length_map,map_map] at this
  rw[this]
  unfold nhF
  rw[show B.map (fun _=>(0:Int)) = [0] by
   match B,hB with
   | [_],_=>rfl]
  congr 2
  rw[<- List.map_const']
  rfl
 refine⟨r1,?_,?_,?_⟩
 ·have fl:=Ji (ht:=htF (grp (Be W M) (lng W M J ts)) (grp (Be W M) (lng W M J us))) m1 (grp (Be W M) ts) [s] (fun x=>if x = s then [x] else []) _ 0 rfl
  have fe:∀ l:List Int,l.flatMap (fun x=>if x = s then [x] else []) = l.filter fun x=>decide (x = s):=fun l=>by
   induction l with
   | nil=>rfl
   | cons x r ih =>
    rw[List.flatMap_cons,ih]
    by_cases h:x = s
    ·rw[if_pos h,filter_cons_of_pos (by simpa using h)]; rfl
    ·rw[if_neg h,filter_cons_of_neg (by simpa using h)]; rfl
  rw[fe,fe] at fl
  have z:(grp (Be W M) ts).map (fun a=>a.flatMap fun x=>if x = s then [x] else []) = (grp (Be W M) ts).map fun _=>[]:=List.map_congr_left fun w hw=>by
   rw[fe]
   exact List.filter_eq_nil_iff.mpr fun x hx h=>sw w hw (by have:=of_decide_eq_true h; rw[<- this]; exact hx)
  rw[z] at fl
  have fl:(Fq W M J ts us [s]).filter (fun x=>decide (x = s)) = _:=fl
  rw[fl]
  exact cnt _ 0 (by rw[filter_cons_of_pos (by simp)]; rfl)
 ·rw[Ft bk,r1,l1,g1,AjC]
  have fl:=Ji (ht:=htF (grp (Be W M) (lng W M J ts)) (grp (Be W M) (lng W M J us))) m1 ((grp (Be W M) ts).map fun w=>[w]) [[s]] (fun v=>if Ca W J v = [s] then [Ca W J v] else []) _ 0 rfl
  have fe:∀ l:List (List Int),l.flatMap (fun v=>if Ca W J v = [s] then [Ca W J v] else []) = (l.map (Ca W J)).filter fun x=>decide (x = [s]):=fun l=>by
   induction l with
   | nil=>rfl
   | cons x r ih =>
    rw[List.flatMap_cons,ih,map_cons]
    by_cases h:Ca W J x = [s]
    ·rw[if_pos h,filter_cons_of_pos (by simpa using h)]; rfl
    ·rw[if_neg h,filter_cons_of_neg (by simpa using h)]; rfl
  rw[fe,fe] at fl
  have z:((grp (Be W M) ts).map fun w=>[w]).map (fun a=>a.flatMap fun v=>if Ca W J v = [s] then [Ca W J v] else []) = (grp (Be W M) ts).map fun _=>[]:=by
   rw[map_map]
   refine List.map_congr_left fun w hw=>?_
   show (if Ca W J w = [s] then [Ca W J w] else []) ++ [] = []
   rw[if_neg (hs.ne (sw w hw))]; rfl
  rw[z] at fl
  rw[fl]
  exact cnt _ 0 (by rw[map_cons,hs.self,filter_cons_of_pos (by simp)]; rfl)
 ·have again:Fq W M J (Fq W M J ts us [s]) [s] us = Fq W M J ts us us:=by
   show rpR (htF (grp (Be W M) (lng W M J (Fq W M J ts us [s]))) (grp (Be W M) (lng W M J [s]))) (grp (Be W M) (lng W M J [s])).length (grp (Be W M) (Fq W M J ts us [s])) us 0 = _
   rw[Ft bk (Fq W M J ts us [s]),r1,l1,g1]
   generalize hV:rpR (htF (grp (Be W M) (lng W M J ts)) (grp (Be W M) (lng W M J us))) (grp (Be W M) (lng W M J us)).length ((grp (Be W M) ts).map fun w=>[w]) [[s]] 0 = V
   have one:=AbG (V:=V) (us:=us) (q:=fun v=>decide (Ca W J v = [s])) (ht:=htF (V.map (Ca W J)) [[s]]) (fun k v hv=>by
    refine decide_eq_decide.mpr ?_
    have hk:=(List.getElem?_eq_some_iff.mp hv).1
    have hk2:k < (V.map (Ca W J)).length:=by rw[length_map]; exact hk
    rw[drop_eq_getElem_cons hk2,show [[s]].length = 1 from rfl,List.take_succ_cons,List.take_zero,List.getElem_map,(List.getElem?_eq_some_iff.mp hv).2]
    exact⟨fun h=>(List.cons.inj h).1,fun h=>by rw[h]⟩) _ 0 rfl
   rw[show [[s]].length = 1 from rfl,one,List.drop_zero,<- hV]
   have fl:=Ji (ht:=htF (grp (Be W M) (lng W M J ts)) (grp (Be W M) (lng W M J us))) m1 ((grp (Be W M) ts).map fun w=>[w]) [[s]] (fun v=>if decide (Ca W J v = [s]) = true then us else v) _ 0 rfl
   rw[fl]
   have z:((grp (Be W M) ts).map fun w=>[w]).map (fun a=>a.flatMap fun v=>if decide (Ca W J v = [s]) = true then us else v) = grp (Be W M) ts:=by
    rw[map_map]
    conv=>rhs; rw[<- List.map_id (grp (Be W M) ts)]
    refine List.map_congr_left fun w hw=>?_
    show (if decide (Ca W J w = [s]) = true then us else w) ++ [] = w
    rw[if_neg (fun h=>hs.ne (sw w hw) (of_decide_eq_true h)),append_nil]
   rw[z,show [[s]].flatMap (fun v=>if decide (Ca W J v = [s]) = true then us else v) = us by
    show (if decide (Ca W J [s] = [s]) = true then us else [s]) ++ [] = us
    rw[if_pos (decide_eq_true hs.self),append_nil]]
   rfl
  rw[again]
  have lw:(grp (Be W M) (Fq W M J ts us us)).map (Ca W J) = grp (Be W M) (lng W M J ts):=by
   rw[r2,Abk m1]
   have z:((grp (Be W M) ts).map fun w=>[w]).map (fun a=>a.map (Ca W J)) = (grp (Be W M) (lng W M J ts)).map fun w=>[w]:=by
    rw[gl,map_map,map_map]; rfl
   rw[z,<- gu]
   exact Ag2 gn _ 0 rfl
  have fin:=congrArg List.flatten lw
  rw[(Dd (Be W M) (lng W M J ts)).fl,<- List.flatMap_def] at fin
  exact fin
end
theorem Ail (T:Txt K mg t):Binds K t.d_qbu ["book","text","what","by"] []:=T.F_qbu.binds (by walk_at "b4")
theorem AdR (T:Txt K mg t):FnOk P w K mg base CX0 7 t.f_qbu t.d_qbu ["book","text","what","by"] (spOf K t.C_Book [false,false,false,false] .fr Aks):=by
 refine T.F_qbu.ok sc_qbu (fun vs H Q E h=>h.len) (fun cdv A outer s H vs Q E hr h=>?_)
 have hu:=Cy hr
 have hu64:=hr.units
 refine⟨_,(Bc (Bo (i:=4) sc_qbu.nd rfl (Or.inl rfl) (Bm (Sn T) (hr.mono (by decide)) rfl T.m_qbl T.F_qbl.kp (Wp T) .nil Br (Ba (pv 0) (Ba (pv 1) Bd))))
   (Bc (Bo (i:=5) sc_qbu.nd rfl (Or.inl rfl) (Ch (Ce K) rfl T.z_len PySem.boot_len (Ba (Bm (Sn T) (hr.mono (by decide)) rfl T.m_qbl T.F_qbl.kp (Wp T) .nil Br (Ba (pv 0) (Ba (pv 2) Bd))) Bd)))
   (Bc (Bo (i:=6) sc_qbu.nd rfl (Or.inl rfl) (Cn Bd))
   (Bc (Bo (i:=7) sc_qbu.nd rfl (Or.inl rfl) Bg)
   (Bc (Dj PassesOwn.never rfl (Cs (Bm (Qq T) (hr.mono (by decide)) rfl T.m_qbo T.F_qbo.kp (Tv T) .nil Br (Ba (pv 0) (Ba (pv 1) (Ba (pv 2) Bd))))) (Bq (i:=8) sc_qbu.nd rfl (Or.inl rfl))
    (Bi (Dx (Cr Zk (pv 8) (pv 7) (Co _))
    (Bc (Cj (Fv plainAttrs_list PySem.F.slot_list_extend PySem.F.type_list_extend Ls (pv 6) (Ba (Bm (Afn T) (hr.mono (by decide)) rfl T.m_qbv T.F_qbv.kp (Ah2 T) .nil Br (Ba (Dh (Di K) (pv 4) (Cw (pv 7)) (Cw (pv 8))) Bd)) Bd)))
   (Bc (Cj (Fv plainAttrs_list PySem.F.slot_list_extend PySem.F.type_list_extend Ls (pv 6) (Ba (pv 3) Bd)))
   (Bi (Bo (i:=7) sc_qbu.nd rfl (Or.inl rfl) (Bs Gb (pv 8) (pv 5))))))
    Dg)))
   (Bi (Cd (Bs Fu (pv 6) (Bm (Afn T) (hr.mono (by decide)) rfl T.m_qbv T.F_qbv.kp (Ah2 T) .nil Br (Ba (Dh (Di K) (pv 4) (Cw (pv 7)) Fi) Bd)))))))))),?_⟩
 try dsimp only [Cm,By]
 refine Df h (by decide) (Bj (Bz (Tt (Bn Bb (Bn Bb Bf))))
   (Bj (Bz (Dv (Bn (EU.eb (Tt (Bn Bb (Bn Bb Bf)))) Bf)))
   (Bj (Dp (Dc 0 Bf))
   (Bj (Bz Bh)
   (Bj (Jx (EF.eu (Ct (Bn Bb (Bn Bb (Bn Bb Bf))))) (Cc (top:=9))
    (Fr (Du (EU.eb (Fs (fun _ _ _=>.bl _) Bb Bb)))
    (Bj (Tp (Bn (EF.eb (Ct (Bn (EF.eb (Fa Bb (Cz Bb) (Cz Bb))) Bf))) Bf))
   (Bj (Tp (Bn Bb Bf))
   (Bz (Fs (fun _ _ _=>.int _) Bb Bb))))
    Ds))
   (Gs (Gh Bb (EF.eb (Ct (Bn (EF.eb (Fa Bb (Cz Bb) Fj)) Bf)))))))))) (fun ps P hp=>?_)
 clear h hu hu64 hr
 obtain⟨U,M,J,ts,us,bs,rfl,bk,h1,h2,h3,f1,f2,un,rl,q⟩:=hp
 walk_at "s"
 ext1
 refine Dy ?_
 ext1
 refine⟨U,M,J,ts,rfl,h1,?_⟩
 ext1
 refine Dy ?_
 ext1
 refine⟨U,M,J,us,rfl,h2,?_⟩
 ext1
 refine Dy ?_
 ext1
 refine Dy ?_
 ext1
 refine Dy ?_
 ext1
 refine⟨U,M,J,ts,us,rfl,bk,h1,h2,f1,f2,un,?_⟩
 have gl1:(grp (Be U M) (lng U M J us)).length = (grp (Be U M) us).length:=by rw[Ft bk,length_map]
 have gl2:(grp (Be U M) (lng U M J ts)).length = (grp (Be U M) ts).length:=by rw[Ft bk,length_map]
 have gn:grp (Be U M) (lng U M J us) ≠ []:=fun z=>un ((Ov bk).mp (grp_ne.mp z))
 unfold Fq at rl q
 have up:=AeM (grp (Be U M) (lng U M J ts)) (grp (Be U M) (lng U M J us))
 have fm:∀ k,k ∈ fdF (grp (Be U M) (lng U M J ts)) (grp (Be U M) (lng U M J us)) ↔ htF (grp (Be U M) (lng U M J ts)) (grp (Be U M) (lng U M J us)) k = true:=fun k=>AbW gn
 have fk:∀ k,htF (grp (Be U M) (lng U M J ts)) (grp (Be U M) (lng U M J us)) k = true->k + (grp (Be U M) (lng U M J us)).length <= (grp (Be U M) ts).length:=fun k h=>by rw[<- gl2]; exact Aap gn h
 have m1:=List.length_pos_iff.mpr gn
 have wl:=(Dd (Be U M) ts).ln
 have wf:=(Dd (Be U M) ts).fl
 have flat:∀ a b,(((grp (Be U M) ts).drop a).take b).flatten.length <= 300:=fun a b=>by
  have e1:(grp (Be U M) ts).flatten = ((grp (Be U M) ts).take a).flatten ++ ((grp (Be U M) ts).drop a).flatten:=by rw[<- List.flatten_append,take_append_drop]
  have e2:((grp (Be U M) ts).drop a).flatten = (((grp (Be U M) ts).drop a).take b).flatten ++ (((grp (Be U M) ts).drop a).drop b).flatten:=by rw[<- List.flatten_append,take_append_drop]
  have z1:=congrArg length e1
  have z2:=congrArg length e2
  rw[wf,length_append] at z1
  rw[length_append] at z2
  omega
 dsimp only
 ext1
 rw[show ((grp (Be U M) us).map fun g:List Int=>PV.lst (g.map .int)).length = (grp (Be U M) (lng U M J us)).length by rw[length_map,gl1]]
 generalize fdF (grp (Be U M) (lng U M J ts)) (grp (Be U M) (lng U M J us)) = fd at up fm
 generalize htF (grp (Be U M) (lng U M J ts)) (grp (Be U M) (lng U M J us)) = ht at rl q fm fk
 generalize (grp (Be U M) (lng U M J us)).length = m at rl q fk m1
 generalize grp (Be U M) ts = ws at rl q fk wl flat
 refine⟨fun n ρ=>∃ (S:List Int) (d:Nat) (v8:Sl),ρ = [.bo (.bk U M J),.bo (.lst (ts.map .int)),.bo (.lst (us.map .int)),.bo (.lst (bs.map .int)),.sh (.lst (ws.map fun g:List Int=>.lst (g.map .int))),.sh (.int (m:Int)),.ow (.lst (S.map .int)),.sh (.int (d:Int)),v8]/\S ++ rpR ht m ws bs d = rpR ht m ws bs 0/\d <= ws.length/\∀ k,ht k = true->d <= k->k ∈ fd.drop n,⟨[],0,_,rfl,rfl,zero_le _,fun k h _=>(fm k).mpr h⟩,?_,?_⟩
 ·rintro n p ρ hp ⟨S,d,v8,rfl,hS,hd,hr⟩
  rw[getElem?_map] at hp
  obtain⟨k,hk,rfl⟩:=map_eq_some_iff.mp hp
  have hkt:=(fm k).mp (mem_of_getElem? hk)
  have dn:fd.drop n = k :: fd.drop (n + 1):=by obtain⟨a,b⟩:=List.getElem?_eq_some_iff.mp hk; rw[drop_eq_getElem_cons a,b]
  have up2:(k :: fd.drop (n + 1)).Pairwise (· < ·):=by rw[<- dn]; exact up.sublist (List.drop_sublist _ _)
  have hks:=fk k hkt
  rw[dn] at hr
  have Sl:S.length <= 1000:=by
   have:=congrArg length hS
   rw[length_append] at this
   omega
  ext
  by_cases h:d <= k
  ·rw[decide_eq_true (show (d:Int) <= (k:Int) by omega)]
   have sk:=Rt (ht:=ht) (by':=bs) (ws:=ws) m1 (k - d) d (by omega) (fun i i1 i2=>by
    cases e:ht i with
    | false=>rfl
    | true =>
     rcases mem_cons.mp (hr i e i1) with z | z
     ·omega
     ·have:=(List.pairwise_cons.mp up2).1 i z
      omega)
   rw[show d + (k - d) = k by omega,Jz m1 (by omega) hkt] at sk
   have cm:=Aav (ws.map fun g:List Int=>PV.lst (g.map .int)) d (k - d)
   rw[show (d:Int) + ((k - d:Nat):Int) = (k:Int) by omega,<- List.map_drop,<- map_take] at cm
   ext
   rw[cm]
   have fl:=flat d (k - d)
   refine⟨(ws.drop d).take (k - d),rfl,by omega,?_⟩
   ext
   all_goals try (simp only [length_append,length_map]; omega)
   refine⟨S ++ ((ws.drop d).take (k - d)).flatten ++ bs,k + m,_,by rw[map_append,map_append,Int.natCast_add],?_,by omega,fun i hi hik=>?_⟩
   ·rw[<- hS,sk]
    simp only [append_assoc]
   ·rcases mem_cons.mp (hr i hi (by omega)) with z | z
    ·omega
    ·exact z
  ·rw[decide_eq_false (show ¬ (d:Int) <= (k:Int) by omega)]
   ext
   refine⟨S,d,_,rfl,hS,hd,fun i hi hik=>?_⟩
   rcases mem_cons.mp (hr i hi hik) with z | z
   ·omega
   ·exact z
 rintro ρ ⟨S,d,v8,rfl,hS,hd,hr⟩
 rw[length_map,List.drop_length] at hr
 have Sl:S.length <= 1000:=by
  have:=congrArg length hS
  rw[length_append] at this
  omega
 have rr:=AaR (ht:=ht) (by':=bs) m1 hd (fun i h1 h2=>by
  cases e:ht i with
  | false=>rfl
  | true=>exact absurd (hr i e h1) (by simp))
 rw[rr] at hS
 have fl:=flat d ws.length
 rw[List.take_of_length_le (by rw[length_drop]; omega)] at fl
 ext
 rw[Dr,Ui]
 refine⟨ws.drop d,rfl,by omega,?_⟩
 ext
 rotate_left
 ·rw[length_map,length_map]; omega
 rw[<- map_append,hS]
 exact q
def Alt:PSp:=fun ps P=>∃ (f:Nat->Int) (W:List Sg) (M:List (Int × Int)) (J:List Jn) (ts cs:List Int) (c:Int),ps = [.tup [.lst ((range 28).map fun k=>.int (f k)),.lst (W.map sgP),.lst (M.map prP),.lst (J.map jnP)],.dk (kkD W M),.lst (ts.map .int),.lst (cs.map .int),.int c]/\Da W M J/\ts.length <= 60/\FitB W M J 60 ts/\cs.length <= 60/\∀ us:List Int,us ≠ []->FitB W M J 61 us->us.length <= 100->(lng W M J us).length <= 200->P (.lst (us.map .int))
theorem Am5 (T:Txt K mg t):Binds K t.d_qbt ["_law_lists_here","_law_words_here","_law_signs_here","_law_cells","_law_cell"] []:=T.F_qbt.binds fun _ _ _ _ _ _ us hl=>match us,hl with | [_,_,_,_,_],_=>rfl
theorem AlL (T:Txt K mg t):FnOk P w K mg base CX0 2 t.f_qbt t.d_qbt ["_law_lists_here","_law_words_here","_law_signs_here","_law_cells","_law_cell"] (spOf K t.C_Book [false,false,true,true,true] .fr Alt):=by
 refine T.F_qbt.ok sc_qbt (fun vs H Q E h=>h.len) (fun cdv A outer s H vs Q E hr h=>?_)
 have hu:=Cy hr
 have hu64:=hr.units
 refine⟨_,(Bc (Bo (i:=5) sc_qbt.nd rfl (Or.inl rfl) (Bm (AcV T) (hr.mono (by decide)) rfl T.m_qs T.F_qs.kp (Agy T) .nil Br (Ba (pv 1) (Ba (pv 2) Bd))))
   (Bc (Dx (PW.pt (Wc (Cr (Ng K hu64) (pv 5) (Cn Bd) (Co _)) (Sv (Cr Gi (Bs Dm (pv 4) Bg) Bg (Co _)))))
    (Bi (Cd (Dh (Di K) (Cn (Ba (Ck (Cq K) (Ck (Dt K) (pv 0) Bg (fun _ _=>rfl)) (Bs Dm (Bs Fd (pv 4) Bg) Bg) (fun _ _=>rfl)) (Ba (Ck (Cq K) (Ck (Dt K) (pv 0) Bg (fun _ _=>rfl)) (Bs Dm (Bs Fd (pv 4) Bg) Bg) (fun _ _=>rfl)) Bd))) Fi (Cw (Bs Gb Bg (Bs Dm (Bs Fd (pv 4) Bg) Bg))))))
    Dg)
   (Bc (Bo (i:=6) sc_qbt.nd rfl (Or.inl rfl) (Bs Dm (Bs Fd (pv 4) Bg) (Ch (Ce K) rfl T.z_len PySem.boot_len (Ba (pv 5) Bd))))
   (Bc (Bo (i:=7) sc_qbt.nd rfl (Or.inl rfl) (Cn Bd))
   (Bc (Dj PassesOwn.never rfl (Cs (Dh (Di K) (pv 5) (Cw (pv 6)) (Cw (Bs Gb (Bs Gb (pv 6) Bg) (Bs Dm (Bs Fd (pv 4) Bg) Bg))))) (Bq (i:=8) sc_qbt.nd rfl (Or.inl rfl))
    (Bi (Bo (i:=7) sc_qbt.nd rfl (Or.inl rfl) (Bs Fu (pv 7) (pv 8)))))
   (Bc (Dj PassesOwn.never rfl (Cs (pv 3)) (Bq (i:=9) sc_qbt.nd rfl (Or.inl rfl))
    (Bi (Bo (i:=7) sc_qbt.nd rfl (Or.inl rfl) (Bm (AmJ T) (hr.mono (by decide)) rfl T.m_qh T.F_qh.kp (Aoi T) .nil Br (Ba (pv 0) (Ba (pv 7) (Ba (pv 9) Bd)))))))
   (Bi (Cd (pv 7))))))))),?_⟩
 try dsimp only [Cm,By]
 refine Df h (by decide) (Bj (Bz (Aa5 (Bn Bb (Bn Bb Bf))))
   (Bj (Fr (Zj (Du (EU.eb (Jh Bb (EF.eb (Dc 0 Bf))))) (Du (EU.eb (Lf (EU.eb (Cv (fun _ _ _=>.int _) Bb (EU.eb Bh))) (EU.eb Bh)))))
    (Gs (Fa (EF.eb (Dc 2 (Bv (De (EU.eb (Ff Bb (EU.eb Bh))) (EU.eb (Cv (fun _ _ _=>.int _) (EU.eb (Cv (fun _ _ _=>.int _) Bb (EU.eb Bh))) (EU.eb Bh)))) (Bv (De (EU.eb (Ff Bb (EU.eb Bh))) (EU.eb (Cv (fun _ _ _=>.int _) (EU.eb (Cv (fun _ _ _=>.int _) Bb (EU.eb Bh))) (EU.eb Bh)))) Bf)))) Fj (Cz (EU.eb (Fs (fun _ _ _=>.int _) (EU.eb Bh) (EU.eb (Cv (fun _ _ _=>.int _) (EU.eb (Cv (fun _ _ _=>.int _) Bb (EU.eb Bh))) (EU.eb Bh))))))))
    Ds)
   (Bj (Bz (Cv (fun _ _ _=>.int _) (EU.eb (Cv (fun _ _ _=>.int _) Bb (EU.eb Bh))) (EU.eb (Dv (Bn Bb Bf)))))
   (Bj (Dp (Dc 0 Bf))
   (Bj (Jx (EF.eu (Fa Bb (Cz Bb) (Cz (EU.eb (Fs (fun _ _ _=>.int _) (EU.eb (Fs (fun _ _ _=>.int _) Bb (EU.eb Bh))) (EU.eb (Cv (fun _ _ _=>.int _) (EU.eb (Cv (fun _ _ _=>.int _) Bb (EU.eb Bh))) (EU.eb Bh)))))))) (Cc (top:=10))
    (Dp (Gh Bb Bb)))
   (Bj (Oh (Cc (top:=10))
    (Dp (Ct (Bn Bb (Bn Bb (Bv Cg Bf))))))
   Gu)))))) (fun ps P hp=>?_)
 clear h hu hu64 hr
 obtain⟨f,W,M,J,ts,cs,c,rfl,bk,hl,ft,hc,q⟩:=hp
 walk_at "s"
 have d28:∀ x:Int,∃ y:Nat,x % 27 = (y:Int)/\y < 27:=fun x=>⟨(x % 27).toNat,by omega,by omega⟩
 ext1
 refine Dy ?_
 ext1
 refine⟨W,M,ts,rfl,by omega,?_⟩
 have go:=Dd (Be W M) ts
 have gl:=go.ln
 ext1
 refine On (fun ρ=>grp (Be W M) ts ≠ []/\ρ = [.bo (.tup [.lst ((range 28).map fun k=>.int (f k)),.lst (W.map sgP),.lst (M.map prP),.lst (J.map jnP)]),.bo (.dk (kkD W M)),.sh (.lst (ts.map .int)),.sh (.lst (cs.map .int)),.sh (.int c),.sh (.lst ((grp (Be W M) ts).map fun g:List Int=>.lst (g.map .int))),.un,.un,.un,.un]) (fun ρ hh=>?_) ?_
 rotate_left
 ·ext
  by_cases hg:grp (Be W M) ts = []
  ·refine Uh (xs:=(grp (Be W M) ts).map fun g:List Int=>PV.lst (g.map .int)) (fun _=>?_) (fun z=>absurd (by rw[hg]; rfl) z)
   ext
   obtain⟨y1,e1,h1⟩:=d28 (c / 6)
   obtain⟨y2,e2,h2⟩:=d28 (c / 168)
   walk_at "ma"
   rw[e1]
   refine Dw (l:=range 28) (f:=fun k=>PV.int (f k)) (j:=y1) (a:=y1) (getElem?_range (by omega)) rfl ?_
   ext
   walk_at "ma"
   rw[e2]
   refine Dw (l:=range 28) (f:=fun k=>PV.int (f k)) (j:=y2) (a:=y2) (getElem?_range (by omega)) rfl ?_
   ext
   walk_at "ma"
   rcases (show c / 4704 % 2 = 0\/c / 4704 % 2 = 1 by omega) with z | z
   ·rw[z,show Fo [PV.int (f y1),PV.int (f y2)] none (some (1 + 0)) = [f y1].map PV.int from Lz [PV.int (f y1),PV.int (f y2)] 1]
    exact q _ (by simp) ((FitB.of bk (k:=1) (Nat.le_refl _)).le (by decide)) (show 1 <= 100 by decide) (Nat.le_trans (Ti [f y1]) (show 8 * 1 <= 200 by decide))
   ·rw[z,show Fo [PV.int (f y1),PV.int (f y2)] none (some (1 + 1)) = [f y1,f y2].map PV.int from Lz [PV.int (f y1),PV.int (f y2)] 2]
    exact q _ (by simp) ((FitB.of bk (k:=2) (Nat.le_refl _)).le (by decide)) (show 2 <= 100 by decide) (Nat.le_trans (Ti [f y1,f y2]) (show 8 * 2 <= 200 by decide))
  ·refine Uh (xs:=(grp (Be W M) ts).map fun g:List Int=>PV.lst (g.map .int)) (fun z=>absurd (List.map_eq_nil_iff.mp z) hg) (fun _=>?_)
   ext
   walk_at "ma"
   refine Te (fun h5=>?_) (fun h5=>?_)
   ·ext
    obtain⟨y1,e1,h1⟩:=d28 (c / 6)
    obtain⟨y2,e2,h2⟩:=d28 (c / 168)
    walk_at "ma"
    rw[e1]
    refine Dw (l:=range 28) (f:=fun k=>PV.int (f k)) (j:=y1) (a:=y1) (getElem?_range (by omega)) rfl ?_
    ext
    walk_at "ma"
    rw[e2]
    refine Dw (l:=range 28) (f:=fun k=>PV.int (f k)) (j:=y2) (a:=y2) (getElem?_range (by omega)) rfl ?_
    ext
    walk_at "ma"
    rcases (show c / 4704 % 2 = 0\/c / 4704 % 2 = 1 by omega) with z | z
    ·rw[z,show Fo [PV.int (f y1),PV.int (f y2)] none (some (1 + 0)) = [f y1].map PV.int from Lz [PV.int (f y1),PV.int (f y2)] 1]
     exact q _ (by simp) ((FitB.of bk (k:=1) (Nat.le_refl _)).le (by decide)) (show 1 <= 100 by decide) (Nat.le_trans (Ti [f y1]) (show 8 * 1 <= 200 by decide))
    ·rw[z,show Fo [PV.int (f y1),PV.int (f y2)] none (some (1 + 1)) = [f y1,f y2].map PV.int from Lz [PV.int (f y1),PV.int (f y2)] 2]
     exact q _ (by simp) ((FitB.of bk (k:=2) (Nat.le_refl _)).le (by decide)) (show 2 <= 100 by decide) (Nat.le_trans (Ti [f y1,f y2]) (show 8 * 2 <= 200 by decide))
   ·ext
    exact .inl ⟨hg,rfl⟩
 obtain⟨hg,rfl⟩:=hh
 have g0:=List.length_pos_iff.mpr hg
 obtain⟨a,ea,al⟩:∃ a:Nat,c / 6 % ((grp (Be W M) ts).length:Int) = (a:Int)/\a < (grp (Be W M) ts).length:=by
  have h1:=emod_nonneg (c / 6) (show ((grp (Be W M) ts).length:Int) ≠ 0 by omega)
  have h2:=emod_lt_of_pos (c / 6) (show (0:Int) < (grp (Be W M) ts).length by omega)
  exact⟨_,(Int.toNat_of_nonneg h1).symm,by omega⟩
 obtain⟨m,em,m1,m4⟩:∃ m:Nat,c / 180 % 3 = (m:Int) - 1/\1 <= m/\m <= 4:=⟨(c / 180 % 3).toNat + 1,by omega,by omega,by omega⟩
 have pf:=AeK ft a m
 have pg:=Yg (mk:=Be W M) ts a m
 have pn:(((grp (Be W M) ts).drop a).take m).flatten ≠ []:=fun z=>by
  rw[z] at pg
  have:=congrArg length pg
  rw[length_take,length_drop] at this
  have this:0 = _:=this
  omega
 have pl:(((grp (Be W M) ts).drop a).take m).flatten.length <= 60:=by
  have e1:∀ k,(grp (Be W M) ts).flatten = ((grp (Be W M) ts).take k).flatten ++ ((grp (Be W M) ts).drop k).flatten:=fun k=>by rw[<- List.flatten_append,take_append_drop]
  have e2:((grp (Be W M) ts).drop a).flatten = (((grp (Be W M) ts).drop a).take m).flatten ++ (((grp (Be W M) ts).drop a).drop m).flatten:=by rw[<- List.flatten_append,take_append_drop]
  have h1:=congrArg length (e1 a)
  have h2:=congrArg length e2
  rw[go.fl,length_append] at h1
  rw[length_append] at h2
  omega
 have pL:(lng W M J (((grp (Be W M) ts).drop a).take m).flatten).length <= 88:=by
  have:=AkQ bk (((grp (Be W M) ts).drop a).take m).flatten
  rw[pg,length_take] at this
  omega
 have cm:=Aav ((grp (Be W M) ts).map fun g:List Int=>PV.lst (g.map .int)) a m
 generalize grp (Be W M) ts = gs at *
 ext1
 refine Dy ?_
 ext1
 all_goals try (first | decide | exact⟨by decide,by decide⟩ | (show (0:Int) < _; rw[length_map]; omega))
 rw[length_map,ea]
 refine Dy ?_
 ext1
 refine Dy ?_
 ext1
 walk_at "ma"
 rw[em,show (a:Int) + 1 + ((m:Int) - 1) = (a:Int) + (m:Int) by omega,cm,<- List.map_drop,<- map_take]
 generalize (gs.drop a).take m = hs at *
 have fl:∀ n,((hs.take n).flatten).length <= 60:=fun n=>by
  have e:hs.flatten = (hs.take n).flatten ++ (hs.drop n).flatten:=by rw[<- List.flatten_append,take_append_drop]
  have:=congrArg length e
  rw[length_append] at this
  omega
 refine⟨fun n ρ=>∃ (v8:Sl),ρ = [.bo (.tup [.lst ((range 28).map fun k=>.int (f k)),.lst (W.map sgP),.lst (M.map prP),.lst (J.map jnP)]),.bo (.dk (kkD W M)),.sh (.lst (ts.map .int)),.sh (.lst (cs.map .int)),.sh (.int c),.sh (.lst (gs.map fun g:List Int=>.lst (g.map .int))),.sh (.int a),.ow (.lst ((hs.take n).flatten.map .int)),v8,.un],⟨_,rfl⟩,?_,?_⟩
 ·rintro n p ρ hp ⟨v8,rfl⟩
  rw[getElem?_map] at hp
  obtain⟨g,hg2,rfl⟩:=map_eq_some_iff.mp hp
  have e:(hs.take (n + 1)).flatten = (hs.take n).flatten ++ g:=by rw[Db hg2,List.flatten_append,flatten_cons,List.flatten_nil,append_nil]
  have:=fl (n + 1)
  rw[e,length_append] at this
  ext
  rotate_left
  ·rw[length_map,length_map]; omega
  exact⟨_,by rw[e,map_append]⟩
 rintro ρ ⟨v8,rfl⟩
 walk_at "me"
 generalize hs.flatten = ps0 at *
 ext1
 refine Dy ?_
 ext1
 refine⟨fun n ρ=>∃ (us:List Int) (v9:Sl),ρ = [.bo (.tup [.lst ((range 28).map fun k=>.int (f k)),.lst (W.map sgP),.lst (M.map prP),.lst (J.map jnP)]),.bo (.dk (kkD W M)),.sh (.lst (ts.map .int)),.sh (.lst (cs.map .int)),.sh (.int c),.sh (.lst (gs.map fun g:List Int=>.lst (g.map .int))),.sh (.int a),.ow (.lst (us.map .int)),v8,v9]/\lng W M J us = lng W M J ps0,⟨ps0,_,rfl,rfl⟩,?_,?_⟩
 ·rintro n p ρ hp ⟨us,v9,rfl,hu⟩
  rw[getElem?_map] at hp
  obtain⟨d,hd,rfl⟩:=map_eq_some_iff.mp hp
  have ul:=Wi bk us
  rw[hu] at ul
  ext
  refine⟨f,W,M,J,us,_,rfl,bk,by omega,fun us2 h2=>?_⟩
  ext
  exact⟨us2,_,rfl,h2.trans hu⟩
 rintro ρ ⟨us,v9,rfl,hu⟩
 have ul:=Wi bk us
 rw[hu] at ul
 have un:us ≠ []:=fun z=>pn ((Ov bk).mp (by rw[<- hu,z]; rfl))
 have uf:=pf.same bk hu
 have uL:(lng W M J us).length <= 88:=by rw[hu]; exact pL
 ext
 exact q us un (uf.le (by decide)) (by omega) (by omega)
def AfK:PSp:=fun ps P=>∃ U M J ts us,ps = [.bk U M J,.lst (map .int ts),.lst (map .int us)]/\Da U M J/\ts.length <= 300/\us.length <= 300/\Fit U M J ts/\Fit U M J us/\P (.bl (decide (lng U M J ts = lng U M J us)))
theorem AmT (T:Txt K mg t):Binds K t.d_qbk ["book","one","other"] []:=T.F_qbk.binds (by walk_at "b3")
theorem AkS (T:Txt K mg t):FnOk P w K mg base CX0 6 t.f_qbk t.d_qbk ["book","one","other"] (spOf K t.C_Book [false,false,false] .sh AfK):=by
 refine T.F_qbk.ok AlP (fun vs H Q E h=>h.len) (fun cdv A outer s H vs Q E hr h=>?_)
 have hu:=Cy hr
 have hu64:=hr.units
 refine⟨_,(Bi (Cd (Gd (Ng K hu64) (Bm (Wj T) (hr.mono (by decide)) rfl T.m_qbj T.F_qbj.kp (Zf T) .nil Br (Ba (pv 0) (Ba (pv 1) Bd))) (Bm (Wj T) (hr.mono (by decide)) rfl T.m_qbj T.F_qbj.kp (Zf T) .nil Br (Ba (pv 0) (Ba (pv 2) Bd))) (Co _)))),?_⟩
 try dsimp only [Cm,By]
 refine Df h (by decide) (Gv (Jh (EF.eb (Ct (Bn Bb (Bn Bb Bf)))) (EF.eb (Ct (Bn Bb (Bn Bb Bf)))))) (fun ps P hp=>?_)
 clear h hu hu64 hr
 obtain⟨U,M,J,ts,us,rfl,bk,h1,h2,f1,f2,q⟩:=hp
 walk_at "s"
 ext
 refine⟨U,M,J,ts,rfl,bk,h1,f1,?_⟩
 ext
 refine⟨U,M,J,us,rfl,bk,h2,f2,?_⟩
 ext
 refine Wn ?_
 exact q
def AgI (xs ys:List Int):Int:=if xs = ys then 0 else if lxL xs ys = true then -1 else 1
def AiH:PSp:=fun ps P=>∃ U M J ts us,ps = [.bk U M J,.lst (map .int ts),.lst (map .int us)]/\Da U M J/\ts.length <= 300/\us.length <= 300/\Fit U M J ts/\Fit U M J us/\P (.int (AgI (lng U M J ts) (lng U M J us)))
theorem AnF (T:Txt K mg t):Binds K t.d_qbn ["book","one","other"] []:=T.F_qbn.binds (by walk_at "b3")
theorem AkO (T:Txt K mg t):FnOk P w K mg base CX0 6 t.f_qbn t.d_qbn ["book","one","other"] (spOf K t.C_Book [false,false,false] .sh AiH):=by
 refine T.F_qbn.ok sc_qbn (fun vs H Q E h=>h.len) (fun cdv A outer s H vs Q E hr h=>?_)
 have hu:=Cy hr
 have hu64:=hr.units
 refine⟨_,(Bc (Bo (i:=3) sc_qbn.nd rfl (Or.inl rfl) (Bm (Wj T) (hr.mono (by decide)) rfl T.m_qbj T.F_qbj.kp (Zf T) .nil Br (Ba (pv 0) (Ba (pv 1) Bd))))
   (Bc (Bo (i:=4) sc_qbn.nd rfl (Or.inl rfl) (Bm (Wj T) (hr.mono (by decide)) rfl T.m_qbj T.F_qbj.kp (Zf T) .nil Br (Ba (pv 0) (Ba (pv 2) Bd))))
   (Bc (Dx (Cr (Ng K hu64) (pv 3) (pv 4) (Co _))
    (Bi (Cd Bg))
    Dg)
   (Bi (Cd (AfE (Cr (Ako hu64) (pv 3) (pv 4) (Co _)) (Wk Sr Bg) Bg)))))),?_⟩
 try dsimp only [Cm,By]
 refine Df h (by decide) (Bj (Bz (EF.eu (Ct (Bn Bb (Bn Bb Bf)))))
   (Bj (Bz (EF.eu (Ct (Bn Bb (Bn Bb Bf)))))
   (Bj (Fr (Du (EU.eb (Jh Bb Bb)))
    (Gv Bh)
    Ds)
   (Gv (Ang (Du (EU.eb (Alw Bb Bb))) (Ag8 (fun _ _=>.int _) (EU.eb Bh)) Bh))))) (fun ps P hp=>?_)
 clear h hu hu64 hr
 obtain⟨U,M,J,ts,us,rfl,bk,h1,h2,f1,f2,q⟩:=hp
 walk_at "s"
 ext
 refine⟨U,M,J,ts,rfl,bk,h1,f1,?_⟩
 ext
 refine⟨U,M,J,us,rfl,bk,h2,f2,?_⟩
 unfold AgI at q
 generalize lng U M J ts = xs at q
 generalize lng U M J us = ys at q
 ext
 refine Wn ?_
 by_cases h:xs = ys
 ·rw[decide_eq_true h]
  rw[if_pos h] at q
  ext
  exact q
 ·rw[decide_eq_false h]
  rw[if_neg h] at q
  ext
  refine Ane ?_
  ext
  refine⟨xs,ys,rfl,rfl,?_⟩
  by_cases h2:lxL xs ys = true
  ·rw[h2] at q ⊢
   ext
   exact q
  ·rw[show lxL xs ys = false by simpa using h2] at q ⊢
   ext
   exact q
def AiV:PSp:=fun ps P=>∃ gs:List (List Int),ps = [.lst (gs.map fun g:List Int=>PV.lst (g.map .int))]/\gs.flatten.length <= 1000/\P (.lst (gs.flatten.map .int))
theorem Acg (T:Txt K mg t):Binds K t.d_qbp ["_law_some"] []:=T.F_qbp.binds (by walk_at "b1")
theorem Aad (T:Txt K mg t):FnOk P w K mg base CX0 1 t.f_qbp t.d_qbp ["_law_some"] (spOf K t.C_Book [true] .fr AiV):=by
 refine T.F_qbp.ok sc_qbp (fun vs H Q E h=>h.len) (fun cdv A outer s H vs Q E hr h=>?_)
 have hu:=Cy hr
 have hu64:=hr.units
 refine⟨_,(Bc (Bo (i:=1) sc_qbp.nd rfl (Or.inl rfl) (Cn Bd))
   (Bc (Dj PassesOwn.never rfl (Cs (pv 0)) (Bq (i:=2) sc_qbp.nd rfl (Or.inl rfl))
    (Bi (Bo (i:=1) sc_qbp.nd rfl (Or.inl rfl) (Bs Fu (pv 1) (pv 2)))))
   (Bi (Cd (pv 1))))),?_⟩
 try dsimp only [Cm,By]
 refine Df h (by decide) (Bj (Dp (Dc 0 Bf))
   (Bj (Oh (Cc (top:=3))
    (Dp (Gh Bb Bb)))
   Gu)) (fun ps P hp=>?_)
 clear h hu hu64 hr
 obtain⟨gs,rfl,hl,q⟩:=hp
 walk_at "s"
 ext
 refine⟨fun k ρ=>∃ v2,ρ = [.sh (.lst (gs.map fun g:List Int=>PV.lst (g.map .int))),.ow (.lst ((gs.take k).flatten.map .int)),v2],⟨_,rfl⟩,?_,?_⟩
 ·rintro k p ρ hp ⟨v2,rfl⟩
  rw[getElem?_map] at hp
  obtain⟨g,hk,rfl⟩:=map_eq_some_iff.mp hp
  have e:=Db hk
  ext
  rotate_left
  ·have:=Tf gs (k + 1)
   rw[e,Uk,length_append] at this
   simp only [length_map]
   omega
  exact⟨_,by rw[e,Uk,map_append]⟩
 rintro ρ ⟨v2,rfl⟩
 walk_at "me"
 ext
 exact q
def AlH:PSp:=fun ps P=>∃ (fd:List Nat) (ht:Nat->Bool) (m n:Nat),ps = [.lst (fd.map fun k:Nat=>.int k),.int (m:Int)]/\fd.length <= 300/\1 <= m/\fd.Pairwise (· < ·)/\(∀ k,k ∈ fd ↔ ht k = true)/\(∀ k,ht k = true->k + m <= n)/\∀ A:List Int,A.length = nhF ht m n 0->A.length <= 300->P (.lst (A.map .int))
theorem AnD (T:Txt K mg t):Binds K t.d_qbc ["_law_spots","_law_many"] []:=T.F_qbc.binds (by walk_at "b2")
theorem Alk (T:Txt K mg t):FnOk P w K mg base CX0 1 t.f_qbc t.d_qbc ["_law_spots","_law_many"] (spOf K t.C_Book [true,false] .fr AlH):=by
 refine T.F_qbc.ok sc_qbc (fun vs H Q E h=>h.len) (fun cdv A outer s H vs Q E hr h=>?_)
 have hu:=Cy hr
 have hu64:=hr.units
 refine⟨_,(Bc (Bo (i:=2) sc_qbc.nd rfl (Or.inl rfl) (Cn Bd))
   (Bc (Dj PassesOwn.never rfl (Cs (pv 0)) (Bq (i:=3) sc_qbc.nd rfl (Or.inl rfl))
    (Bi (Dx (PW.pt (Wc (Cr (Ng K hu64) (pv 2) (Cn Bd) (Co _)) (Sv (Cr Zk (pv 3) (Bs Gb (Ck (Cq K) (pv 2) (Wk Sr Bg) (fun _ _=>rfl)) (pv 1)) (Co _)))))
    (Bi (Cj (Fv plainAttrs_list PySem.F.slot_list_append PySem.F.type_list_append Do (pv 2) (Ba (pv 3) Bd))))
    Dg)))
   (Bi (Cd (pv 2))))),?_⟩
 try dsimp only [Cm,By]
 refine Df h (by decide) (Bj (Dp (Dc 0 Bf))
   (Bj (Oh (Cc (top:=4))
    (Fr (Zj (Du (EU.eb (Jh Bb (EF.eb (Dc 0 Bf))))) (Du (EU.eb (Fs (fun _ _ _=>.bl _) Bb (EU.eb (Fs (fun _ _ _=>.int _) (EU.eb (De Bb (EU.eb (Ag8 (fun _ _=>.int _) (EU.eb Bh))))) Bb))))))
    (Jg (Bv Cg Bf))
    Ds))
   Gu)) (fun ps P hp=>?_)
 clear h hu hu64 hr
 obtain⟨fd,ht,m,n,rfl,hl,m1,up,fm,fk,q⟩:=hp
 walk_at "s"
 ext
 refine⟨fun i ρ=>∃ (A:List Int) (d:Nat) (v3:Sl),ρ = [.sh (.lst (fd.map fun k:Nat=>.int k)),.bo (.int (m:Int)),.ow (.lst (A.map .int)),v3]/\(A = []/\d = 0\/∃ A' l,A = A' ++ [l]/\l + m = (d:Int))/\A.length <= i/\A.length + nhF ht m n d = nhF ht m n 0/\d <= n/\∀ k,ht k = true->d <= k->k ∈ fd.drop i,⟨[],0,_,rfl,.inl ⟨rfl,rfl⟩,Nat.le_refl _,Nat.zero_add _,zero_le _,fun k h _=>(fm k).mpr h⟩,?_,?_⟩
 ·rintro i p ρ hp ⟨A,d,v3,rfl,hA,al,hc,hd,hr⟩
  rw[getElem?_map] at hp
  obtain⟨k,hk,rfl⟩:=map_eq_some_iff.mp hp
  have hi:=(List.getElem?_eq_some_iff.mp hk).1
  have hkt:=(fm k).mp (mem_of_getElem? hk)
  have dn:fd.drop i = k :: fd.drop (i + 1):=by obtain⟨a,b⟩:=List.getElem?_eq_some_iff.mp hk; rw[drop_eq_getElem_cons a,b]
  have up2:(k :: fd.drop (i + 1)).Pairwise (· < ·):=by rw[<- dn]; exact up.sublist (List.drop_sublist _ _)
  have hks:=fk k hkt
  rw[dn] at hr
  have take:d <= k->nhF ht m n d = 1 + nhF ht m n (k + m):=fun h=>by
   have sk:=Rt (ht:=ht) (by':=[(0:Int)]) (ws:=replicate n []) m1 (k - d) d (by rw[length_replicate]; omega) (fun j j1 j2=>by
    cases e:ht j with
    | false=>rfl
    | true =>
     rcases mem_cons.mp (hr j e j1) with z | z
     ·omega
     ·have:=(List.pairwise_cons.mp up2).1 j z
      omega)
   rw[show d + (k - d) = k by omega,Jz m1 (by rw[length_replicate]; omega) hkt] at sk
   unfold nhF
   have e0:(((replicate n ([]:List Int)).drop d).take (k - d)).flatten = []:=by
    rw[List.drop_replicate,List.take_replicate,List.flatten_replicate_nil]
   rw[sk,e0,nil_append,length_append]; rfl
  have put:d <= k->∃ (A1:List Int) (d1:Nat) (w3:Sl),([.sh (.lst (fd.map fun k:Nat=>.int k)),.bo (.int (m:Int)),.ow (.lst (A.map .int ++ [.int (k:Int)])),.sh (.int (k:Int))]:Bl) = [.sh (.lst (fd.map fun k:Nat=>.int k)),.bo (.int (m:Int)),.ow (.lst (A1.map .int)),w3]/\(A1 = []/\d1 = 0\/∃ A' l,A1 = A' ++ [l]/\l + m = (d1:Int))/\A1.length <= i + 1/\A1.length + nhF ht m n d1 = nhF ht m n 0/\d1 <= n/\∀ k,ht k = true->d1 <= k->k ∈ fd.drop (i + 1):=fun h=>by
   refine⟨A ++ [(k:Int)],k + m,_,by rw[map_append]; rfl,.inr ⟨A,_,rfl,by rw[Int.natCast_add]⟩,by rw[length_append]; show _ + 1 <= _; omega,?_,by omega,fun j hj hjk=>?_⟩
   ·rw[<- hc,take h,length_append]
    show A.length + 1 + _ = _
    omega
   ·rcases mem_cons.mp (hr j hj (by omega)) with z | z
    ·omega
    ·exact z
  ext
  rcases hA with ⟨rfl,rfl⟩ | ⟨A',l,rfl,hl2⟩
  ·refine Uh (xs:=([]:List Int).map PV.int) (fun _=>?_) (fun z=>absurd rfl z)
   ext
   all_goals try decide
   exact put (zero_le _)
  ·refine Uh (xs:=(A' ++ [l]).map PV.int) (fun z=>absurd z (by simp)) (fun _=>?_)
   ext
   refine Ug (x:=.int l) (by rw[map_append]; exact Nd _ _) ?_
   ext
   by_cases h:d <= k
   ·refine Acz (decide_eq_true (by omega)) ?_
    ext
    rotate_left
    ·rw[length_map]; omega
    exact put h
   ·refine Ua (fun z=>by have:=of_decide_eq_true z; omega) ?_
    ext
    refine⟨A' ++ [l],d,_,rfl,.inr ⟨A',l,rfl,hl2⟩,by omega,hc,hd,fun j hj hjk=>?_⟩
    rcases mem_cons.mp (hr j hj hjk) with z | z
    ·omega
    ·exact z
 rintro ρ ⟨A,d,v3,rfl,hA,al,hc,hd,hr⟩
 rw[length_map,List.drop_length] at hr
 have rr:=AaR (ht:=ht) (by':=[(0:Int)]) (ws:=replicate n []) (k:=d) m1 (by rw[length_replicate]; exact hd) (fun i h1 h2=>by
  cases e:ht i with
  | false=>rfl
  | true=>exact absurd (hr i e h1) (by simp))
 have e0:nhF ht m n d = 0:=by
  unfold nhF
  rw[rr,List.drop_replicate,List.flatten_replicate_nil]; rfl
 ext
 rw[length_map] at al
 exact q A (by omega) (by omega)
theorem Al7 {f:Nat->Int} {U R:List Sg} {J:List Jn} {k y:Nat} (ga:G2A f U R J k y):∀ w ∈ myW,0 < (gpF f (upG U R (r0G f U).length) (mtG f y) w).length:=by
 intro w hw
 have bk:=Zd ga.jg ga.hk ga.ht ga.ul ga.hf y
 have nd:=bk.nd
 have uix:=(Wa ga.jg ga.hk ga.ht ga.ul ga.hf).2
 have one:∀ n,n < 28->Fc (upG U R (r0G f U).length) (mtG f y) (f n) = w->0 < (gpF f (upG U R (r0G f U).length) (mtG f y) w).length:=fun n hn h =>
  List.length_pos_of_mem (mem_filter.mpr ⟨mem_map.mpr ⟨n,mem_range.mpr hn,rfl⟩,decide_eq_true h⟩)
 have mm:(f 14,f 15) ∈ mtG f y:=by
  unfold mtG
  rcases ga.hy with rfl | rfl <;> exact .head _
 have tk:w = "plain"\/w = "open"\/∃ k,k < 8/\toldK[k]? = some w:=by
  have:∀ w ∈ myW,w = "plain"\/w = "open"\/w ∈ toldK:=by decide +kernel
  rcases this w hw with h | h | h
  ·exact .inl h
  ·exact .inr (.inl h)
  ·obtain⟨k,hk⟩:=getElem?_of_mem h
   exact .inr (.inr ⟨k,(List.getElem?_eq_some_iff.mp hk).1,hk⟩)
 rcases tk with rfl | rfl | ⟨i,hi,hw2⟩
 ·refine one 26 (by decide) (Jk (AaQ fun z=>?_))
  rcases mem_append.mp z with z | z
  ·obtain⟨u,hu,e⟩:=mem_map.mp z
   obtain⟨⟨a,h1,h2⟩,_⟩:=uix u hu
   have:=ga.hf.inj a 26 (by omega) (by omega) (by rw[<- h2]; exact e)
   omega
  ·obtain⟨a,h1,h2,h3⟩:=Za f y _ z
   have:=ga.hf.inj 26 a (by omega) (by omega) h3
   omega
 ·exact one 14 (by decide) (Jk (Ajd nd mm))
 ·have hl:i < U.length:=by have:=ga.ul; omega
  obtain⟨s,hs⟩:∃ s,U[i]? = some s:=⟨_,getElem?_eq_getElem hl⟩
  have h1:=ga.ht.wd i s hs hi
  have h2:=(ga.ht.at' i s hs).1
  rw[getElem?_map,getElem?_range (by omega)] at h2
  rw[hw2] at h1
  refine one i (by omega) (Jk ?_)
  have h3:f i = s.1:=Option.some.inj h2
  rw[h3,Option.some.inj h1]
  exact Um nd (mem_append_left _ (mem_of_getElem? hs))
theorem Xv {l:List Nat}:CmpL (l.map fun k:Nat=>PV.int k) (l.map fun k:Nat=>PV.int k):=by
 rw[show (l.map fun k:Nat=>PV.int k) = (l.map fun k:Nat=>(k:Int)).map PV.int by rw[map_map]; rfl]
 exact Vj
theorem Xt {s:Int}:∀ {ts:List Int},ts.filterMap (fun x=>if x = s then none else some (PV.int x)) = (ts.filter fun x=>!decide (x = s)).map .int
 | []=>rfl
 | x :: r=>by
  by_cases h:x = s
  ·rw[List.filterMap_cons_none (by rw[if_pos h]),filter_cons_of_neg (by simp [h]),Xt]
  ·rw[List.filterMap_cons_some (by rw[if_neg h]),filter_cons_of_pos (by simp [h]),Xt]; rfl
theorem Wy {s:Int}:∀ {ts:List Int},ts.filterMap (fun x=>if x = s then some (PV.int x) else none) = (ts.filter fun x=>decide (x = s)).map .int
 | []=>rfl
 | x :: r=>by
  by_cases h:x = s
  ·rw[List.filterMap_cons_some (by rw[if_pos h]),filter_cons_of_pos (by simp [h]),Wy]; rfl
  ·rw[List.filterMap_cons_none (by rw[if_neg h]),filter_cons_of_neg (by simp [h]),Wy]
theorem AmM {f:Nat->Int} {U R:List Sg} {J:List Jn} {k y:Nat} (ga:G2A f U R J k y):Str75 (upG U R (r0G f U).length) (mtG f y) J (f 27):=by
 have uix:=(Wa ga.jg ga.hk ga.ht ga.ul ga.hf).2
 obtain⟨X,eX,hX⟩:=Uc ga.jg
 have hk:=ga.hk
 have ne:∀ i,i < 27->f i ≠ f 27:=fun i hi z=>by have:=ga.hf.inj i 27 (by omega) (by omega) z; omega
 have hU:∀ s ∈ U,s.1 ≠ f 27:=fun s hs=>by
  obtain⟨⟨i,h1,h2⟩,_⟩:=ga.ht.ix ga.ul s hs
  rw[h2]; exact ne i (by omega)
 have hR:∀ s ∈ R,s.1 ≠ f 27:=fun s hs=>by
  rw[eX] at hs
  rcases mem_append.mp hs with hs | hs
  ·unfold r0G at hs
   rcases mem_append.mp hs with hs | hs
   ·obtain⟨u,hu,rfl⟩:=mem_map.mp hs
    exact hU u (mem_filter.mp hu).1
   ·simp only [mem_cons,not_mem_nil,or_false] at hs
    rcases hs with rfl | rfl
    ·exact ne 24 (by decide)
    ·exact ne 25 (by decide)
  ·obtain⟨i,h1,h2⟩:=hX s hs
   rw[h2]; exact ne (18 + i) (by omega)
 refine⟨?_,?_,fun j hj=>?_⟩
 ·refine decide_eq_false ?_
  have:Fc (upG U R (r0G f U).length) (mtG f y) (f 27) = "plain":=by
   refine Jk (AaQ fun z=>?_)
   rcases mem_append.mp z with z | z
   ·obtain⟨u,hu,e⟩:=mem_map.mp z
    obtain⟨⟨a,h1,h2⟩,_⟩:=uix u hu
    exact ne a (by omega) (h2.symm.trans e)
   ·obtain⟨a,h1,h2,h3⟩:=Za f y _ z
    exact ne a (by omega) h3.symm
  rw[this]; decide +kernel
 ·cases e:Cl J (f 27) with
  | none=>rfl
  | some m =>
   obtain⟨i,h1,h2⟩:=ga.jg.whole _ (Fx e)
   exact absurd (show f (10 + i + 8) = f 27 from h2.symm) (ne _ (by omega))
 ·obtain⟨⟨s,_,u,hu,_,e,_⟩,m,hm,em⟩:=ga.jg.join j hj
  exact⟨by rw[<- e]; exact hR u hu,by rw[<- em]; exact hU m (mem_filter.mp hm).1⟩
theorem Aop (T:Txt K mg t):Binds K t.d_qby ["_law_script"] []:=T.F_qby.binds (by walk_at "b1")
theorem Amn (T:Txt K mg t):FnOk P w K mg base CX0 8 t.f_qby t.d_qby ["_law_script"] (spOf K t.C_Book [false] .sh Ab7):=by
 refine T.F_qby.ok sc_qby (fun vs H Q E h=>h.len) (fun cdv A outer s H vs Q E hr h=>?_)
 have hu:=Cy hr
 have hu64:=hr.units
 refine⟨_,(Bc (Bo (i:=1) sc_qby.nd rfl (Or.inl rfl) (Bm (Ald T) (hr.mono (by decide)) rfl T.m_qbf T.F_qbf.kp (Ann T) .nil Br (Ba (pv 0) Bd)))
   (Bc (Bo (i:=2) sc_qby.nd rfl (Or.inl rfl) (Bm (AkY T) (hr.mono (by decide)) rfl T.m_qbi T.F_qbi.kp (AmV T) .nil Br (Ba (pv 1) Bd)))
   (Bc (Bo (i:=3) sc_qby.nd rfl (Or.inl rfl) (Bs Dm (Bm (Zl T) (hr.mono (by decide)) rfl T.m_qg T.F_qg.kp (Aca T) .nil Br (Ba (pv 0) (Ba Bg Bd))) (Bs Lu Bg Bg)))
   (Bc (Bo (i:=4) sc_qby.nd rfl (Or.inl rfl) (AiK T.K_Book (Anq T) (hr.mono (by decide)) rfl T.m_Book (AnX T) .nil Br (Ba (Lj (Jf K) rfl T.z_list PyProof.Rows.boot_list (Ba (Ck (Dt K) (pv 1) Bg (fun _ _=>rfl)) Bd)) (Ba (Lj (Jf K) rfl T.z_list PyProof.Rows.boot_list (Ba (Ck (Dt K) (pv 1) Bg (fun _ _=>rfl)) Bd)) (Ba (Lj (Jf K) rfl T.z_list PyProof.Rows.boot_list (Ba (Ck (Dt K) (pv 1) Bg (fun _ _=>rfl)) Bd)) Bd)))))
   (Bc (Bo (i:=5) sc_qby.nd rfl (by first | exact Or.inl rfl | exact Or.inr rfl) (Ck (Cq K) (Ck (Dt K) (pv 1) Bg (fun _ _=>rfl)) Bg (fun _ _=>rfl)))
   (Bc (Bo (i:=6) sc_qby.nd rfl (Or.inl rfl) (Bm (AlJ T) (hr.mono (by decide)) rfl T.m_qbg T.F_qbg.kp (Ans T) .nil Br (Ba (pv 1) (Ba (pv 2) Bd))))
   (Bc (Dx (Cr Gi (Bs Dm (pv 3) Bg) Bg (Co _))
    (Bi (Af6 1 ["_law_group"] rfl rfl (Cs (Dh (Di K) (Dh (Di K) (pv 6) (Cw (Bs Dm (Bs Fd (pv 3) Bg) Bg)) Fi) Fi (Cw Bg))) (fun _ _ _ _=>(Bq (i:=0) (show Nodup (["_law_group"]:List Str) by decide +kernel) rfl (Or.inl rfl))) (fun _ _ _ _=>Jo) (fun _ _ _ _=>(Dh (Di K) (pv 0) Fi (Cw Bg))) (by decide +kernel) (by decide +kernel) rfl (by decide +kernel) (fun _=>rfl) (i:=6) sc_qby.nd rfl (Or.inl rfl) rfl))
    Dg)
   (Bc (Bo (i:=7) sc_qby.nd rfl (Or.inl rfl) (Bm (Akx T) (hr.mono (by decide)) rfl T.m_qbr T.F_qbr.kp (Amu T) .nil Br (Ba (pv 6) (Ba (Ot 1 ["_law_number"] rfl rfl (Cs (Wd K (pv 0) (Cw Bg) (Cw Bg) (Cw Bg))) (fun _ _ _ _=>(Bq (i:=0) (show Nodup (["_law_number"]:List Str) by decide +kernel) rfl (Or.inl rfl))) (fun _ _ _ _=>Jo) (fun _ _ _ _=>(Bs Dm (pv 0) (Bs Lu Bg Bg))) (by decide +kernel) (by decide +kernel) rfl (by decide +kernel)) Bd))))
   (Bc (Ut 1 [5] ["_law_sign","_law_strange"] ["_law_strange"] rfl (Cs (pv 7)) rfl (fun j y e1 i e2=>match j,e1,e2 with | 0,e1,e2=>by cases e1; cases e2; exact⟨rfl,rfl,rfl,by decide +kernel⟩ | _ + 1,_,e2=>by simp at e2) (forall_mem_cons.mpr ⟨rfl,fun _ h=>nomatch h⟩) (by decide +kernel) (fun _ _ _ _=>(Bq (i:=0) (show Nodup (["_law_sign","_law_strange"]:List Str) by decide +kernel) rfl (Or.inl rfl))) (fun _ _ _ _=>(Nc (Cr Uo (pv 0) (pv 1) (Co _)))) (fun _ _ _ _=>(pv 0)) rfl (by decide +kernel) rfl (by decide +kernel) (fun _=>rfl) (i:=7) sc_qby.nd rfl (Or.inl rfl) rfl)
   (Bc (Bo (i:=8) sc_qby.nd rfl (Or.inl rfl) (Bm (AlL T) (hr.mono (by decide)) rfl T.m_qbt T.F_qbt.kp (Am5 T) .nil Br (Ba (pv 1) (Ba (pv 2) (Ba (pv 7) (Ba (Ot 1 ["_law_number"] rfl rfl (Cs (Wd K (pv 0) (Cw Bg) (Cw Bg) (Cw Bg))) (fun _ _ _ _=>(Bq (i:=0) (show Nodup (["_law_number"]:List Str) by decide +kernel) rfl (Or.inl rfl))) (fun _ _ _ _=>Jo) (fun _ _ _ _=>(Bs Dm (pv 0) (Bs Lu Bg Bg))) (by decide +kernel) (by decide +kernel) rfl (by decide +kernel)) (Ba (Bs Fd (pv 3) Bg) Bd)))))))
   (Bc (Bo (i:=9) sc_qby.nd rfl (Or.inl rfl) (Bm (Qq T) (hr.mono (by decide)) rfl T.m_qbo T.F_qbo.kp (Tv T) .nil Br (Ba (pv 4) (Ba (pv 7) (Ba (pv 8) Bd)))))
   (Bc (Dx (Wo (Ta (Ch (Tg K) rfl T.z_isinstance boot_isinstance (Ba (pv 9) (Ba (Ni (v:=.ty "list") rfl T.z_list PyProof.Rows.boot_list rfl) Bd)))))
    (Bi (Cd Of))
    Dg)
   (Bc (Bo (i:=10) sc_qby.nd rfl (Or.inl rfl) (Bm (Aad T) (hr.mono (by decide)) rfl T.m_qbp T.F_qbp.kp (Acg T) .nil Br (Ba (Bm (AaU T) (hr.mono (by decide)) rfl T.m_qbq T.F_qbq.kp (Ach T) .nil Br (Ba (pv 1) (Ba (pv 2) (Ba (pv 7) Bd)))) Bd)))
   (Bc (Dx (Cr (Re K hu64) (Bm (Qq T) (hr.mono (by decide)) rfl T.m_qbo T.F_qbo.kp (Tv T) .nil Br (Ba (pv 4) (Ba (pv 10) (Ba (pv 8) Bd)))) (pv 9) (Co _))
    (Bi (Cd Of))
    Dg)
   (Bc (Dx (Cr (Re K hu64) (Bm (Qq T) (hr.mono (by decide)) rfl T.m_qbo T.F_qbo.kp (Tv T) .nil Br (Ba (pv 4) (Ba (pv 7) (Ba (Bm (Aad T) (hr.mono (by decide)) rfl T.m_qbp T.F_qbp.kp (Acg T) .nil Br (Ba (Bm (AaU T) (hr.mono (by decide)) rfl T.m_qbq T.F_qbq.kp (Ach T) .nil Br (Ba (pv 1) (Ba (pv 2) (Ba (pv 8) Bd)))) Bd)) Bd)))) (pv 9) (Co _))
    (Bi (Cd Of))
    Dg)
   (Bc (Dx (Cr (Re K hu64) (Bm (Qq T) (hr.mono (by decide)) rfl T.m_qbo T.F_qbo.kp (Tv T) .nil Br (Ba (pv 4) (Ba (Bm (Ahj T) (hr.mono (by decide)) rfl T.m_qw T.F_qw.kp (AlI T) .nil Br (Ba (pv 4) (Ba (pv 7) Bd))) (Ba (Bm (Ahj T) (hr.mono (by decide)) rfl T.m_qw T.F_qw.kp (AlI T) .nil Br (Ba (pv 4) (Ba (pv 8) Bd))) Bd)))) (pv 9) (Co _))
    (Bi (Cd Of))
    Dg)
   (Bc (Bo (i:=11) sc_qby.nd rfl (Or.inl rfl) (Bm (AdR T) (hr.mono (by decide)) rfl T.m_qbu T.F_qbu.kp (Ail T) .nil Br (Ba (pv 4) (Ba (pv 7) (Ba (pv 8) (Ba (Cn (Ba (pv 5) Bd)) Bd))))))
   (Bc (Bo (i:=12) sc_qby.nd rfl (Or.inl rfl) (Bm (Alk T) (hr.mono (by decide)) rfl T.m_qbc T.F_qbc.kp (AnD T) .nil Br (Ba (pv 9) (Ba (Ch (Ce K) rfl T.z_len PySem.boot_len (Ba (Bm (AcV T) (hr.mono (by decide)) rfl T.m_qs T.F_qs.kp (Agy T) .nil Br (Ba (pv 2) (Ba (pv 8) Bd))) Bd)) Bd))))
   (Bc (Dx (PW.pt (Wc (Wo (Ta (Ch (Tg K) rfl T.z_isinstance boot_isinstance (Ba (pv 11) (Ba (Ni (v:=.ty "list") rfl T.z_list PyProof.Rows.boot_list rfl) Bd))))) (Sv (Cr Uo (Ch (Ce K) rfl T.z_len PySem.boot_len (Ba (Jt 1 [5] ["_law_sign","_law_strange"] ["_law_strange"] rfl (Cs (pv 11)) rfl (fun j y e1 i e2=>match j,e1,e2 with | 0,e1,e2=>by cases e1; cases e2; exact⟨rfl,rfl,rfl,by decide +kernel⟩ | _ + 1,_,e2=>by simp at e2) (forall_mem_cons.mpr ⟨rfl,fun _ h=>nomatch h⟩) (by decide +kernel) (fun _ _ _ _=>(Bq (i:=0) (show Nodup (["_law_sign","_law_strange"]:List Str) by decide +kernel) rfl (Or.inl rfl))) (fun _ _ _ _=>(Nc (Cr Gi (pv 0) (pv 1) (Co _)))) (fun _ _ _ _=>(pv 0)) rfl (by decide +kernel) rfl (by decide +kernel)) Bd)) (Ch (Ce K) rfl T.z_len PySem.boot_len (Ba (pv 12) Bd)) (Co _)))))
    (Bi (Cd Of))
    Dg)
   (Bc (Dx (Cr Uo (Ch (Ce K) rfl T.z_len PySem.boot_len (Ba (Bm (Qq T) (hr.mono (by decide)) rfl T.m_qbo T.F_qbo.kp (Tv T) .nil Br (Ba (pv 4) (Ba (pv 11) (Ba (Cn (Ba (pv 5) Bd)) Bd)))) Bd)) (Ch (Ce K) rfl T.z_len PySem.boot_len (Ba (pv 12) Bd)) (Co _))
    (Bi (Cd Of))
    Dg)
   (Bc (Bo (i:=13) sc_qby.nd rfl (Or.inl rfl) (Bm (AdR T) (hr.mono (by decide)) rfl T.m_qbu T.F_qbu.kp (Ail T) .nil Br (Ba (pv 4) (Ba (pv 11) (Ba (Cn (Ba (pv 5) Bd)) (Ba (pv 8) Bd))))))
   (Bc (Dx (Cr (Re K hu64) (Bm (Aad T) (hr.mono (by decide)) rfl T.m_qbp T.F_qbp.kp (Acg T) .nil Br (Ba (Bm (AaU T) (hr.mono (by decide)) rfl T.m_qbq T.F_qbq.kp (Ach T) .nil Br (Ba (pv 1) (Ba (pv 2) (Ba (pv 13) Bd)))) Bd)) (pv 10) (Co _))
    (Bi (Cd Of))
    Dg)
   (Bi (Cd (Ny (Gd AlO (Bm (AkS T) (hr.mono (by decide)) rfl T.m_qbk T.F_qbk.kp (AmT T) .nil Br (Ba (pv 4) (Ba (pv 13) (Ba (pv 7) Bd)))) Of rfl) (Ow (Gd Gi (Bm (AkO T) (hr.mono (by decide)) rfl T.m_qbn T.F_qbn.kp (AnF T) .nil Br (Ba (pv 4) (Ba (pv 13) (Ba (pv 7) Bd)))) Bg (Co _)))))))))))))))))))))))))))),?_⟩
 try dsimp only [Cm,By]
 refine Df h (by decide) (Bj (Bz (Nj (Bn Bb Bf)))
   (Bj (Bz (EF.eu (Ct (Bv Cg Bf))))
   (Bj (Bz (Cv (fun _ _ _=>.int _) (EU.eb (Nj (Bn Bb (Bn (EU.eb Bh) Bf)))) (EU.eb (Cv (fun _ _ _=>.int _) (EU.eb Bh) (EU.eb Bh)))))
   (Bj (Bz (AmS (Bn (EF.eb (Qp (Bn (EU.eb (Ff Bb (EU.eb Bh))) Bf))) (Bn (EF.eb (Qp (Bn (EU.eb (Ff Bb (EU.eb Bh))) Bf))) (Bn (EF.eb (Qp (Bn (EU.eb (Ff Bb (EU.eb Bh))) Bf))) Bf)))))
   (Bj (Bz (De (EU.eb (Ff Bb (EU.eb Bh))) (EU.eb Bh)))
   (Bj (Bz (EF.eu (Ct (Bv Cg (Bn Bb Bf)))))
   (Bj (Fr (Du (EU.eb (Lf (EU.eb (Cv (fun _ _ _=>.int _) Bb (EU.eb Bh))) (EU.eb Bh))))
    (Bz (EF.eu (Gr (EF.eb (Fa (EF.eb (Fa Bb (Cz (EU.eb (Cv (fun _ _ _=>.int _) (EU.eb (Cv (fun _ _ _=>.int _) Bb (EU.eb Bh))) (EU.eb Bh)))) Fj)) Fj (Cz (EU.eb Bh)))) (Cc (top:=1)) Jm (EF.eu (Fa Bb Fj (Cz (EU.eb Bh)))))))
    Ds)
   (Bj (Bz (EF.eu (Ct (Bv Cg (Bv (EF.eu (Gr (EF.eb (Ae8 Bb (Cz (EU.eb Bh)) (Cz (EU.eb Bh)) (Cz (EU.eb Bh)))) (Cc (top:=1)) Jm (Cv (fun _ _ _=>.int _) Bb (EU.eb (Cv (fun _ _ _=>.int _) (EU.eb Bh) (EU.eb Bh)))))) Bf)))))
   (Bj (Bz (EF.eu (Gr Bb (Cc (top:=1)) (Du (EU.eb (Wr Bb Bb))) Cg)))
   (Bj (Bz (EF.eu (Ct (Bn Bb (Bn Bb (Bv Cg (Bv (EF.eu (Gr (EF.eb (Ae8 Bb (Cz (EU.eb Bh)) (Cz (EU.eb Bh)) (Cz (EU.eb Bh)))) (Cc (top:=1)) Jm (Cv (fun _ _ _=>.int _) Bb (EU.eb (Cv (fun _ _ _=>.int _) (EU.eb Bh) (EU.eb Bh)))))) (Bv (Cv (fun _ _ _=>.int _) Bb (EU.eb Bh)) Bf))))))))
   (Bj (Bz (EF.eu (Ct (Bn Bb (Bn Bb (Bn Bb Bf))))))
   (Bj (Fr (Aff (Xq (EU.eb (AeP Bb))))
    (Gv Oy)
    Ds)
   (Bj (Bz (EF.eu (Ct (Bv (EF.eu (Ct (Bn Bb (Bn Bb (Bv Cg Bf))))) Bf))))
   (Bj (Fr (Du (EU.eb (Jh (EF.eb (Ct (Bn Bb (Bn Bb (Bn Bb Bf))))) Bb)))
    (Gv Oy)
    Ds)
   (Bj (Fr (Du (EU.eb (Jh (EF.eb (Ct (Bn Bb (Bn Bb (Bn (EF.eb (Ct (Bv (EF.eu (Ct (Bn Bb (Bn Bb (Bv Cg Bf))))) Bf))) Bf))))) Bb)))
    (Gv Oy)
    Ds)
   (Bj (Fr (Du (EU.eb (Jh (EF.eb (Ct (Bn Bb (Bn (EF.eb (Ct (Bn Bb (Bn Bb Bf)))) (Bn (EF.eb (Ct (Bn Bb (Bn Bb Bf)))) Bf))))) Bb)))
    (Gv Oy)
    Ds)
   (Bj (Bz (EF.eu (Ct (Bn Bb (Bn Bb (Bn Bb (Bn (EF.eb (Dc 1 (Bv Cg Bf))) Bf)))))))
   (Bj (Bz (EF.eu (Ct (Bv Cg (Bn (EU.eb (Dv (Bn (EU.eb (Aa5 (Bn Bb (Bn Bb Bf)))) Bf))) Bf)))))
   (Bj (Fr (Zj (Aff (Xq (EU.eb (AeP Bb)))) (Du (EU.eb (Wr (EU.eb (Dv (Bn (EF.eb (Gr Bb (Cc (top:=1)) (Du (EU.eb (Lf Bb Bb))) Cg)) Bf))) (EU.eb (Dv (Bn Bb Bf)))))))
    (Gv Oy)
    Ds)
   (Bj (Fr (Du (EU.eb (Wr (EU.eb (Dv (Bn (EF.eb (Ct (Bn Bb (Bn Bb (Bn (EF.eb (Dc 1 (Bv Cg Bf))) Bf))))) Bf))) (EU.eb (Dv (Bn Bb Bf))))))
    (Gv Oy)
    Ds)
   (Bj (Bz (EF.eu (Ct (Bn Bb (Bn Bb (Bn (EF.eb (Dc 1 (Bv Cg Bf))) (Bn Bb Bf)))))))
   (Bj (Fr (Du (EU.eb (Jh (EF.eb (Ct (Bv (EF.eu (Ct (Bn Bb (Bn Bb (Bv Cg Bf))))) Bf))) Bb)))
    (Gv Oy)
    Ds)
   (Gv (Abp (EU.eb (Al5 (EU.eb (Nj (Bn Bb (Bn Bb (Bn Bb Bf))))) (EU.eb Oy))) (Lf (EU.eb (Nj (Bn Bb (Bn Bb (Bn Bb Bf))))) (EU.eb Bh)))))))))))))))))))))))))) (fun ps P hp=>?_)
 clear h hu hu64 hr
 obtain⟨ns,rfl,hlen,q⟩:=hp
 walk_at "s"
 ext
 refine⟨ns,rfl,hlen,fun f U R J k y ga=>?_⟩
 have bk:=Zd ga.jg ga.hk ga.ht ga.ul ga.hf y
 have gne:=Al7 ga
 have hst:=AmM ga
 have jl:=bk.jl
 ext
 refine⟨f,U,R,J,k,y,rfl,ga,?_⟩
 ext
 refine⟨ns,3,rfl,hlen,?_⟩
 ext
 walk_at "mb"
 unfold g2P
 generalize upG U R (r0G f U).length = W at bk gne hst
 generalize mtG f y = M at bk gne hst
 generalize cR ns 3 % 10 ^ toNat 9 = c
 ext
 refine⟨3,_,_,rfl,rfl,Gk (j:=3) rfl,?_⟩
 ext
 refine⟨W,M,J,rfl,bk.so,bk.mo,bk.nd,bk.jo,by have:=bk.ln; omega,?_⟩
 ext1
 refine Dy ?_
 ext1
 refine Dw (l:=range 28) (f:=fun k=>PV.int (f k)) (j:=27) (a:=27) rfl rfl ?_
 generalize hs27:f 27 = s at hst
 ext1
 refine Dy ?_
 ext1
 refine⟨f,W,M,J,rfl,gne,jl,fun gs g1 g2=>?_⟩
 ext1

 have ix:∀ n,n < 64->(Od n (some 4) (some 64) (some 2)).length <= 30/\(Od n (some 5) (some 64) (some 2)).length <= 30:=by decide +kernel
 have i1:=Nat.le_trans (Vd _ ns) (ix ns.length (by omega)).1
 have i2:=Nat.le_trans (Vd _ ns) (ix ns.length (by omega)).2
 refine On (fun ρ=>∃ hs:List (List Int),(0 < hs.length/\hs.length <= 100)/\(∀ g ∈ hs,0 < g.length/\g.length <= 100)/\ρ = [.bo (.scr ns),.sh (.tup [.lst ((range 28).map fun k=>.int (f k)),.lst (W.map sgP),.lst (M.map prP),.lst (J.map jnP)]),.sh (.dk (kkD W M)),.sh (.int c),.sh (.bk W M J),.sh (.int s),.sh (.lst (hs.map fun g:List Int=>.lst (g.map .int))),.un,.un,.un,.un,.un,.un,.un]) (fun ρ hh=>?_) ?_
 rotate_left
 ·ext
  walk_at "ma"
  refine Te (fun h=>?_) (fun h=>?_)
  ·obtain⟨x,ex,hx⟩:∃ x:Nat,c / 2 % 4 = (x:Int)/\x < 4:=⟨(c / 2 % 4).toNat,by omega,by omega⟩
   ext
   walk_at "ma"
   rw[ex,Dr,Ui,Dr,show (some (3:Int)) = some ((3:Nat):Int) from rfl,Lz]
   have sl:((gs.drop x).take 3).length = 3:=by rw[length_take,length_drop]; omega
   have sm:∀ g ∈ (gs.drop x).take 3,0 < g.length/\g.length <= 100:=fun g hg=>g2 g (List.mem_of_mem_drop (List.mem_of_mem_take hg))
   generalize (gs.drop x).take 3 = h3 at sl sm
   walk_at "md"
   refine Gf (S:=h3) (enc:=fun g:List Int=>PV.lst (g.map .int)) (f:=fun g=>some (.lst ((g.take 1).map .int))) ?_ (fun d hd Z hZ=>?_)
   rotate_left
   ·walk_at "c"
    ext
    rw[Dr,show (some (1:Int)) = some ((1:Nat):Int) from rfl,Lz]
    exact hZ
   rw[show h3.filterMap (fun g=>some (PV.lst ((g.take 1).map .int))) = (h3.map fun g=>g.take 1).map fun g:List Int=>.lst (g.map .int) by rw[map_map]; exact congrFun (filterMap_eq_map' (f:=fun g:List Int=>PV.lst ((g.take 1).map .int))) _]
   ext
   refine .inl ⟨_,⟨by rw[length_map]; omega,by rw[length_map]; omega⟩,fun g hg=>?_,rfl⟩
   obtain⟨g',hg',rfl⟩:=mem_map.mp hg
   have:=sm g' hg'
   rw[length_take]
   omega
  ·ext
   exact .inl ⟨gs,⟨by omega,by omega⟩,g2,rfl⟩
 obtain⟨hs,h1,h2,rfl⟩:=hh
 ext1
 refine Dy ?_
 ext1
 generalize pick (Od ns.length (some 4) (some 64) (some 2)) ns = n1 at i1
 walk_at "md"
 refine Gf (S:=n1) (enc:=PV.int) (f:=fun c=>some (.int (c % 10 ^ 9))) ?_ (fun d hd Z hZ=>?_)
 rotate_left
 ·walk_at "c"
  ext
  walk_at "mb"
  exact hZ
 rw[Ra n1 fun c=>c % 10 ^ 9]
 ext1
 refine⟨hs,_,rfl,h1,h2,by rw[length_map]; omega,fun ts tl _=>?_⟩
 rw[length_map] at tl
 have tl:ts.length <= 30:=by omega

 ext1
 refine Dy ?_
 ext1
 walk_at "md"
 refine Gf (S:=ts) (enc:=PV.int) (f:=fun x=>if x = s then none else some (.int x)) ?_ (fun d hd Z hZ=>?_)
 rotate_left
 ·walk_at "c"
  ext
  by_cases h:d = s
  ·rw[decide_eq_true h]
   rw[if_pos h] at hZ
   ext
   exact hZ
  ·rw[decide_eq_false h]
   rw[if_neg h] at hZ
   ext
   exact hZ
 rw[Xt]
 have ttl:(ts.filter fun x=>!decide (x = s)).length <= 30:=Nat.le_trans (length_filter_le _ _) tl
 have tns:¬ s ∈ ts.filter fun x=>!decide (x = s):=fun z=>by
  have:=(mem_filter.mp z).2
  rw[decide_eq_true rfl] at this
  exact absurd this (by decide)
 generalize (ts.filter fun x=>!decide (x = s)) = tt at ttl tns
 have xt:Tx W M J 30 240 tt:=Tx.of bk (k:=30) ttl
 have tf:FitB W M J 60 tt:=(FitB.of bk ttl).le (by decide)
 have tF:=tf.fit (by decide)
 have tL:=xt.ln
 ext1
 refine Dy ?_
 ext1
 walk_at "ma"

 generalize pick (Od ns.length (some 5) (some 64) (some 2)) ns = n2 at i2
 walk_at "md"
 refine Gf (S:=n2) (enc:=PV.int) (f:=fun c=>some (.int (c % 10 ^ 9))) ?_ (fun d hd Z hZ=>?_)
 rotate_left
 ·walk_at "c"
  ext
  walk_at "mb"
  exact hZ
 rw[Ra n2 fun c=>c % 10 ^ 9]

 ext1
 walk_at "ma"
 refine⟨f,W,M,J,tt,_,_,rfl,bk,by omega,tf,by rw[length_map]; omega,fun us un uf ul uL=>?_⟩
 have uF:=uf.fit (by decide)
 have gn:grp (Be W M) (lng W M J us) ≠ []:=fun z=>un ((Ov bk).mp (grp_ne.mp z))
 have m1:=List.length_pos_iff.mpr gn
 have gl1:(grp (Be W M) (lng W M J us)).length = (grp (Be W M) us).length:=by rw[Ft bk,length_map]
 have gl2:(grp (Be W M) (lng W M J tt)).length = (grp (Be W M) tt).length:=by rw[Ft bk,length_map]
 have go:=Dd (Be W M) tt
 have wl:=go.ln
 obtain⟨b1,b2,b3,b4⟩:=Akb bk hst tns un
 have chl:(Fq W M J tt us [s]).length <= 60:=by
  have:=Ajr (ht:=htF (grp (Be W M) (lng W M J tt)) (grp (Be W M) (lng W M J us))) (m:=(grp (Be W M) (lng W M J us)).length) (by':=[s]) (ws:=grp (Be W M) tt) m1 _ 0 rfl
  rw[show (grp (Be W M) tt).drop 0 = grp (Be W M) tt from rfl,go.fl,show [s].length = 1 from rfl,Nat.one_mul] at this
  unfold Fq
  omega
 have chf:FitB W M J 60 (Fq W M J tt us [s]):=fun w hw=>by
  rw[b1] at hw
  refine Wx (p:=fun x=>(opT J x).length <= 60) m1 0 (fun k a _ ha x hx=>?_) (fun _ x hx=>?_) _ 0 (Nat.le_refl _) rfl w hw
  ·rw[getElem?_map] at ha
   obtain⟨v,hv,rfl⟩:=map_eq_some_iff.mp ha
   rw[mem_singleton.mp hx]
   exact tf v (mem_of_getElem? hv)
  ·rw[mem_singleton.mp hx,Fw,Fg hst.pr]
   show 1 <= 60
   decide
 have chF:=chf.fit (by decide)
 have agf:FitB W M J 60 (Fq W M J (Fq W M J tt us [s]) [s] us):=tf.same bk b4
 have agF:=agf.fit (by decide)
 have agl:(Fq W M J (Fq W M J tt us [s]) [s] us).length <= 240:=by
  have:=Wi bk (Fq W M J (Fq W M J tt us [s]) [s] us)
  rw[b4] at this
  omega
 have s1F:Fit W M J [s]:=(FitB.of bk (k:=1) (Nat.le_refl _)).fit (by decide)
 have fl:(fdF (grp (Be W M) (lng W M J tt)) (grp (Be W M) (lng W M J us))).length <= 300:=by
  unfold fdF
  refine Nat.le_trans (length_filter_le _ _) ?_
  rw[length_range]; omega
 have flT:(grp (Be W M) (lng W M J tt)).flatten = lng W M J tt:=(Dd _ _).fl
 have flU:(grp (Be W M) (lng W M J us)).flatten = lng W M J us:=(Dd _ _).fl
 have sl1:=Ad0 bk tt
 have sl2:=Ad0 bk us
 have sn:sht W M J us ≠ []:=fun z=>un ((Ov bk).mp (by rw[<- Xp bk,z]; rfl))
 have up:=AeM (grp (Be W M) (lng W M J tt)) (grp (Be W M) (lng W M J us))
 have fm:∀ k,k ∈ fdF (grp (Be W M) (lng W M J tt)) (grp (Be W M) (lng W M J us)) ↔ htF (grp (Be W M) (lng W M J tt)) (grp (Be W M) (lng W M J us)) k = true:=fun k=>AbW gn
 have fk:∀ k,htF (grp (Be W M) (lng W M J tt)) (grp (Be W M) (lng W M J us)) k = true->k + (grp (Be W M) (lng W M J us)).length <= (grp (Be W M) tt).length:=fun k h=>by rw[<- gl2]; exact Aap gn h
 ext1
 refine Dy ?_
 ext1
 refine⟨W,M,J,tt,us,rfl,bk,by omega,by omega,tF,uF,un,?_⟩
 ext1
 refine Jb ?_ ?_
 rotate_left
 ·ext
  exact .inl rfl
 ext1
 refine Dy ?_
 ext1
 refine⟨f,W,M,J,tt,rfl,bk,by omega,tF,?_⟩
 ext1
 refine⟨_,rfl,by rw[flT]; omega,?_⟩
 rw[flT]
 ext1
 refine Jb ?_ ?_
 rotate_left
 ·ext
  refine⟨W,M,J,lng W M J tt,us,rfl,bk,by omega,by omega,Fit.lng bk tF,uF,un,?_⟩
  rw[Abz bk]
  ext
  refine Vs Xv ?_
  ext
  exact .inl rfl
 ext1
 refine Jb ?_ ?_
 rotate_left
 ·ext
  refine⟨f,W,M,J,us,rfl,bk,by omega,uF,?_⟩
  ext
  refine⟨_,rfl,by rw[flU]; omega,?_⟩
  rw[flU]
  ext
  refine⟨W,M,J,tt,lng W M J us,rfl,bk,by omega,by omega,tF,Fit.lng bk uF,fun z=>un ((Ov bk).mp z),?_⟩
  rw[Abz bk]
  ext
  refine Vs Xv ?_
  ext
  exact .inl rfl
 ext1
 refine Jb ?_ ?_
 rotate_left
 ·ext
  refine⟨W,M,J,tt,rfl,bk,by omega,tF,?_⟩
  ext
  refine⟨W,M,J,us,rfl,bk,by omega,uF,?_⟩
  ext
  refine⟨W,M,J,sht W M J tt,sht W M J us,rfl,bk,by omega,by omega,Fit.sht bk tF,Fit.sht bk uF,sn,?_⟩
  rw[Xp bk,Xp bk]
  ext
  refine Vs Xv ?_
  ext
  exact .inl rfl
 ext1
 refine Dy ?_
 ext1
 refine⟨W,M,J,tt,us,[s],rfl,bk,by omega,by omega,(show 1 <= 300 by decide),tF,uF,un,by omega,?_⟩
 ext1
 refine Dy ?_
 ext1
 refine⟨W,M,us,rfl,by omega,?_⟩
 ext1
 rw[length_map,<- gl1]
 refine⟨_,_,_,_,rfl,fl,m1,up,fm,fk,fun A hA hA3=>?_⟩
 generalize hch:Fq W M J tt us [s] = ch at *
 generalize nhF (htF (grp (Be W M) (lng W M J tt)) (grp (Be W M) (lng W M J us))) (grp (Be W M) (lng W M J us)).length (grp (Be W M) tt).length 0 = nh at *
 generalize fdF (grp (Be W M) (lng W M J tt)) (grp (Be W M) (lng W M J us)) = fd at *
 ext1
 refine Jb ?_ ?_
 rotate_left
 ·ext
  walk_at "md"
  refine Gf (S:=ch) (enc:=PV.int) (f:=fun x=>if x = s then some (.int x) else none) ?_ (fun d hd Z hZ=>?_)
  rotate_left
  ·walk_at "c"
   ext
   by_cases h:d = s
   ·rw[decide_eq_true h]
    rw[if_pos h] at hZ
    ext
    exact hZ
   ·rw[decide_eq_false h]
    rw[if_neg h] at hZ
    ext
    exact hZ
  rw[Wy]
  ext
  rw[length_map,length_map,b2,hA]
  refine Ua (fun z=>?_) ?_
  ·rw[decide_eq_true rfl] at z; cases z
  ext
  exact .inl rfl
 ext1
 refine Jb ?_ ?_
 rotate_left
 ·ext
  refine⟨W,M,J,ch,[s],rfl,bk,by omega,(show 1 <= 300 by decide),chF,s1F,by simp,?_⟩
  ext
  rw[length_map,length_map,b3,hA]
  refine Ua (fun z=>?_) ?_
  ·rw[decide_eq_true rfl] at z; cases z
  ext
  exact .inl rfl
 ext1
 refine Dy ?_
 ext1
 refine⟨W,M,J,ch,[s],us,rfl,bk,by omega,(show 1 <= 300 by decide),by omega,chF,s1F,by simp,by omega,?_⟩
 generalize Fq W M J ch [s] us = ag at *
 ext1
 refine Jb ?_ ?_
 rotate_left
 ·ext
  refine⟨f,W,M,J,ag,rfl,bk,by omega,agF,?_⟩
  rw[b4]
  ext
  refine⟨_,rfl,by rw[flT]; omega,?_⟩
  rw[flT]
  ext
  refine Vs Vj ?_
  ext
  exact .inl rfl
 ext
 refine AnK ?_
 ext
 refine⟨W,M,J,ag,tt,rfl,bk,by omega,by omega,agF,tF,?_⟩
 rw[b4,decide_eq_true rfl]
 ext
 refine⟨true,true,rfl,rfl,?_⟩
 rw[show decide (true = true) = true from rfl]
 ext
 refine⟨W,M,J,ag,tt,rfl,bk,by omega,by omega,agF,tF,?_⟩
 rw[b4,show AgI (lng W M J tt) (lng W M J tt) = 0 from if_pos rfl]
 ext
 exact q
end
def _root_.PySem.W.Fast.tw10683863741870695494:Nat:=0
def _root_.PySem.W.Fast.tw11860757893900102668:Nat:=0
def _root_.PySem.W.Fast.tw1317973234841119449:Nat:=0
def _root_.PySem.W.Fast.tw13263038820148191071:Nat:=0
def _root_.PySem.W.Fast.tw14485188437088537897:Nat:=0
def _root_.PySem.W.Fast.tw14628340379496251935:Nat:=0
def _root_.PySem.W.Fast.tw14688083476967117419:Nat:=0
def _root_.PySem.W.Fast.tw15846547463645765456:Nat:=0
def _root_.PySem.W.Fast.tw16593804696384164564:Nat:=0
def _root_.PySem.W.Fast.tw16858109460997459281:Nat:=0
def _root_.PySem.W.Fast.tw16888664007056032309:Nat:=0
def _root_.PySem.W.Fast.tw16939902301039714151:Nat:=0
def _root_.PySem.W.Fast.tw17141775277500955924:Nat:=0
def _root_.PySem.W.Fast.tw17831290027404157425:Nat:=0
def _root_.PySem.W.Fast.tw1978613077081621411:Nat:=0
def _root_.PySem.W.Fast.tw2027219158356851068:Nat:=0
def _root_.PySem.W.Fast.tw2151112494600856362:Nat:=0
def _root_.PySem.W.Fast.tw4755760625922221453:Nat:=0
def _root_.PySem.W.Fast.tw5075169282821597297:Nat:=0
def _root_.PySem.W.Fast.tw5283979465430824172:Nat:=0
def _root_.PySem.W.Fast.tw5712339447592498857:Nat:=0
def _root_.PySem.W.Fast.tw6091956089435582338:Nat:=0
def _root_.PySem.W.Fast.tw6347674384006241389:Nat:=0
def _root_.PySem.W.Fast.tw6812026134944555581:Nat:=0
def _root_.PySem.W.Fast.tw7390565046828638078:Nat:=0
def _root_.PySem.W.Fast.tw760153120962121421:Nat:=0
def _root_.PySem.W.Fast.tw7930364315587092666:Nat:=0
def _root_.PySem.W.Fast.tw8377731672729970093:Nat:=0
def _root_.PySem.W.Fast.tw9689013519115745114:Nat:=0
def _root_.PySem.W.Fast.tw9904959143570134861:Nat:=0
def _root_.PySem.W.Fast.tw9910918603683105134:Nat:=0
abbrev fnD (x q:Str) (st:Stmt) (dV kV doc pm:Value) (an:Option Addr) (cdv ct:Value):FuncData:=fnOf x q (Rc st) (Oj st) (Bt st) dV kV doc pm an cdv ct
def FK (K:Frag) (a:Addr) (n:Str) (st:Stmt):Prop:=nsIn K mainGlobals n = some (some (.ref a))/\∃ d,Fun K n n st a d
theorem FK.mk' {K:Frag} {n:Str} {st:Stmt} {f:Addr} {oc kV doc pm cdv ct:Value} {od an:Option Addr} {osl:Array (Option Value)} (b:nsIn K mainGlobals n = some (some (.ref f))) (l:K.lookup f = some ⟨oc,od,.func (fnD n n st .none kV doc pm an cdv ct),osl⟩) (c:codeIn K cdv n = true) (k:keepIn K (.ref f) = true):FK K f n st:=⟨b,_,Ox l c k⟩
theorem FK.get {K:Frag} {h:Heap} {mg:Str->Option Value} {a:Addr} {n:Str} {st:Stmt} (z:FK K a n st) (X:K.In h) (G:h.Ns mainGlobals mg):∃ d,Fun K n n st a d/\mg n = some (.ref a):=by
 obtain⟨b,d,F⟩:=z
 exact⟨d,F,mg_of X G b⟩
theorem all_mk {l:PySem.W.OpenLaw} {w:World} {K:Frag} {h:Heap} {mg:Str->Option Value} {fa:Addr} (X:K.In h) (G:h.Ns mainGlobals mg) (hfa:mg "law" = some (.ref fa)) {x00 x01 x02 x03 x04 x05 x06 x07 x08 x09 x0a x0b x0c x0d x0e x0f x0g x0h x0i x0j x0k x0l x0m x0n x0o x0p x0q x0r x0s x0t x0u x0v x0w x0x x0y x0z x10 x11 x12 x13 x14 x15 x16 x17 x18 x19 x1a x1b x1c x1d x1e:Addr} {x1f:Option Addr} {x1g:Array Value} {x1h:Nat} {x1i:Array (Option Value)} {x1j:Value} {x1k:Option Addr} {x1l:Array Value} {x1m:Nat} {x1n:Array (Option Value)} {x1o x1p x1q x1r x1s x1t x1u x1v x1w x1x x1y x1z:Option Addr} {x20 x21 x22 x23 x24 x25:Array (Option Value)} {x26 x27 x28 x29 x2a x2b x2c x2d x2e x2f x2g x2h x2i x2j x2k x2l x2m x2n x2o x2p x2q x2r x2s x2t x2u x2v x2w x2x x2y x2z x30 x31 x32 x33 x34 x35:Value}
  (x36:nsIn K mainGlobals "Book" = some (some (.ref x1c)))
  (x37:FK K x00 "_law_signs" AcA)
  (x38:FK K x01 "_law_told" Acq)
  (x39:FK K x02 "_law_joins" Acs)
  (x3a:FK K x03 "_law_cell_at" AgO)
  (x3b:FK K x04 "_law_lists" AcH)
  (x3c:FK K x05 "_law_words" Ade)
  (x3d:FK K x06 "refuse_unless" Ag4)
  (x3e:FK K x07 "check_tuples" AfD)
  (x3f:FK K x08 "is_whole_number" AfP)
  (x3g:FK K x09 "is_sign" Adn)
  (x3h:FK K x0a "add_kind" Ada)
  (x3i:FK K x0b "is_told_kind" Agk)
  (x3j:FK K x0c "is_rank_of" Agg)
  (x3k:FK K x0d "kinds_told" Afz)
  (x3l:FK K x0e "ranks_told" AgH)
  (x3m:FK K x0f "both_ways" Ac4)
  (x3n:FK K x0g "kind_among" Ag7)
  (x3o:FK K x0h "check_join" AgB)
  (x3p:FK K x0i "ends_in_time" Aft)
  (x3q:FK K x0j "pairs_told" AfS)
  (x3r:FK K x0k "wholes_told" Ag1)
  (x3s:findIn K (.ref x1c) "__init__" = some (some (.ref x0l)))
  (x3t:isFn K (.ref x0l) = true)
  (x3u:K.lookup x0l = some ⟨x26,x1o,.func (fnD "__init__" "Book.__init__" AcG .none x27 x28 x29 x1p x2a x2b),x20⟩)
  (x3v:codeIn K x2a "Book.__init__" = true)
  (x3w:keepIn K (.ref x0l) = true)
  (x3x:FK K x0m "_law_groups" AfA)
  (x3y:FK K x0n "_law_marky" Aco)
  (x3z:FK K x0o "_law_text" Ac2)
  (x40:FK K x0p "_law_wholes" Ag0)
  (x41:FK K x0q "_law_stepped" Agz)
  (x42:FK K x0r "_law_what" Ac1)
  (x43:findIn K (.ref x1c) "rank" = some (some (.ref x0s)))
  (x44:isFn K (.ref x0s) = true)
  (x45:K.lookup x0s = some ⟨x2c,x1q,.func (fnD "rank" "Book.rank" Zi .none x2d x2e x2f x1r x2g x2h),x21⟩)
  (x46:codeIn K x2g "Book.rank" = true)
  (x47:keepIn K (.ref x0s) = true)
  (x48:PySem.W.specialIn K (.ref x0s) "__get__" = some (some (.builtin "function.__get__")))
  (x49:PySem.W.takesIn K (.ref x0s) = some false)
  (x4a:findIn K (.ref x1c) "parts" = some (some (.ref x0t)))
  (x4b:isFn K (.ref x0t) = true)
  (x4c:K.lookup x0t = some ⟨x2i,x1s,.func (fnD "parts" "Book.parts" Adb .none x2j x2k x2l x1t x2m x2n),x22⟩)
  (x4d:codeIn K x2m "Book.parts" = true)
  (x4e:keepIn K (.ref x0t) = true)
  (x4f:FK K x0u "written_out" Af9)
  (x4g:FK K x0v "long_whole" Afu)
  (x4h:findIn K (.ref x1c) "kind" = some (some (.ref x0w)))
  (x4i:isFn K (.ref x0w) = true)
  (x4j:K.lookup x0w = some ⟨x2o,x1u,.func (fnD "kind" "Book.kind" Ac7 .none x2p x2q x2r x1v x2s x2t),x23⟩)
  (x4k:codeIn K x2s "Book.kind" = true)
  (x4l:keepIn K (.ref x0w) = true)
  (x4m:FK K x0x "wholes_of" Adc)
  (x4n:FK K x0y "long_wholes" AgP)
  (x4o:FK K x0z "found_at" Adm)
  (x4p:FK K x10 "_law_flat" AcJ)
  (x4q:FK K x11 "signs_of" Acp)
  (x4r:FK K x12 "replaced" Act)
  (x4s:FK K x13 "_law_apart" Acb)
  (x4t:FK K x14 "_law_long" Acm)
  (x4u:findIn K (.ref x1c) "joined" = some (some (.ref x15)))
  (x4v:isFn K (.ref x15) = true)
  (x4w:K.lookup x15 = some ⟨x2u,x1w,.func (fnD "joined" "Book.joined" AcM .none x2v x2w x2x x1x x2y x2z),x24⟩)
  (x4x:codeIn K x2y "Book.joined" = true)
  (x4y:keepIn K (.ref x15) = true)
  (x4z:FK K x16 "short_whole" AfY)
  (x50:FK K x17 "short_form" AgX)
  (x51:FK K x18 "long_form" Acc)
  (x52:FK K x19 "same_text" AcR)
  (x53:FK K x1a "compared" AcQ)
  (x54:nsIn K mainGlobals "law" = some (some (.ref x1b)))
  (x55:K.lookup x1b = some ⟨x30,x1y,.func (fnD "law" "law" Wt .none x31 x32 x33 x1z x34 x35),x25⟩)
  (x56:codeIn K x34 "law" = true)
  (x57:keepIn K (.ref x1b) = true)
  (x58:plainGet K x1c Str.empty = true)
  (x59:hasDictIn K x1c = true)
  (x5a:plainOver K x1c = true)
  (x5b:findIn K (.ref x1c) "__setattr__" = some (some (.builtin "object.__setattr__")))
  (x5c:makesIn K x1c = true)
  (x5d:keepIn K (.ref x1c) = true)
  (x5e:findIn K (.ref x1c) "kinds" = some none)
  (x5f:findIn K (.ref x1c) "ranks" = some none)
  (x5g:findIn K (.ref x1c) "mates" = some none)
  (x5h:findIn K (.ref x1c) "pairs" = some none)
  (x5i:findIn K (.ref x1c) "wholes" = some none)
  (x5j:nsIn K mainGlobals "bool" = some none)
  (x5k:nsIn K mainGlobals "int" = some none)
  (x5l:nsIn K mainGlobals "isinstance" = some none)
  (x5m:nsIn K mainGlobals "len" = some none)
  (x5n:nsIn K mainGlobals "list" = some none)
  (x5o:nsIn K mainGlobals "max" = some none)
  (x5p:nsIn K mainGlobals "range" = some none)
  (x5q:nsIn K mainGlobals "sorted" = some none)
  (x5r:nsIn K mainGlobals "str" = some none)
  (x5s:nsIn K mainGlobals "tuple" = some none)
  (x5t:nsIn K mainGlobals "JOINED_KINDS" = some (some (.ref x1d)))
  (x5u:K.lookup x1d = some ⟨.type "tuple",x1f,.seq x1g x1h,x1i⟩)
  (x5v:x1g.size <= sizeLine)
  (x5w:Vals [.str "fore",.str "back",.str "num",.str "blank",.str "plain"] x1g.toList)
  (x5x:nsIn K mainGlobals "MOST_GOINGS" = some (some x1j))
  (x5y:RelV (.int 7) x1j)
  (x5z:nsIn K mainGlobals "TOLD_KINDS" = some (some (.ref x1e)))
  (x60:K.lookup x1e = some ⟨.type "tuple",x1k,.seq x1l x1m,x1n⟩)
  (x61:x1l.size <= sizeLine)
  (x62:Vals [.str "fore",.str "back",.str "num",.str "blank",.str "mark",.str "forein",.str "backin",.str "out"] x1l.toList)
  : ∃ fd:FuncData,(∀ (s:Shared) (v:Value),BindsTo s fd ⟨[v],[]⟩ [("_law_script",v)])/\∀ base:Heap,K.In base->base.Ns mainGlobals mg->FnOk l.prog w K mg base CX0 8 fa fd ["_law_script"] (Wf K):=by
 have e:=hfa.symm.trans (mg_of X G x54)
 cases e
 obtain⟨_,F_qbh,m_qbh⟩:=x37.get X G
 obtain⟨_,F_qbs,m_qbs⟩:=x38.get X G
 obtain⟨_,F_qbd,m_qbd⟩:=x39.get X G
 obtain⟨_,F_qg,m_qg⟩:=x3a.get X G
 obtain⟨_,F_qbf,m_qbf⟩:=x3b.get X G
 obtain⟨_,F_qbi,m_qbi⟩:=x3c.get X G
 obtain⟨_,F_qb,m_qb⟩:=x3d.get X G
 obtain⟨_,F_qc,m_qc⟩:=x3e.get X G
 obtain⟨_,F_qa,m_qa⟩:=x3f.get X G
 obtain⟨_,F_qbw,m_qbw⟩:=x3g.get X G
 obtain⟨_,F_qbm,m_qbm⟩:=x3h.get X G
 obtain⟨_,F_qe,m_qe⟩:=x3i.get X G
 obtain⟨_,F_qo,m_qo⟩:=x3j.get X G
 obtain⟨_,F_qq,m_qq⟩:=x3k.get X G
 obtain⟨_,F_qv,m_qv⟩:=x3l.get X G
 obtain⟨_,F_qbb,m_qbb⟩:=x3m.get X G
 obtain⟨_,F_qp,m_qp⟩:=x3n.get X G
 obtain⟨_,F_qn,m_qn⟩:=x3o.get X G
 obtain⟨_,F_qd,m_qd⟩:=x3p.get X G
 obtain⟨_,F_qu,m_qu⟩:=x3q.get X G
 obtain⟨_,F_qk,m_qk⟩:=x3r.get X G
 obtain⟨_,F_qr,m_qr⟩:=x3x.get X G
 obtain⟨_,F_qbg,m_qbg⟩:=x3y.get X G
 obtain⟨_,F_qbr,m_qbr⟩:=x3z.get X G
 obtain⟨_,F_qs,m_qs⟩:=x40.get X G
 obtain⟨_,F_qh,m_qh⟩:=x41.get X G
 obtain⟨_,F_qbt,m_qbt⟩:=x42.get X G
 obtain⟨_,F_ql,m_ql⟩:=x4f.get X G
 obtain⟨_,F_qt,m_qt⟩:=x4g.get X G
 obtain⟨_,F_qbl,m_qbl⟩:=x4m.get X G
 obtain⟨_,F_qi,m_qi⟩:=x4n.get X G
 obtain⟨_,F_qbo,m_qbo⟩:=x4o.get X G
 obtain⟨_,F_qbp,m_qbp⟩:=x4p.get X G
 obtain⟨_,F_qbv,m_qbv⟩:=x4q.get X G
 obtain⟨_,F_qbu,m_qbu⟩:=x4r.get X G
 obtain⟨_,F_qbc,m_qbc⟩:=x4s.get X G
 obtain⟨_,F_qbq,m_qbq⟩:=x4t.get X G
 obtain⟨_,F_qj,m_qj⟩:=x4z.get X G
 obtain⟨_,F_qw,m_qw⟩:=x50.get X G
 obtain⟨_,F_qbj,m_qbj⟩:=x51.get X G
 obtain⟨_,F_qbk,m_qbk⟩:=x52.get X G
 obtain⟨_,F_qbn,m_qbn⟩:=x53.get X G
 have T:Txt K mg ⟨x00,_,x01,_,x02,_,x03,_,x04,_,x05,_,x06,_,x07,_,x08,_,x09,_,x0a,_,x0b,_,x0c,_,x0d,_,x0e,_,x0f,_,x0g,_,x0h,_,x0i,_,x0j,_,x0k,_,x0l,_,x0m,_,x0n,_,x0o,_,x0p,_,x0q,_,x0r,_,x0s,_,x0t,_,x0u,_,x0v,_,x0w,_,x0x,_,x0y,_,x0z,_,x10,_,x11,_,x12,_,x13,_,x14,_,x15,_,x16,_,x17,_,x18,_,x19,_,x1a,_,fa,_,x1c,x1d,x1e⟩:={
  F_qbh,m_qbh,
  F_qbs,m_qbs,
  F_qbd,m_qbd,
  F_qg,m_qg,
  F_qbf,m_qbf,
  F_qbi,m_qbi,
  F_qb,m_qb,
  F_qc,m_qc,
  F_qa,m_qa,
  F_qbw,m_qbw,
  F_qbm,m_qbm,
  F_qe,m_qe,
  F_qo,m_qo,
  F_qq,m_qq,
  F_qv,m_qv,
  F_qbb,m_qbb,
  F_qp,m_qp,
  F_qn,m_qn,
  F_qd,m_qd,
  F_qu,m_qu,
  F_qk,m_qk,
  F_qx:=Ox (st:=AcG) x3u x3v x3w,
  F_qr,m_qr,
  F_qbg,m_qbg,
  F_qbr,m_qbr,
  F_qs,m_qs,
  F_qh,m_qh,
  F_qbt,m_qbt,
  F_qba:=Ox (st:=Zi) x45 x46 x47,
  M_qba:=⟨x43,x44,x47⟩,
  B_qba:=⟨x43,x44,x48,x49,by decide⟩,
  F_qm:=Ox (st:=Adb) x4c x4d x4e,
  M_qm:=⟨x4a,x4b,x4e⟩,
  F_ql,m_ql,
  F_qt,m_qt,
  F_qy:=Ox (st:=Ac7) x4j x4k x4l,
  M_qy:=⟨x4h,x4i,x4l⟩,
  F_qbl,m_qbl,
  F_qi,m_qi,
  F_qbo,m_qbo,
  F_qbp,m_qbp,
  F_qbv,m_qbv,
  F_qbu,m_qbu,
  F_qbc,m_qbc,
  F_qbq,m_qbq,
  F_qf:=Ox (st:=AcM) x4w x4x x4y,
  M_qf:=⟨x4u,x4v,x4y⟩,
  F_qj,m_qj,
  F_qw,m_qw,
  F_qbj,m_qbj,
  F_qbk,m_qbk,
  F_qbn,m_qbn,
  F_qby:=Ox (st:=Wt) x55 x56 x57,
  m_qby:=mg_of X G x54,
  m_Book:=mg_of X G x36,
  cl_Book:=⟨x58,x59,x5a,x5b⟩,
  K_Book:=⟨x5c,x3s,x3t,x5d⟩,
  n_Book_kinds:=x5e,
  n_Book_ranks:=x5f,
  n_Book_mates:=x5g,
  n_Book_pairs:=x5h,
  n_Book_wholes:=x5i,
  z_bool:=mg_none_of X G x5j,
  z_int:=mg_none_of X G x5k,
  z_isinstance:=mg_none_of X G x5l,
  z_len:=mg_none_of X G x5m,
  z_list:=mg_none_of X G x5n,
  z_max:=mg_none_of X G x5o,
  z_range:=mg_none_of X G x5p,
  z_sorted:=mg_none_of X G x5q,
  z_str:=mg_none_of X G x5r,
  z_tuple:=mg_none_of X G x5s,
  g_JOINED_KINDS:=mg_of X G x5t,
  q_JOINED_KINDS:=fun _=>.inr ⟨_,_,_,x5u,rfl,rfl,x5v,x5w⟩,
  g_MOST_GOINGS:=⟨_,mg_of X G x5x,x5y⟩,
  g_TOLD_KINDS:=mg_of X G x5z,
  q_TOLD_KINDS:=fun _=>.inr ⟨_,_,_,x60,rfl,rfl,x61,x62⟩ }
 exact⟨fnD "law" "law" Wt .none x31 x32 x33 x1z x34 x35,fun s v=>.of_eq rfl,fun base _ _=>(Amn T).imp AiA⟩
theorem walk {l:PySem.W.OpenLaw} {q:Program} {loose:List Str} {XP:(Str->Option Value)->Heap->Prop} {YP:World->Heap->Prop} {d:DefRec} {K:Params->Frag} (hn:l.most = some 63) (hdf:d.params.defaults = [])
  (hY:∀ (w:World) (h:Heap),YP w h->(K w.params).In h)
  (F:∀ (w:World) (mg:Str->Option Value) (fa:Addr) (h:Heap),(K w.params).In h->h.Ns mainGlobals mg->mg d.name = some (.ref fa) ->
   ∃ fd:FuncData,(∀ (s:Shared) (u:Value),BindsTo s fd ⟨[u],[]⟩ [("_law_script",u)])/\∀ base:Heap,(K w.params).In base->base.Ns mainGlobals mg->FnOk l.prog w (K w.params) mg base CX0 8 fa fd ["_law_script"] (Wf (K w.params))) :
  PySem.W.WalkO q loose XP YP l.row.toRowW d [] (fun f vs=>PySem.call f vs) :=
 L2.Aoo (n:=63) (k:=8) (x:="_law_script") (CX:=fun w=>CX0) (sp:=fun w=>Wf (K w.params)) hn (by decide) hdf ⟨rfl,by decide,by decide⟩ hY F (fun _ _ a ns hl _ hS=>⟨a,ns,rfl,hS,hl,fun _=>rfl⟩) fun _ _ _ _ _ z=>z
end My
open PySem PySem.W PyProof.Rows
local macro_rules | `(tactic| walk_at "f")=>`(tactic| (refine' My.FK.mk' ?a ?b ?c ?d; (case a=>k_is); (case b=>k_is); (case c=>k_is); (case d=>k_is)))
set_option maxRecDepth 100000 in
set_option maxHeartbeats 0 in
theorem PySem.Challenge.cw_bothhands_k75_whole_there_and_back_holds : PySem.Challenge.rw_bothhands_k75_whole_there_and_back.Holds := by
 w_on; o_law; k_head; (case hw=>w_witness2)
 k_fill
 refine My.walk (l:=PySem.Challenge.rw_bothhands_k75_whole_there_and_back) rfl rfl (fun w h Y=>kIn_of Y) ?F
 case F =>
  intro w mg fa h KX G hmg
  refine' My.all_mk KX G hmg ?x36 ?x37 ?x38 ?x39 ?x3a ?x3b ?x3c ?x3d ?x3e ?x3f ?x3g ?x3h ?x3i ?x3j ?x3k ?x3l ?x3m ?x3n ?x3o ?x3p ?x3q ?x3r ?x3s ?x3t ?x3u ?x3v ?x3w ?x3x ?x3y ?x3z ?x40 ?x41 ?x42 ?x43 ?x44 ?x45 ?x46 ?x47 ?x48 ?x49 ?x4a ?x4b ?x4c ?x4d ?x4e ?x4f ?x4g ?x4h ?x4i ?x4j ?x4k ?x4l ?x4m ?x4n ?x4o ?x4p ?x4q ?x4r ?x4s ?x4t ?x4u ?x4v ?x4w ?x4x ?x4y ?x4z ?x50 ?x51 ?x52 ?x53 ?x54 ?x55 ?x56 ?x57 ?x58 ?x59 ?x5a ?x5b ?x5c ?x5d ?x5e ?x5f ?x5g ?x5h ?x5i ?x5j ?x5k ?x5l ?x5m ?x5n ?x5o ?x5p ?x5q ?x5r ?x5s ?x5t ?x5u ?x5v ?x5w ?x5x ?x5y ?x5z ?x60 ?x61 ?x62
  (case x36=>k_is)
  (case x37 | x38 | x39 | x3a | x3b | x3c | x3d | x3e | x3f | x3g | x3h | x3i | x3j | x3k | x3l | x3m | x3n | x3o | x3p | x3q | x3r=>walk_at "f")
  (case x3s | x3t | x3u | x3v | x3w=>k_is)
  (case x3x | x3y | x3z | x40 | x41 | x42=>walk_at "f")
  (case x43 | x44 | x45 | x46 | x47 | x48 | x49 | x4a | x4b | x4c | x4d | x4e=>k_is)
  (case x4f | x4g=>walk_at "f")
  (case x4h | x4i | x4j | x4k | x4l=>k_is)
  (case x4m | x4n | x4o | x4p | x4q | x4r | x4s | x4t=>walk_at "f")
  (case x4u | x4v | x4w | x4x | x4y=>k_is)
  (case x4z | x50 | x51 | x52 | x53=>walk_at "f")
  (case x54 | x55 | x56 | x57 | x58 | x59 | x5a | x5b | x5c | x5d | x5e | x5f | x5g | x5h | x5i | x5j | x5k | x5l | x5m | x5n | x5o | x5p | x5q | x5r | x5s | x5t | x5u=>k_is)
  (case x5v=>decide)
  (case x5w=>exact .cons ⟨_,rfl⟩ (.cons ⟨_,rfl⟩ (.cons ⟨_,rfl⟩ (.cons ⟨_,rfl⟩ (.cons ⟨_,rfl⟩ (.nil))))))
  (case x5x=>k_is)
  (case x5y=>exact⟨_,rfl⟩)
  (case x5z | x60=>k_is)
  (case x61=>decide)
  (case x62=>exact .cons ⟨_,rfl⟩ (.cons ⟨_,rfl⟩ (.cons ⟨_,rfl⟩ (.cons ⟨_,rfl⟩ (.cons ⟨_,rfl⟩ (.cons ⟨_,rfl⟩ (.cons ⟨_,rfl⟩ (.cons ⟨_,rfl⟩ (.nil)))))))))
