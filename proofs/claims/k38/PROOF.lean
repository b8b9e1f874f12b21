import PyProof.Rows.All
import Wide.All
import OpenK.AllK
import Wide.FinOn
import Lean
import PyProof.EqAt
import PyProof.EqKinds
import PyProof.TupleCall
import PyProof.NeKinds
import PyProof.DictItems
import PyProof.DictWalks
import KE.KTurnsDict
import KE.KDictSum
import KE.KSortKey
import KE.KBoundM
import KE.KMinKey
import KE.KRevIter
import KE.KFind
import KE.LcSums
import PyProof.ListRange
import PyProof.CollectIter
import PyProof.ConsumeWalk
import PyProof.ZipIter
import PySem.Challenge.RW_bothhands_k38_raised_by_two
open PySem.W (instObj methodObj lookIn plainGet hasDictIn findIn handedIn plainGet_of isFn plainOver takerIn Looks makesIn typeIn emptyDict keepIn mroIn kitOne kia_one kitx_list kitx_dict callWith_K cellsFrom_some kIn_of mg_of kitMeta mg_none_of Frag fnOf nsIn codeIn)
open PySem.Heap (lt_size SameBut get?_push_of_some get?_push_size Ns1)
open Nat (ne_of_lt zero_le lt_succ_self le_succ lt_succ_of_lt le_add_right succ_le_succ)
open List (range mem_filter mem_range filterMap_cons mem_cons_self mem_cons_of_mem mem_cons mem_append mem_append_left getElem?_set_self getElem?_set_ne mem_filterMap mem_append_right length_cons map_cons length_map append_nil nodup_cons of_mem_zip replicate length length_take getElem?_append_right getElem?_replicate getElem?_append_left getElem?_map mem_of_getElem? length_append length_replicate length_drop size_toArray length_set all_cons any_cons replicate_succ flatten_cons foldl foldl_cons length_singleton nil_append find?_cons length_nil map_nil nodup_nil Pairwise any_eq_true mem_map mem_singleton lookup_cons getElem_mem not_mem_nil map_append getElem?_take getElem?_of_mem take_append_drop drop_eq_getElem_cons nodup_append map_take zipWith take_length getElem?_mapIdx length_mapIdx length_reverse zip set_set eq_nil_or_concat concat_eq_append getElem?_range Nodup Sublist drop_of_length_le length_filter_le filter_append filter_cons_of_pos filter_cons_of_neg drop_length map length_zip getElem?_set length_range range' foldl_nil map_reverse cons_append any_map forall_mem_cons map_set take_nil filterMap_eq_map' getElem?_eq_getElem map_map append_assoc getElem?_eq_none ext_getElem?)
open Int (toNat_natCast emod_nonneg emod_lt_of_pos toNat)
open Option (getD_none isSome_some isSome_map map_eq_some_iff)
open Bool (and_eq_true)
open PySem.F (slot_dict_get entry_dict_get plainAttrs_dict type_dict_get plainAttrs_list)
open PyProof.Rows (boot_isinstance boot_int boot_bool boot_tuple boot_str boot_max)
set_option maxHeartbeats 4000000
set_option Elab.async false
set_option linter.all false
set_option maxRecDepth 100000
namespace L2
open PySem PySem.Spec PyProof.Rows
abbrev Key:=Sum Int Str
def Te:Key->Value->Bool
 | .inl k,v=>Value.isInt k v
 | .inr x,v=>Value.isStrOf x v
def Aod (w:World):Key->Int
 | .inl k=>hashInt k
 | .inr x=>hashStr w x
theorem Fk:∀ {k:Key} {v:Value},Te k v = true->(∃ i t,k = Sum.inl i/\v = Value.int i t)\/(∃ x t,k = Sum.inr x/\v = Value.str x t)
 | .inl i,v,h=>by
  obtain⟨t,e⟩:=Value.isInt_shape (k:=i) (v:=v) h
  exact .inl ⟨i,t,rfl,e⟩
 | .inr x,v,h=>by
  obtain⟨t,e⟩:=Value.isStrOf_shape (x:=x) (v:=v) h
  exact .inr ⟨x,t,rfl,e⟩
theorem Ad2 (i:Int) (t:Tok):Te (.inl i) (.int i t) = true:=by simp [Te,Value.isInt]
theorem AdL (x:Str) (t:Tok):Te (.inr x) (.str x t) = true:=by simp [Te,Value.isStrOf]
theorem Ak7 (a b:Int):decide ((Sum.inl a:Key) = Sum.inl b) = (a == b):=by
 by_cases e:a = b
 ·subst e; simp
 ·have h:¬ (Sum.inl a:Key) = Sum.inl b:=fun q=>e (Sum.inl.inj q)
  rw[decide_eq_false h]
  exact (beq_eq_false_iff_ne.mpr e).symm
theorem Alg (a b:Str):decide ((Sum.inr a:Key) = Sum.inr b) = decide (a = b):=by
 by_cases e:a = b
 ·subst e; simp
 ·have h:¬ (Sum.inr a:Key) = Sum.inr b:=fun q=>e (Sum.inr.inj q)
  rw[decide_eq_false h,decide_eq_false e]
theorem AkL (a:Int) (b:Str):decide ((Sum.inl a:Key) = Sum.inr b) = false:=decide_eq_false (fun q=>nomatch q)
theorem Aj4 (a:Str) (b:Int):decide ((Sum.inr a:Key) = Sum.inl b) = false:=decide_eq_false (fun q=>nomatch q)
def Dq (prog:Program) (w:World):PySem.KeyKind prog w Key where
 is:=Te
 hash:=Aod w
 inj:=fun v a b ha hb=>by
  rcases Fk ha with ⟨i,t,rfl,rfl⟩ | ⟨x,t,rfl,rfl⟩
  ·rcases Fk hb with ⟨j,u,rfl,e⟩ | ⟨y,u,rfl,e⟩
   ·injection e with e1 _; rw[e1]
   ·exact nomatch e
  ·rcases Fk hb with ⟨j,u,rfl,e⟩ | ⟨y,u,rfl,e⟩
   ·exact nomatch e
   ·injection e with e1 _; rw[e1]
 byValue:=fun k v h=>by
  rcases Fk h with ⟨i,t,rfl,rfl⟩ | ⟨x,t,rfl,rfl⟩ <;> rfl
 pyHash:=fun hv h=>by
  rcases Fk hv with ⟨i,t,rfl,rfl⟩ | ⟨x,t,rfl,rfl⟩
  ·exact wpAny_pyHash_int h
  ·exact wpAny_pyHash_str h
 eqBool:=fun hu hv h=>by
  rcases Fk hu with ⟨i,t,rfl,rfl⟩ | ⟨x,t,rfl,rfl⟩
  ·rcases Fk hv with ⟨j,u,rfl,rfl⟩ | ⟨y,u,rfl,rfl⟩
   ·rw[Ak7] at h; exact wpAny_eqBool_int h
   ·rw[AkL] at h; exact SeqAt.EqAt.int_str i t y u _ _ _ _ h
  ·rcases Fk hv with ⟨j,u,rfl,rfl⟩ | ⟨y,u,rfl,rfl⟩
   ·rw[Aj4] at h; exact SeqAt.EqAt.str_int x t j u _ _ _ _ h
   ·rw[Alg] at h; exact wpAny_eqBool_str h
 «strs»:=fun k x t v h=>by
  rcases Fk h with ⟨i,u,rfl,e⟩ | ⟨y,u,rfl,e⟩
  ·exact nomatch e
  ·injection e with e1 _
   subst e1
   cases v <;> rfl
theorem AaR (prog:Program) (w:World) (i:Int) (t:Tok):(Dq prog w).is (.inl i) (.int i t) = true:=Ad2 i t
theorem AaS (prog:Program) (w:World) (x:Str) (t:Tok):(Dq prog w).is (.inr x) (.str x t) = true:=AdL x t
inductive V where
 | non | bl (b:Bool) | int (i:Int) | str (x:Str) | byt (b:Array UInt8) | flt (b:UInt64) | ref (a:Addr) | ty (n:String)
 deriving DecidableEq
def RelV:V->Value->Prop
 | .non,u=>u = Value.none
 | .bl b,u=>u = Value.bool b
 | .int i,u=>∃ t,u = Value.int i t
 | .str x,u=>∃ t,u = Value.str x t
 | .byt b,u=>∃ t,u = Value.bytes b t
 | .flt b,u=>∃ t,u = Value.float b t
 | .ref a,u=>u = Value.ref a
 | .ty n,u=>u = Value.type n
abbrev Vals:List V->List Value->Prop:=Paired RelV
theorem Vals.length {xs:List V} {us:List Value} (r:Vals xs us):xs.length = us.length:=Paired.length r
theorem Vals.get:∀ {xs:List V} {us:List Value} {i:Nat} {x:V},Vals xs us->xs[i]? = some x->∃ u,us[i]? = some u/\RelV x u
 | _,_,_,_,.nil,e=>by simp at e
 | _,_,0,_,.cons r _,e=>by simp at e; subst e; exact⟨_,rfl,r⟩
 | _,_,i + 1,x,.cons _ t,e=>by
  obtain⟨u,h1,h2⟩:=Vals.get (i:=i) (x:=x) t (by simpa using e)
  exact⟨u,by simpa using h1,h2⟩
theorem Vals.set {x:V} {u:Value} (r:RelV x u):∀ {xs:List V} {us:List Value} (i:Nat),Vals xs us->Vals (xs.set i x) (us.set i u)
 | _,_,_,.nil=>.nil
 | _,_,0,.cons _ t=>.cons r t
 | _,_,i + 1,.cons q t=>.cons q (Vals.set r i t)
theorem Vals.append:∀ {xs ys:List V} {us ws:List Value},Vals xs us->Vals ys ws->Vals (xs ++ ys) (us ++ ws)
 | _,_,_,_,.nil,s=>s
 | _,_,_,_,.cons r t,s=>.cons r (Vals.append t s)
theorem Vals.take:∀ {xs:List V} {us:List Value} (n:Nat),Vals xs us->Vals (xs.take n) (us.take n)
 | _,_,0,_=>.nil
 | _,_,_ + 1,.nil=>.nil
 | _,_,n + 1,.cons r t=>.cons r (Vals.take n t)
theorem Vals.drop:∀ {xs:List V} {us:List Value} (n:Nat),Vals xs us->Vals (xs.drop n) (us.drop n)
 | _,_,0,r=>r
 | _,_,_ + 1,.nil=>.nil
 | _,_,n + 1,.cons _ t=>Vals.drop n t
def RelO:Option V->Option Value->Prop
 | some v,some u=>RelV v u
 | none,none=>True
 | _,_=>False
def KV {κ:Type}:List (κ × V)->List (κ × Value)->Prop:=Paired fun (p:κ × V) (q:κ × Value)=>p.1 = q.1/\RelV p.2 q.2
def kV:Key->V
 | .inl i=>.int i
 | .inr x=>.str x
inductive HO where
 | lst (xs:List V)
 | tup (xs:List V)
 | dK (kvs:List (Key × V)) | dT (kvs:List (List Key × V))
 | set (S:Int->Bool) (n:Nat)
 | ins (C dx:Addr) (fs:List (Str × V))
 | own (x:Addr)
 | xd (fs:List (Str × V))
 | met (f x:Addr)
 | rng (lo hi:Int)
 | frz (o:Obj) (u:HO)
 | tbl (ps:Array Value)
 | ext (φ:Heap->Prop)
abbrev Hp:=Addr->Option HO
def upd (H:Hp) (a:Addr) (o:HO):Hp:=fun b=>if b = a then some o else H b
theorem Bl {H:Hp} {a:Addr} {o:HO}:upd H a o a = some o:=by unfold upd; rw[if_pos rfl]
theorem Bh {H:Hp} {a b:Addr} {o:HO} (h:b ≠ a):upd H a o b = H b:=by unfold upd; rw[if_neg h]
theorem Go {H:Hp} {a:Addr} {o u:HO}:upd (upd H a o) a u = upd H a u:=by
 funext b; unfold upd; split <;> rfl
theorem Fh {H:Hp} {a b:Addr} {o u:HO} (h:H a = some o) (h':H b = some u) (d:o ≠ u):a ≠ b:=by
 intro e; subst e; rw[h] at h'; exact d (Option.some.inj h')
theorem By {H:Hp} {a b:Addr} {o:HO} (h:H a = some o) (h':H b = none):a ≠ b:=by
 intro e; subst e; rw[h] at h'; cases h'
section
variable (P:Program) (w:World)
def ObjOk (H:Hp) (h:Heap) (a:Addr):HO->Prop
 | .lst xs=>xs.length <= sizeLine/\∃ (its:List Value) (n:Nat),Vals xs its/\h.get? a = some { cls:=.type "list",data:=.seq its.toArray n }
 | .tup xs=>xs.length <= sizeLine/\∃ its:List Value,Vals xs its/\IsTup h a its.toArray
 | .dK kvs=>kvs.length <= sizeLine/\(a == sysModules) = false/\∃ vs,KV kvs vs/\h.DictOf (Dq P w) a vs
 | .dT kvs=>kvs.length <= sizeLine/\(a == sysModules) = false/\∃ xs:List (List Key × Addr × Value),
   Paired (fun (p:List Key × V) (q:List Key × Addr × Value)=>p.1 = q.1/\H q.2.1 = some (.tup (p.1.map kV))/\RelV p.2 q.2.2) kvs xs /\
   ∃ o es ep,h.get? a = some o/\o.ExactDict/\o.data = .dict es ep/\es.toList = xs.map (entryOfKey (tupleKind (Dq P w)))/\(xs.map (·.1)).Nodup
 | .set S n=>h.SetOf (intKind P w) a S n
 | .ins C dx fs=>H dx = some (.own a)/\fs.length <= 1000/\dx ≠ a/\h.get? a = some (instObj C dx) /\
   ∃ mA,h.Ns1 dx mA/\(∀ f,RelO (fs.lookup f) (mA f))/\PySem.Within mA (fs.map (·.1))
 | .own _=>∃ o,h.get? a = some o
 | .xd fs=>∃ mA,h.Ns1 a mA/\∀ f,RelO (fs.lookup f) (mA f)
 | .rng lo hi=>∃ t u v,h.get? a = some { cls:=.type "range",data:=.fields #[.int lo t,.int hi u,.int 1 v] }
 | .frz o u=>h.get? a = some o/\ObjOk H h a u
 | .tbl ps=>h.get? a = some { cls:=.none,data:=.fields ps }
 | .met f x=>h.get? a = some (methodObj (.ref f) (.ref x))
 | .ext φ=>φ h/\(∃ o,h.get? a = some o)/\∀ h1 h2:Heap,φ h1->(∀ o,h1.get? a = some o->h2.get? a = some o)->φ h2
def HOk (H:Hp) (h:Heap):Prop:=∀ a o,H a = some o->ObjOk P w H h a o
end
section
variable {P:Program} {w:World} {H H':Hp} {h h':Heap} {a:Addr} {o:HO}
theorem ObjOk.lt (x:ObjOk P w H h a o):a < h.objs.size:=by
 cases o with
 | lst xs=>obtain⟨_,_,_,_,e⟩:=x; exact lt_size e
 | tup xs=>obtain⟨_,_,_,p⟩:=x; exact p.lt
 | dK kvs=>obtain⟨_,_,_,_,o,_,_,e,_⟩:=x; exact lt_size e
 | dT kvs=>obtain⟨_,_,_,_,o,_,_,e,_⟩:=x; exact lt_size e
 | set S n=>obtain⟨o,_,_,_,e,_⟩:=x; exact lt_size e
 | ins C dx fs=>obtain⟨_,_,_,e,_⟩:=x; exact lt_size e
 | own y=>obtain⟨_,e⟩:=x; exact lt_size e
 | xd fs=>obtain⟨_,⟨_,_,_,e,_⟩,_⟩:=x; exact lt_size e
 | rng lo hi=>obtain⟨_,_,_,e⟩:=x; exact lt_size e
 | frz ob u=>obtain⟨e,_⟩:=x; exact lt_size e
 | tbl ps=>exact lt_size (show h.get? a = some _ from x)
 | met f y=>exact lt_size (show h.get? a = some _ from x)
 | ext φ=>obtain⟨_,⟨_,e⟩,_⟩:=x; exact lt_size e
theorem Paired.mapP {α β:Type} {F G:α->β->Prop}:∀ {l₁:List α} {l₂:List β},Paired F l₁ l₂->(∀ a b,F a b->G a b)->Paired G l₁ l₂
 | _,_,.nil,_=>.nil
 | _,_,.cons r t,f=>.cons (f _ _ r) (Paired.mapP t f)
theorem ObjOk.stay (x:ObjOk P w H h a o) (k:∀ b u,(b = a\/H b = some (.own a))->h.get? b = some u->h'.get? b = some u)
  (ho:∀ b,H b = some (.own a)->H' b = some (.own a)) (ht:∀ b xs,H b = some (.tup xs)->H' b = some (.tup xs)):ObjOk P w H' h' a o:=by
 induction o with
 | lst xs=>obtain⟨z,its,n,r,e⟩:=x; exact⟨z,its,n,r,k _ _ (.inl rfl) e⟩
 | tup xs=>obtain⟨z,its,r,ob,e,c⟩:=x; exact⟨z,its,r,ob,k _ _ (.inl rfl) e,c⟩
 | dK kvs=>obtain⟨z,y,vs,r,ob,es,ep,e,c⟩:=x; exact⟨z,y,vs,r,ob,es,ep,k _ _ (.inl rfl) e,c⟩
 | dT kvs =>
  obtain⟨z,y,xs,r,ob,es,ep,e,c⟩:=x
  exact⟨z,y,xs,Paired.mapP r fun p q z=>⟨z.1,ht _ _ z.2.1,z.2.2⟩,ob,es,ep,k _ _ (.inl rfl) e,c⟩
 | set S n=>obtain⟨ob,es,ep,t,e,c⟩:=x; exact⟨ob,es,ep,t,k _ _ (.inl rfl) e,c⟩
 | ins C dx fs =>
  obtain⟨d,z,ne,e,mA,⟨od,es,ep,e2,c⟩,r⟩:=x
  exact⟨ho _ d,z,ne,k _ _ (.inl rfl) e,mA,⟨od,es,ep,k _ _ (.inr d) e2,c⟩,r⟩
 | own y=>obtain⟨ob,e⟩:=x; exact⟨ob,k _ _ (.inl rfl) e⟩
 | xd fs=>obtain⟨mA,⟨od,es,ep,e,c⟩,r⟩:=x; exact⟨mA,⟨od,es,ep,k _ _ (.inl rfl) e,c⟩,r⟩
 | rng lo hi=>obtain⟨t,u,v,e⟩:=x; exact⟨t,u,v,k _ _ (.inl rfl) e⟩
 | frz ob u ih=>obtain⟨e,q⟩:=x; exact⟨k _ _ (.inl rfl) e,ih q⟩
 | tbl ps =>
  have e:h.get? a = some { cls:=.none,data:=.fields ps }:=x
  show h'.get? a = some { cls:=.none,data:=.fields ps }
  exact k a _ (.inl rfl) e
 | met f y =>
  have e:h.get? a = some (methodObj (.ref f) (.ref y)):=x
  show h'.get? a = some (methodObj (.ref f) (.ref y))
  exact k a _ (.inl rfl) e
 | ext φ=>obtain⟨p,⟨o,e⟩,st⟩:=x; exact⟨st _ _ p fun o q=>k _ _ (.inl rfl) q,⟨o,k _ _ (.inl rfl) e⟩,st⟩
theorem HOk.lt (x:HOk P w H h) (e:H a = some o):a < h.objs.size:=(x a o e).lt
theorem HOk.fresh (x:HOk P w H h) (e:h.objs.size <= a):H a = none:=by
 cases q:H a with
 | none=>rfl
 | some u=>exact absurd (Nat.lt_of_lt_of_le (x.lt q) e) (Nat.lt_irrefl _)
theorem HOk.kept (x:HOk P w H h) (k:∀ b u,h.get? b = some u->h'.get? b = some u):HOk P w H h':=fun a o e =>
 (x a o e).stay (fun b u _ q=>k b u q) (fun _ q=>q) fun _ _ q=>q
theorem HOk.laid (x:HOk P w H h) (k:∀ b u,h.get? b = some u->h'.get? b = some u) (hp:h.objs.size <= a) (new:ObjOk P w (upd H a o) h' a o):HOk P w (upd H a o) h':=fun b u e=>by
 have hn:=x.fresh hp
 by_cases hb:b = a
 ·subst hb; rw[Bl] at e; cases e; exact new
 ·rw[Bh hb] at e
  exact (x b u e).stay (fun c v _ q=>k c v q) (fun c q=>by rw[Bh (By q hn)]; exact q) fun c xs q=>by rw[Bh (By q hn)]; exact q
end
def Rd (H:Hp) (a:Addr) (u:HO):Prop:=H a = some u\/∃ o,H a = some (.frz o u)
theorem Rd.ok {P:Program} {w:World} {H:Hp} {h:Heap} {a:Addr} {u:HO} (r:Rd H a u) (x:HOk P w H h):ObjOk P w H h a u:=by
 rcases r with r | ⟨o,r⟩
 ·exact x a u r
 ·obtain⟨_,q⟩:=x a _ r
  exact q
def Mut:Option HO->Prop
 | some (.lst _)=>True
 | some (.dK _)=>True
 | some (.dT _)=>True
 | some (.set _ _)=>True
 | some (.ins _ _ _)=>True
 | some (.ext _)=>True
 | _=>False
section
variable {P:Program} {w:World} {H:Hp} {h h':Heap} {x e:Addr} {o':HO}
theorem HOk.write (ok:HOk P w H h) (mu:Mut (H x)) (he:e = x\/H e = some (.own x)) (k:∀ b u,b ≠ e->h.get? b = some u->h'.get? b = some u) (heo:∃ u,h'.get? e = some u)
  (new:ObjOk P w (upd H x o') h' x o'):HOk P w (upd H x o') h':=fun b u q=>by
 have nown:∀ c y,H c = some (.own y)->c ≠ x:=fun c y r z=>by subst z; rw[r] at mu; exact mu
 have ntup:∀ c xs,H c = some (.tup xs)->c ≠ x:=fun c xs r z=>by subst z; rw[r] at mu; exact mu
 by_cases hb:b = x
 ·subst hb; rw[Bl] at q; cases q; exact new
 ·rw[Bh hb] at q
  by_cases hbe:b = e
  ·have q':H b = some (.own x):=by
    rcases he with z | z
    ·exact absurd (hbe.trans z) hb
    ·rw[hbe]; exact z
   rw[q] at q'; cases q'
   obtain⟨v,hv⟩:=heo
   exact⟨v,by rw[hbe]; exact hv⟩
  ·refine (ok b u q).stay (fun c v hc r=>k c v ?_ r) (fun c r=>by rw[Bh (nown c b r)]; exact r) fun c xs r=>by rw[Bh (ntup c xs r)]; exact r
   rcases hc with rfl | hc
   ·exact hbe
   ·rintro rfl
    rcases he with z | z
    ·exact nown c b hc z
    ·rw[hc] at z; cases z; exact hb rfl
end
structure Un (fs ex:List Addr) (H H':Hp) (h h':Heap):Prop where
 keep:∀ b o,h.get? b = some o->H b = none->b ∉ fs->b ∉ ex->h'.get? b = some o
 slot:∀ b o,h.get? b = some o->H b = none->b ∈ fs->b ∉ ex->∃ sl,h'.get? b = some { o with slots:=sl }
 free:∀ b o,h.get? b = some o->H b = none->b ∉ ex->H' b = none
 there:∀ b o,h.get? b = some o->b ∉ ex->∃ o',h'.get? b = some o'
 tups:∀ b xs,H b = some (.tup xs)->H' b = some (.tup xs)
 frzs:∀ b o u,H b = some (.frz o u)->H' b = some (.frz o u)
 tbls:∀ b ps,H b = some (.tbl ps)->∃ more,H' b = some (.tbl (ps ++ more))
section
variable {fs fs' ex ex':List Addr} {H H1 H2:Hp} {h h1 h2 h':Heap} {a x e:Addr} {o:HO}
theorem Un.any (u:Un fs ex H H1 h h1) {b:Addr} {ob:Obj} (q:h.get? b = some ob) (n:H b = none) (hx:b ∉ ex):∃ sl,h1.get? b = some { ob with slots:=sl }:=by
 by_cases hb:b ∈ fs
 ·exact u.slot b ob q n hb hx
 ·exact⟨ob.slots,u.keep b ob q n hb hx⟩
theorem Un.kept (k:∀ b u,h.get? b = some u->h'.get? b = some u):Un fs ex H H h h' :=
 ⟨fun b ob q _ _ _=>k b ob q,fun b ob q _ _ _=>⟨ob.slots,k b ob q⟩,fun _ _ _ n _=>n,fun b ob q _=>⟨ob,k b ob q⟩,fun _ _ q=>q,fun _ _ _ q=>q,fun _ ps q=>⟨#[],by rw[q]; simp⟩⟩
theorem Un.refl:Un fs ex H H h h:=Un.kept fun _ _ q=>q
theorem Un.laid (k:∀ b u,h.get? b = some u->h'.get? b = some u) (hp:h.objs.size <= a) (hn:H a = none):Un fs ex H (upd H a o) h h' where
 keep:=fun b u q _ _ _=>k b u q
 slot:=fun b u q _ _ _=>⟨u.slots,k b u q⟩
 free:=fun b u q n _=>by rw[Bh (ne_of_lt (Nat.lt_of_lt_of_le (lt_size q) hp))]; exact n
 there:=fun b u q _=>⟨u,k b u q⟩
 tups:=fun b xs q=>by rw[Bh (By q hn)]; exact q
 frzs:=fun b u xs q=>by rw[Bh (By q hn)]; exact q
 tbls:=fun b ps q=>⟨#[],by rw[Bh (By q hn),q]; simp⟩
theorem Un.write (mu:Mut (H x)) (he:e = x\/H e = some (.own x)) (k:∀ b u,b ≠ e->h.get? b = some u->h'.get? b = some u) (heo:∃ u,h'.get? e = some u):Un fs ex H (upd H x o) h h':=by
 have hx:∀ b,H b = none->b ≠ x:=fun b n z=>by subst z; rw[n] at mu; exact mu
 have hb:∀ b,H b = none->b ≠ e:=fun b n z=>by
  subst z
  rcases he with r | r
  ·exact hx b n r
  ·rw[n] at r; cases r
 have hm:∀ b u,H b = some u->¬ Mut (some u)->b ≠ x:=fun b u q nm z=>by subst z; rw[q] at mu; exact nm mu
 refine⟨fun b u q n _ _=>k b u (hb b n) q,fun b u q n _ _=>⟨u.slots,k b u (hb b n) q⟩,fun b u q n _=>by rw[Bh (hx b n)]; exact n,fun b u q _=>?_,
  fun b xs q=>by rw[Bh (hm b _ q fun z=>z)]; exact q,fun b u xs q=>by rw[Bh (hm b _ q fun z=>z)]; exact q,fun b ps q=>⟨#[],by rw[Bh (hm b _ q fun z=>z),q]; simp⟩⟩
 by_cases hbe:b = e
 ·subst hbe; exact heo
 ·exact⟨u,k b u hbe q⟩
end
def trk (h:Heap) (H:Hp):List Addr:=(range h.objs.size).filter fun a=>(H a).isSome
def Rj (h:Heap) (H:Hp):Heap:=PySem.W.hideAll h (trk h H)
theorem AeA (h:Heap) (H:Hp):(Rj h H).objs.size = h.objs.size:=PySem.W.hideAll_size _ _
theorem Agc {h:Heap} {H:Hp} {b:Addr} {o:Obj} (e:h.get? b = some o) (n:H b = none):(Rj h H).get? b = some o :=
 PySem.W.hideAll_get _ e fun hm=>by
  have q:(H b).isSome = true:=(mem_filter.mp hm).2
  rw[n] at q; simp at q
theorem Air {h:Heap} {H:Hp} {b:Addr} {o:Obj} (e:(Rj h H).get? b = some o):h.get? b = some o/\H b = none:=by
 have e':h.get? b = some o:=PySem.W.of_hideAll (trk h H) e
 refine⟨e',?_⟩
 cases q:H b with
 | none=>rfl
 | some x =>
  have hm:b ∈ trk h H:=mem_filter.mpr ⟨mem_range.mpr (lt_size e'),by simp [q]⟩
  have z:(Rj h H).get? b = none:=PySem.W.hideAll_none (trk h H) hm
  rw[z] at e; cases e
structure Mod (K:Frag) (mg:Str->Option Value) (base:Heap):Prop where
 kin:K.In base
 glob:base.Ns mainGlobals mg
 blt:∃ mb,base.Ns builtinsNs mb/\∀ x:Str,x ≠ "__name__"->mb x = bootBuiltins x
 nolimit:base.NoLimit
structure Cx where
 prog:Program
 w:World
 K:Frag
 mg:Str->Option Value
 base:Heap
 A:Around
 N:List Str
 s₀:Shared
 H₀:Hp
 env:Env
 outer:List Env
 stack:List Env
 ex:List Addr
 fn:Str->Bool
 calm:Bool
 pn:List (Addr × Obj)
 xe:Value->Shared->Prop
def frs (l:List Env):List Addr:=l.filterMap (·.frame)
abbrev Cx.fs (X:Cx):List Addr:=frs X.outer
def Vis (sc:Scope) (x:Str):Prop:=sc.names.lookup x = some .local\/sc.names.lookup x = some .cell\/sc.names.lookup x = some .free
def Loc (sc:Scope) (x:Str):Prop:=sc.names.lookup x = some .local\/sc.names.lookup x = some .cell
def An4 (env:Env) (h:Heap) (m:Str->Option Value) (x:Str) (u:Value):Prop :=
 (env.kindOf x = some .local/\m x = some u)\/((env.kindOf x = some .cell\/env.kindOf x = some .free)/\∃ c,env.cells.lookup x = some c/\h.IsCell c (some u))
structure Cx.Ok (X:Cx):Prop where
 mod:Mod X.K X.mg X.base
 kind:X.env.scope.kind = .function
 glob:X.env.globals = mainGlobals
 blt:X.env.builtins = builtinsNs
 above:X.s₀.heap.objs.size <= X.env.locals
 inj:∀ x y c,X.env.cells.lookup x = some c->X.env.cells.lookup y = some c->x = y
 has:∀ x,(X.env.kindOf x = some .cell\/X.env.kindOf x = some .free)->∃ c,X.env.cells.lookup x = some c
 cab:∀ x c,X.fn x = true->X.env.cells.lookup x = some c->X.s₀.heap.objs.size <= c
 hd:X.calm = true->X.A.handled = none
 frames:X.A.frames = some X.stack
 stk:X.stack = X.outer\/(X.stack = X.env :: X.outer/\X.env.frame = some X.env.locals)
 exf:∀ b ∈ X.ex,b ≠ X.env.locals/\∀ x c,X.env.cells.lookup x = some c->c ≠ b
 bs:∀ b o,X.base.get? b = some o->X.s₀.heap.get? b = some o/\X.H₀ b = none
 bsz:X.base.objs.size <= X.s₀.heap.objs.size
 noex:∀ b o,X.base.get? b = some o->b ∉ X.ex
 exfs:∀ b ∈ X.ex,b ∉ X.fs
 funs:X.s₀.heap.FunFrames X.base X.outer
 frf:∀ b ∈ X.fs,X.H₀ b = none
structure Inv (X:Cx) (pins:List (Addr × Obj)) (σ:List (Option V)) (H:Hp) (s:Shared):Prop where
 ok:X.Ok
 os:s.os = X.s₀.os
 bare:AllBare s.gens
 base:Un X.fs X.ex X.H₀ H X.s₀.heap s.heap
 loc:∃ m,s.heap.Ns X.env.locals m/\∀ (i:Nat) (x:Str) (v:V),X.N[i]? = some x->σ[i]? = some (some v)->Vis X.env.scope x->∃ u,RelV v u/\An4 X.env s.heap m x u
 cell:∀ x c,X.env.cells.lookup x = some c->∃ v,s.heap.IsCell c v
 free:H X.env.locals = none
 freeC:∀ x c,X.env.cells.lookup x = some c->H c = none
 pin:∀ p ∈ X.pn ++ pins,s.heap.get? p.1 = some p.2/\H p.1 = none/\p.1 ≠ X.env.locals/\p.1 ∉ X.fs/\∀ v,p.2.data ≠ .cell v
 hok:HOk X.prog X.w H s.heap
 len:σ.length = X.N.length
section
variable {X:Cx} {pins:List (Addr × Obj)} {σ:List (Option V)} {H H':Hp} {s:Shared} {h':Heap}
theorem Cx.Ok.nofr (ok:X.Ok) {b:Addr} {o:Obj} (e:X.base.get? b = some o):b ∉ X.fs:=fun hb=>by
 have:=(ok.funs.mem hb).1
 rw[e] at this; cases this
theorem Inv.bs (I:Inv X pins σ H s):∀ b o,X.base.get? b = some o->s.heap.get? b = some o/\H b = none:=fun b o e =>
 ⟨I.base.keep b o (I.ok.bs b o e).1 (I.ok.bs b o e).2 (I.ok.nofr e) (I.ok.noex b o e),I.base.free b o (I.ok.bs b o e).1 (I.ok.bs b o e).2 (I.ok.noex b o e)⟩
theorem Inv.bk (I:Inv X pins σ H s):∀ b o,X.base.get? b = some o->s.heap.get? b = some o:=fun b o e=>(I.bs b o e).1
theorem Inv.mod (I:Inv X pins σ H s):Mod X.K X.mg X.base:=I.ok.mod
theorem Inv.kIn (I:Inv X pins σ H s):X.K.In s.heap:=I.ok.mod.kin.keeps I.bk
theorem Inv.lt (I:Inv X pins σ H s):X.env.locals < s.heap.objs.size:=let ⟨_,hn,_⟩:=I.loc; hn.lt
theorem Inv.sz (I:Inv X pins σ H s):X.s₀.heap.objs.size <= s.heap.objs.size:=Nat.le_trans I.ok.above (Nat.le_of_lt I.lt)
theorem Inv.nofs (I:Inv X pins σ H s) {a:Addr} (h:s.heap.objs.size <= a):a ∉ X.fs:=fun hb=>by
 obtain⟨_,o,ho,_⟩:=I.ok.funs.mem hb
 exact absurd (Nat.lt_of_lt_of_le (lt_size ho) (Nat.le_trans I.sz h)) (Nat.lt_irrefl _)
theorem Inv.cne (I:Inv X pins σ H s):∀ x c,X.env.cells.lookup x = some c->c ≠ X.env.locals:=fun x c e z=>by
 obtain⟨v,o,ho,hd⟩:=I.cell x c e
 obtain⟨m,⟨o',es,ep,ho',hd',_⟩,_⟩:=I.loc
 rw[z,ho'] at ho; cases ho; rw[hd'] at hd; cases hd
theorem Inv.funs (I:Inv X pins σ H s):s.heap.FunFrames X.base X.outer:=by
 have all:∀ (l:List Env),(∀ b ∈ frs l,b ∈ X.fs)->X.s₀.heap.FunFrames X.base l->s.heap.FunFrames X.base l:=by
  intro l
  induction l with
  | nil=>intro _ _; trivial
  | cons env r ih =>
   intro hs hl
   obtain⟨hk,⟨L,o,hf,hn,ho,hd⟩,hr⟩:=hl
   have hL:L ∈ X.fs:=hs L (by unfold frs; rw[filterMap_cons,hf]; exact mem_cons_self)
   obtain⟨sl,e⟩:=I.base.slot L o ho (I.ok.frf L hL) hL fun z=>I.ok.exfs L z hL
   exact⟨hk,⟨L,_,hf,hn,e,hd⟩,ih (fun b hb=>hs b (by unfold frs; rw[filterMap_cons,hf]; exact mem_cons_of_mem _ hb)) hr⟩
 exact all X.outer (fun _ hb=>hb) I.ok.funs
theorem Inv.stack (I:Inv X pins σ H s):s.heap.FunFrames X.base X.stack:=by
 rcases I.ok.stk with e | ⟨e,hf⟩
 ·rw[e]; exact I.funs
 ·rw[e]
  obtain⟨m,hn,_⟩:=I.loc
  refine .cons (by rw[I.ok.kind]; decide) hf hn ?_ I.funs
  exact Heap.get?_none_of_le (Nat.le_trans I.ok.bsz I.ok.above)
theorem Inv.stkSub (I:Inv X pins σ H s):∀ b ∈ frs X.stack,b ∈ X.env.locals :: X.fs:=fun b hb=>by
 rcases I.ok.stk with e | ⟨e,hf⟩
 ·rw[e] at hb; exact mem_cons_of_mem _ hb
 ·rw[e] at hb
  unfold frs at hb
  rw[filterMap_cons,hf] at hb
  exact hb
theorem Inv.stkFree (I:Inv X pins σ H s):∀ b ∈ frs X.stack,H b = none:=fun b hb=>by
 rcases mem_cons.mp (I.stkSub b hb) with e | hb
 ·rw[e]; exact I.free
 ·obtain⟨_,o,ho,_⟩:=I.ok.funs.mem hb
  exact I.base.free b o ho (I.ok.frf b hb) fun z=>I.ok.exfs b z hb
theorem Inv.step {g':Array GenState} {t':Nat} {d':Drawn} {ch:List Addr} (I:Inv X pins σ H s)
  (hch:∀ b ∈ ch,(b ∈ X.ex\/X.s₀.heap.objs.size <= b)/\b ≠ X.env.locals/\(∀ x c,X.env.cells.lookup x = some c->c ≠ b)/\∀ p ∈ X.pn ++ pins,p.1 ≠ b)
  (keep:∀ b o,b ≠ X.env.locals->b ∉ X.fs->b ∉ ch->s.heap.get? b = some o->H b = none->h'.get? b = some o)
  (slot:∀ b o,b ≠ X.env.locals->b ∈ X.fs->b ∉ ch->s.heap.get? b = some o->H b = none->∃ sl,h'.get? b = some { o with slots:=sl }) (free:∀ b o,b ∉ ch->s.heap.get? b = some o->H b = none->H' b = none)
  (there:∀ b o,b ∉ ch->s.heap.get? b = some o->∃ o',h'.get? b = some o')
  (tups:∀ b xs,H b = some (.tup xs)->H' b = some (.tup xs)) (frzs:∀ b o u,H b = some (.frz o u)->H' b = some (.frz o u)) (tbls:∀ b ps,H b = some (.tbl ps)->∃ more,H' b = some (.tbl (ps ++ more)))
  (ns:∀ m,s.heap.Ns X.env.locals m->h'.Ns X.env.locals m) (hok:HOk X.prog X.w H' h') (hg:AllBare g') :
  Inv X pins σ H' { s with heap:=h',gens:=g',drawn:=d',toks:=t' }:=by
 have neL:∀ b o,X.s₀.heap.get? b = some o->b ≠ X.env.locals:=fun b o e=>ne_of_lt (Nat.lt_of_lt_of_le (lt_size e) I.ok.above)
 have neC:∀ b o,X.s₀.heap.get? b = some o->b ∉ X.ex->b ∉ ch:=fun b o e hx hb=>by
  rcases (hch b hb).1 with z | z
  ·exact hx z
  ·exact absurd (Nat.lt_of_lt_of_le (lt_size e) z) (Nat.lt_irrefl _)
 have cellK:∀ x c,X.env.cells.lookup x = some c->∀ v,s.heap.IsCell c v->h'.IsCell c v:=fun x c e v ⟨o,ho,hd⟩=>by
  have nch:c ∉ ch:=fun z=>(hch c z).2.2.1 x c e rfl
  by_cases hc:c ∈ X.fs
  ·obtain⟨sl,q⟩:=slot c o (I.cne x c e) hc nch ho (I.freeC x c e)
   exact⟨_,q,hd⟩
  ·exact⟨o,keep c o (I.cne x c e) hc nch ho (I.freeC x c e),hd⟩
 refine⟨I.ok,I.os,hg,⟨fun b o e n hb hx=>?_,fun b o e n hb hx=>?_,fun b o e n hx=>?_,fun b o e hx=>?_,fun b xs e=>tups b xs (I.base.tups b xs e),fun b o xs e=>frzs b o xs (I.base.frzs b o xs e),fun b ps e=>?_⟩,?_,fun x c e=>?_,?_,fun x c e=>?_,fun p hp=>?_,hok,I.len⟩
 ·exact keep b o (neL b o e) hb (neC b o e hx) (I.base.keep b o e n hb hx) (I.base.free b o e n hx)
 ·obtain⟨sl,e1⟩:=I.base.slot b o e n hb hx
  obtain⟨sl',e2⟩:=slot b _ (neL b o e) hb (neC b o e hx) e1 (I.base.free b o e n hx)
  exact⟨sl',e2⟩
 ·obtain⟨o',e1⟩:=I.base.there b o e hx
  exact free b o' (neC b o e hx) e1 (I.base.free b o e n hx)
 ·obtain⟨o',e1⟩:=I.base.there b o e hx
  exact there b o' (neC b o e hx) e1
 ·obtain⟨m1,e1⟩:=I.base.tbls b ps e
  obtain⟨m2,e2⟩:=tbls b _ e1
  exact⟨m1 ++ m2,by rw[e2,Array.append_assoc]⟩
 ·obtain⟨m,hn,hl⟩:=I.loc
  refine⟨m,ns m hn,fun i x v e1 e2 e3=>?_⟩
  obtain⟨u,r,l⟩:=hl i x v e1 e2 e3
  refine⟨u,r,?_⟩
  rcases l with l | ⟨k,c,e,z⟩
  ·exact .inl l
  ·exact .inr ⟨k,c,e,cellK x c e _ z⟩
 ·obtain⟨v,z⟩:=I.cell x c e
  exact⟨v,cellK x c e v z⟩
 ·obtain⟨m,⟨o,_,_,ho,_⟩,_⟩:=I.loc
  exact free _ o (fun z=>(hch _ z).2.1 rfl) ho I.free
 ·obtain⟨v,o,ho,hd⟩:=I.cell x c e
  exact free c o (fun z=>(hch c z).2.2.1 x c e rfl) ho (I.freeC x c e)
 ·obtain⟨e,n,ne,nf,d⟩:=I.pin p hp
  have nch:p.1 ∉ ch:=fun z=>(hch p.1 z).2.2.2 p hp rfl
  exact⟨keep p.1 p.2 ne nf nch e n,free p.1 p.2 nch e n,ne,nf,d⟩
theorem Inv.un {t':Nat} (I:Inv X pins σ H s) (u:Un X.fs [] H H' s.heap h') (hok:HOk X.prog X.w H' h'):Inv X pins σ H' { s with heap:=h',toks:=t' }:=by
 obtain⟨m,⟨o,es,ep,ho,r⟩,_⟩:=id I.loc
 obtain⟨sl,hL⟩:=u.any ho I.free (by simp)
 exact I.step (g':=s.gens) (d':=s.drawn) (ch:=[]) (fun _ z=>nomatch z) (fun b o _ hb _ e n=>u.keep b o e n hb (by simp)) (fun b o _ hb _ e n=>u.slot b o e n hb (by simp)) (fun b o _ e n=>u.free b o e n (by simp)) (fun b o _ e=>u.there b o e (by simp)) u.tups u.frzs u.tbls (fun m' hm=>by
  obtain⟨o',es',ep',ho',r'⟩:=hm
  rw[ho] at ho'; cases ho'
  exact⟨_,es',ep',hL,r'⟩) hok I.bare
theorem Inv.call {g':Array GenState} {t':Nat} {d':Drawn} {ch:List Addr} (I:Inv X pins σ H s) (u:Un (frs X.stack) ch H H' s.heap h') (hok:HOk X.prog X.w H' h') (hg:AllBare g')
  (hch:∀ b ∈ ch,(b ∈ X.ex\/X.s₀.heap.objs.size <= b)/\b ≠ X.env.locals/\(∀ x c,X.env.cells.lookup x = some c->c ≠ b)/\∀ p ∈ X.pn ++ pins,p.1 ≠ b) :
  Inv X pins σ H' { s with heap:=h',gens:=g',drawn:=d',toks:=t' }:=by
 obtain⟨m,⟨o,es,ep,ho,r⟩,_⟩:=id I.loc
 obtain⟨sl,hL⟩:=u.any ho I.free fun z=>(hch _ z).2.1 rfl
 exact I.step (ch:=ch) hch (fun b o hL hb hc e n=>u.keep b o e n (fun z=>(mem_cons.mp (I.stkSub b z)).elim hL hb) hc) (fun b o _ _ hc e n=>u.any e n hc) (fun b o hc e n=>u.free b o e n hc) (fun b o hc e=>u.there b o e hc) u.tups u.frzs u.tbls (fun m' hm=>by
  obtain⟨o',es',ep',ho',r'⟩:=hm
  rw[ho] at ho'; cases ho'
  exact⟨_,es',ep',hL,r'⟩) hok hg
theorem Inv.turned {t':Nat} {it:Addr} (I:Inv X pins σ H s) (k:∀ b o,b ≠ it->s.heap.get? b = some o->h'.get? b = some o) (hn:H it = none) (hL:it ≠ X.env.locals)
  (h1:it ∈ X.ex\/X.s₀.heap.objs.size <= it) (h2:∀ x c,X.env.cells.lookup x = some c->c ≠ it) (h3:∀ p ∈ X.pn ++ pins,p.1 ≠ it):Inv X pins σ H { s with heap:=h',toks:=t' }:=by
 have nit:∀ b u,H b = some u->b ≠ it:=fun b u e z=>by rw[z,hn] at e; cases e
 refine I.step (g':=s.gens) (d':=s.drawn) (ch:=[it]) (fun b hb=>?_) (fun b o _ _ hc e _=>k b o (fun z=>hc (by simp [z])) e) (fun b o _ _ hc e _=>⟨o.slots,k b o (fun z=>hc (by simp [z])) e⟩) (fun _ _ _ _ n=>n)
  (fun b o hc e=>⟨o,k b o (fun z=>hc (by simp [z])) e⟩) (fun _ _ e=>e) (fun _ _ _ e=>e) (fun b ps e=>⟨#[],by rw[e]; simp⟩) (fun m hm=>?_) (fun b u e=>?_) I.bare
 ·have e:b = it:=by simpa using hb
  subst e
  exact⟨h1,hL,h2,h3⟩
 ·obtain⟨o,es,ep,ho,r⟩:=hm
  exact⟨o,es,ep,k _ o (Ne.symm hL) ho,r⟩
 ·refine (I.hok b u e).stay (fun c v hc q=>k c v ?_ q) (fun _ q=>q) fun _ _ q=>q
  rcases hc with z | z
  ·rw[z]; exact nit b u e
  ·exact nit c _ z
theorem Inv.tok (I:Inv X pins σ H s) (t:Nat):Inv X pins σ H { s with toks:=t }:=I.un (h':=s.heap) (t':=t) Un.refl I.hok
theorem Inv.kept {t':Nat} (I:Inv X pins σ H s) (k:∀ b u,s.heap.get? b = some u->h'.get? b = some u):Inv X pins σ H { s with heap:=h',toks:=t' }:=I.un (Un.kept k) (I.hok.kept k)
theorem Inv.laid {a:Addr} {o:HO} {t':Nat} (I:Inv X pins σ H s) (k:∀ b u,s.heap.get? b = some u->h'.get? b = some u) (hp:s.heap.objs.size <= a) (new:ObjOk X.prog X.w (upd H a o) h' a o) :
  Inv X pins σ (upd H a o) { s with heap:=h',toks:=t' }:=I.un (Un.laid k hp (I.hok.fresh hp)) (I.hok.laid k hp new)
theorem Inv.write {x e:Addr} {o:HO} {t':Nat} (I:Inv X pins σ H s) (mu:Mut (H x)) (he:e = x\/H e = some (.own x)) (k:∀ b u,b ≠ e->s.heap.get? b = some u->h'.get? b = some u) (heo:∃ u,h'.get? e = some u)
  (new:ObjOk X.prog X.w (upd H x o) h' x o):Inv X pins σ (upd H x o) { s with heap:=h',toks:=t' }:=I.un (Un.write mu he k heo) (I.hok.write mu he k heo new)
theorem Inv.weak {σ':List (Option V)} (I:Inv X pins σ H s) (hl:σ'.length = σ.length) (w:∀ (i:Nat) v,σ'[i]? = some (some v)->σ[i]? = some (some v)):Inv X pins σ' H s :=
 ⟨I.ok,I.os,I.bare,I.base,let ⟨m,hn,hl'⟩:=I.loc; ⟨m,hn,fun i x v e1 e2 e3=>hl' i x v e1 (w i v e2) e3⟩,I.cell,I.free,I.freeC,I.pin,I.hok,hl.trans I.len⟩
theorem Inv.pins_of {pins':List (Addr × Obj)} (I:Inv X pins σ H s) (h:∀ p ∈ pins',s.heap.get? p.1 = some p.2/\H p.1 = none/\p.1 ≠ X.env.locals/\p.1 ∉ X.fs/\∀ v,p.2.data ≠ .cell v):Inv X pins' σ H s :=
 ⟨I.ok,I.os,I.bare,I.base,I.loc,I.cell,I.free,I.freeC,fun p hp=>(mem_append.mp hp).elim (fun z=>I.pin p (mem_append_left _ z)) (h p),I.hok,I.len⟩
theorem Lf {N:List Str} (hN:N.Nodup) {i j:Nat} {x:Str} (a:N[i]? = some x) (b:N[j]? = some x):i = j:=by
 obtain⟨h1,e1⟩:=List.getElem?_eq_some_iff.mp a
 obtain⟨h2,e2⟩:=List.getElem?_eq_some_iff.mp b
 exact (List.getElem_inj hN).mp (e1.trans e2.symm)
theorem Ww {M:Model} {A:Around} {E:Value->Shared->Prop} {i:Nat} {x:Str} {v:V} {u:Value} {Q:Unit->Shared->Prop} (I:Inv X pins σ H s) (hN:X.N.Nodup) (hi:X.N[i]? = some x) (hx:Loc X.env.scope x) (r:RelV v u)
  (h:∀ s',Inv X pins (σ.set i (some v)) H s'->(∃ a,SameBut a s.heap s'.heap/\(a = X.env.locals\/X.env.cells.lookup x = some a))->Q () s') (hf:X.fn x = true\/X.env.scope.names.lookup x = some .local:=by first | exact .inl rfl | exact .inr rfl | assumption):wpAny M A (storeName X.env x u) Q E s:=by
 obtain⟨m,hn,hl⟩:=id I.loc
 have hcls:(X.env.scope.kind == .class || (X.env.scope.kind == .module && X.env.locals != X.env.globals)) = false:=by rw[I.ok.kind]; rfl
 have hiσ:i < σ.length:=by rw[I.len]; exact (List.getElem?_eq_some_iff.mp hi).1
 have cne:=I.cne
 have tracked:∀ {a:Addr} {h':Heap},(∃ o,s.heap.get? a = some o/\H a = none)->SameBut a s.heap h'->HOk X.prog X.w H h':=fun {a h'} ha hs b ob e=>by
  obtain⟨_,_,hfree⟩:=ha
  refine (I.hok b ob e).stay (fun c w' hc q=>(hs.2 c ?_).trans q) (fun _ q=>q) fun _ _ q=>q
  rintro rfl
  rcases hc with rfl | hc
  ·rw[hfree] at e; cases e
  ·rw[hfree] at hc; cases hc
 rcases hx with hk | hk
 ·refine wpAny_storeName_local hk hn (fun h' hn' hs=>?_) hcls
  obtain⟨oL,_,_,hoL,_⟩:=id hn
  refine h _ ⟨I.ok,I.os,I.bare,⟨fun b o e n hb hx=>?_,fun b o e n hb hx=>?_,I.base.free,fun b o e hx=>?_,I.base.tups,I.base.frzs,I.base.tbls⟩,⟨_,hn',fun j y v' e1 e2 e3=>?_⟩,fun y c e=>?_,I.free,I.freeC,fun p hp=>?_,tracked ⟨oL,hoL,I.free⟩ hs,by simpa using I.len⟩ ⟨_,hs,.inl rfl⟩
  ·exact (hs.2 b (ne_of_lt (Nat.lt_of_lt_of_le (lt_size e) I.ok.above))).trans (I.base.keep b o e n hb hx)
  ·obtain⟨sl,e1⟩:=I.base.slot b o e n hb hx
   exact⟨sl,(hs.2 b (ne_of_lt (Nat.lt_of_lt_of_le (lt_size e) I.ok.above))).trans e1⟩
  ·obtain⟨o',e1⟩:=I.base.there b o e hx
   exact⟨o',(hs.2 b (ne_of_lt (Nat.lt_of_lt_of_le (lt_size e) I.ok.above))).trans e1⟩
  ·by_cases hj:j = i
   ·subst hj
    rw[hi] at e1; cases e1
    rw[getElem?_set_self hiσ] at e2
    cases e2
    exact⟨u,r,.inl ⟨hk,by simp⟩⟩
   ·rw[getElem?_set_ne (Ne.symm hj)] at e2
    obtain⟨u',r',q⟩:=hl j y v' e1 e2 e3
    refine⟨u',r',?_⟩
    rcases q with ⟨k,e⟩ | ⟨k,c,e,z⟩
    ·refine .inl ⟨k,?_⟩
     have:y ≠ x:=fun e=>hj (Lf hN e1 (e ▸ hi))
     simp [this,e]
    ·exact .inr ⟨k,c,e,z.sameBut hs (cne y c e)⟩
  ·obtain⟨w',z⟩:=I.cell y c e
   exact⟨w',z.sameBut hs (cne y c e)⟩
  ·obtain⟨e,n,ne,nf,d⟩:=I.pin p hp
   exact⟨(hs.2 p.1 ne).trans e,n,ne,nf,d⟩
 ·have hfn:X.fn x = true:=by
   rcases hf with z | z
   ·exact z
   ·rw[z] at hk; cases hk
  obtain⟨c,hc⟩:=I.ok.has x (.inl hk)
  obtain⟨w',z⟩:=I.cell x c hc
  refine wpAny_storeName_cell I.ok.kind hk hc z (fun h' hc' hs=>?_)
  obtain⟨oc,hoc,hocd⟩:=id z
  refine h { s with heap:=h' } ⟨I.ok,I.os,I.bare,⟨fun b o e n hb hx=>?_,fun b o e n hb hx=>?_,I.base.free,fun b o e hx=>?_,I.base.tups,I.base.frzs,I.base.tbls⟩,⟨m,hn.sameBut hs (Ne.symm (cne x c hc)),fun j y v' e1 e2 e3=>?_⟩,fun y c' e=>?_,I.free,I.freeC,fun p hp=>?_,tracked ⟨oc,hoc,I.freeC x c hc⟩ hs,by simpa using I.len⟩ ⟨c,hs,.inr hc⟩
  ·exact (hs.2 b (ne_of_lt (Nat.lt_of_lt_of_le (lt_size e) (I.ok.cab x c hfn hc)))).trans (I.base.keep b o e n hb hx)
  ·obtain⟨sl,e1⟩:=I.base.slot b o e n hb hx
   exact⟨sl,(hs.2 b (ne_of_lt (Nat.lt_of_lt_of_le (lt_size e) (I.ok.cab x c hfn hc)))).trans e1⟩
  ·obtain⟨o',e1⟩:=I.base.there b o e hx
   exact⟨o',(hs.2 b (ne_of_lt (Nat.lt_of_lt_of_le (lt_size e) (I.ok.cab x c hfn hc)))).trans e1⟩
  ·by_cases hj:j = i
   ·subst hj
    rw[hi] at e1; cases e1
    rw[getElem?_set_self hiσ] at e2
    cases e2
    exact⟨u,r,.inr ⟨.inl hk,c,hc,hc'⟩⟩
   ·rw[getElem?_set_ne (Ne.symm hj)] at e2
    obtain⟨u',r',q⟩:=hl j y v' e1 e2 e3
    refine⟨u',r',?_⟩
    rcases q with q | ⟨k,c',e,z'⟩
    ·exact .inl q
    ·refine .inr ⟨k,c',e,z'.sameBut hs ?_⟩
     rintro rfl
     exact hj (Lf hN e1 (I.ok.inj _ _ _ e hc ▸ hi))
  ·by_cases hcc:c' = c
   ·subst hcc; exact⟨_,hc'⟩
   ·obtain⟨w2,z2⟩:=I.cell y c' e
    exact⟨w2,z2.sameBut hs hcc⟩
  ·obtain⟨e,n,ne,nf,d⟩:=I.pin p hp
   refine⟨(hs.2 p.1 ?_).trans e,n,ne,nf,d⟩
   intro q
   rw[q,hoc] at e
   have q':oc = p.2:=Option.some.inj e
   exact d w' (by rw[<- q']; exact hocd)
theorem Tz {M:Model} {A:Around} {E:Value->Shared->Prop} {i:Nat} {x:Str} {v:V} {u:Value} {Q:Unit->Shared->Prop} (I:Inv X pins σ H s) (hN:X.N.Nodup) (hi:X.N[i]? = some x) (hx:Loc X.env.scope x) (r:RelV v u)
  (h:∀ s',Inv X pins (σ.set i (some v)) H s'->Q () s') (hf:X.fn x = true\/X.env.scope.names.lookup x = some .local:=by first | exact .inl rfl | exact .inr rfl | assumption):wpAny M A (storeName X.env x u) Q E s :=
 Ww I hN hi hx r (fun s' I' _=>h s' I') hf
end
abbrev XK:=Value->Option Addr->Hp->Prop
abbrev St:=List (Option V)
abbrev VK:=V->Hp->Prop
abbrev TE:=St->Hp->VK->Prop
abbrev TT:=St->Hp->(Bool->Hp->Prop)->Prop
abbrev TA:=St->Hp->(List V->Hp->Prop)->Prop
structure Ends where
 nx:St->Hp->Prop
 rt:VK
 bk:St->Hp->Prop:=fun _ _=>False
 ct:St->Hp->Prop:=fun _ _=>False
abbrev TS:=Ends->St->Hp->Prop
def EP (X:Cx) (pins:List (Addr × Obj)) (σ:St) (Q:VK) (u:Value) (s':Shared):Prop:=∃ v H',Inv X pins σ H' s'/\RelV v u/\Q v H'
def TP (X:Cx) (pins:List (Addr × Obj)) (σ:St) (Q:Bool->Hp->Prop) (b:Bool) (s':Shared):Prop:=∃ H',Inv X pins σ H' s'/\Q b H'
def AP (X:Cx) (pins:List (Addr × Obj)) (σ:St) (Q:List V->Hp->Prop) (us:List Value) (s':Shared):Prop:=∃ vs H',Inv X pins σ H' s'/\Vals vs us/\Q vs H'
def SP (X:Cx) (pins:List (Addr × Obj)) (D:Ends) (f:Flow) (s':Shared):Prop :=
 match f with
 | .next=>∃ σ' H',Inv X pins σ' H' s'/\D.nx σ' H'
 | .brk=>∃ σ' H',Inv X pins σ' H' s'/\D.bk σ' H'
 | .cont=>∃ σ' H',Inv X pins σ' H' s'/\D.ct σ' H'
 | .ret u=>∃ v σ' H',Inv X pins σ' H' s'/\RelV v u/\D.rt v H'
def PE (X:Cx) (e:Expr) (t:TE):Prop :=
 ∀ (pins:List (Addr × Obj)) (s:Shared) (σ:St) (H:Hp) (Q:VK),Inv X pins σ H s->t σ H Q->wpAny (model X.prog X.w) X.A (eval e X.env) (EP X pins σ Q) X.xe s
def PT (X:Cx) (e:Expr) (t:TT):Prop :=
 ∀ (pins:List (Addr × Obj)) (s:Shared) (σ:St) (H:Hp) (Q:Bool->Hp->Prop),Inv X pins σ H s->t σ H Q->wpAny (model X.prog X.w) X.A (isTrue e X.env (eval e X.env)) (TP X pins σ Q) X.xe s
def PW (X:Cx) (e:Expr) (t:TT):Prop :=
 ∀ (whole:Sem Value) (pins:List (Addr × Obj)) (s:Shared) (σ:St) (H:Hp) (Q:Bool->Hp->Prop),Inv X pins σ H s->t σ H Q->wpAny (model X.prog X.w) X.A (isTrue e X.env whole) (TP X pins σ Q) X.xe s
theorem PW.pt {X:Cx} {e:Expr} {t:TT} (h:PW X e t):PT X e t:=h _
def PA (X:Cx) (es:List Expr) (t:TA):Prop :=
 ∀ (pos:Pos) (pins:List (Addr × Obj)) (s:Shared) (σ:St) (H:Hp) (Q:List V->Hp->Prop),Inv X pins σ H s->t σ H Q->wpAny (model X.prog X.w) X.A (spliced (backTo pos (starEach es X.env))) (AP X pins σ Q) X.xe s
def PS (X:Cx) (st:Stmt) (t:TS):Prop :=
 ∀ (pins:List (Addr × Obj)) (s:Shared) (σ:St) (H:Hp) (D:Ends),Inv X pins σ H s->t D σ H->wpAny (model X.prog X.w) X.A (exec st X.env) (SP X pins D) X.xe s
def PSs (X:Cx) (st:List Stmt) (t:TS):Prop :=
 ∀ (pins:List (Addr × Obj)) (s:Shared) (σ:St) (H:Hp) (D:Ends),Inv X pins σ H s->t D σ H->wpAny (model X.prog X.w) X.A (execs st X.env) (SP X pins D) X.xe s
theorem thn {α:Type} {t:Sem α} {Q Q':α->Shared->Prop} {M:Model} {A:Around} {E:Value->Shared->Prop} {s:Shared} (h:wpAny M A t Q E s) (hQ:∀ a s,Q a s->Q' a s):wpAny M A t Q' E s:=wpAny_mono h hQ fun _ _ x=>x
section
variable {X:Cx}
def Fj (i:Nat):TE:=fun σ H Q=>∃ v,σ[i]? = some (some v)/\Q v H
def tC (v:V):TE:=fun _ H Q=>Q v H
theorem Akm {i:Nat} {x:Str} {pos:Pos} (hN:X.N[i]? = some x) (hv:Vis X.env.scope x) (hd:(x == ("__debug__" : Str)) = false:=by decide) (hcd:(x == ("__classdict__" : Str)) = false:=by decide):PE X (.Name x pos) (Fj i):=by
 intro pins s σ H Q I h
 obtain⟨v,e,h⟩:=h
 obtain⟨m,hn,hl⟩:=I.loc
 obtain⟨u,r,l⟩:=hl i x v hN e hv
 have fin:EP X pins σ Q u s:=⟨v,H,I,r,h⟩
 rcases l with ⟨hk,hm⟩ | ⟨hk,c,hc,hcell⟩
 ·exact wpAny_Name (wpAny_loadName_local I.ok.kind hk hn hm fin) hd
 ·rcases hk with hk | hk
  ·exact wpAny_Name (wpAny_loadName_cell I.ok.kind hk hc hcell fin) hd
  ·exact wpAny_Name (wpAny_loadName_free I.ok.kind hk hc hcell fin hcd) hd
theorem Be {i j pos}:PE X (.Constant (.int i) j pos) (tC (.int i)):=fun _ _ _ H _ I h=>wpAny_Constant_int ⟨.int i,H,I.tok _,⟨_,rfl⟩,h⟩
theorem Tb {b j pos}:PE X (.Constant (.bool b) j pos) (tC (.bl b)):=fun _ _ _ H _ I h=>Constant_bool ⟨.bl b,H,I,rfl,h⟩
theorem Zo {j pos}:PE X (.Constant .none j pos) (tC .non):=fun _ _ _ H _ I h=>Constant_none ⟨.non,H,I,rfl,h⟩
theorem Bv {x j pos}:PE X (.Constant (.str x) j pos) (tC (.str x)):=fun _ _ _ H _ I h=>Calls.Constant_str ⟨.str x,H,I.tok _,⟨_,rfl⟩,h⟩
def Gl (X:Cx) (x:Str):Prop:=X.env.kindOf x = some .globalImplicit
theorem Wa {E:Value->Shared->Prop} {pins:List (Addr × Obj)} {s:Shared} {σ:St} {H:Hp} {x:Str} {u:Value} {pos:Pos} {Q:Value->Shared->Prop} (I:Inv X pins σ H s) (hg:Gl X x) (hm:X.mg x = some u) (h:Q u s)
  (hd:(x == ("__debug__" : Str)) = false:=by decide):wpAny (model X.prog X.w) X.A (eval (.Name x pos) X.env) Q E s :=
 Calls.Name_function_global I.ok.kind hg (Calls.loadGlobal_global (by rw[I.ok.glob]; exact I.mod.glob.keeps I.bk) hm h) hd
theorem Jz {E:Value->Shared->Prop} {pins:List (Addr × Obj)} {s:Shared} {σ:St} {H:Hp} {x:Str} {u:Value} {pos:Pos} {Q:Value->Shared->Prop} (I:Inv X pins σ H s) (hg:Gl X x) (hm:X.mg x = none) (hv:bootBuiltins x = some u) (h:Q u s)
  (hn:x ≠ "__name__":=by decide) (hd:(x == ("__debug__" : Str)) = false:=by decide):wpAny (model X.prog X.w) X.A (eval (.Name x pos) X.env) Q E s:=by
 obtain⟨mb,h1,h2⟩:=I.mod.blt
 exact Calls.Name_function_global I.ok.kind hg (Calls.loadGlobal_builtin (by rw[I.ok.glob]; exact I.mod.glob.keeps I.bk) hm (by rw[I.ok.blt]; exact h1.keeps I.bk) ((h2 x hn).trans hv) h) hd
theorem Nz {x:Str} {v:V} {u:Value} {pos:Pos} (hg:Gl X x) (hm:X.mg x = some u) (r:RelV v u) (hd:(x == ("__debug__" : Str)) = false:=by decide):PE X (.Name x pos) (tC v) :=
 fun _ _ _ H _ I h=>Wa I hg hm ⟨v,H,I,r,h⟩ hd
theorem Nt {x:Str} {v:V} {u:Value} {pos:Pos} (hg:Gl X x) (hm:X.mg x = none) (hv:bootBuiltins x = some u) (r:RelV v u) (hn:x ≠ "__name__":=by decide) (hd:(x == ("__debug__" : Str)) = false:=by decide):PE X (.Name x pos) (tC v) :=
 fun _ _ _ H _ I h=>Jz I hg hm hv ⟨v,H,I,r,h⟩ hn hd
variable {a b:Expr} {ta tb:TE} {pos:Pos}
def PC (X:Cx) (op:CmpOp) (a b:Expr) (t:TE):Prop :=
 ∀ (pins:List (Addr × Obj)) (s:Shared) (σ:St) (H:Hp) (Q:VK),Inv X pins σ H s->t σ H Q ->
  wpAny (model X.prog X.w) X.A (eval a X.env) (fun v s₁=>wpAny (model X.prog X.w) X.A (eval b X.env) (fun u s₂=>wpAny (model X.prog X.w) X.A (compareOp op v u) (EP X pins σ Q) X.xe s₂) X.xe s₁) X.xe s
theorem Aai (b:Expr) {op:CmpOp} (h:op ≠ .In) (h2:op ≠ .NotIn):behindInMarks op b = false:=by
 have e1:(op == CmpOp.In) = false:=by cases op <;> first | rfl | exact absurd rfl h
 have e2:(op == CmpOp.NotIn) = false:=by cases op <;> first | rfl | exact absurd rfl h2
 cases b <;> simp [behindInMarks,e1,e2]
def AkM (ta:TE):TE:=fun σ H Q=>ta σ H fun x H1=>Q (.bl (decide (x = .non))) H1
def Agy (ta:TE):TE:=fun σ H Q=>ta σ H fun x H1=>Q (.bl (!decide (x = .non))) H1
theorem RelV.none_iff {x:V} {v:Value} (r:RelV x v):(v == Value.none) = decide (x = .non):=by
 cases x with
 | non=>cases r; rfl
 | bl _=>cases r; rfl
 | int _=>obtain⟨t,rfl⟩:=r; rfl
 | str _=>obtain⟨t,rfl⟩:=r; rfl
 | byt _=>obtain⟨t,rfl⟩:=r; rfl
 | flt _=>obtain⟨t,rfl⟩:=r; rfl
 | ref _=>cases r; rfl
 | ty _=>cases r; rfl
theorem AkK {j pos'} (ha:PE X a ta):PC X .Is a (.Constant .none j pos') (AkM ta):=by
 intro pins s σ H Q I h
 refine thn (ha pins s σ H _ I h) fun v s1 ⟨x,H1,I1,r1,q1⟩=>?_
 exact Constant_none (is_none_gen ⟨.bl _,H1,I1,by rw[r1.none_iff]; rfl,q1⟩)
theorem Qg {j pos'} (ha:PE X a ta):PC X .IsNot a (.Constant .none j pos') (Agy ta):=by
 intro pins s σ H Q I h
 refine thn (ha pins s σ H _ I h) fun v s1 ⟨x,H1,I1,r1,q1⟩=>?_
 exact Constant_none (isnot_none_gen ⟨.bl _,H1,I1,by rw[r1.none_iff]; rfl,q1⟩)
def tB (t:TE):TT:=fun σ H Q=>t σ H fun x H1=>∃ c,x = .bl c/\Q c H1
theorem Vm {op:CmpOp} {t:TE} (h:PC X op a b t) (h1:behindInMarks op b = false:=by first | exact Aai _ (by decide) (by decide) | rfl):PE X (.Compare a [op] [b] pos) t:=fun pins s σ H Q I hw=>wpAny_Compare1 (h pins s σ H Q I hw) h1
theorem Lz {op:CmpOp} {t:TE} (h:PC X op a b t) (h1:behindInMarks op b = false:=by first | exact Aai _ (by decide) (by decide) | rfl):PT X (.Compare a [op] [b] pos) (tB t):=by
 intro pins s σ H Q I hw
 refine wpAny_isTrue_Compare1 (thn (h pins s σ H _ I hw) fun v s1 h1=>thn h1 fun u s2 h2=>thn h2 fun c s3 ⟨x,H1,I1,r1,q1⟩=>?_) h1
 obtain⟨d,rfl,q⟩:=q1
 cases r1
 exact wpAny_truthy_bool ⟨H1,I1,q⟩
theorem Aaf {e:Expr} {t:TE} (h:PE X e t) (he:∀ whole,isTrue e X.env whole = (do let v <- whole; standAt e.pos; holding [v] (truthy v)):=by intro _; rfl):PT X e (tB t):=by
 intro pins s σ H Q I hw
 refine isTrue_plain (thn (h pins s σ H _ I hw) fun v s1 ⟨x,H1,I1,r1,q1⟩=>?_) (he _)
 obtain⟨d,rfl,q⟩:=q1
 cases r1
 exact wpAny_truthy_bool ⟨H1,I1,q⟩
variable {tA tB':TT} {rest:List Expr}
def AlK (t u:TT):TT:=fun σ H Q=>t σ H fun c H1=>if c = true then u σ H1 Q else Q false H1
def tOr (t u:TT):TT:=fun σ H Q=>t σ H fun c H1=>if c = true then Q true H1 else u σ H1 Q
def Agp (t:TT):TT:=fun σ H Q=>t σ H fun c H1=>Q (!c) H1
theorem Vo (ha:PT X a tA):PW X (.BoolOp .And [a] pos) tA:=by
 intro wh pins s σ H Q I h
 refine isTrue_and (thn (ha pins s σ H Q I h) fun c s1 e=>?_)
 cases c with
 | true=>exact isTrue_and_nil e
 | false=>exact e
theorem Yz (ha:PT X a tA):PW X (.BoolOp .Or [a] pos) tA:=by
 intro wh pins s σ H Q I h
 refine isTrue_or (thn (ha pins s σ H Q I h) fun c s1 e=>?_)
 cases c with
 | false=>exact isTrue_or_nil e
 | true=>exact e
theorem Aas (ha:PT X a tA) (hb:PW X (.BoolOp .And (b :: rest) pos) tB'):PW X (.BoolOp .And (a :: b :: rest) pos) (AlK tA tB'):=by
 intro wh pins s σ H Q I h
 refine isTrue_and (thn (ha pins s σ H _ I h) fun c s1 ⟨H1,I1,q1⟩=>?_)
 cases c with
 | true=>exact hb wh pins s1 σ H1 Q I1 q1
 | false=>exact⟨H1,I1,q1⟩
theorem Acp (ha:PT X a tA) (hb:PW X (.BoolOp .Or (b :: rest) pos) tB'):PW X (.BoolOp .Or (a :: b :: rest) pos) (tOr tA tB'):=by
 intro wh pins s σ H Q I h
 refine isTrue_or (thn (ha pins s σ H _ I h) fun c s1 ⟨H1,I1,q1⟩=>?_)
 cases c with
 | true=>exact⟨H1,I1,q1⟩
 | false=>exact hb wh pins s1 σ H1 Q I1 q1
theorem Aaw (ha:PT X a tA):PT X (.UnaryOp .Not a pos) (Agp tA):=by
 intro pins s σ H Q I h
 exact isTrue_not (ha pins s σ H (fun c H1=>Q (!c) H1) I h)
def AgH (ta tb:TE):TE:=fun σ H Q=>ta σ H fun x H1=>∃ c,x = .bl c/\if c = true then tb σ H1 Q else Q (.bl false) H1
def Ah3 (ta:TE):TE:=fun σ H Q=>ta σ H fun x H1=>∃ c,x = .bl c/\Q (.bl (!c)) H1
theorem Rt {op} {t:TE} (h:PE X a t):PE X (.BoolOp op [a] pos) t:=fun pins s σ H Q I hw=>BoolOp_one (h pins s σ H Q I hw)
theorem Qj (ha:PE X a ta) (hb:PE X (.BoolOp .And (b :: rest) pos) tb):PE X (.BoolOp .And (a :: b :: rest) pos) (AgH ta tb):=by
 intro pins s σ H Q I h
 refine BoolOp_and (thn (ha pins s σ H _ I h) fun v s1 ⟨x,H1,I1,r1,q1⟩=>?_)
 obtain⟨c,rfl,q1⟩:=q1
 cases r1
 refine wpAny_truthy_bool ?_
 cases c with
 | true=>exact hb pins s1 σ H1 Q I1 q1
 | false=>exact⟨.bl false,H1,I1,rfl,q1⟩
theorem AlI (ha:PE X a ta):PE X (.UnaryOp .Not a pos) (Ah3 ta):=by
 intro pins s σ H Q I h
 refine UnaryOp_ (thn (ha pins s σ H _ I h) fun v s1 ⟨x,H1,I1,r1,q1⟩=>?_)
 obtain⟨c,rfl,q1⟩:=q1
 cases r1
 exact not_of (wpAny_truthy_bool ⟨.bl (!c),H1,I1,rfl,q1⟩)
def tIf (t:TT) (ta tb:TE):TE:=fun σ H Q=>t σ H fun c H1=>if c = true then ta σ H1 Q else tb σ H1 Q
theorem Gw {c:Expr} (hc:PT X c tA) (ha:PE X a ta) (hb:PE X b tb):PE X (.IfExp c a b pos) (tIf tA ta tb):=by
 intro pins s σ H Q I h
 refine wpAny_IfExp (thn (hc pins s σ H _ I h) fun d s1 ⟨H1,I1,q1⟩=>?_)
 cases d with
 | true=>exact ha pins s1 σ H1 Q I1 q1
 | false=>exact hb pins s1 σ H1 Q I1 q1
end
def SqL (K:Frag) (H:Hp) (a:Addr) (xs:List V):Prop :=
 Rd H a (.lst xs) \/
  ∃ (o:Obj) (its:Array Value) (n:Nat),K.lookup a = some o/\o.cls = .type "list"/\o.dict = none/\o.data = .seq its n/\its.size <= sizeLine/\Vals xs its.toList
def SqT (K:Frag) (H:Hp) (a:Addr) (xs:List V):Prop :=
 Rd H a (.tup xs) \/
  ∃ (o:Obj) (its:Array Value) (n:Nat),K.lookup a = some o/\o.cls = .type "tuple"/\o.data = .seq its n/\its.size <= sizeLine/\Vals xs its.toList
def An1:Value->Option V
 | .none=>some .non
 | .bool b=>some (.bl b)
 | .int i _=>some (.int i)
 | .str x _=>some (.str x)
 | .bytes b _=>some (.byt b)
 | .float b _=>some (.flt b)
 | .ref a=>some (.ref a)
 | .type n=>some (.ty n)
 | _=>none
theorem RelV.abs {x:V} {u:Value} (r:RelV x u):An1 u = some x:=by
 cases x with
 | non=>cases r; rfl
 | bl _=>cases r; rfl
 | int _=>obtain⟨t,rfl⟩:=r; rfl
 | str _=>obtain⟨t,rfl⟩:=r; rfl
 | byt _=>obtain⟨t,rfl⟩:=r; rfl
 | flt _=>obtain⟨t,rfl⟩:=r; rfl
 | ref _=>cases r; rfl
 | ty _=>cases r; rfl
theorem RelV.inj {x y:V} {u:Value} (r:RelV x u) (q:RelV y u):x = y:=Option.some.inj (r.abs.symm.trans q.abs)
theorem Vals.inj:∀ {xs ys:List V} {us:List Value},Vals xs us->Vals ys us->xs = ys
 | _,_,_,.nil,.nil=>rfl
 | _,_,_,.cons r t,.cons r' t'=>by rw[r.inj r',Vals.inj t t']
section
variable {X:Cx} {pins:List (Addr × Obj)} {σ:St} {H:Hp} {s:Shared} {a:Addr} {xs ys:List V}
theorem SqL.of {K:Frag} (h:H a = some (.lst xs)):SqL K H a xs:=.inl (.inl h)
theorem SqT.of {K:Frag} (h:H a = some (.tup xs)):SqT K H a xs:=.inl (.inl h)
theorem Inv.list (I:Inv X pins σ H s) (h:SqL X.K H a xs):∃ its:List Value,Vals xs its/\PlainL s.heap a its.toArray/\xs.length <= sizeLine:=by
 rcases h with h | ⟨o,its,n,hk,hc,hd,hs,hz,r⟩
 ·obtain⟨z,its,n,r,e⟩:=h.ok I.hok
  exact⟨its,r,⟨_,n,e,rfl,rfl,rfl⟩,z⟩
 ·refine⟨its.toList,r,⟨o,n,I.kIn a o hk,hc,hd,by simpa using hs⟩,?_⟩
  have e:=r.length
  simp only [Array.length_toList] at e
  omega
theorem Inv.tuple (I:Inv X pins σ H s) (h:SqT X.K H a xs):∃ its:List Value,Vals xs its/\IsTup s.heap a its.toArray/\xs.length <= sizeLine:=by
 rcases h with h | ⟨o,its,n,hk,hc,hs,hz,r⟩
 ·obtain⟨z,its,r,p⟩:=h.ok I.hok
  exact⟨its,r,p,z⟩
 ·refine⟨its.toList,r,⟨o,I.kIn a o hk,hc,n,by simpa using hs⟩,?_⟩
  have e:=r.length
  simp only [Array.length_toList] at e
  omega
theorem Inv.list_inj (I:Inv X pins σ H s) (h:SqL X.K H a xs) (h':SqL X.K H a ys):xs = ys:=by
 obtain⟨its,r,⟨o,n,e,_,_,d⟩,_⟩:=I.list h
 obtain⟨its',r',⟨o',n',e',_,_,d'⟩,_⟩:=I.list h'
 rw[e] at e'; cases e'
 rw[d] at d'
 injection d' with d1 _
 have:its = its':=by simpa using congrArg Array.toList d1
 subst this
 exact r.inj r'
end
abbrev Cx.wish (X:Cx) (E:Value->Shared->Prop):Cx:={ X with xe:=E }
abbrev Cx.nox (X:Cx):Cx:=X.wish fun _ _=>False
theorem Cx.Ok.wish {X:Cx} (ok:X.Ok) (E:Value->Shared->Prop):(X.wish E).Ok :=
 ⟨ok.mod,ok.kind,ok.glob,ok.blt,ok.above,ok.inj,ok.has,ok.cab,ok.hd,ok.frames,ok.stk,ok.exf,ok.bs,ok.bsz,ok.noex,ok.exfs,ok.funs,ok.frf⟩
theorem Cx.Ok.unwish {X:Cx} {E:Value->Shared->Prop} (ok:(X.wish E).Ok):X.Ok :=
 ⟨ok.mod,ok.kind,ok.glob,ok.blt,ok.above,ok.inj,ok.has,ok.cab,ok.hd,ok.frames,ok.stk,ok.exf,ok.bs,ok.bsz,ok.noex,ok.exfs,ok.funs,ok.frf⟩
section
variable {X:Cx} {pins:List (Addr × Obj)} {σ:St} {H:Hp} {s:Shared} {E:Value->Shared->Prop}
theorem Inv.wish (I:Inv X pins σ H s) (E:Value->Shared->Prop):Inv (X.wish E) pins σ H s:=⟨I.ok.wish E,I.os,I.bare,I.base,I.loc,I.cell,I.free,I.freeC,I.pin,I.hok,I.len⟩
theorem Inv.unwish (I:Inv (X.wish E) pins σ H s):Inv X pins σ H s:=⟨I.ok.unwish,I.os,I.bare,I.base,I.loc,I.cell,I.free,I.freeC,I.pin,I.hok,I.len⟩
theorem SP.unwish {D:Ends} {f:Flow} {s':Shared} (h:SP (X.wish E) pins D f s'):SP X pins D f s':=by
 cases f with
 | next=>obtain⟨σ',H',I,q⟩:=h; exact⟨σ',H',I.unwish,q⟩
 | brk=>obtain⟨σ',H',I,q⟩:=h; exact⟨σ',H',I.unwish,q⟩
 | cont=>obtain⟨σ',H',I,q⟩:=h; exact⟨σ',H',I.unwish,q⟩
 | ret u=>obtain⟨v,σ',H',I,r,q⟩:=h; exact⟨v,σ',H',I.unwish,r,q⟩
theorem PSs.nox {st:List Stmt} {t:TS} (h:PSs X.nox st t):PSs X st t:=fun pins s σ H D I hw =>
 wpAny_mono (h pins s σ H D (I.wish _) hw) (fun _ _ q=>q.unwish) fun _ _ z=>False.elim z
end
section
variable {X:Cx} {st:Stmt} {rest:List Stmt} {t u:TS} {e:Expr} {te:TE} {pos:Pos}
def Adc:TS:=fun D σ H=>D.nx σ H
def Vw (t u:TS):TS:=fun D σ H=>t { D with nx:=u D } σ H
theorem Cw:PSs X [] Adc:=fun _ _ σ H _ I h=>wpAny_execs_nil ⟨σ,H,I,h⟩
theorem Bc (h1:PS X st t) (h2:PSs X rest u):PSs X (st :: rest) (Vw t u):=by
 intro pins s σ H D I h
 refine wpAny_execs_cons (thn (h1 pins s σ H { D with nx:=u D } I h) fun f s1 q=>?_)
 cases f with
 | next =>
  obtain⟨σ',H',I',q⟩:=q
  exact h2 pins s1 σ' H' D I' q
 | ret v=>exact q
 | brk=>exact q
 | cont=>exact q
theorem Bi (h1:PS X st t):PSs X [st] t:=by
 intro pins s σ H D I h
 refine wpAny_execs_cons (thn (h1 pins s σ H D I h) fun f s1 q=>?_)
 cases f with
 | next=>exact wpAny_execs_nil q
 | ret v=>exact q
 | brk=>exact q
 | cont=>exact q
theorem Inv.quiet {pins:List (Addr × Obj)} {σ:St} {H:Hp} {s:Shared} (I:Inv X pins σ H s):interactive X.env = false:=by simp [interactive,I.ok.kind]
def Vi (te:TE):TS:=fun D σ H=>te σ H fun _ H1=>D.nx σ H1
theorem Cn (he:PE X e te) (hs:swapsWith e none pos.line X.env = pure false:=by rfl):PS X (.Expr e pos) (Vi te):=by
 intro pins s σ H D I h
 exact wpAny_Expr_any (thn (he pins s σ H _ I h) fun v s1 ⟨x,H1,I1,r1,q1⟩=>⟨σ,H1,I1,q1⟩) I.quiet hs
def Tw (te:TE):TS:=fun D σ H=>te σ H D.rt
theorem Ce (he:PE X e te):PS X (.Return (some e) pos) (Tw te):=by
 intro pins s σ H D I h
 exact wpAny_Return_some (thn (he pins s σ H _ I h) fun v s1 ⟨x,H1,I1,r1,q1⟩=>⟨x,σ,H1,I1,r1,q1⟩)
def Agt (c:TT) (t u:TS):TS:=fun D σ H=>c σ H fun b H1=>if b = true then t D σ H1 else u D σ H1
theorem Dl {c:Expr} {a b:List Stmt} {tc:TT} (hc:PT X c tc) (ha:PSs X a t) (hb:PSs X b u):PS X (.If c a b pos) (Agt tc t u):=by
 intro pins s σ H D I h
 refine wpAny_If (thn (hc pins s σ H _ I h) fun d s1 ⟨H1,I1,q1⟩=>?_)
 cases d with
 | true=>exact ha pins s1 σ H1 D I1 q1
 | false=>exact hb pins s1 σ H1 D I1 q1
def Ajt:TS:=fun _ _ _=>False
theorem AeB {sts:List Stmt}:PSs X sts Ajt:=fun _ _ _ _ _ _ h=>h.elim
end
abbrev TG:=V->St->Hp->(St->Hp->Prop)->Prop
abbrev TGs:=List V->St->Hp->(St->Hp->Prop)->Prop
def PG (X:Cx) (target:Expr) (t:TG):Prop :=
 ∀ (pins:List (Addr × Obj)) (s:Shared) (σ:St) (H:Hp) (v:V) (u:Value) (Q:St->Hp->Prop),Inv X pins σ H s->RelV v u->t v σ H Q ->
  wpAny (model X.prog X.w) X.A (assign target X.env u) (fun _ s'=>∃ σ' H',Inv X pins σ' H' s'/\Q σ' H') X.xe s
def PGs (X:Cx) (ts:List Expr) (t:TGs):Prop :=
 ∀ (pins:List (Addr × Obj)) (s:Shared) (σ:St) (H:Hp) (vs:List V) (us:List Value) (Q:St->Hp->Prop),Inv X pins σ H s->Vals vs us->t vs σ H Q ->
  wpAny (model X.prog X.w) X.A (assignInOrder ((assignEach ts X.env).map (·.2)) us) (fun _ s'=>∃ σ' H',Inv X pins σ' H' s'/\Q σ' H') X.xe s
abbrev Afu:=V->V->V->Hp->(Hp->Prop)->Prop
def AfH (X:Cx) (t:Afu):Prop :=
 ∀ (pins:List (Addr × Obj)) (s:Shared) (σ:St) (H:Hp) (o i v:V) (ov iv u:Value) (Q:Hp->Prop),Inv X pins σ H s->RelV o ov->RelV i iv->RelV v u->t o i v H Q ->
  wpAny (model X.prog X.w) X.A (setItem ov iv u) (fun _ s'=>∃ H',Inv X pins σ H' s'/\Q H') X.xe s
abbrev TIp:=V->V->Hp->VK->Prop
def PIp (X:Cx) (op:Operator) (t:TIp):Prop :=
 ∀ (pins:List (Addr × Obj)) (s:Shared) (σ:St) (H:Hp) (x y:V) (v u:Value) (Q:VK),Inv X pins σ H s->RelV x v->RelV y u->t x y H Q ->
  wpAny (model X.prog X.w) X.A (inplaceOp op v u) (EP X pins σ Q) X.xe s
section
variable {X:Cx} {pos:Pos}
def Gn (i:Nat):TG:=fun v σ H Q=>Q (σ.set i (some v)) H
theorem Bq {i:Nat} {x:Str} (hN:X.N.Nodup) (hi:X.N[i]? = some x) (hx:Loc X.env.scope x) (hf:X.fn x = true\/X.env.scope.names.lookup x = some .local:=by first | exact .inl rfl | exact .inr rfl | assumption):PG X (.Name x pos) (Gn i):=by
 intro pins s σ H v u Q I r h
 exact wpAny_assign_Name (Tz I hN hi hx r (fun s' I'=>⟨_,H,I',h⟩) hf)
def AcZ:TGs:=fun vs σ H Q=>vs = []/\Q σ H
def Vk (t:TG) (u:TGs):TGs:=fun vs σ H Q=>∃ v r,vs = v :: r/\t v σ H fun σ' H'=>u r σ' H' Q
theorem Fa:PGs X [] AcZ:=by
 intro pins s σ H vs us Q I r h
 obtain⟨e,h⟩:=h
 subst e
 cases r
 exact assignInOrder_nil ⟨σ,H,I,h⟩
theorem Cf {e:Expr} {es:List Expr} {t:TG} {u:TGs} (h1:PG X e t) (h2:PGs X es u)
  (hs:(assignEach (e :: es) X.env).map (·.2) = assign e X.env :: (assignEach es X.env).map (·.2):=by rfl):PGs X (e :: es) (Vk t u):=by
 intro pins s σ H vs us Q I r h
 obtain⟨v,vr,e1,h⟩:=h
 subst e1
 cases r with
 | cons r rr =>
  rw[hs]
  refine assignInOrder_cons (thn (h1 pins s σ H _ _ _ I r h) fun _ s1 ⟨σ1,H1,I1,q1⟩=>?_)
  exact h2 pins s1 σ1 H1 _ _ Q I1 rr q1
def Wj (K:Frag) (n:Nat) (t:TGs):TG:=fun v σ H Q=>∃ a xs,v = .ref a/\SqT K H a xs/\xs.length = n/\t xs σ H Q
theorem Oj {es:List Expr} {k:Nat} {t:TGs} {n:Nat} (hc:X.calm = true) (h:PGs X es t)
  (hn:(assignEach es X.env).length = n:=by rfl) (hst:(assignEach es X.env).findIdx? (·.1) = none:=by rfl):PG X (.Tuple es k pos) (Wj X.K n t):=by
 intro pins s σ H v u Q I r hw
 obtain⟨a,xs,e1,hq,hl,hw⟩:=hw
 subst e1
 cases r
 obtain⟨its,rv,ht,hz⟩:=I.tuple hq
 refine assign_Tuple_tuple (I.ok.hd hc) ht (by simp [hn,<- hl,rv.length]) hst fun h' hx=>?_
 have I1:Inv X pins σ H { s with heap:=h' }:=I.kept (t':=s.toks) fun b o e=>hx b o (ne_of_lt (lt_size e)) e
 exact h pins _ σ H xs _ Q I1 (by simpa using rv) hw
def AlG (to ti:TE) (t:Afu):TG:=fun v σ H Q=>to σ H fun o H1=>ti σ H1 fun i H2=>t o i v H2 fun H3=>Q σ H3
theorem Rv {o i:Expr} {to ti:TE} {t:Afu} (ho:PE X o to) (hi:PE X i ti) (hs:AfH X t)
  (ha:∀ v,assign (.Subscript o i pos) X.env v = (do
   let ov <- holding [v] (eval o X.env)
   let iv <- holding [v,ov] (eval i X.env)
   standAt pos
   holding [v,ov,iv] (setItem ov iv v)
   release [v,ov,iv] []):=by intro _; rfl):PG X (.Subscript o i pos) (AlG to ti t):=by
 intro pins s σ H v u Q I r h
 rw[ha]
 refine wpAny_bind (wpAny_holding (thn (ho pins s σ H _ I h) fun ov s1 ⟨x,H1,I1,r1,q1⟩=>?_))
 refine wpAny_bind (wpAny_holding (thn (hi pins s1 σ H1 _ I1 q1) fun iv s2 ⟨y,H2,I2,r2,q2⟩=>?_))
 refine wpAny_bind (wpAny_standAt (wpAny_bind (wpAny_holding (thn (hs pins s2 σ H2 x y v ov iv u _ I2 r1 r2 r q2) fun _ s3 ⟨H3,I3,q3⟩=>?_))))
 exact wpAny_release ⟨σ,H3,I3,q3⟩
def Lq (te:TE) (g:TG):TS:=fun D σ H=>te σ H fun x H1=>g x σ H1 D.nx
theorem Si {tg e:Expr} {te:TE} {g:TG} (he:PE X e te) (hg:PG X tg g) (hs:swapsWithSole [tg] e pos.line X.env = pure false:=by rfl) (hw:swappedStores [tg] e X.env = pure none:=by rfl)
  (h1:(assignEach [tg] X.env).map (·.2) = [assign tg X.env]:=by rfl):PS X (.Assign [tg] e pos) (Lq te g):=by
 intro pins s σ H D I h
 refine wpAny_Assign_stores (thn (he pins s σ H _ I h) fun v s1 ⟨x,H1,I1,r1,q1⟩=>?_) hs hw
 rw[h1]
 exact thn (hg pins s1 σ H1 x v _ I1 r1 q1) fun _ s2 q=>q
theorem Bm {i:Nat} {x:Str} {e:Expr} {te:TE} {pos':Pos} (hN:X.N.Nodup) (hi:X.N[i]? = some x) (hx:Loc X.env.scope x) (he:PE X e te) (hs:swapsWith e (some (.Name x pos')) pos.line X.env = pure false:=by rfl) (hf:X.fn x = true\/X.env.scope.names.lookup x = some .local:=by first | exact .inl rfl | exact .inr rfl | assumption) :
  PS X (.Assign [.Name x pos'] e pos) (Lq te (Gn i)):=by
 intro pins s σ H D I h
 refine wpAny_Assign_Name (thn (he pins s σ H _ I h) fun v s1 ⟨y,H1,I1,r1,q1⟩=>?_) hs
 exact Tz I1 hN hi hx r1 (fun s2 I2=>⟨_,H1,I2,q1⟩) hf
def AjY (i:Nat) (te:TE) (ti:TIp):TS:=fun D σ H=>∃ x,σ[i]? = some (some x)/\te σ H fun y H1=>ti x y H1 fun z H2=>D.nx (σ.set i (some z)) H2
theorem AdR {i:Nat} {x:Str} {e:Expr} {te:TE} {op:Operator} {ti:TIp} {pos':Pos} (hN:X.N.Nodup) (hi:X.N[i]? = some x) (hx:Loc X.env.scope x) (he:PE X e te) (ho:PIp X op ti) (hf:X.fn x = true\/X.env.scope.names.lookup x = some .local:=by first | exact .inl rfl | exact .inr rfl | assumption) :
  PS X (.AugAssign (.Name x pos') op e pos) (AjY i te ti):=by
 intro pins s σ H D I h
 obtain⟨v,e1,h⟩:=h
 obtain⟨m,hn,hl⟩:=I.loc
 have vis:Vis X.env.scope x:=by rcases hx with k | k; exact .inl k; exact .inr (.inl k)
 obtain⟨u,r,l⟩:=hl i x v hi e1 vis
 refine wpAny_AugAssign_Name ?_
 have go:wpAny (model X.prog X.w) X.A (eval e X.env) (fun w s₂=>wpAny (model X.prog X.w) X.A (inplaceOp op u w) (fun r s₃=>wpAny (model X.prog X.w) X.A (storeName X.env x r) (fun _=>SP X pins D .next) X.xe s₃) X.xe s₂) X.xe s:=by
  refine thn (he pins s σ H _ I h) fun w s1 ⟨y,H1,I1,r1,q1⟩=>?_
  refine thn (ho pins s1 σ H1 v y u w _ I1 r r1 q1) fun z s2 ⟨zv,H2,I2,r2,q2⟩=>?_
  exact Tz I2 hN hi hx r2 (fun s3 I3=>⟨_,H2,I3,q2⟩) hf
 rcases l with ⟨hk,hm⟩ | ⟨hk,c,hc,hcell⟩
 ·exact wpAny_loadName_local I.ok.kind hk hn hm go
 ·rcases hk with hk | hk
  ·exact wpAny_loadName_cell I.ok.kind hk hc hcell go
  ·rcases hx with k | k
   ·have:X.env.scope.names.lookup x = some .free:=hk
    rw[k] at this; cases this
   ·have:X.env.scope.names.lookup x = some .free:=hk
    rw[k] at this; cases this
def ipI (f:Int->Int->Int):TIp:=fun x y H Q=>∃ i j,x = .int i/\y = .int j/\Q (.int (f i j)) H
theorem AdJ:PIp X .Add (ipI fun i j=>i + j):=by
 intro pins s σ H x y v u Q I r1 r2 h
 obtain⟨i,j,e1,e2,q⟩:=h
 subst e1; subst e2
 obtain⟨t,rfl⟩:=r1
 obtain⟨t',rfl⟩:=r2
 exact iadd_int ⟨.int _,H,I.tok _,⟨_,rfl⟩,q⟩
end
section
variable {X:Cx} {pos:Pos}
end
structure It where
 go:Nat->Hp->Prop
 yld:Nat->Hp->V->Hp->Prop
 stop:Nat->Hp->Prop
def Sf (X:Cx) (pins:List (Addr × Obj)) (H:Hp) (b:Addr):Prop :=
 H b = none/\b ≠ X.env.locals/\b ∉ X.fs/\(b ∈ X.ex\/X.s₀.heap.objs.size <= b)/\(∀ x c,X.env.cells.lookup x = some c->c ≠ b)/\∀ p ∈ X.pn ++ pins,p.1 ≠ b
theorem Inv.fpOk {X:Cx} {pins:List (Addr × Obj)} {σ:St} {H H':Hp} {s:Shared} {b:Addr} (I:Inv X pins σ H s) (hb:s.heap.objs.size <= b) (hn:H' b = none):Sf X pins H' b:=by
 refine⟨hn,Nat.ne_of_gt (Nat.lt_of_lt_of_le I.lt hb),I.nofs hb,.inr (Nat.le_trans I.sz hb),fun x c e z=>?_,fun p hp z=>?_⟩
 ·obtain⟨v,q⟩:=I.cell x c e
  exact absurd (Nat.lt_of_lt_of_le q.lt (by rw[z]; exact hb)) (Nat.lt_irrefl _)
 ·exact absurd (Nat.lt_of_lt_of_le (lt_size (I.pin p hp).1) (by rw[z]; exact hb)) (Nat.lt_irrefl _)
structure Uj (P:Program) (w:World) (K:Frag) (tg:Expr) (J:It) (fp:List Addr) (it:Addr) (tn:Nat->Heap->Prop):Prop where
 mem:it ∈ fp
 obj:∀ i h,tn i h->∀ b ∈ fp,∃ o,h.get? b = some o/\∀ v,o.data ≠ .cell v
 keep:∀ i h h',tn i h->(∀ b ∈ fp,∀ o,h.get? b = some o->h'.get? b = some o)->tn i h'
 item:∀ (X:Cx),X.prog = P->X.w = w->X.K = K->X.calm = true->∀ (i:Nat) (pins:List (Addr × Obj)) (s:Shared) (σ:St) (H:Hp) (E:Value->Shared->Prop),Inv X pins σ H s->(∀ b ∈ fp,Sf X pins H b)->tn i s.heap->J.go i H ->
  wpAny (model P w) X.A (pyNext (.ref it)) (fun r s1=>∃ u,r = some u /\
   wpAny (model P w) X.A (letOwnedTupleGo tg (.ref it) u) (fun _ s2=>∃ x H',Inv X pins σ H' s2/\RelV x u/\J.yld i H x H'/\tn (i + 1) s2.heap/\∀ b ∈ fp,H' b = none) E s1) E s
 done:∀ (X:Cx),X.prog = P->X.w = w->X.K = K->X.calm = true->∀ (i:Nat) (pins:List (Addr × Obj)) (s:Shared) (σ:St) (H:Hp) (E:Value->Shared->Prop),Inv X pins σ H s->(∀ b ∈ fp,Sf X pins H b)->tn i s.heap->J.stop i H ->
  wpAny (model P w) X.A (pyNext (.ref it)) (fun r s1=>r = none/\Inv X pins σ H s1) E s
 self:∀ (A:Around) (i:Nat) (s:Shared) (Q:Value->Shared->Prop) (E:Value->Shared->Prop),tn i s.heap->Q (.ref it) s->wpAny (model P w) A (pyIter (.ref it)) Q E s
abbrev TI:=St->Hp->(It->Hp->Prop)->Prop
def PIE (X:Cx) (pins:List (Addr × Obj)) (σ:St) (tg:Expr) (R:It->Hp->Prop) (itv:Value) (s2:Shared):Prop :=
 ∃ (it:Addr) (fp:List Addr) (tn:Nat->Heap->Prop) (J:It) (H':Hp),itv = .ref it/\Inv X pins σ H' s2/\Uj X.prog X.w X.K tg J fp it tn/\tn 0 s2.heap/\(∀ b ∈ fp,Sf X pins H' b)/\R J H'
def PI (X:Cx) (tg iter:Expr) (wi:TI):Prop :=
 ∀ (pins:List (Addr × Obj)) (s:Shared) (σ:St) (H:Hp) (R:It->Hp->Prop),Inv X pins σ H s->wi σ H R ->
  wpAny (model X.prog X.w) X.A (eval iter X.env) (fun v s1=>wpAny (model X.prog X.w) X.A (pyIter v) (PIE X pins σ tg R) X.xe s1) X.xe s
theorem Ab1 {M:Model} {A:Around} {E:Value->Shared->Prop} {s:Shared} {tg:Expr} {it:Addr} {u:Value} {o:Obj} {n:String} {vs:Array Value} {Q:Unit->Shared->Prop} (ho:s.heap.get? it = some o) (hc:o.cls = .type n) (hd:o.data = .fields vs)
  (hn:["enumerate","zip","dict_itemiterator","dict_reverseitemiterator","odict_iterator","itertools.zip_longest","itertools.pairwise"].contains n = false) (hQ:Q () s):wpAny M A (letOwnedTupleGo tg (.ref it) u) Q E s:=by
 unfold letOwnedTupleGo
 cases tg <;> first
  | exact wpAny_pure hQ
  | (cases u <;> first
    | exact wpAny_pure hQ
    | (refine wpAny_bind (wpAny_load ho ?_); rw[hc,hd]; show wpAny M A (if (["enumerate","zip","dict_itemiterator","dict_reverseitemiterator","odict_iterator","itertools.zip_longest","itertools.pairwise"].contains n && vs[0]? == some (rawInt _)) = true then _ else _) Q E s; rw[if_neg (by intro h; rw[hn,Bool.false_and] at h; cases h)]; exact wpAny_pure hQ))
def Itl (K:Frag) (a:Addr):It :=
 ⟨fun i H=>∃ xs x,SqL K H a xs/\xs[i]? = some x,fun i H x H'=>H' = H/\∀ xs,SqL K H a xs->xs[i]? = some x,fun i H=>∃ xs,SqL K H a xs/\xs.length <= i⟩
def Itr (lo:Int) (n:Nat):It:=⟨fun i _=>i < n,fun i H x H'=>H' = H/\x = .int (lo + i),fun i _=>n <= i⟩
theorem Afh {P:Program} {w:World} {K:Frag} {tg:Expr} (a it:Addr):Uj P w K tg (Itl K a) [it] it (fun i h=>h.IsListIter it a i) where
 mem:=by simp
 obj:=fun i h st b hb=>by
  have e:b = it:=by simpa using hb
  subst e
  obtain⟨o,e,c,d⟩:=st
  exact⟨o,e,fun v z=>by rw[d] at z; cases z⟩
 keep:=fun i h h' st k=>st.at fun o e=>k it (by simp) o e
 item:=by
  intro X hP hw hK hc i pins s σ H E I hf st hg
  subst hP hw hK
  obtain⟨xs,x,hq,hx⟩:=hg
  obtain⟨its,rv,p,hz⟩:=I.list hq
  obtain⟨u,hu,ru⟩:=rv.get hx
  obtain⟨f0,f1,f2,f3,f4,f5⟩:=hf it (by simp)
  refine wpAny_pyNext_list_item st p.isList (x:=u) (by simpa using hu) fun h' st' sb=>?_
  have I1:Inv X pins σ H { s with heap:=h' }:=I.turned (t':=s.toks) (fun b o hb e=>(sb.2 b hb).trans e) f0 f1 f3 f4 f5
  obtain⟨o,e,c,d⟩:=id st'
  exact⟨u,rfl,Ab1 (s:={ s with heap:=h' }) e c d (by decide) ⟨x,H,I1,ru,⟨rfl,fun ys hy=>by rw[I.list_inj hy hq]; exact hx⟩,st',fun b hb=>(hf b hb).1⟩⟩
 done:=by
  intro X hP hw hK hc i pins s σ H E I hf st hg
  subst hP hw hK
  obtain⟨xs,hq,hx⟩:=hg
  obtain⟨its,rv,p,hz⟩:=I.list hq
  obtain⟨f0,f1,f2,f3,f4,f5⟩:=hf it (by simp)
  have hl:=rv.length
  exact wpAny_pyNext_list_end (I.ok.hd hc) st p.isList (by simp; omega) fun h' eb=>⟨rfl,I.turned (t':=s.toks) (fun b o hb e=>eb b o hb e) f0 f1 f3 f4 f5⟩
 self:=fun _ _ _ _ _ st h=>wpAny_pyIter_listiter st h
theorem Acs {P:Program} {w:World} {K:Frag} {tg:Expr} (it:Addr) (lo:Int) (n:Nat):Uj P w K tg (Itr lo n) [it] it (fun i h=>IsRangeIter h it (lo + (i:Nat) * 1) ((n:Int) - (i:Nat)) 1) where
 mem:=by simp
 obj:=fun i h st b hb=>by
  have e:b = it:=by simpa using hb
  subst e
  exact⟨_,st,fun v z=>by
   have z':Data.fields _ = Data.cell v:=z
   cases z'⟩
 keep:=fun i h h' st k=>k it (by simp) _ st
 item:=by
  intro X hP hw hK hc i pins s σ H E I hf st hg
  subst hP hw hK
  obtain⟨f0,f1,f2,f3,f4,f5⟩:=hf it (by simp)
  have W:=Walks.range (prog:=X.prog) (w:=X.w) (I.ok.hd hc) it lo 1 n
  refine W.item i s _ _ hg st fun v h' tk hv st' kk=>?_
  obtain⟨t,rfl⟩:=hv
  have I1:Inv X pins σ H { s with heap:=h',toks:=tk }:=I.turned (fun b o hb e=>kk b o (by simpa using hb) e) f0 f1 f3 f4 f5
  refine⟨_,rfl,Ab1 (s:={ s with heap:=h',toks:=tk }) (n:="range_iterator") st' rfl rfl (by decide) ⟨.int (lo + i),H,I1,⟨t,?_⟩,⟨rfl,rfl⟩,st',fun b hb=>(hf b hb).1⟩⟩
  rw[Int.mul_one]
 done:=by
  intro X hP hw hK hc i pins s σ H E I hf st hg
  subst hP hw hK
  obtain⟨f0,f1,f2,f3,f4,f5⟩:=hf it (by simp)
  exact wpAny_pyNext_range_end (I.ok.hd hc) st (by have:n <= i:=hg; omega) fun h' eb=>⟨rfl,I.turned (t':=s.toks) (fun b o hb e=>eb b o hb e) f0 f1 f3 f4 f5⟩
 self:=fun _ _ _ _ _ st h=>wpAny_pyIter_rangeiter st h
section
variable {X:Cx} {tg:Expr}
def Oo (K:Frag) (tl:TE):TI:=fun σ H R=>tl σ H fun x H1=>∃ a,x = .ref a/\(∃ xs,SqL K H1 a xs)/\R (Itl K a) H1
theorem Cu {l:Expr} {tl:TE} (hl:PE X l tl):PI X tg l (Oo X.K tl):=by
 intro pins s σ H R I h
 refine thn (hl pins s σ H _ I h) fun v s1 ⟨x,H1,I1,r1,q1⟩=>?_
 obtain⟨a,e,⟨xs,hq⟩,q⟩:=q1
 subst e
 cases r1
 obtain⟨its,rv,p,hz⟩:=I1.list hq
 refine wpAny_pyIter_list p.isList ?_
 refine⟨s1.heap.objs.size,[s1.heap.objs.size],_,_,H1,rfl,I1.kept (t':=s1.toks) fun b o e=>get?_push_of_some _ e,Afh a _,⟨_,get?_push_size _ rfl,rfl,rfl⟩,fun b hb=>?_,q⟩
 have e:b = s1.heap.objs.size:=by simpa using hb
 subst e
 exact I1.fpOk (Nat.le_refl _) (I1.hok.fresh (Nat.le_refl _))
theorem Zh {pins:List (Addr × Obj)} {σ:St} {H:Hp} {s:Shared} {R:It->Hp->Prop} {E:Value->Shared->Prop} {lo hi:Int} {t u v:Tok} {tk:Nat} (I:Inv X pins σ H s) (h1:-(2 ^ 62) <= lo) (h2:lo < 2 ^ 62) (h3:-(2 ^ 62) <= hi) (h4:hi < 2 ^ 62)
  (q:R (Itr lo (hi - lo).toNat) H):wpAny (model X.prog X.w) X.A (pyIter (.ref s.heap.objs.size)) (PIE X pins σ tg R) E { s with heap:=s.heap.push { cls:=.type "range",data:=.fields #[.int lo t,.int hi u,.int 1 v] },toks:=tk }:=by
 refine wpAny_pyIter_range (IsRange.new ..) (small_one h1 h2 h3 h4) ?_
 have I1:Inv X pins σ H { s with heap:=s.heap.push { cls:=.type "range",data:=.fields #[.int lo t,.int hi u,.int 1 v] },toks:=tk }:=I.kept fun b o e=>get?_push_of_some _ e
 refine⟨(s.heap.push { cls:=.type "range",data:=.fields #[.int lo t,.int hi u,.int 1 v] }).objs.size,[(s.heap.push { cls:=.type "range",data:=.fields #[.int lo t,.int hi u,.int 1 v] }).objs.size],_,_,H,rfl,
  I1.kept (t':=tk) fun b o e=>get?_push_of_some _ e,Acs _ lo (hi - lo).toNat,?_,fun b hb=>?_,q⟩
 ·have e1:lo + ((0:Nat):Int) * 1 = lo:=by simp
  have e2:(((hi - lo).toNat:Nat):Int) - ((0:Nat):Int) = Builtin.Range.rangeSize lo hi 1:=by rw[rangeSize_one]; split <;> omega
  show IsRangeIter _ _ (lo + ((0:Nat):Int) * 1) ((((hi - lo).toNat:Nat):Int) - ((0:Nat):Int)) 1
  rw[e1,e2]
  exact get?_push_size _ rfl
 ·have e:b = (s.heap.push { cls:=.type "range",data:=.fields #[.int lo t,.int hi u,.int 1 v] }).objs.size:=by simpa using hb
  subst e
  exact I1.fpOk (Nat.le_refl _) (I1.hok.fresh (Nat.le_refl _))
def Up (ta:TA):TI:=fun σ H R=>ta σ H fun vs H1=>∃ j:Int,vs = [.int j]/\-(2 ^ 62) <= j/\j < 2 ^ 62/\R (Itr 0 j.toNat) H1
def Ag8 (ta:TA):TI:=fun σ H R=>ta σ H fun vs H1=>∃ i j:Int,vs = [.int i,.int j]/\(-(2 ^ 62) <= i/\i < 2 ^ 62/\-(2 ^ 62) <= j/\j < 2 ^ 62)/\R (Itr i (j - i).toNat) H1
theorem Na {a:Expr} {ta:TA} {p pos:Pos} (hg:Gl X "range") (hm:X.mg "range" = none) (ha:PA X [a] ta) (hs:starEach [a] X.env = [(false,eval a X.env)]:=by rfl):PI X tg (.Call (.Name "range" p) [a] [] pos) (Up ta):=by
 intro pins s σ H R I h
 refine Call_ (Jz I hg hm boot_range (PyProof.Rows.callWith_type1 (thn (ha pos pins s σ H _ I h) fun us s1 ⟨vs,H1,I1,r1,q1⟩=>?_) hs rfl))
 obtain⟨j,e,q1,q2,q⟩:=q1
 subst e
 cases r1 with
 | cons r rr =>
  cases rr
  obtain⟨t,rfl⟩:=r
  exact call_range_1 (Zh I1 (by omega) (by omega) q1 q2 (by simpa using q))
theorem Wp {a b:Expr} {ta:TA} {p pos:Pos} (hg:Gl X "range") (hm:X.mg "range" = none) (ha:PA X [a,b] ta) (hs:starEach [a,b] X.env = [(false,eval a X.env),(false,eval b X.env)]:=by rfl) (hs2:starEach [b] X.env = [(false,eval b X.env)]:=by rfl) :
  PI X tg (.Call (.Name "range" p) [a,b] [] pos) (Ag8 ta):=by
 intro pins s σ H R I h
 refine Call_ (Jz I hg hm boot_range (PyProof.Rows.callWith_type1 (thn (ha pos pins s σ H _ I h) fun us s1 ⟨vs,H1,I1,r1,q1⟩=>?_) (by rw[hs,hs2]) (by rw[hs2]; rfl)))
 obtain⟨i,j,e,⟨q1,q2,q3,q4⟩,q⟩:=q1
 subst e
 cases r1 with
 | cons r rr =>
  cases rr with
  | cons r' rr =>
   cases rr
   obtain⟨t,rfl⟩:=r
   obtain⟨t',rfl⟩:=r'
   exact call_range_2 (Zh I1 q1 q2 q3 q4 q)
def Lg (wi:TI) (g:TG) (tb:TS):TS:=fun D σ H=>wi σ H fun J H1=>∃ W:Nat->Nat->St->Hp->Prop,(∃ m,W 0 m σ H1)/\∀ i m σ H,W i m σ H ->
 (J.stop i H/\D.nx σ H)\/(J.go i H/\∃ N:St->Hp->Prop,(∀ σ' H',N σ' H'->∃ m',m' < m/\W (i + 1) m' σ' H')/\∀ x H',J.yld i H x H'->g x σ H' fun σ2 H2=>tb { D with nx:=N,ct:=N,bk:=D.nx } σ2 H2)
def Sk (fp:List Addr) (h:Heap):List (Addr × Obj):=fp.filterMap fun b=>(h.get? b).map fun o=>(b,o)
theorem Nn {fp:List Addr} {h:Heap} {b:Addr} {o:Obj} (hb:b ∈ fp) (e:h.get? b = some o):(b,o) ∈ Sk fp h:=mem_filterMap.mpr ⟨b,hb,by rw[e]; rfl⟩
theorem Afb {fp:List Addr} {h:Heap} {p:Addr × Obj} (hp:p ∈ Sk fp h):p.1 ∈ fp/\h.get? p.1 = some p.2:=by
 obtain⟨b,hb,e⟩:=mem_filterMap.mp hp
 cases q:h.get? b with
 | none=>rw[q] at e; cases e
 | some o =>
  rw[q] at e
  have e':(b,o) = p:=Option.some.inj e
  subst e'
  exact⟨hb,q⟩
theorem Inv.pinned {pins:List (Addr × Obj)} {σ:St} {H:Hp} {s:Shared} {fp:List Addr} (I:Inv X pins σ H s) (hf:∀ b ∈ fp,Sf X pins H b) (ho:∀ b ∈ fp,∃ o,s.heap.get? b = some o/\∀ v,o.data ≠ .cell v):Inv X (pins ++ Sk fp s.heap) σ H s :=
 I.pins_of fun p hp=>(mem_append.mp hp).elim (fun z=>I.pin p (mem_append_right _ z)) fun z=>by
  obtain⟨hb,e⟩:=Afb z
  obtain⟨f0,f1,f2,_⟩:=hf p.1 hb
  obtain⟨o,e',d⟩:=ho p.1 hb
  rw[e] at e'; cases e'
  exact⟨e,f0,f1,f2,d⟩
theorem Inv.unpinned {pins pl:List (Addr × Obj)} {σ:St} {H:Hp} {s:Shared} (I:Inv X (pins ++ pl) σ H s):Inv X pins σ H s:=I.pins_of fun p hp=>I.pin p (mem_append_right _ (mem_append_left _ hp))
theorem Dk {iter:Expr} {body:List Stmt} {wi:TI} {g:TG} {tb:TS} {pos:Pos} (hp:PassesOwn (model X.prog X.w) X.A X.env X.xe) (hc:X.calm = true) (hi:PI X tg iter wi) (hg:PG X tg g) (hb:PSs X body tb)
  (hs:∀ x,foldedSetIterable iter X.env x = pure x:=by intro _; rfl):PS X (.For tg iter body [] pos) (Lg wi g tb):=by
 intro pins s σ H D I h
 refine wpAny_For (thn (hi pins s σ H _ I h) fun v s1 h1=>thn h1 fun itv s2 h2=>?_) hs
 obtain⟨it,fp,tn,J,H2,e,I2,T,st2,f2,W,⟨m0,w0⟩,turn⟩:=h2
 subst e
 -- what stays true of the iterator's objects through the loop
 have stat:∀ {H':Hp},(∀ b ∈ fp,H' b = none)->∀ b ∈ fp,Sf X pins H' b:=fun hn b hb=>⟨hn b hb,(f2 b hb).2⟩
 refine codeAny_forLoop_any (fun n s'=>∃ i σ' H',Inv X pins σ' H' s'/\tn i s'.heap/\(∀ b ∈ fp,H' b = none)/\W i n σ' H') ?_ m0 ⟨0,σ,H2,I2,st2,fun b hb=>(f2 b hb).1,w0⟩
 rintro n s3 ⟨i,σ3,H3,I3,st3,fr3,w3⟩
 rcases turn i n σ3 H3 w3 with ⟨stop,qn⟩ | ⟨go,N,hN,step⟩
 ·refine wpAny_passesOwn hp (thn (T.done X rfl rfl rfl hc i pins s3 σ3 H3 X.xe I3 (stat fr3) st3 stop) fun r s4 ⟨hr,I4⟩=>?_)
  subst hr
  exact wpAny_execs_nil ⟨σ3,H3,I4,qn⟩
 ·refine wpAny_passesOwn hp (thn (T.item X rfl rfl rfl hc i pins s3 σ3 H3 X.xe I3 (stat fr3) st3 go) fun r s4 ⟨u,hr,h4⟩=>?_)
  subst hr
  refine wpAny_passesOwn hp (thn h4 fun _ s5 ⟨x,H5,I5,r5,y5,st5,fr5⟩=>?_)
  have I5':=I5.pinned (stat fr5) (T.obj _ _ st5)
  refine wpAny_passesOwn hp (thn (hg _ s5 σ3 H5 x u _ I5' r5 (step x H5 y5)) fun _ s6 ⟨σ6,H6,I6,q6⟩=>?_)
  refine wpAny_passesOwn hp (thn (hb _ s6 σ6 H6 _ I6 q6) fun f s7 q7=>?_)
  have again:∀ {σ7:St} {H7:Hp},Inv X (pins ++ Sk fp s5.heap) σ7 H7 s7->N σ7 H7->∃ m,m < n/\∃ i σ' H',Inv X pins σ' H' s7/\tn i s7.heap/\(∀ b ∈ fp,H' b = none)/\W i m σ' H':=fun {σ7 H7} I7 n7=>by
   obtain⟨m',hm,w7⟩:=hN σ7 H7 n7
   refine⟨m',hm,i + 1,σ7,H7,I7.unpinned,T.keep _ _ _ st5 fun b hb o e=>(I7.pin (b,o) (mem_append_right _ (mem_append_right _ (Nn hb e)))).1,fun b hb=>?_,w7⟩
   obtain⟨o,e,d⟩:=T.obj _ _ st5 b hb
   exact (I7.pin (b,o) (mem_append_right _ (mem_append_right _ (Nn hb e)))).2.1
  cases f with
  | next=>obtain⟨σ7,H7,I7,n7⟩:=q7; exact again I7 n7
  | cont=>obtain⟨σ7,H7,I7,n7⟩:=q7; exact again I7 n7
  | brk=>obtain⟨σ7,H7,I7,q7⟩:=q7; exact⟨σ7,H7,I7.unpinned,q7⟩
  | ret v=>obtain⟨x7,σ7,H7,I7,r7,q7⟩:=q7; exact⟨x7,σ7,H7,I7.unpinned,r7,q7⟩
end
theorem Ri {K:Frag} {a:Addr} {xs:List V} {g:TG} {tb:TS} {D:Ends} {σ:St} {H:Hp} (Pv:Nat->St->Hp->Prop) (h0:Pv 0 σ H) (hl:∀ i σ H,i <= xs.length->Pv i σ H->SqL K H a xs)
  (hs:∀ i x σ H,xs[i]? = some x->Pv i σ H->g x σ H fun σ2 H2=>tb { D with nx:=Pv (i + 1),ct:=Pv (i + 1),bk:=D.nx } σ2 H2) (hd:∀ σ H,Pv xs.length σ H->D.nx σ H) :
  ∃ W:Nat->Nat->St->Hp->Prop,(∃ m,W 0 m σ H)/\∀ i m σ H,W i m σ H ->
   ((Itl K a).stop i H/\D.nx σ H)\/((Itl K a).go i H/\∃ N:St->Hp->Prop,(∀ σ' H',N σ' H'->∃ m',m' < m/\W (i + 1) m' σ' H')/\∀ x H',(Itl K a).yld i H x H'->g x σ H' fun σ2 H2=>tb { D with nx:=N,ct:=N,bk:=D.nx } σ2 H2):=by
 refine⟨fun i m σ H=>m = xs.length - i/\i <= xs.length/\Pv i σ H,⟨xs.length,by simp,zero_le _,h0⟩,?_⟩
 rintro i m σ H ⟨rfl,hi,p⟩
 have q:=hl i σ H hi p
 by_cases hlt:i < xs.length
 ·refine .inr ⟨⟨xs,xs[i],q,by simp [hlt]⟩,Pv (i + 1),fun σ' H' p'=>⟨xs.length - (i + 1),by omega,rfl,hlt,p'⟩,fun x H' y=>?_⟩
  obtain⟨e,y⟩:=y
  subst e
  exact hs i x σ _ (y xs q) p
 ·have e:i = xs.length:=by omega
  subst e
  exact .inl ⟨⟨xs,q,Nat.le_refl _⟩,hd σ H p⟩
theorem Xc {lo:Int} {n:Nat} {g:TG} {tb:TS} {D:Ends} {σ:St} {H:Hp} (Pv:Nat->St->Hp->Prop) (h0:Pv 0 σ H)
  (hs:∀ i σ H,i < n->Pv i σ H->g (.int (lo + i)) σ H fun σ2 H2=>tb { D with nx:=Pv (i + 1),ct:=Pv (i + 1),bk:=D.nx } σ2 H2) (hd:∀ σ H,Pv n σ H->D.nx σ H) :
  ∃ W:Nat->Nat->St->Hp->Prop,(∃ m,W 0 m σ H)/\∀ i m σ H,W i m σ H ->
   ((Itr lo n).stop i H/\D.nx σ H)\/((Itr lo n).go i H/\∃ N:St->Hp->Prop,(∀ σ' H',N σ' H'->∃ m',m' < m/\W (i + 1) m' σ' H')/\∀ x H',(Itr lo n).yld i H x H'->g x σ H' fun σ2 H2=>tb { D with nx:=N,ct:=N,bk:=D.nx } σ2 H2):=by
 refine⟨fun i m σ H=>m = n - i/\i <= n/\Pv i σ H,⟨n,by simp,zero_le _,h0⟩,?_⟩
 rintro i m σ H ⟨rfl,hi,p⟩
 by_cases hlt:i < n
 ·refine .inr ⟨hlt,Pv (i + 1),fun σ' H' p'=>⟨n - (i + 1),by omega,rfl,hlt,p'⟩,fun x H' y=>?_⟩
  obtain⟨e,y⟩:=y
  subst e y
  exact hs i σ _ hlt p
 ·have e:i = n:=by omega
  subst e
  exact .inl ⟨Nat.le_refl _,hd σ H p⟩
abbrev R2:=V->V->Hp->VK->Prop
def OpR (X:Cx) (f:Value->Value->Sem Value) (r:R2):Prop :=
 ∀ (pins:List (Addr × Obj)) (s:Shared) (σ:St) (H:Hp) (x y:V) (v u:Value) (Q:VK),Inv X pins σ H s->RelV x v->RelV y u->r x y H Q ->
  wpAny (model X.prog X.w) X.A (f v u) (EP X pins σ Q) X.xe s
def UnR (X:Cx) (f:Value->Sem Value) (r:V->Hp->VK->Prop):Prop :=
 ∀ (pins:List (Addr × Obj)) (s:Shared) (σ:St) (H:Hp) (x:V) (v:Value) (Q:VK),Inv X pins σ H s->RelV x v->r x H Q ->
  wpAny (model X.prog X.w) X.A (f v) (EP X pins σ Q) X.xe s
def Lw (X:Cx) (f:Value) (r:List V->Hp->VK->Prop):Prop :=
 ∀ (pins:List (Addr × Obj)) (s:Shared) (σ:St) (H:Hp) (xs:List V) (us:List Value) (Q:VK),Inv X pins σ H s->Vals xs us->r xs H Q ->
  wpAny (model X.prog X.w) X.A (call f us) (EP X pins σ Q) X.xe s
def tOp (r:R2) (ta tb:TE):TE:=fun σ H Q=>ta σ H fun x H1=>tb σ H1 fun y H2=>r x y H2 Q
def tUn (r:V->Hp->VK->Prop) (ta:TE):TE:=fun σ H Q=>ta σ H fun x H1=>r x H1 Q
def rI (C:Int->Int->Prop) (g:Int->Int->V):R2:=fun x y H Q=>∃ i j,x = .int i/\y = .int j/\C i j/\Q (g i j) H
def rI0 (g:Int->Int->V):R2:=fun x y H Q=>∃ i j,x = .int i/\y = .int j/\Q (g i j) H
def rU (g:Int->V):V->Hp->VK->Prop:=fun x H Q=>∃ i,x = .int i/\Q (g i) H
section
variable {X:Cx} {a b c:Expr} {ta tb tc:TE} {pos:Pos}
theorem Afr (ha:PE X a ta) (hb:PE X b tb) {pins:List (Addr × Obj)} {s:Shared} {σ:St} {H:Hp} {R:V->V->Hp->Prop} (I:Inv X pins σ H s)
  (h:ta σ H fun x H1=>tb σ H1 fun y H2=>R x y H2) {Q:Value->Shared->Prop} {f:Value->Value->Sem Value}
  (hf:∀ v u s2 x y H2,Inv X pins σ H2 s2->RelV x v->RelV y u->R x y H2->wpAny (model X.prog X.w) X.A (f v u) Q X.xe s2) :
  wpAny (model X.prog X.w) X.A (eval a X.env) (fun v s₁=>wpAny (model X.prog X.w) X.A (eval b X.env) (fun u s₂=>wpAny (model X.prog X.w) X.A (f v u) Q X.xe s₂) X.xe s₁) X.xe s:=by
 refine thn (ha pins s σ H _ I h) fun v s1 ⟨x,H1,I1,r1,q1⟩=>?_
 refine thn (hb pins s1 σ H1 _ I1 q1) fun u s2 ⟨y,H2,I2,r2,q2⟩=>?_
 exact hf v u s2 x y H2 I2 r1 r2 q2
theorem Br {op:Operator} {r:R2} (ho:OpR X (binaryOp op) r) (ha:PE X a ta) (hb:PE X b tb):PE X (.BinOp a op b pos) (tOp r ta tb):=by
 intro pins s σ H Q I h
 exact wpAny_BinOp (Afr ha hb I h fun v u s2 x y H2 I2 rx ry q=>ho pins s2 σ H2 x y v u Q I2 rx ry q)
theorem Tj {op:UnaryOp} {r:V->Hp->VK->Prop} (ho:UnR X (unaryOp op) r) (ha:PE X a ta):PE X (.UnaryOp op a pos) (tUn r ta):=by
 intro pins s σ H Q I h
 exact UnaryOp_ (thn (ha pins s σ H _ I h) fun v s1 ⟨x,H1,I1,r1,q1⟩=>ho pins s1 σ H1 x v Q I1 r1 q1)
theorem opI {f:Value->Value->Sem Value} {C:Int->Int->Prop} {g:Int->Int->Int}
  (rule:∀ (i j:Int) (t u:Tok) (s:Shared) (Q:Value->Shared->Prop) (E:Value->Shared->Prop),C i j->Q (.int (g i j) s.toks) { s with toks:=s.toks + 1 }->wpAny (model X.prog X.w) X.A (f (.int i t) (.int j u)) Q E s) :
  OpR X f (rI C fun i j=>.int (g i j)):=by
 intro pins s σ H x y v u Q I rx ry h
 obtain⟨i,j,rfl,rfl,hc,q⟩:=h
 obtain⟨t,rfl⟩:=rx
 obtain⟨t',rfl⟩:=ry
 exact rule i j t t' s _ _ hc ⟨.int (g i j),H,I.tok _,⟨_,rfl⟩,q⟩
theorem Ajo {f:Value->Value->Sem Value} {g:Int->Int->Int}
  (rule:∀ (i j:Int) (t u:Tok) (s:Shared) (Q:Value->Shared->Prop) (E:Value->Shared->Prop),Q (.int (g i j) s.toks) { s with toks:=s.toks + 1 }->wpAny (model X.prog X.w) X.A (f (.int i t) (.int j u)) Q E s) :
  OpR X f (rI0 fun i j=>.int (g i j)):=by
 intro pins s σ H x y v u Q I rx ry h
 obtain⟨i,j,rfl,rfl,q⟩:=h
 obtain⟨t,rfl⟩:=rx
 obtain⟨t',rfl⟩:=ry
 exact rule i j t t' s _ _ ⟨.int (g i j),H,I.tok _,⟨_,rfl⟩,q⟩
theorem Ab8 {f:Value->Value->Sem Value} {g:Int->Int->Bool}
  (rule:∀ (i j:Int) (t u:Tok) (s:Shared) (Q:Value->Shared->Prop) (E:Value->Shared->Prop),Q (.bool (g i j)) s->wpAny (model X.prog X.w) X.A (f (.int i t) (.int j u)) Q E s) :
  OpR X f (rI0 fun i j=>.bl (g i j)):=by
 intro pins s σ H x y v u Q I rx ry h
 obtain⟨i,j,rfl,rfl,q⟩:=h
 obtain⟨t,rfl⟩:=rx
 obtain⟨t',rfl⟩:=ry
 exact rule i j t t' s _ _ ⟨.bl (g i j),H,I,rfl,q⟩
def Tr (i j:Int):Prop:=0 < j/\j < 1073741824
def Ab3 (i j:Int):Prop:=0 <= j/\j <= 1000000/\i.natAbs < 2 ^ 64
def CMul (i j:Int):Prop:=(-(2 ^ 64) < i/\i < 2 ^ 64)\/(-(2 ^ 64) < j/\j < 2 ^ 64)
theorem CMul.ok {i j:Int} (h:CMul i j):IntMulOk i j:=by
 rcases h with ⟨h1,h2⟩ | ⟨h1,h2⟩
 ·exact .of_left (intBits_le_64 h1 h2)
 ·exact .of_right (intBits_le_64 h1 h2)
theorem Fc:OpR X (binaryOp .Add) (rI0 fun i j=>.int (i + j)):=Ajo fun _ _ _ _ _ _ _ q=>add_int q
theorem Zv:OpR X (binaryOp .Sub) (rI0 fun i j=>.int (i - j)):=Ajo fun _ _ _ _ _ _ _ q=>sub_int q
theorem Sm:OpR X (binaryOp .Mult) (rI CMul fun i j=>.int (i * j)):=opI fun _ _ _ _ _ _ _ hc q=>mul_int q hc.ok
theorem Fi:OpR X (binaryOp .FloorDiv) (rI Tr fun i j=>.int (i / j)):=opI fun i j _ _ _ _ _ hc q=>by
 have h1:(0:Int) < j:=hc.1
 have h2:j < 1073741824:=hc.2
 exact floordiv_int (by omega) (by rw[Int.fdiv_eq_ediv_of_nonneg i (by omega)]; exact q) (.inl (PyProof.noPylong_small (by omega)))
theorem Dg:OpR X (binaryOp .Mod) (rI (fun _ j=>0 < j) fun i j=>.int (i % j)):=opI fun i j _ _ _ _ _ hc q=>by
 have h1:(0:Int) < j:=hc
 exact mod_int' (by omega) (by rw[Int.fmod_eq_emod_of_nonneg i (by omega)]; exact q)
theorem Lc:OpR X (binaryOp .Pow) (rI Ab3 fun i j=>.int (i ^ j.toNat)):=opI fun _ _ _ _ _ _ _ hc q=>pow_int_small hc.1 hc.2.1 hc.2.2 q
theorem unI {f:Value->Sem Value} {g:Int->Int}
  (rule:∀ (i:Int) (t:Tok) (s:Shared) (Q:Value->Shared->Prop) (E:Value->Shared->Prop),Q (.int (g i) s.toks) { s with toks:=s.toks + 1 }->wpAny (model X.prog X.w) X.A (f (.int i t)) Q E s) :
  UnR X f (rU fun i=>.int (g i)):=by
 intro pins s σ H x v Q I rx h
 obtain⟨i,rfl,q⟩:=h
 obtain⟨t,rfl⟩:=rx
 exact rule i t s _ _ ⟨.int (g i),H,I.tok _,⟨_,rfl⟩,q⟩
theorem Qt:UnR X (unaryOp .USub) (rU fun i=>.int (-i)):=unI fun _ _ _ _ _ q=>neg_int q
end
def AfM:V->V->Bool
 | .non,.non=>true | .non,.int _=>true | .int _,.non=>true | .non,.bl _=>true | .bl _,.non=>true | .non,.str _=>true | .str _,.non=>true
 | .int _,.int _=>true | .bl _,.bl _=>true | .str _,.str _=>true | .byt _,.byt _=>true
 | .int _,.str _=>true | .str _,.int _=>true | .bl _,.str _=>true | .str _,.bl _=>true
 | _,_=>false
def rEq:R2:=fun x y H Q=>AfM x y = true/\Q (.bl (decide (x = y))) H
def rNe:R2:=fun x y H Q=>AfM x y = true/\Q (.bl (!decide (x = y))) H
theorem AbF {i j:Int}:decide (V.int i = V.int j) = (i == j):=by
 rw[Bool.eq_iff_iff]
 simp
theorem AeZ {i j:Bool}:decide (V.bl i = V.bl j) = (i == j):=by
 rw[Bool.eq_iff_iff]
 simp
theorem AbR {i j:Str}:decide (V.str i = V.str j) = (i == j):=by
 rw[Bool.eq_iff_iff]
 simp
theorem Abl {i j:Array UInt8}:decide (V.byt i = V.byt j) = (i.toList == j.toList):=by
 rw[Bool.eq_iff_iff]
 cases i
 cases j
 simp
section
variable {X:Cx} {a b c:Expr} {ta tb tc:TE} {pos:Pos}
theorem Dn {pins:List (Addr × Obj)} {σ:St} {H:Hp} {s:Shared} {Q:VK} {k k':Bool} (I:Inv X pins σ H s) (q:Q (.bl k) H) (e:k = k'):EP X pins σ Q (.bool k') s:=by
 subst e
 exact⟨.bl k,H,I,rfl,q⟩
theorem Dp:OpR X (compareOp .Eq) rEq:=by
 intro pins s σ H x y v u Q I rx ry h
 obtain⟨hs,q⟩:=h
 cases x with
 | non =>
  cases rx
  cases y with
  | non=>cases ry; exact PySem.EqNone.eq_none_none (Dn I q (by simp))
  | bl j=>cases ry; exact PySem.EqNone.eq_none_bool (Dn I q (by simp))
  | int j=>obtain⟨t',rfl⟩:=ry; exact PySem.EqNone.eq_none_int (Dn I q (by simp))
  | str j=>obtain⟨t',rfl⟩:=ry; exact PySem.EqNone.eq_none_str (Dn I q (by simp))
  | _=>exact absurd (show false = true from hs) Bool.false_ne_true
 | bl i =>
  cases rx
  cases y with
  | non=>cases ry; exact PySem.EqNone.eq_bool_none (Dn I q (by simp))
  | bl j=>cases ry; exact eq_bool (Dn I q AeZ)
  | str j=>obtain⟨t',rfl⟩:=ry; exact PySem.EqMixed.eq_bool_str (Dn I q (by simp))
  | _=>exact absurd (show false = true from hs) Bool.false_ne_true
 | int i =>
  obtain⟨t,rfl⟩:=rx
  cases y with
  | non=>cases ry; exact PySem.EqNone.eq_int_none (Dn I q (by simp))
  | int j=>obtain⟨t',rfl⟩:=ry; exact eq_int (Dn I q AbF)
  | str j=>obtain⟨t',rfl⟩:=ry; exact PySem.EqMixed.eq_int_str (Dn I q (by simp))
  | _=>exact absurd (show false = true from hs) Bool.false_ne_true
 | str i =>
  obtain⟨t,rfl⟩:=rx
  cases y with
  | non=>cases ry; exact PySem.EqNone.eq_str_none (Dn I q (by simp))
  | bl j=>cases ry; exact PySem.EqMixed.eq_str_bool (Dn I q (by simp))
  | int j=>obtain⟨t',rfl⟩:=ry; exact PySem.EqMixed.eq_str_int (Dn I q (by simp))
  | str j=>obtain⟨t',rfl⟩:=ry; exact eq_str (Dn I q AbR)
  | _=>exact absurd (show false = true from hs) Bool.false_ne_true
 | byt i =>
  obtain⟨t,rfl⟩:=rx
  cases y with
  | byt j=>obtain⟨t',rfl⟩:=ry; exact PySem.W.eq_bytes (Dn I q Abl)
  | _=>exact absurd (show false = true from hs) Bool.false_ne_true
 | _=>cases y <;> exact absurd (show false = true from hs) Bool.false_ne_true
theorem Acx:OpR X (compareOp .NotEq) rNe:=by
 intro pins s σ H x y v u Q I rx ry h
 obtain⟨hs,q⟩:=h
 cases x with
 | non =>
  cases rx
  cases y with
  | non=>cases ry; exact PySem.EqNone.ne_none_none (Dn I q (by simp))
  | bl j=>cases ry; exact PySem.EqNone.ne_none_bool (Dn I q (by simp))
  | int j=>obtain⟨t',rfl⟩:=ry; exact PySem.EqNone.ne_none_int (Dn I q (by simp))
  | str j=>obtain⟨t',rfl⟩:=ry; exact PySem.EqNone.ne_none_str (Dn I q (by simp))
  | _=>exact absurd (show false = true from hs) Bool.false_ne_true
 | bl i =>
  cases rx
  cases y with
  | non=>cases ry; exact PySem.EqNone.ne_bool_none (Dn I q (by simp))
  | bl j=>cases ry; exact ne_bool (Dn I q (congrArg not AeZ))
  | str j=>obtain⟨t',rfl⟩:=ry; exact PySem.EqMixed.ne_bool_str (Dn I q (by simp))
  | _=>exact absurd (show false = true from hs) Bool.false_ne_true
 | int i =>
  obtain⟨t,rfl⟩:=rx
  cases y with
  | non=>cases ry; exact PySem.EqNone.ne_int_none (Dn I q (by simp))
  | int j=>obtain⟨t',rfl⟩:=ry; exact ne_int (Dn I q (congrArg not AbF))
  | str j=>obtain⟨t',rfl⟩:=ry; exact PySem.EqMixed.ne_int_str (Dn I q (by simp))
  | _=>exact absurd (show false = true from hs) Bool.false_ne_true
 | str i =>
  obtain⟨t,rfl⟩:=rx
  cases y with
  | non=>cases ry; exact PySem.EqNone.ne_str_none (Dn I q (by simp))
  | bl j=>cases ry; exact PySem.EqMixed.ne_str_bool (Dn I q (by simp))
  | int j=>obtain⟨t',rfl⟩:=ry; exact PySem.EqMixed.ne_str_int (Dn I q (by simp))
  | str j=>obtain⟨t',rfl⟩:=ry; exact ne_str (Dn I q (congrArg not AbR))
  | _=>exact absurd (show false = true from hs) Bool.false_ne_true
 | byt i =>
  obtain⟨t,rfl⟩:=rx
  cases y with
  | byt j=>obtain⟨t',rfl⟩:=ry; exact PySem.W.ne_bytes (Dn I q (congrArg not Abl))
  | _=>exact absurd (show false = true from hs) Bool.false_ne_true
 | _=>cases y <;> exact absurd (show false = true from hs) Bool.false_ne_true
theorem AmN:OpR X (compareOp .Lt) (rI0 fun i j=>.bl (decide (i < j))):=Ab8 fun _ _ _ _ _ _ _ q=>lt_int q
theorem Am2:OpR X (compareOp .LtE) (rI0 fun i j=>.bl (decide (i <= j))):=Ab8 fun _ _ _ _ _ _ _ q=>le_int q
theorem Uq:OpR X (compareOp .Gt) (rI0 fun i j=>.bl (decide (j < i))):=Ab8 fun _ _ _ _ _ _ _ q=>gt_int q
theorem AhW:OpR X (compareOp .GtE) (rI0 fun i j=>.bl (decide (j <= i))):=Ab8 fun _ _ _ _ _ _ _ q=>ge_int q
theorem Cj (b:Expr) {op:CmpOp} (h:op ≠ .In:=by decide) (h2:op ≠ .NotIn:=by decide):behindInMarks op b = false:=by
 have e1:(op == CmpOp.In) = false:=by cases op <;> first | rfl | exact absurd rfl h
 have e2:(op == CmpOp.NotIn) = false:=by cases op <;> first | rfl | exact absurd rfl h2
 cases b <;> simp [behindInMarks,e1,e2]
theorem Jk {op:CmpOp} {r:R2} (ho:OpR X (compareOp op) r) (ha:PE X a ta) (hb:PE X b tb) (hm:behindInMarks op b = false):PE X (.Compare a [op] [b] pos) (tOp r ta tb):=by
 intro pins s σ H Q I h
 exact wpAny_Compare1 (Afr ha hb I h fun v u s2 x y H2 I2 rx ry q=>ho pins s2 σ H2 x y v u Q I2 rx ry q) hm
def Ace (t:TE):TT:=fun σ H Q=>t σ H fun x H'=>∃ k,x = .bl k/\Q k H'
theorem Cd {op:CmpOp} {r:R2} (ho:OpR X (compareOp op) r) (ha:PE X a ta) (hb:PE X b tb) (hm:behindInMarks op b = false):PT X (.Compare a [op] [b] pos) (Ace (tOp r ta tb)):=by
 intro pins s σ H Q I h
 refine wpAny_isTrue_Compare1 (thn (ha pins s σ H _ I h) fun v s1 ⟨x,H1,I1,r1,q1⟩=>thn (hb pins s1 σ H1 _ I1 q1) fun u s2 ⟨y,H2,I2,r2,q2⟩ =>
  thn (ho pins s2 σ H2 x y v u _ I2 r1 r2 q2) fun c s3 ⟨z,H3,I3,r3,k,e,q3⟩=>?_) hm
 subst e
 cases r3
 exact wpAny_truthy_bool ⟨H3,I3,q3⟩
theorem Uw:(sizeLine:Nat) < 2 ^ 63:=by rw[sizeLine_eq]; decide
theorem Yb {x:V} {us:List Value} (r:Vals [x] us):∃ u,us = [u]/\RelV x u:=by
 cases r with
 | cons r1 r2=>cases r2; exact⟨_,rfl,r1⟩
theorem Acf {x y:V} {us:List Value} (r:Vals [x,y] us):∃ u w',us = [u,w']/\RelV x u/\RelV y w':=by
 cases r with
 | cons r1 r2 =>
  cases r2 with
  | cons r3 r4=>cases r4; exact⟨_,_,rfl,r1,r3⟩
theorem Wq (hc:X.calm = true):Lw X (.builtin "max") (fun xs H Q=>∃ i j,xs = [.int i,.int j]/\Q (.int (if j > i then j else i)) H):=by
 intro pins s σ H xs us Q I r h
 obtain⟨i,j,rfl,q⟩:=h
 obtain⟨u,w',rfl,⟨t,rfl⟩,⟨t',rfl⟩⟩:=Acf r
 refine max_two_ints (I.ok.hd hc) fun h' tk k=>⟨_,H,I.kept k,?_,q⟩
 by_cases hj:j > i
 ·rw[if_pos hj,if_pos hj]; exact⟨_,rfl⟩
 ·rw[if_neg hj,if_neg hj]; exact⟨_,rfl⟩
theorem Adu (hc:X.calm = true):Lw X (.builtin "min") (fun xs H Q=>∃ i j,xs = [.int i,.int j]/\Q (.int (if j < i then j else i)) H):=by
 intro pins s σ H xs us Q I r h
 obtain⟨i,j,rfl,q⟩:=h
 obtain⟨u,w',rfl,⟨t,rfl⟩,⟨t',rfl⟩⟩:=Acf r
 refine min_two_ints (I.ok.hd hc) fun h' tk k=>⟨_,H,I.kept k,?_,q⟩
 by_cases hj:j < i
 ·rw[if_pos hj,if_pos hj]; exact⟨_,rfl⟩
 ·rw[if_neg hj,if_neg hj]; exact⟨_,rfl⟩
end
structure ObjM (h:Heap) (x dx C:Addr) (mA:Str->Option Value):Prop where
 obj:h.get? x = some (instObj C dx)
 ns:h.Ns1 dx mA
 ne:dx ≠ x
theorem Adt {h:Heap} {dx:Addr} {mA:Str->Option Value} (n:h.Ns1 dx mA):∃ od,h.get? dx = some od/\∀ name,lookIn name od = some (mA name):=by
 obtain⟨o,es,ep,ho,hd,hk,_,hm⟩:=n
 refine⟨o,ho,fun name=>?_⟩
 have e:=hm name
 unfold nsFind findBy at e
 rw[<- Array.find?_toList] at e
 unfold lookIn
 rw[hd]
 dsimp only
 split
 ·rename_i y q
  rw[q] at e
  exact congrArg some e
 ·rename_i q
  rw[q] at e
  have a:es.toList.any (·.refKey) = false:=by
   rw[List.any_eq_false]
   intro y hy
   obtain⟨z,t,hkey⟩:=hk y (Array.mem_toList_iff.mp hy)
   simp [DictEntry.refKey,hkey]
  have a':¬ es.toList.any (·.refKey) = true:=by rw[a]; exact Bool.false_ne_true
  rw[if_neg a']
  exact congrArg some e
theorem ObjM.look {h:Heap} {x dx C:Addr} {mA:Str->Option Value} (I:ObjM h x dx C mA):∃ od,PySem.W.InstAt h x (instObj C dx) C (some od)/\∀ name,lookIn name od = some (mA name) :=
 let ⟨od,ho,hl⟩:=Adt I.ns
 ⟨od,⟨I.obj,rfl,rfl,ho⟩,hl⟩
section
variable {prog:Program} {w:World} {A:Around} {E:Value->Shared->Prop} {s:Shared} {K:Frag} {x dx C f:Addr} {mA:Str->Option Value} {name:Str} {v:Value}
theorem AiP {expr:Bool} {Q:Value->Shared->Prop} (X:K.In s.heap) (I:ObjM s.heap x dx C mA) (hg:plainGet K C name = true) (hh:hasDictIn K C = true)
  (ha:findIn K (.ref C) name = some none) (hv:mA name = some v) (hv':handedIn v = true) (h:Q v { s with toks:=s.toks + 1 }) :
  wpAny (model prog w) A (getAttr (.ref x) name expr) Q E s:=by
 obtain⟨od,J,hl⟩:=I.look
 exact PySem.W.get_value X J (plainGet_of hg).1 (PySem.W.findObj_own hh ha rfl (by rw[hl,hv])) hv' h
theorem Afw {pl:Sem Bool} {Q:Value × List Value->Shared->Prop} (X:K.In s.heap) (I:ObjM s.heap x dx C mA) (hg:plainGet K C name = true)
  (hf:findIn K (.ref C) name = some (some (.ref f))) (ht:isFn K (.ref f) = true) (hv:mA name = none) (h:Q (.ref f,[.ref x]) s) :
  wpAny (model prog w) A (getMethod (.ref x) name pl) Q E s:=by
 obtain⟨od,J,hl⟩:=I.look
 exact PySem.W.method_fn X J (plainGet_of hg).1 (plainGet_of hg).2 hf (beq_iff_eq.mp ht) (by show (lookIn name od).map (·.isSome) = some false; rw[hl,hv]; rfl) h
theorem Aid {ns:List Str} {Q:Unit->Shared->Prop} (X:K.In s.heap) (I:ObjM s.heap x dx C mA)
  (hs:findIn K (.ref C) "__setattr__" = some (some (.builtin "object.__setattr__"))) (hp:plainOver K C = true) (ht:takerIn K C name = some none) (hh:hasDictIn K C = true)
  (hw:PySem.Within mA ns) (hsz:ns.length <= sizeLine)
  (h:∀ h',ObjM h' x dx C (fun y=>if y = name then some v else mA y)->SameBut dx s.heap h'->Q () { s with heap:=h',toks:=s.toks + 2 }) :
  wpAny (model prog w) A (setAttr (.ref x) name v) Q E s:=by
 obtain⟨od,J,hl⟩:=I.look
 refine PySem.W.set_plain X J hs (PySem.W.osa_open (s:={ s with toks:=s.toks + 1 }) (r:=none) X J hp ht fun b=>?_)
 obtain⟨cd,hc,hd'⟩:=PySem.W.any_some hh
 have hx:s.heap.get? x = some ⟨.ref C,some dx,.plain,#[]⟩:=I.obj
 refine wpAny_bind (wpAny_pure (wpAny_bind (wpAny_bind (wpAny_loadPart hx (wpAny_bind (Looks.here (s:={ s with toks:=s.toks + 1 }) (PySem.W.looks_clsIn X hc) ?_))))))
 rw[hd']
 refine wpAny_pure (a:=some dx) (wpAny_bind (wpAny_pure (wpAny_bind ?_)))
 refine wpAny_nsSet1 (s:={ s with toks:=s.toks + 1 }) I.ns fun h' hn2 hs2=>?_
 obtain⟨oD,esD,epD,hoD,hdD,hcD⟩:=hn2.count (PySem.Within.cons name v hw)
 refine wpAny_bind (wpAny_lookBehind hoD (by rw[hdD]; exact pastItsLine_dict (Nat.le_trans hcD (by rw[length_cons]; omega))) ?_)
 exact wpAny_pure (h _ ⟨(hs2.2 _ (Ne.symm I.ne)).trans I.obj,hn2,I.ne⟩ hs2)
theorem AfZ {R:Result->Shared->Prop} {vs:List Value} {kw:List (Str × Value)} (X:K.In s.heap) (hm:makesIn K C = true)
  (hi:findIn K (.ref C) "__init__" = some (some (.ref f))) (hf:typeIn K (.ref f) = some (.type "function"))
  (h:codeAny (model prog w) (A.under (.builtin "type.__call__" ⟨.ref C :: vs,kw⟩)) (.call (.ref f) ⟨.ref (s.heap.objs.size + 1) :: vs,kw⟩) (PySem.W.InitBack (s.heap.objs.size + 1) R)
   { s with heap:=(s.heap.push emptyDict).push (instObj C s.heap.objs.size) }) :
  codeAny (model prog w) A (.call (.ref C) ⟨vs,kw⟩) R s:=by
 obtain⟨hh,g,d,t,os⟩:=s
 exact PySem.W.make_core (PySem.W.makes_of X hm) (PySem.W.looks_findIn X hi) (fun self=>PySem.W.bind_fn X self hf) (.inl rfl) h
end
def Bz (f:Str) (v:V):List (Str × V)->List (Str × V)
 | []=>[(f,v)]
 | (g,x) :: r=>if g = f then (g,v) :: r else (g,x) :: Bz f v r
theorem Cz (f g:Str) (v:V):∀ fs:List (Str × V),(Bz f v fs).lookup g = if g = f then some v else fs.lookup g
 | []=>by
  show List.lookup g [(f,v)] = _
  by_cases h:g = f
  ·have hb:(g == f) = true:=beq_iff_eq.mpr h
   simp only [List.lookup,hb,if_pos h]
  ·have hb:(g == f) = false:=beq_eq_false_iff_ne.mpr h
   simp only [List.lookup,hb,if_neg h]
 | (k,x) :: r=>by
  have ih:=Cz f g v r
  rw[show Bz f v ((k,x) :: r) = (if k = f then (k,v) :: r else (k,x) :: Bz f v r) from rfl]
  by_cases hk:k = f
  ·rw[if_pos hk]
   by_cases h:g = k
   ·have hb:(g == k) = true:=beq_iff_eq.mpr h
    simp only [List.lookup,hb,if_pos (h.trans hk)]
   ·have hb:(g == k) = false:=beq_eq_false_iff_ne.mpr h
    simp only [List.lookup,hb,if_neg (fun e:g = f=>h (e.trans hk.symm))]
  ·rw[if_neg hk]
   by_cases h:g = k
   ·have hb:(g == k) = true:=beq_iff_eq.mpr h
    simp only [List.lookup,hb,if_neg (fun e:g = f=>hk (h.symm.trans e))]
   ·have hb:(g == k) = false:=beq_eq_false_iff_ne.mpr h
    simp only [List.lookup,hb]
    exact ih
theorem Sj (f:Str) (v:V):∀ fs:List (Str × V),f ∈ (Bz f v fs).map (·.1)/\∀ g,g ∈ fs.map (·.1)->g ∈ (Bz f v fs).map (·.1)
 | []=>⟨by simp [Bz],fun g h=>by simp at h⟩
 | (k,x) :: r=>by
  obtain⟨i1,i2⟩:=Sj f v r
  rw[show Bz f v ((k,x) :: r) = (if k = f then (k,v) :: r else (k,x) :: Bz f v r) from rfl]
  by_cases hk:k = f
  ·rw[if_pos hk]
   subst hk
   exact⟨by simp,fun g h=>by simpa using h⟩
  ·rw[if_neg hk]
   refine⟨?_,fun g h=>?_⟩
   ·rw[map_cons]
    exact mem_cons_of_mem _ i1
   ·rw[map_cons] at h ⊢
    rcases mem_cons.mp h with e | e
    ·exact mem_cons.mpr (.inl e)
    ·exact mem_cons_of_mem _ (i2 g e)
theorem Dy (f:Str) (v:V):∀ fs:List (Str × V),(Bz f v fs).length <= fs.length + 1
 | []=>by simp [Bz]
 | (k,x) :: r=>by
  have ih:=Dy f v r
  rw[show Bz f v ((k,x) :: r) = (if k = f then (k,v) :: r else (k,x) :: Bz f v r) from rfl]
  by_cases hk:k = f
  ·rw[if_pos hk,length_cons,length_cons]; omega
  ·rw[if_neg hk,length_cons,length_cons]; omega
theorem RelO.some_of {v:V} {o:Option Value} (r:RelO (some v) o):∃ u,o = some u/\RelV v u:=by
 cases o with
 | none=>exact (show False from r).elim
 | some u=>exact⟨u,rfl,r⟩
theorem RelO.none_of {o:Option Value} (r:RelO none o):o = none:=by
 cases o with
 | none=>rfl
 | some u=>exact (show False from r).elim
theorem AdA {v:V} {u:Value} (r:RelV v u):handedIn u = true:=by
 cases v with
 | non=>cases (show u = Value.none from r); rfl
 | bl b=>cases (show u = Value.bool b from r); rfl
 | int i=>obtain⟨t,e⟩:=(show ∃ t,u = Value.int i t from r); cases e; rfl
 | str x=>obtain⟨t,e⟩:=(show ∃ t,u = Value.str x t from r); cases e; rfl
 | byt b=>obtain⟨t,e⟩:=(show ∃ t,u = Value.bytes b t from r); cases e; rfl
 | flt b=>obtain⟨t,e⟩:=(show ∃ t,u = Value.float b t from r); cases e; rfl
 | ref a=>cases (show u = Value.ref a from r); rfl
 | ty n=>cases (show u = Value.type n from r); rfl
section
variable {P:Program} {w:World} {H H':Hp} {h h':Heap} {a C dx:Addr} {fs fs':List (Str × V)}
theorem Sy (hok:HOk P w H h) (e:H a = some (.ins C dx fs)):∃ mA,ObjM h a dx C mA/\(∀ f,RelO (fs.lookup f) (mA f))/\PySem.Within mA (fs.map (·.1))/\fs.length <= 1000/\H dx = some (.own a):=by
 obtain⟨d,z,ne,ob,mA,n,r,q⟩:=(show ObjOk P w H h a (.ins C dx fs) from hok a _ e)
 exact⟨mA,⟨ob,n,ne⟩,r,q,z,d⟩
end
structure Cls (K:Frag) (C:Addr):Prop where
 pg:plainGet K C Str.empty = true
 hd:hasDictIn K C = true
 po:plainOver K C = true
 sa:findIn K (.ref C) "__setattr__" = some (some (.builtin "object.__setattr__"))
theorem Cls.get {K:Frag} {C:Addr} (c:Cls K C) (f:Str):plainGet K C f = true:=c.pg
def NoAttr (K:Frag) (C:Addr) (f:Str):Prop:=findIn K (.ref C) f = some none
theorem NoAttr.taker {K:Frag} {C:Addr} {f:Str} (n:NoAttr K C f):takerIn K C f = some none:=by
 unfold takerIn
 rw[show findIn K (.ref C) f = some none from n]
 rfl
structure Acl (K:Frag) (C:Addr) (m:Str) (f:Addr):Prop where
 at_:findIn K (.ref C) m = some (some (.ref f))
 fn:isFn K (.ref f) = true
 kp:keepIn K (.ref f) = true
section
variable {X:Cx} {pins:List (Addr × Obj)} {σ:St} {H:Hp} {s:Shared} {a C dx:Addr} {fs:List (Str × V)} {f:Str} {v:V} {A:Around} {E:Value->Shared->Prop}
theorem Ac5 {b:Bool} {Q:Value->Shared->Prop} (I:Inv X pins σ H s) (e:H a = some (.ins C dx fs)) (c:Cls X.K C) (n:NoAttr X.K C f) (l:fs.lookup f = some v)
  (h:∀ u s',Inv X pins σ H s'->RelV v u->Q u s'):wpAny (model X.prog X.w) A (getAttr (.ref a) f b) Q E s:=by
 obtain⟨mA,O,r,_,_,_⟩:=Sy I.hok e
 obtain⟨u,hu,ru⟩:=RelO.some_of (v:=v) (o:=mA f) (by rw[<- l]; exact r f)
 exact AiP I.kIn O (c.get f) c.hd n hu (AdA ru) (h u _ (I.tok _) ru)
theorem AbX {m:Str} {g:Addr} {pl:Sem Bool} {Q:Value × List Value->Shared->Prop} (I:Inv X pins σ H s) (e:H a = some (.ins C dx fs)) (c:Cls X.K C) (k:Acl X.K C m g) (l:fs.lookup m = none)
  (h:Q (.ref g,[.ref a]) s):wpAny (model X.prog X.w) A (getMethod (.ref a) m pl) Q E s:=by
 obtain⟨mA,O,r,_,_,_⟩:=Sy I.hok e
 have hn:mA m = none:=RelO.none_of (by rw[<- l]; exact r m)
 exact Afw I.kIn O (c.get m) k.at_ k.fn hn h
theorem Acw {y:V} {u:Value} {Q:Unit->Shared->Prop} (I:Inv X pins σ H s) (e:H a = some (.ins C dx fs)) (c:Cls X.K C) (n:NoAttr X.K C f) (hl:fs.length < 1000) (ry:RelV y u)
  (h:∀ s',Inv X pins σ (upd H a (.ins C dx (Bz f y fs))) s'->Q () s'):wpAny (model X.prog X.w) A (setAttr (.ref a) f u) Q E s:=by
 obtain⟨mA,O,r,wi,_,ho⟩:=Sy I.hok e
 have hz:(fs.map (·.1)).length <= sizeLine:=by rw[length_map,sizeLine_eq]; omega
 refine Aid I.kIn O c.sa c.po n.taker c.hd wi hz fun h' O' sb=>h _ ?_
 have hd:∃ o,h'.get? dx = some o:=let ⟨o,_,_,e',_⟩:=O'.ns; ⟨o,e'⟩
 refine I.write (x:=a) (e:=dx) (by rw[e]; exact True.intro) (.inr ho) (fun b q hb z=>(sb.2 b hb).trans z) hd ?_
 refine⟨by rw[Bh O.ne]; exact ho,?_,O.ne,O'.obj,_,O'.ns,fun g=>?_,fun g hg=>?_⟩
 ·have:=Dy f y fs; omega
 ·show RelO ((Bz f y fs).lookup g) (if g = f then some u else mA g)
  rw[Cz]
  by_cases q:g = f
  ·rw[if_pos q,if_pos q]; exact ry
  ·rw[if_neg q,if_neg q]; exact r g
 ·by_cases q:g = f
  ·rw[q]; exact (Sj f y fs).1
  ·refine (Sj f y fs).2 g (wi g fun z=>hg ?_)
   show (if g = f then some u else mA g) = none
   rw[if_neg q]; exact z
theorem Inv.made (I:Inv X pins σ H s):Inv X pins σ (upd (upd H s.heap.objs.size (.own (s.heap.objs.size + 1))) (s.heap.objs.size + 1) (.ins C s.heap.objs.size []))
  { s with heap:=(s.heap.push emptyDict).push (instObj C s.heap.objs.size) }:=by
 have e1:(s.heap.push emptyDict).get? s.heap.objs.size = some emptyDict:=get?_push_size s.heap rfl
 have e2:((s.heap.push emptyDict).push (instObj C s.heap.objs.size)).get? (s.heap.objs.size + 1) = some (instObj C s.heap.objs.size):=by
  have:=get?_push_size (s.heap.push emptyDict) (o:=instObj C s.heap.objs.size) rfl
  rwa [Heap.size_push] at this
 have e3:(s.heap.push emptyDict).Ns s.heap.objs.size (fun _=>none):=⟨emptyDict,#[],_,e1,rfl,(fun e he=>absurd he (by simp)),fun _=>rfl⟩
 have I1:=I.laid (a:=s.heap.objs.size) (o:=.own (s.heap.objs.size + 1)) (h':=s.heap.push emptyDict) (t':=s.toks) (fun b u q=>get?_push_of_some _ q) (Nat.le_refl _) ⟨_,e1⟩
 refine I1.laid (a:=s.heap.objs.size + 1) (o:=.ins C s.heap.objs.size []) (t':=s.toks) (fun b u q=>get?_push_of_some _ q) (Nat.le_of_eq (Heap.size_push _ _)) ?_
 have ne:s.heap.objs.size ≠ s.heap.objs.size + 1:=ne_of_lt (lt_succ_self _)
 refine⟨by rw[Bh ne,Bl],zero_le _,ne,e2,fun _=>none,(Ns1.of_empty e3).at fun o q=>get?_push_of_some _ q,fun _=>True.intro,fun y hy=>absurd rfl hy⟩
theorem Ajb {prog:Program} {w:World} {env:Env} {e:Expr} {f:Str} {pos:Pos} {s:Shared} {Q:Value->Shared->Prop} (hb:attributeBase e f env (eval e env) = eval e env)
  (h:wpAny (model prog w) A (eval e env) (fun o s₁=>wpAny (model prog w) A (getAttr o f true) Q E s₁) E s):wpAny (model prog w) A (eval (.Attribute e f pos) env) Q E s :=
 Attribute_any_ h (by rw[arm_eval_Attribute,hb])
end
def Akx (K:Frag) (ta:TE) (f:Str):TE:=fun σ H Q=>ta σ H fun x H1=>∃ a C dx fs v,x = .ref a/\H1 a = some (.ins C dx fs)/\Cls K C/\NoAttr K C f/\fs.lookup f = some v/\Q v H1
def Alh (K:Frag) (ta tv:TE) (f:Str):TS:=fun D σ H=>tv σ H fun y H1=>ta σ H1 fun x H2=>∃ a C dx fs,x = .ref a/\H2 a = some (.ins C dx fs)/\Cls K C/\NoAttr K C f/\fs.length < 1000 /\
 D.nx σ (upd H2 a (.ins C dx (Bz f y fs)))
section
variable {X:Cx} {o e value:Expr} {f:Str} {pos pos' tpos:Pos} {ta tv:TE}
theorem Vb (he:PE X e ta) (hb:attributeBase e f X.env (eval e X.env) = eval e X.env):PE X (.Attribute e f pos) (Akx X.K ta f):=by
 intro pins s σ H Q I h
 refine Ajb hb (thn (he pins s σ H _ I h) fun u s1 ⟨x,H1,I1,rx,a,C,dx,fs,v,ex,ea,c,n,l,q⟩=>?_)
 subst ex
 obtain rfl:u = Value.ref a:=rx
 exact Ac5 I1 ea c n l fun u' s2 I2 ru=>⟨v,H1,I2,ru,q⟩
theorem Sd (ha:PE X o ta) (hv:PE X value tv) (hs:swapsWith value (some (.Attribute o f pos')) pos.line X.env = pure false):PS X (.Assign [.Attribute o f pos'] value pos) (Alh X.K ta tv f):=by
 intro pins s σ H D I h
 refine plainObj_wpAny_Assign_Attribute (thn (hv pins s σ H _ I h) fun u s1 ⟨y,H1,I1,ry,q⟩=>thn (ha pins s1 σ H1 _ I1 q) fun ov s2 ⟨x,H2,I2,rx,a,C,dx,fs,ex,ea,c,n,l,q2⟩=>?_) hs
 subst ex
 obtain rfl:ov = Value.ref a:=rx
 exact Acw I2 ea c n l ry fun s3 I3=>⟨σ,_,I3,q2⟩
end
section
variable {X:Cx} {pins:List (Addr × Obj)} {σ:St} {H:Hp} {s:Shared} {A:Around} {E:Value->Shared->Prop} {Q:Value->Shared->Prop} {c:Value} {b:Bool}
inductive Gk (K:Frag) (H:Hp):V->Value->Prop where
 | non:Gk K H .non (.type "NoneType")
 | bl (x:Bool):Gk K H (.bl x) (.type "bool")
 | int (i:Int):Gk K H (.int i) (.type "int")
 | str (x:Str):Gk K H (.str x) (.type "str")
 | flt (x:UInt64):Gk K H (.flt x) (.type "float")
 | lst {a:Addr} {xs:List V} (e:H a = some (.lst xs)):Gk K H (.ref a) (.type "list")
 | frz {a:Addr} {o:Obj} {xs:List V} (e:H a = some (.frz o (.lst xs))):Gk K H (.ref a) (.type "list")
 | tup {a:Addr} {xs:List V} (e:H a = some (.tup xs)):Gk K H (.ref a) (.type "tuple")
 | dK {a:Addr} {kvs:List (Key × V)} (e:H a = some (.dK kvs)):Gk K H (.ref a) (.type "dict")
 | dT {a:Addr} {kvs:List (List Key × V)} (e:H a = some (.dT kvs)):Gk K H (.ref a) (.type "dict")
 | ins {a C dx:Addr} {fs:List (Str × V)} (e:H a = some (.ins C dx fs)) (cl:Cls K C) (ha:findIn K (.ref C) "__class__" = some (some (.builtin "object.__class__")))
   (hn:PySem.W.specialIn K (.builtin "object.__class__") "__get__" = some (some (.builtin "getset_descriptor.__get__"))) (htk:PySem.W.takesIn K (.builtin "object.__class__") = some true)
   (hm:mroIn K C (.type "object") = some true):Gk K H (.ref a) (.ref C)
theorem Aea {x:V} {u t:Value} (I:Inv X pins σ H s) (rx:RelV x u) (ty:Gk X.K H x t) (e:kitOne X.K t c = some b) (h:∀ tk,Q (.bool b) { s with toks:=tk }) :
  wpAny (model X.prog X.w) A (call (.builtin "isinstance") [u,c]) Q E s:=by
 cases ty with
 | non=>cases (show u = Value.none from rx); exact kia_one PySem.W.kitx_none I.kIn True.intro e (fun z=>nomatch z) h
 | bl y=>cases (show u = Value.bool y from rx); exact kia_one PySem.W.kitx_bool I.kIn True.intro e (fun z=>nomatch z) h
 | int i=>obtain⟨t,q⟩:=(show ∃ t,u = Value.int i t from rx); cases q; exact kia_one PySem.W.kitx_int I.kIn True.intro e (fun z=>nomatch z) h
 | str y=>obtain⟨t,q⟩:=(show ∃ t,u = Value.str y t from rx); cases q; exact kia_one PySem.W.kitx_str I.kIn True.intro e (fun z=>nomatch z) h
 | flt y=>obtain⟨t,q⟩:=(show ∃ t,u = Value.float y t from rx); cases q; exact kia_one PySem.W.kitx_float I.kIn True.intro e (fun z=>nomatch z) h
 | @lst a xs ea =>
  cases (show u = Value.ref a from rx)
  obtain⟨_,_,n,_,h1⟩:=(show ObjOk X.prog X.w H s.heap a (.lst xs) from I.hok a _ ea)
  exact kia_one kitx_list I.kIn ⟨_,h1,rfl⟩ e (fun z=>nomatch z) h
 | @frz a ob xs ea =>
  cases (show u = Value.ref a from rx)
  obtain⟨_,_,_,n,_,h1⟩:=(show ObjOk X.prog X.w H s.heap a (.frz ob (.lst xs)) from I.hok a _ ea)
  exact kia_one kitx_list I.kIn ⟨_,h1,rfl⟩ e (fun z=>nomatch z) h
 | @tup a xs ea =>
  cases (show u = Value.ref a from rx)
  obtain⟨_,_,_,p⟩:=(show ObjOk X.prog X.w H s.heap a (.tup xs) from I.hok a _ ea)
  obtain⟨o,h1,h2,_⟩:=p
  exact kia_one PySem.W.kitx_tuple I.kIn ⟨o,h1,h2⟩ e (fun z=>nomatch z) h
 | @dK a kvs ea =>
  cases (show u = Value.ref a from rx)
  obtain⟨_,_,vs,_,p⟩:=(show ObjOk X.prog X.w H s.heap a (.dK kvs) from I.hok a _ ea)
  obtain⟨o,es,ep,h1,h2,_⟩:=p
  exact kia_one kitx_dict I.kIn ⟨o,h1,h2.1⟩ e (fun z=>nomatch z) h
 | @dT a kvs ea =>
  cases (show u = Value.ref a from rx)
  obtain⟨_,_,xs,_,o,es,ep,h1,h2,_⟩:=(show ObjOk X.prog X.w H s.heap a (.dT kvs) from I.hok a _ ea)
  exact kia_one kitx_dict I.kIn ⟨o,h1,h2.1⟩ e (fun z=>nomatch z) h
 | @ins a C dx fs ea cl ha hn htk hm =>
  cases (show u = Value.ref a from rx)
  obtain⟨mA,O,_⟩:=Sy I.hok ea
  obtain⟨od,J,_⟩:=O.look
  exact kia_one (PySem.W.kitx_own (cl.get _) cl.hd ha hn htk hm) I.kIn J e (fun z=>nomatch z) h
end
structure Room (k:Nat) (A:Around):Prop where
 hd:A.handled = none
 dp:A.depth + 3 * k + 5 < recursionLimit
 un:A.units + 16 * k + 200 < cLine
theorem Room.mono {j k:Nat} {A:Around} (r:Room k A) (h:j <= k):Room j A:=⟨r.hd,by have:=r.dp; omega,by have:=r.un; omega⟩
theorem Room.deeper {k:Nat} {A:Around} (r:Room (k + 1) A) (env:Env):Room k (A.deeper env) :=
 ⟨r.hd,by have:=r.dp; show A.depth + 1 + 3 * k + 5 < _; omega,by have:=r.un; show A.units + 3 + 16 * k + 200 < _; omega⟩
theorem Aca {A:Around} {C:Addr} {us:List Value} {kw:List (Str × Value)}:(A.under (.builtin "type.__call__" ⟨.ref C :: us,kw⟩)).depth = A.depth + 1:=by
 first | rfl | simp [Around.under,Code.weight,Code.isCreation,Code.isGuard,Code.isCaller,Code.frames,Code.isFrame,guardIds]
theorem AcR {A:Around} {C:Addr} {us:List Value} {kw:List (Str × Value)}:(A.under (.builtin "type.__call__" ⟨.ref C :: us,kw⟩)).units = A.units + 1:=by
 first | rfl | simp [Around.under,Code.cUnits,Code.frames,Code.isFrame]
theorem Room.make {k:Nat} {A:Around} (r:Room (k + 1) A) (C:Addr) (us:List Value) (kw:List (Str × Value)):Room k (A.under (.builtin "type.__call__" ⟨.ref C :: us,kw⟩)) :=
 ⟨r.hd,by have:=r.dp; rw[Aca]; omega,by have:=r.un; rw[AcR]; omega⟩
theorem Room.depth {k:Nat} {A:Around} (r:Room k A):A.depth < recursionLimit:=by have:=r.dp; omega
theorem Room.units {k:Nat} {A:Around} (r:Room k A):A.units + 64 < cLine:=by have:=r.un; omega
def Ln:TA:=fun _ H Q=>Q [] H
def Fy (ta:TE) (tr:TA):TA:=fun σ H Q=>ta σ H fun x H1=>tr σ H1 fun xs H2=>Q (x :: xs) H2
section
variable {X:Cx} {e:Expr} {es:List Expr} {te:TE} {t:TA} {pos:Pos}
theorem Bd:PA X [] Ln:=fun _ _ _ _ H Q I h=>Calls.spliced_nil ⟨[],H,I,.nil,h⟩
theorem Ba (ha:PE X e te) (hr:PA X es t) (hs:starEach (e :: es) X.env = (false,eval e X.env) :: starEach es X.env:=by rfl):PA X (e :: es) (Fy te t):=by
 intro pos pins s σ H Q I h
 rw[hs]
 show wpAny _ _ (spliced ((false,eval e X.env) :: backTo pos (starEach es X.env))) _ _ s
 refine Calls.spliced_cons (thn (ha pins s σ H _ I h) fun u s1 ⟨x,H1,I1,r1,q1⟩=>?_)
 exact thn (hr pos pins s1 σ H1 _ I1 q1) fun us s2 ⟨xs,H2,I2,r2,q2⟩=>⟨x :: xs,H2,I2,.cons r1 r2,q2⟩
def Al5 (t:TA):TE:=fun σ H Q=>t σ H fun xs H1=>xs.length <= sizeLine/\∀ p,H1 p = none->Q (.ref p) (upd H1 p (.tup xs))
theorem AlY {x1} (h:PA X es t):PE X (.Tuple es x1 pos) (Al5 t):=by
 intro pins s σ H Q I hq
 refine wpAny_Tuple_spliced (thn (h pos pins s σ H _ I hq) fun us s1 ⟨xs,H1,I1,r,z,q⟩=>⟨by rw[<- r.length]; exact z,?_⟩)
 have hf:H1 s1.heap.objs.size = none:=I1.hok.fresh (Nat.le_refl _)
 refine⟨.ref s1.heap.objs.size,upd H1 s1.heap.objs.size (.tup xs),I1.laid (t':=s1.toks) (fun b u e=>get?_push_of_some _ e) (Nat.le_refl _) ?_,rfl,q _ hf⟩
 exact⟨z,us,r,⟨_,get?_push_size _ rfl,rfl,_,rfl⟩⟩
end
abbrev Sp:=List V->Hp->VK->XK->Prop
abbrev CXT:=List Env->Hp->Shared->XK->Value->Shared->Prop
structure Env0 (P:Program) (w:World) (K:Frag) (mg:Str->Option Value) (base:Heap) (A:Around) (outer:List Env) (s:Shared) (H:Hp):Prop where
 frames:A.frames = some outer
 mod:Mod K mg base
 bs:∀ b o,base.get? b = some o->s.heap.get? b = some o/\H b = none
 bsz:base.objs.size <= s.heap.objs.size
 funs:s.heap.FunFrames base outer
 frf:∀ b ∈ frs outer,H b = none
 hok:HOk P w H s.heap
 bare:AllBare s.gens
def CE (outer:List Env) (P:Program) (w:World) (H:Hp) (s:Shared) (Q:VK) (u:Value) (s':Shared):Prop :=
 ∃ v H',s'.os = s.os/\AllBare s'.gens/\Un (frs outer) [] H H' s.heap s'.heap/\HOk P w H' s'.heap/\RelV v u/\Q v H'
def CR (CX:CXT) (outer:List Env) (P:Program) (w:World) (H:Hp) (s:Shared) (Q:VK) (E:XK) (r:Result) (s':Shared):Prop :=
 match r with
 | .ok (.ret u)=>CE outer P w H s Q u s'
 | .ok _=>False
 | .error e=>CX outer H s E e s'
structure FnOk (P:Program) (w:World) (K:Frag) (mg:Str->Option Value) (base:Heap) (CX:CXT) (k:Nat) (f:Addr) (fd:FuncData) (ps:List Str) (sp:Sp):Prop where
 len:∀ vs H Q E,sp vs H Q E->vs.length = ps.length
 run:∀ (A:Around) (outer:List Env) (s:Shared) (H:Hp) (args:Args) (us:List Value) (vs:List V) (Q:VK) (E:XK),Room k A->Env0 P w K mg base A outer s H->BindsTo s fd args (ps.zip us)->Vals vs us->sp vs H Q E ->
  codeAny (model P w) A (.call (.ref f) args) (CR CX outer P w H s Q E) s
theorem FnOk.imp {P:Program} {w:World} {K:Frag} {mg:Str->Option Value} {base:Heap} {CX:CXT} {k:Nat} {f:Addr} {fd:FuncData} {ps:List Str} {sp sp':Sp} (F:FnOk P w K mg base CX k f fd ps sp)
  (h:∀ vs H Q E,sp' vs H Q E->sp vs H Q E):FnOk P w K mg base CX k f fd ps sp' :=
 ⟨fun vs H Q E q=>F.len vs H Q E (h _ _ _ _ q),fun A outer s H args us vs Q E hr he hb hv hs=>F.run A outer s H args us vs Q E hr he hb hv (h _ _ _ _ hs)⟩
theorem Env0.make {P:Program} {w:World} {K:Frag} {mg:Str->Option Value} {base:Heap} {A:Around} {outer:List Env} {s:Shared} {H:Hp} (e:Env0 P w K mg base A outer s H) (C:Addr) (us:List Value) (kw:List (Str × Value)) :
  Env0 P w K mg base (A.under (.builtin "type.__call__" ⟨.ref C :: us,kw⟩)) outer s H:=⟨by first | exact e.frames | (simpa [Around.under,Code.envs,Code.isFrame,pushEnvs] using e.frames),e.mod,e.bs,e.bsz,e.funs,e.frf,e.hok,e.bare⟩
section
variable {X:Cx} {pins:List (Addr × Obj)} {σ:St} {H:Hp} {s s':Shared}
theorem Inv.env0 (I:Inv X pins σ H s):Env0 X.prog X.w X.K X.mg X.base X.A X.stack s H :=
 ⟨I.ok.frames,I.ok.mod,I.bs,Nat.le_trans I.ok.bsz I.sz,I.stack,I.stkFree,I.hok,I.bare⟩
theorem Inv.after {Q:VK} {u:Value} (I:Inv X pins σ H s) (h:CE X.stack X.prog X.w H s Q u s'):EP X pins σ Q u s':=by
 obtain⟨v,H',os,bare,un,hok,r,q⟩:=h
 obtain⟨hh,g,d,t,os'⟩:=s'
 obtain rfl:os' = s.os:=os
 exact⟨v,H',I.call (h':=hh) (g':=g) (d':=d) (t':=t) (ch:=[]) un hok bare (fun b z=>absurd z (by simp)),r,q⟩
end
def Tk (sp:Sp) (dvs:List V) (E:XK) (t:TA):TE:=fun σ H Q=>t σ H fun vs H1=>sp (vs ++ dvs) H1 Q E
def Va (C:Addr) (m:Str) (sp:Sp) (dvs:List V) (E:XK) (ta:TE) (t:TA):TE:=fun σ H Q=>ta σ H fun x H1=>∃ a dx fs,x = .ref a/\H1 a = some (.ins C dx fs)/\fs.lookup m = none /\
 t σ H1 fun vs H2=>sp (x :: (vs ++ dvs)) H2 Q E
def Aho (C:Addr) (sp:Sp) (dvs:List V) (E:XK) (t:TA):TE:=fun σ H Q=>t σ H fun vs H1=>∀ x dx,H1 x = none->H1 dx = none->dx ≠ x ->
 sp (.ref x :: (vs ++ dvs)) (upd (upd H1 dx (.own x)) x (.ins C dx [])) (fun v H2=>v = .non/\Q (.ref x) H2) E
def Binds (K:Frag) (fd:FuncData) (ps:List Str) (ds:List Value):Prop :=
 ∀ (s:Shared) (us:List Value),K.In s.heap->(us ++ ds).length = ps.length->BindsTo s fd ⟨us,[]⟩ (ps.zip (us ++ ds))
theorem Binds.all {K:Frag} {fd:FuncData} {ps:List Str} (h:∀ us:List Value,us.length = ps.length->bindArgs fd ⟨us,[]⟩ = pure (ps.zip us)):Binds K fd ps []:=fun s us _ hl=>by
 rw[append_nil] at hl ⊢
 exact .of_eq (h us hl)
def Qu (CX:CXT) (X:Cx) (E:XK):Prop:=∀ (pins:List (Addr × Obj)) (σ:St) (H:Hp) (s:Shared) (e:Value) (s':Shared),Inv X pins σ H s->CX X.stack H s E e s'->X.xe e s'
section
variable {X:Cx} {CX:CXT} {k:Nat} {f C:Addr} {fd:FuncData} {ps:List Str} {sp:Sp} {dvs:List V} {ds:List Value} {E:XK} {x m:Str} {p pos apos:Pos} {e o:Expr} {es:List Expr} {ta:TE} {t:TA}
theorem AdX {pins:List (Addr × Obj)} {σ:St} {H:Hp} {s:Shared} {Q:VK} {us:List Value} {vs:List V} (F:FnOk X.prog X.w X.K X.mg X.base CX k f fd ps sp) (hr:Room k X.A) (hb:Binds X.K fd ps ds) (hd:Vals dvs ds) (hx:Qu CX X E)
  (I:Inv X pins σ H s) (r:Vals vs us) (h:sp (vs ++ dvs) H Q E):wpAny (model X.prog X.w) X.A (call (.ref f) us) (EP X pins σ Q) X.xe s:=by
 have r2:Vals (vs ++ dvs) (us ++ ds):=r.append hd
 have hl:(us ++ ds).length = ps.length:=by rw[<- r2.length]; exact F.len _ _ _ _ h
 refine wpAny_call (codeAny_mono (F.run X.A X.stack s H ⟨us,[]⟩ (us ++ ds) (vs ++ dvs) Q E hr I.env0 (hb s us I.kIn hl) r2 h) fun r s' hq=>?_)
 cases r with
 | error e=>exact hx pins σ H s e s' I hq
 | ok fl =>
  cases fl with
  | ret u=>exact I.after hq
  | next=>exact False.elim hq
  | brk=>exact False.elim hq
  | cont=>exact False.elim hq
theorem Bo (F:FnOk X.prog X.w X.K X.mg X.base CX k f fd ps sp) (hr:Room k X.A) (hg:Gl X x) (hm:X.mg x = some (.ref f)) (hk:keepIn X.K (.ref f) = true) (hb:Binds X.K fd ps ds) (hd:Vals dvs ds) (hx:Qu CX X E)
  (ha:PA X (e :: es) t) (hdb:(x == ("__debug__" : Str)) = false:=by decide) (he:starEach (e :: es) X.env = (false,eval e X.env) :: starEach es X.env:=by rfl) (hpl:(backTo pos (starEach es X.env)).any (·.1) = false:=by rfl) :
  PE X (.Call (.Name x p) (e :: es) [] pos) (Tk sp dvs E t):=by
 intro pins s σ H Q I h
 refine wpAny_Call_Name_kw (Wa I hg hm ?_ hdb)
 refine callWith_K (h₀:=X.base) I.ok.mod.kin hk (thn (ha pos pins s σ H _ I h) fun us s1 ⟨vs,H1,I1,r,q⟩=>⟨I1.kIn,?_⟩) he hpl
 exact AdX F hr hb hd hx I1 r q
theorem Vv {pl:Sem Bool} (he:PE X o ta) (c:Cls X.K C) (hm:Acl X.K C m f) (F:FnOk X.prog X.w X.K X.mg X.base CX k f fd ps sp) (hr:Room k X.A) (hb:Binds X.K fd ps ds) (hd:Vals dvs ds) (hx:Qu CX X E) (ha:PA X (e :: es) t)
  (hst:starEach (e :: es) X.env = (false,eval e X.env) :: starEach es X.env:=by rfl) (hpl:(backTo pos (starEach es X.env)).any (·.1) = false:=by rfl)
  (ht:eval (.Call (.Attribute o m apos) (e :: es) [] pos) X.env = (do
   let ov <- eval o X.env
   standAt apos.atName
   let (f,first) <- holding [ov] (getMethod ov m pl)
   callWith pos f first (backTo pos (starEach (e :: es) X.env)) (backToKw pos (keywordEach [] X.env))):=by rfl) :
  PE X (.Call (.Attribute o m apos) (e :: es) [] pos) (Va C m sp dvs E ta t):=by
 intro pins s σ H Q I h
 refine PySem.W.methodCall_KW (pl:=pl) (thn (he pins s σ H _ I h) fun u s1 ⟨x,H1,I1,rx,a,dx,fs,ex,ea,l,q⟩=>?_) ht
 subst ex
 obtain rfl:u = Value.ref a:=rx
 refine AbX I1 ea c hm l ?_
 refine callWith_K (first:=[.ref a]) (h₀:=X.base) I.ok.mod.kin hm.kp (thn (ha pos pins s1 σ H1 _ I1 q) fun us s2 ⟨vs,H2,I2,r,q2⟩=>⟨I2.kIn,?_⟩) hst hpl
 exact AdX (us:=.ref a :: us) (vs:=.ref a :: vs) F hr hb hd hx I2 (.cons rfl r) q2
structure Mk (K:Frag) (C f:Addr):Prop where
 makes:makesIn K C = true
 init:findIn K (.ref C) "__init__" = some (some (.ref f))
 fn:isFn K (.ref f) = true
 kp:keepIn K (.ref C) = true
theorem Af5 {pins:List (Addr × Obj)} {σ:St} {H:Hp} {s:Shared} {Q:VK} {us:List Value} {vs:List V} (M:Mk X.K C f) (F:FnOk X.prog X.w X.K X.mg X.base CX k f fd ps sp) (hr:Room (k + 1) X.A) (hb:Binds X.K fd ps ds) (hd:Vals dvs ds)
  (hx:Qu CX X E) (I:Inv X pins σ H s) (r:Vals vs us)
  (h:∀ x dx,H x = none->H dx = none->dx ≠ x->sp (.ref x :: (vs ++ dvs)) (upd (upd H dx (.own x)) x (.ins C dx [])) (fun v H2=>v = .non/\Q (.ref x) H2) E) :
  wpAny (model X.prog X.w) X.A (call (.ref C) us) (EP X pins σ Q) X.xe s:=by
 have hq:=h (s.heap.objs.size + 1) s.heap.objs.size (I.hok.fresh (le_succ _)) (I.hok.fresh (Nat.le_refl _)) (ne_of_lt (lt_succ_self _))
 have I2:=Inv.made (C:=C) I
 have r2:Vals (V.ref (s.heap.objs.size + 1) :: (vs ++ dvs)) (Value.ref (s.heap.objs.size + 1) :: (us ++ ds)):=.cons rfl (r.append hd)
 have hl:(Value.ref (s.heap.objs.size + 1) :: us ++ ds).length = ps.length:=by
  have e:=r2.length
  rw[F.len _ _ _ _ hq] at e
  exact e.symm
 refine wpAny_call (AfZ (f:=f) I.kIn M.makes M.init (beq_iff_eq.mp M.fn) (codeAny_mono (F.run _ X.stack _ _ ⟨Value.ref (s.heap.objs.size + 1) :: us,[]⟩ (Value.ref (s.heap.objs.size + 1) :: (us ++ ds)) _ _ E (hr.make C us [])
  (I2.env0.make C us []) (hb _ (Value.ref (s.heap.objs.size + 1) :: us) I2.kIn hl) r2 hq) fun r s' hq'=>?_))
 cases r with
 | error e=>exact hx pins σ _ _ e s' I2 hq'
 | ok fl =>
  cases fl with
  | ret u =>
   obtain⟨v,H',I3,rv,ev,q3⟩:=I2.after hq'
   subst ev
   exact⟨rv,⟨V.ref (s.heap.objs.size + 1),H',I3,rfl,q3⟩⟩
  | next=>exact False.elim hq'
  | brk=>exact False.elim hq'
  | cont=>exact False.elim hq'
theorem AiA (M:Mk X.K C f) (F:FnOk X.prog X.w X.K X.mg X.base CX k f fd ps sp) (hr:Room (k + 1) X.A) (hg:Gl X x) (hm:X.mg x = some (.ref C)) (hb:Binds X.K fd ps ds) (hd:Vals dvs ds) (hx:Qu CX X E)
  (ha:PA X (e :: es) t) (hdb:(x == ("__debug__" : Str)) = false:=by decide) (he:starEach (e :: es) X.env = (false,eval e X.env) :: starEach es X.env:=by rfl) (hpl:(backTo pos (starEach es X.env)).any (·.1) = false:=by rfl) :
  PE X (.Call (.Name x p) (e :: es) [] pos) (Aho C sp dvs E t):=by
 intro pins s σ H Q I h
 refine wpAny_Call_Name_kw (Wa I hg hm ?_ hdb)
 refine callWith_K (h₀:=X.base) I.ok.mod.kin M.kp (thn (ha pos pins s σ H _ I h) fun us s1 ⟨vs,H1,I1,r,q⟩=>⟨I1.kIn,?_⟩) he hpl
 exact Af5 M F hr hb hd hx I1 r q
end
section
variable {X:Cx} {CX:CXT} {k:Nat} {f C:Addr} {fd:FuncData} {ps ks:List Str} {sp:Sp} {E:XK} {x m:Str} {p pos apos kpos:Pos} {e o:Expr} {es:List Expr} {kws:List Keyword} {te ta:TE} {t tk:TA} {nm:Option Str}
variable {g:List Value->List Value->List Value} {gV:List V->List V->List V}
end
structure Cc (N P:List Str) (sc:Scope):Prop where
 kind:sc.kind = .function
 co:sc.isCoroutine = false
 gen:sc.isGenerator = false
 nd:N.Nodup
 pre:N.take P.length = P
 par:∀ x ∈ P,sc.names.lookup x = some .local\/sc.names.lookup x = some .cell
 nofree:∀ y ∈ sc.names,y.2 ≠ .free
theorem Wl {kindOf:Str->Option NameKind} {x:Str}:∀ {binds:List (Str × Value)} {m:Str->Option Value},(∀ v,(x,v) ∉ binds)->bindL kindOf binds m x = m x
 | [],_,_=>rfl
 | (n,v) :: r,m,h=>by
  unfold bindL
  rw[Wl fun w hw=>h w (mem_cons_of_mem _ hw)]
  split
  ·have:x ≠ n:=by rintro rfl; exact h v mem_cons_self
   simp [this]
  ·rfl
theorem Xb {kindOf:Str->Option NameKind} {x:Str}:∀ {binds:List (Str × Value)} {m:Str->Option Value},(∀ v,(x,v) ∉ binds)->bindC kindOf binds m x = m x
 | [],_,_=>rfl
 | (n,v) :: r,m,h=>by
  unfold bindC
  rw[Xb fun w hw=>h w (mem_cons_of_mem _ hw)]
  split
  ·rfl
  ·have:x ≠ n:=by rintro rfl; exact h v mem_cons_self
   simp [this]
theorem Wx {kindOf:Str->Option NameKind} {x:Str} {v:Value}:∀ {P:List Str} {vs:List Value} {i:Nat} {m:Str->Option Value},P.Nodup->P[i]? = some x->vs[i]? = some v->kindOf x = some .local ->
  bindL kindOf (P.zip vs) m x = some v
 | [],_,_,_,_,h,_,_=>by simp at h
 | _ :: _,[],_,_,_,_,h,_=>by simp at h
 | p :: P,w :: vs,0,m,nd,h1,h2,hk=>by
  simp at h1 h2; subst h1; subst h2
  show bindL kindOf ((p,w) :: P.zip vs) m p = _
  unfold bindL
  rw[Wl fun v hv=>(nodup_cons.mp nd).1 (of_mem_zip hv).1,if_pos hk]
  simp
 | p :: P,w :: vs,i + 1,m,nd,h1,h2,hk=>by
  show bindL kindOf ((p,w) :: P.zip vs) m x = _
  unfold bindL
  exact Wx (i:=i) (nodup_cons.mp nd).2 (by simpa using h1) (by simpa using h2) hk
theorem Wm {kindOf:Str->Option NameKind} {x:Str} {v:Value}:∀ {P:List Str} {vs:List Value} {i:Nat} {m:Str->Option Value},P.Nodup->P[i]? = some x->vs[i]? = some v->kindOf x ≠ some .local ->
  bindC kindOf (P.zip vs) m x = some v
 | [],_,_,_,_,h,_,_=>by simp at h
 | _ :: _,[],_,_,_,_,h,_=>by simp at h
 | p :: P,w :: vs,0,m,nd,h1,h2,hk=>by
  simp at h1 h2; subst h1; subst h2
  show bindC kindOf ((p,w) :: P.zip vs) m p = _
  unfold bindC
  rw[Xb fun v hv=>(nodup_cons.mp nd).1 (of_mem_zip hv).1,if_neg hk]
  simp
 | p :: P,w :: vs,i + 1,m,nd,h1,h2,hk=>by
  show bindC kindOf ((p,w) :: P.zip vs) m x = _
  unfold bindC
  exact Wm (i:=i) (nodup_cons.mp nd).2 (by simpa using h1) (by simpa using h2) hk
def Nj (N:List Str) (vs:List V):St:=vs.map some ++ replicate (N.length - vs.length) none
def Sn (CX:CXT) (P:Program) (w:World) (K:Frag) (mg:Str->Option Value) (base:Heap) (N:List Str) (qual:Str) (scope:Scope) (f:Addr) (cd:Value) (A:Around) (outer:List Env) (s:Shared) (H:Hp) (E:XK):Cx where
 prog:=P
 w:=w
 K:=K
 mg:=mg
 base:=base
 A:=A.deeper (envOfC qual scope s.heap.objs.size f cd)
 N:=N
 s₀:=s
 H₀:=H
 env:=envOfC qual scope s.heap.objs.size f cd
 outer:=outer
 stack:=envOfC qual scope s.heap.objs.size f cd :: outer
 ex:=[]
 calm:=true
 fn:=fun _=>true
 pn:=[]
 xe:=fun e s'=>wpAny (model P w) (A.deeper (envOfC qual scope s.heap.objs.size f cd)) (leaving (envOfC qual scope s.heap.objs.size f cd) e) (fun _ s''=>CX outer H s E e s'') (fun e' s''=>CX outer H s E e' s'') s'
theorem AaA {sc:Scope} {n:Nat} {x:Str} (h:sc.names.lookup x = some .cell):∃ c,(cellsFrom n sc.names []).lookup x = some c:=by
 have q:=cellsFrom_some sc.names n [] (.inl h)
 exact Option.isSome_iff_exists.mp q
theorem AeR {CX:CXT} {P:Program} {w:World} {K:Frag} {mg:Str->Option Value} {base:Heap} {N ps:List Str} {qual:Str} {scope:Scope} {f:Addr} {cd:Value} {A:Around} {outer:List Env} {s s1:Shared} {H:Hp} {E:XK} {us:List Value} {vs:List V}
  (S:Cc N ps scope) (hd:A.handled = none) (e0:Env0 P w K mg base A outer s H) (hl:vs.length = ps.length) (r:Vals vs us)
  (x:InCallC s s.heap.objs.size (bindL (envOfC qual scope s.heap.objs.size f cd).kindOf (ps.zip us) fun _=>none) (cellsFrom (s.heap.objs.size + 1) scope.names []) (bindC (envOfC qual scope s.heap.objs.size f cd).kindOf (ps.zip us) fun _=>none) s1) :
  Inv (Sn CX P w K mg base N qual scope f cd A outer s H E) [] (Nj N vs) H s1:=by
 have hpl:ps.length <= N.length:=by have:=congrArg length S.pre; rw[length_take] at this; omega
 obtain⟨h1,tk,rfl,hk⟩:=x.done
 have noA:∀ b:Addr,b ∉ (Sn CX P w K mg base N qual scope f cd A outer s H E).ex:=fun b z=>absurd (show b ∈ ([]:List Addr) from z) (by simp)
 refine⟨⟨e0.mod,S.kind,rfl,rfl,Nat.le_refl _,fun y z c h1 h2=>?_,fun y hy=>?_,fun y c _ h=>?_,fun _=>hd,Around.frames_deeper e0.frames,.inr ⟨rfl,rfl⟩,fun b z=>absurd z (noA b),e0.bs,e0.bsz,fun b _ _=>noA b,fun b z=>absurd z (noA b),e0.funs,e0.frf⟩,
  rfl,e0.bare,Un.kept hk,⟨_,x.toInCall.ns,fun i y v h1 h2 h3=>?_⟩,fun y c h=>⟨_,x.cell y c h⟩,e0.hok.fresh (Nat.le_refl _),fun y c h=>?_,fun p hp=>absurd (show p ∈ ([]:List (Addr × Obj)) from hp) (by simp),e0.hok.kept hk,?_⟩
 ·exact name_of_addr x.apart (PySem.mem_of_lookup h1) (PySem.mem_of_lookup h2)
 ·have hy:scope.names.lookup y = some .cell\/scope.names.lookup y = some .free:=hy
  rcases hy with hy | hy
  ·exact AaA hy
  ·exact absurd rfl (S.nofree _ (PySem.mem_of_lookup hy))
 ·exact Nat.le_of_lt (x.above y c (PySem.mem_of_lookup h))
 ·have hi:i < vs.length:=by
   unfold Nj at h2
   by_cases hi:i < vs.length
   ·exact hi
   ·rw[getElem?_append_right (by simpa using hi)] at h2
    rw[getElem?_replicate] at h2
    split at h2 <;> cases h2
  have ha:vs[i]? = some v:=by
   unfold Nj at h2
   rw[getElem?_append_left (by simpa using hi),getElem?_map] at h2
   cases e:vs[i]? with
   | none=>rw[e] at h2; cases h2
   | some a=>rw[e] at h2; cases h2; rfl
  obtain⟨u,hu,rv⟩:=r.get ha
  have hp:ps[i]? = some y:=by
   rw[<- S.pre,List.getElem?_take_of_lt (by omega)]; exact h1
  have ndP:ps.Nodup:=by rw[<- S.pre]; exact S.nd.sublist (List.take_sublist _ _)
  refine⟨u,rv,?_⟩
  rcases S.par y (mem_of_getElem? hp) with k | k
  ·exact .inl ⟨k,Wx ndP hp hu k⟩
  ·obtain⟨c,e⟩:=AaA (n:=s.heap.objs.size + 1) k
   refine .inr ⟨.inl k,c,e,?_⟩
   have q:=x.cell y c e
   rw[Wm ndP hp hu (by show scope.names.lookup y ≠ _; rw[k]; decide)] at q
   exact q
 ·exact e0.hok.fresh (Nat.le_of_lt (x.above y c (PySem.mem_of_lookup h)))
 ·unfold Nj
  show _ = N.length
  rw[length_append,length_map,length_replicate]
  omega
theorem AhI {CX:CXT} {P:Program} {w:World} {K:Frag} {mg:Str->Option Value} {base:Heap} {k:Nat} {f:Addr} {name qual:Str} {params:Arguments} {body:List Stmt} {scope:Scope} {dV kV doc pm cdv ct oc:Value} {an od:Option Addr}
  {osl:Array (Option Value)} {N ps:List Str} {sp:Sp} (lk:K.lookup f = some ⟨oc,od,.func (fnOf name qual params body scope dV kV doc pm an cdv ct),osl⟩) (hcd:codeIn K cdv qual = true) (S:Cc N ps scope)
  (len:∀ vs H Q E,sp vs H Q E->vs.length = ps.length)
  (hbody:∀ (A:Around) (outer:List Env) (s:Shared) (H:Hp) (vs:List V) (Q:VK) (E:XK),Room k (A.deeper (envOfC qual scope s.heap.objs.size f cdv))->sp vs H Q E ->
   ∃ t,PSs (Sn CX P w K mg base N qual scope f cdv A outer s H E) body t/\t { nx:=fun _ H'=>Q .non H',rt:=Q } (Nj N vs) H) :
  FnOk P w K mg base CX (k + 1) f (fnOf name qual params body scope dV kV doc pm an cdv ct) ps sp:=by
 refine⟨len,fun A outer s H args us vs Q E hr e0 hb r hsp=>?_⟩
 have hl:=len _ _ _ _ hsp
 have KX:K.In s.heap:=e0.mod.kin.keeps fun b o e=>(e0.bs b o e).1
 have lim:s.heap.NoLimit:=e0.mod.nolimit.keeps fun b o e=>(e0.bs b o e).1
 have hkind:∀ y ∈ ps.zip us,scope.names.lookup y.1 = some .local\/(scope.names.lookup y.1 = some .cell/\((cellsFrom (s.heap.objs.size + 1) scope.names []).lookup y.1).isSome = true):=fun⟨n,v⟩ hy=>by
  rcases S.par n (of_mem_zip hy).1 with q | q
  ·exact .inl q
  ·exact .inr ⟨q,cellsFrom_some _ _ _ (.inl q)⟩
 refine codeAny_call_function hr.depth (KX _ _ lk) rfl S.co S.gen rfl (PySem.W.codeRec_of KX hcd) (hb _ _ _ _ ?_)
 refine wpAny_newFunctionEnv_cells S.kind hkind fun env he s1 x=>?_
 subst he
 refine⟨lim.keeps x.toInCall.keep,codeAny_func ?_⟩
 obtain⟨t,ht,hq⟩:=hbody A outer s H vs Q E (hr.deeper _) hsp
 have I:Inv (Sn CX P w K mg base N qual scope f cdv A outer s H E) [] (Nj N vs) H s1:=AeR S hr.hd e0 hl r x
 refine wpAny_mono (ht [] s1 (Nj N vs) H _ I hq) (fun fl s' hs=>?_) fun e s' hs=>hs
 have fin:∀ {σ':St} {H':Hp} {v:V} {u:Value},Inv (Sn CX P w K mg base N qual scope f cdv A outer s H E) [] σ' H' s'->RelV v u->Q v H'->CE outer P w H s Q u s' :=
  fun {σ' H' v u} J rv q=>⟨v,H',J.os,J.bare,J.base,J.hok,rv,q⟩
 cases fl with
 | ret u =>
  obtain⟨v,σ',H',J,rv,q⟩:=hs
  exact fin J rv q
 | next =>
  obtain⟨σ',H',J,q⟩:=hs
  exact fin (v:=V.non) (u:=Value.none) J rfl q
 | brk =>
  obtain⟨_,_,_,q⟩:=hs
  exact False.elim q
 | cont =>
  obtain⟨_,_,_,q⟩:=hs
  exact False.elim q
section
variable {X:Cx} {x:Str} {p pos:Pos} {e:Expr} {es:List Expr} {t:TA} {id T:String} {r:List V->Hp->VK->Prop}
def tCB (r:List V->Hp->VK->Prop) (t:TA):TE:=fun σ H Q=>t σ H fun vs H1=>r vs H1 Q
theorem Ct (hc:Lw X (.builtin id) r) (hg:Gl X x) (hm:X.mg x = none) (hv:bootBuiltins x = some (.builtin id)) (ha:PA X (e :: es) t) (hn:x ≠ "__name__":=by decide) (hdb:(x == ("__debug__" : Str)) = false:=by decide)
  (he:starEach (e :: es) X.env = (false,eval e X.env) :: starEach es X.env:=by rfl) (hpl:(backTo pos (starEach es X.env)).any (·.1) = false:=by rfl):PE X (.Call (.Name x p) (e :: es) [] pos) (tCB r t):=by
 intro pins s σ H Q I h
 refine wpAny_Call_Name_kw (Jz I hg hm hv ?_ hn hdb)
 exact PyProof.Rows.callWith_builtin1 (thn (ha pos pins s σ H _ I h) fun us s1 ⟨vs,H1,I1,r1,q1⟩=>hc pins s1 σ H1 vs us Q I1 r1 q1) he hpl
theorem Ow (hc:Lw X (.type T) r) (hg:Gl X x) (hm:X.mg x = none) (hv:bootBuiltins x = some (.type T)) (ha:PA X (e :: es) t) (hn:x ≠ "__name__":=by decide) (hdb:(x == ("__debug__" : Str)) = false:=by decide)
  (he:starEach (e :: es) X.env = (false,eval e X.env) :: starEach es X.env:=by rfl) (hpl:(backTo pos (starEach es X.env)).any (·.1) = false:=by rfl):PE X (.Call (.Name x p) (e :: es) [] pos) (tCB r t):=by
 intro pins s σ H Q I h
 refine wpAny_Call_Name_kw (Jz I hg hm hv ?_ hn hdb)
 exact PyProof.Rows.callWith_type1 (thn (ha pos pins s σ H _ I h) fun us s1 ⟨vs,H1,I1,r1,q1⟩=>hc pins s1 σ H1 vs us Q I1 r1 q1) he hpl
end
end L2
namespace HT
open PySem PyProof.Rows
section
open PySem.SeqAt
open PySem.AutoSeq1 (wpAny_loadPart')
open PySem.MeetsSeq PySem.MeetsSeq2 PySem.MeetsSeq3
end
section
variable {prog:Program} {w:World} {A:Around} {E:Value->Shared->Prop} {s:Shared}
def sIx (n d:Nat):Option Int->Nat
 | none=>d
 | some v=>if v < 0 then (v + (n:Int)).toNat else min v.toNat n
theorem sIx_none (n d:Nat):sIx n d none = d:=rfl
theorem sIx_nat (n d k:Nat):sIx n d (some (k:Int)) = min k n:=by
 show (if (k:Int) < 0 then ((k:Int) + (n:Int)).toNat else min (k:Int).toNat n) = min k n
 rw[if_neg (by omega),toNat_natCast]
end
end HT
namespace L2
open PySem PySem.Spec PyProof.Rows
abbrev TO:=St->Hp->(Option Int->Hp->Prop)->Prop
def PO (X:Cx) (e:Option Expr) (t:TO):Prop :=
 ∀ (pins:List (Addr × Obj)) (s:Shared) (σ:St) (H:Hp) (Q:Option Int->Hp->Prop),Inv X pins σ H s->t σ H Q ->
  wpAny (model X.prog X.w) X.A (evalPart e X.env) (fun u s'=>∃ o H',Inv X pins σ H' s'/\IsPart u o/\Q o H') X.xe s
def Abs:TO:=fun _ H Q=>Q none H
def Ag5 (t:TE):TO:=fun σ H Q=>t σ H fun x H1=>∃ i,x = .int i/\Q (some i) H1
section
variable {X:Cx} {e:Expr} {te:TE} {lo hi:Option Expr} {tl th:TO} {pos p2:Pos}
theorem Tm:PO X none Abs:=by
 intro pins s σ H Q I h
 rw[evalPart_none]
 exact wpAny_pure ⟨none,H,I,.none,h⟩
theorem Gg (h:PE X e te):PO X (some e) (Ag5 te):=by
 intro pins s σ H Q I hw
 rw[evalPart_some]
 refine thn (h pins s σ H _ I hw) fun u s1 ⟨x,H1,I1,r1,q1⟩=>?_
 obtain⟨i,rfl,q⟩:=q1
 obtain⟨t,rfl⟩:=r1
 exact⟨some i,H1,I1,.int i t,q⟩
def SlR (X:Cx) (r:V->Option Int->Option Int->Hp->VK->Prop):Prop :=
 ∀ (pins:List (Addr × Obj)) (s:Shared) (σ:St) (H:Hp) (x:V) (v vl vu:Value) (lo hi:Option Int) (sl:Addr) (Q:VK),Inv X pins σ H s->RelV x v->s.heap.IsSliceOf sl vl vu .none->IsPart vl lo->IsPart vu hi->r x lo hi H Q ->
  ∃ T id,typeLookup (.type T) "__getitem__" = pure (some (.builtin id))/\s.TypeIs v T/\wpAny (model X.prog X.w) X.A (getItem v (.ref sl)) (EP X pins σ Q) X.xe s
def tSl (r:V->Option Int->Option Int->Hp->VK->Prop) (te:TE) (tl th:TO):TE:=fun σ H Q=>te σ H fun x H1=>tl σ H1 fun l H2=>th σ H2 fun u H3=>r x l u H3 Q
theorem Jg {r:V->Option Int->Option Int->Hp->VK->Prop} (hr:SlR X r) (he:PE X e te) (hl:PO X lo tl) (hu:PO X hi th):PE X (.Subscript e (.Slice lo hi none p2) pos) (tSl r te tl th):=by
 intro pins s σ H Q I h
 refine Subscript_ (thn (he pins s σ H _ I h) fun v s1 ⟨x,H1,I1,r1,q1⟩=>?_)
 refine wpAny_Slice (thn (hl pins s1 σ H1 _ I1 q1) fun vl s2 ⟨l,H2,I2,pl,q2⟩=>thn (hu pins s2 σ H2 _ I2 q2) fun vu s3 ⟨u,H3,I3,pu,q3⟩=>?_)
 rw[evalPart_none]
 refine wpAny_pure ?_
 have I4:Inv X pins σ H3 { s3 with heap:=s3.heap.push { cls:=.type "slice",data:=.fields #[vl,vu,.none] } }:=I3.kept (t':=s3.toks) fun b ob q=>get?_push_of_some _ q
 obtain⟨T,id,hT,ht,hg⟩:=hr pins { s3 with heap:=s3.heap.push { cls:=.type "slice",data:=.fields #[vl,vu,.none] } } σ H3 x v vl vu l u s3.heap.objs.size Q I4 r1 (Heap.IsSliceOf.new ..) pl pu q3
 show wpAny (model X.prog X.w) X.A (subscriptTail e (.Slice lo hi none p2) v (.ref s3.heap.objs.size)) (EP X pins σ Q) X.xe { s3 with heap:=s3.heap.push { cls:=.type "slice",data:=.fields #[vl,vu,.none] } }
 exact tail_any (ops:=[.ref s3.heap.objs.size,v]) ht hT hg (by with_unfolding_all rfl)
def Ui (xs:List V) (lo hi:Option Int):List V:=(xs.drop (HT.sIx xs.length 0 lo)).take (HT.sIx xs.length xs.length hi - HT.sIx xs.length 0 lo)
theorem AaO (xs:List V) (lo hi:Option Int):(Ui xs lo hi).length <= xs.length:=by
 unfold Ui
 rw[length_take,length_drop]
 omega
end
def ixN (n:Nat) (i:Int):Option Nat:=if 0 <= i then (if i < n then some i.toNat else none) else if -(n:Int) <= i then some (i + n).toNat else none
def atI {α:Type} (xs:List α) (i:Int):Option α:=(ixN xs.length i).bind fun j=>xs[j]?
theorem AbQ {n:Nat} {i:Int} {j:Nat} (h:ixN n i = some j):seqIndex? i n = some j/\j < n/\-(n:Int) <= i/\i < n:=by
 unfold ixN at h
 by_cases h0:0 <= i
 ·rw[if_pos h0] at h
  by_cases h1:i < n
  ·rw[if_pos h1] at h
   have e:i.toNat = j:=Option.some.inj h
   exact⟨by rw[seqIndex_of h0 h1,e],by omega,by omega,h1⟩
  ·rw[if_neg h1] at h; cases h
 ·rw[if_neg h0] at h
  by_cases h1:-(n:Int) <= i
  ·rw[if_pos h1] at h
   have e:(i + n).toNat = j:=Option.some.inj h
   exact⟨by rw[seqIndex_neg (by omega) h1,e],by omega,h1,by omega⟩
  ·rw[if_neg h1] at h; cases h
theorem AbD {α:Type} {xs:List α} {i:Int} {v:α} (h:atI xs i = some v):∃ j,seqIndex? i xs.length = some j/\xs[j]? = some v/\j < xs.length/\-(xs.length:Int) <= i/\i < xs.length:=by
 unfold atI at h
 cases e:ixN xs.length i with
 | none=>rw[e] at h; cases h
 | some j =>
  rw[e] at h
  obtain⟨h1,h2,h3,h4⟩:=AbQ e
  exact⟨j,h1,h,h2,h3,h4⟩
theorem Gd {α:Type} {xs:List α} {j:Nat} {v:α} (h:xs[j]? = some v):atI xs (j:Int) = some v:=by
 have hj:j < xs.length:=(List.getElem?_eq_some_iff.mp h).1
 have e:ixN xs.length (j:Int) = some j:=by
  unfold ixN
  rw[if_pos (by omega),if_pos (by omega)]; simp
 unfold atI; rw[e]; exact h
def Aik (b:Expr):Prop:=∀ o i,subscripted b false o i = operate [o,i] (getItem o i)
def IxR (X:Cx) (r:R2):Prop :=
 ∀ (value slice:Expr) (pins:List (Addr × Obj)) (s:Shared) (σ:St) (H:Hp) (x y:V) (v u:Value) (Q:VK),Inv X pins σ H s->RelV x v->RelV y u->r x y H Q ->
  subscripted slice false v u = operate [v,u] (getItem v u)->wpAny (model X.prog X.w) X.A (subscriptTail value slice v u) (EP X pins σ Q) X.xe s
def MtR (X:Cx) (id:String) (r:V->List V->Hp->VK->Prop):Prop :=
 ∀ (pins:List (Addr × Obj)) (s:Shared) (σ:St) (H:Hp) (x:V) (xs:List V) (v:Value) (us:List Value) (Q:VK),Inv X pins σ H s->RelV x v->Vals xs us->r x xs H Q ->
  wpAny (model X.prog X.w) X.A (call (.builtin id) (v :: us)) (EP X pins σ Q) X.xe s
section
variable {X:Cx} {a b:Expr} {ta tb:TE} {pos:Pos}
theorem Ci {r:R2} (hr:IxR X r) (ha:PE X a ta) (hb:PE X b tb) (hs:Aik b):PE X (.Subscript a b pos) (tOp r ta tb):=by
 intro pins s σ H Q I h
 exact Subscript_ (Afr ha hb I h fun v u s2 x y H2 I2 rx ry q=>hr a b pins s2 σ H2 x y v u Q I2 rx ry q (hs _ _))
def Aar (K:Frag):R2:=fun x y H Q=>∃ p xs i v,x = .ref p/\y = .int i/\SqL K H p xs/\atI xs i = some v/\Q v H
def Vx (K:Frag):R2:=fun x y H Q=>∃ p xs i v,x = .ref p/\y = .int i/\SqT K H p xs/\atI xs i = some v/\Q v H
theorem AbK:IxR X (Aar X.K):=by
 intro value slice pins s σ H x y v u Q I rx ry h hs
 obtain⟨p,xs,i,z,rfl,rfl,hq,he,q⟩:=h
 cases rx
 obtain⟨t,rfl⟩:=ry
 obtain⟨its,r,pl,hz⟩:=I.list hq
 obtain⟨j,h1,h2,h3,h4,h5⟩:=AbD he
 obtain⟨w,ew,rw'⟩:=r.get h2
 have hl:=r.length
 have hn:=Uw
 have fin:EP X pins σ Q w s:=⟨z,H,I,rw',q⟩
 by_cases h0:0 <= i
 ·have hj:i.toNat = j:=by
   rw[seqIndex_of h0 h5] at h1
   exact Option.some.inj h1
  exact item_listR pl.isList h0 (by omega) (by rw[hj]; simpa using ew) fin hs
 ·have hj:(i + (its.toArray.size:Int)).toNat = j:=by
   rw[seqIndex_neg (by omega) h4] at h1
   rw[size_toArray,<- hl]
   exact Option.some.inj h1
  exact subscriptTail_builtinR (x:=w) pl.isList.typeIs slot_list_getitem.lookup
   (wpAny_getItem_list_neg (Q:=fun r s'=>r = w/\EP X pins σ Q r s') pl.isList (by omega) (by rw[size_toArray] <;> omega) (by omega) (by rw[hj]; simpa using ew) ⟨rfl,fin⟩) hs
theorem AeQ:IxR X (Vx X.K):=by
 intro value slice pins s σ H x y v u Q I rx ry h hs
 obtain⟨p,xs,i,z,rfl,rfl,hq,he,q⟩:=h
 cases rx
 obtain⟨t,rfl⟩:=ry
 obtain⟨its,r,pl,hz⟩:=I.tuple hq
 obtain⟨j,h1,h2,h3,h4,h5⟩:=AbD he
 obtain⟨w,ew,rw'⟩:=r.get h2
 have hl:=r.length
 have hn:=Uw
 have fin:EP X pins σ Q w s:=⟨z,H,I,rw',q⟩
 exact subscriptTail_builtinR (x:=w) pl.typeIs slot_tuple_getitem.lookup
  (getItem_tuple (j:=j) (Q:=fun r s'=>r = w/\EP X pins σ Q r s') pl (by omega) (by omega) (by rw[size_toArray,<- hl]; exact h1) (by simpa using ew) ⟨rfl,fin⟩) hs
theorem Act (its:List Value) (n j:Nat) (u:Value):Obj.mapSeq (·.setIfInBounds j u) { cls:=.type "list",data:=.seq its.toArray n } = { cls:=.type "list",data:=.seq (its.set j u).toArray n }:=by
 simp [Obj.mapSeq]
theorem Inv.lst {pins:List (Addr × Obj)} {σ:St} {H:Hp} {s:Shared} {p:Addr} {xs:List V} (I:Inv X pins σ H s) (h:H p = some (.lst xs)) :
  ∃ (its:List Value) (n:Nat),Vals xs its/\s.heap.get? p = some { cls:=.type "list",data:=.seq its.toArray n }/\xs.length <= sizeLine:=by
 obtain⟨z,its,n,r,e⟩:=I.hok p _ h
 exact⟨its,n,r,e,z⟩
theorem Inv.lstUpd {pins:List (Addr × Obj)} {σ:St} {H:Hp} {s:Shared} {p:Addr} {xs ys:List V} {its its':List Value} {n n':Nat} {f:Obj->Obj} (I:Inv X pins σ H s) (h:H p = some (.lst xs))
  (ho:s.heap.get? p = some { cls:=.type "list",data:=.seq its.toArray n }) (hf:f { cls:=.type "list",data:=.seq its.toArray n } = { cls:=.type "list",data:=.seq its'.toArray n' }) (r:Vals ys its') (hz:ys.length <= sizeLine) (t:Nat) :
  Inv X pins σ (upd H p (.lst ys)) { s with heap:=s.heap.update p f,toks:=t }:=by
 have e:(s.heap.update p f).get? p = some { cls:=.type "list",data:=.seq its'.toArray n' }:=by
  rw[Heap.get?_update_self f ho (by rw[hf] <;> rfl),hf]
 refine I.write (x:=p) (e:=p) (by rw[h]; trivial) (.inl rfl) (fun b u hb q=>(Heap.get?_update_other _ _ (Ne.symm hb)).trans q) ⟨_,e⟩ ?_
 exact⟨hz,its',n',r,e⟩
def AmE:V->V->V->Hp->(Hp->Prop)->Prop:=fun o i v H Q=>∃ p xs k j,o = .ref p/\i = .int k/\H p = some (.lst xs)/\ixN xs.length k = some j/\Q (upd H p (.lst (xs.set j v)))
theorem Af7:AfH X AmE:=by
 intro pins s σ H o i v ov iv u Q I ro ri rv h
 obtain⟨p,xs,k,j,rfl,rfl,hp,hj,q⟩:=h
 cases ro
 obtain⟨t,rfl⟩:=ri
 obtain⟨its,n,r,ho,hz⟩:=I.lst hp
 obtain⟨h1,h2,h3,h4⟩:=AbQ hj
 have hl:=r.length
 have hn:=Uw
 have I':Inv X pins σ (upd H p (.lst (xs.set j v))) { s with heap:=s.heap.update p (Obj.mapSeq (·.setIfInBounds j u)) } :=
  I.lstUpd hp ho (Act its n j u) (r.set rv j) (by rw[length_set]; exact hz) s.toks
 by_cases h0:0 <= k
 ·have hk:k.toNat = j:=by
   rw[seqIndex_of h0 h4] at h1
   exact Option.some.inj h1
  exact PySem.W.ki_setAt ho h0 (by omega) (by rw[size_toArray,<- hl]; exact h4) (by rw[hk]; exact⟨_,I',q⟩)
 ·have hk:(k + (its.toArray.size:Int)).toNat = j:=by
   rw[seqIndex_neg (by omega) h3] at h1
   rw[size_toArray,<- hl]
   exact Option.some.inj h1
  exact PySem.W.ki_setBack ho (by omega) (by rw[size_toArray,<- hl]; exact h3) (by omega) (by rw[hk]; exact⟨_,I',q⟩)
theorem Aag (lo hi:Option Int) (n:Nat):(sliceBounds lo hi none n).1 = ((HT.sIx n 0 lo:Nat):Int)/\(sliceBounds lo hi none n).2.1 = ((HT.sIx n n hi:Nat):Int)/\(sliceBounds lo hi none n).2.2 = 1:=by
 refine⟨?_,?_,rfl⟩
 ·cases lo with
  | none=>simp [sliceBounds,HT.sIx]
  | some i =>
   simp only [sliceBounds,HT.sIx,getD_none,show (1:Int) > 0 by decide,if_true]
   by_cases h:i < 0
   ·simp only [h,if_true] <;> omega
   ·simp only [h,if_false] <;> omega
 ·cases hi with
  | none=>simp [sliceBounds,HT.sIx]
  | some i =>
   simp only [sliceBounds,HT.sIx,getD_none,show (1:Int) > 0 by decide,if_true]
   by_cases h:i < 0
   ·simp only [h,if_true] <;> omega
   ·simp only [h,if_false] <;> omega
theorem Xf (its:List Value) (lo hi:Option Int):slicePick its.toArray lo hi none = ((its.drop (HT.sIx its.length 0 lo)).take (HT.sIx its.length its.length hi - HT.sIx its.length 0 lo)).toArray:=by
 obtain⟨h1,h2,h3⟩:=Aag lo hi its.toArray.size
 unfold slicePick
 rw[h1,h2,h3]
 simp only [sliceRange_one,pick_run,size_toArray] <;> rfl
def An9 (K:Frag):V->Option Int->Option Int->Hp->VK->Prop:=fun x lo hi H Q=>∃ a xs,x = .ref a/\SqL K H a xs/\∀ p,H p = none->Q (.ref p) (upd H p (.lst (Ui xs lo hi)))
theorem Aiw:SlR X (An9 X.K):=by
 intro pins s σ H x v vl vu lo hi sl Q I rx hs pl pu h
 obtain⟨a,xs,rfl,hx,q⟩:=h
 cases rx
 obtain⟨its,r,ht,hz⟩:=I.list hx
 have hlen:=r.length
 refine⟨"list",_,slot_list_getitem.lookup,ht.isList.typeIs,?_⟩
 refine wpAny_getItem_list_slice ht.isList hs pl pu .none (by simp) ?_ (by rw[size_toArray] <;> omega)
 rw[Xf,<- hlen]
 refine⟨.ref s.heap.objs.size,_,I.laid (t':=s.toks) (o:=.lst (Ui xs lo hi)) (fun b ob q=>get?_push_of_some _ q) (Nat.le_refl _) ?_,rfl,q _ (I.hok.fresh (Nat.le_refl _))⟩
 exact⟨Nat.le_trans (AaO xs lo hi) hz,_,0,(r.drop (HT.sIx xs.length 0 lo)).take (HT.sIx xs.length xs.length hi - HT.sIx xs.length 0 lo),get?_push_size _ rfl⟩
def Lb:V->Bool
 | .non=>true
 | .bl _=>true
 | .int _=>true
 | .str _=>true
 | _=>false
def eqV:V->V->Bool
 | .non,.non=>true
 | .bl a,.bl b=>a == b
 | .bl a,.int b=>(if a then 1 else 0) == b
 | .int a,.bl b=>a == (if b then 1 else 0)
 | .int a,.int b=>a == b
 | .str a,.str b=>a == b
 | _,_=>false
theorem AdS {A:Around} {s:Shared} {y x:V} {u v:Value} (ry:RelV y u) (rx:RelV x v) (fy:Lb y = true) (fx:Lb x = true):SeqAt.EqAt A s u v (eqV y x):=by
 cases y with
 | non =>
  cases ry
  cases x with
  | non=>cases rx; exact SeqAt.EqAt.same _
  | bl b=>cases rx; exact SeqAt.EqAt.none_bool b
  | int b=>obtain⟨t,rfl⟩:=rx; exact SeqAt.EqAt.none_int b t
  | str b=>obtain⟨t,rfl⟩:=rx; exact SeqAt.EqAt.none_str b t
  | _=>exact absurd (show false = true from fx) Bool.false_ne_true
 | bl a =>
  cases ry
  cases x with
  | non=>cases rx; exact SeqAt.EqAt.bool_none a
  | bl b=>cases rx; exact SeqAt.EqAt.bool_bool a b
  | int b=>obtain⟨t,rfl⟩:=rx; exact SeqAt.EqAt.bool_int a b t
  | str b=>obtain⟨t,rfl⟩:=rx; exact SeqAt.EqAt.bool_str a b t
  | _=>exact absurd (show false = true from fx) Bool.false_ne_true
 | int a =>
  obtain⟨t',rfl⟩:=ry
  cases x with
  | non=>cases rx; exact SeqAt.EqAt.int_none a t'
  | bl b=>cases rx; exact SeqAt.EqAt.int_bool a t' b
  | int b=>obtain⟨t,rfl⟩:=rx; exact SeqAt.EqAt.int_int a t' b t
  | str b=>obtain⟨t,rfl⟩:=rx; exact SeqAt.EqAt.int_str a t' b t
  | _=>exact absurd (show false = true from fx) Bool.false_ne_true
 | str a =>
  obtain⟨t',rfl⟩:=ry
  cases x with
  | non=>cases rx; exact SeqAt.EqAt.str_none a t'
  | bl b=>cases rx; exact SeqAt.EqAt.str_bool a t' b
  | int b=>obtain⟨t,rfl⟩:=rx; exact SeqAt.EqAt.str_int a t' b t
  | str b=>obtain⟨t,rfl⟩:=rx; exact SeqAt.EqAt.str_str a t' b t
  | _=>exact absurd (show false = true from fx) Bool.false_ne_true
 | _=>exact absurd (show false = true from fy) Bool.false_ne_true
def eqU (x:V) (u:Value):Bool:=match u with
 | .none=>eqV .non x
 | .bool b=>eqV (.bl b) x
 | .int i _=>eqV (.int i) x
 | .str z _=>eqV (.str z) x
 | _=>false
theorem Ae9 {x y:V} {u:Value} (r:RelV y u) (f:Lb y = true):eqU x u = eqV y x:=by
 cases y with
 | non=>cases r; rfl
 | bl b=>cases r; rfl
 | int i=>obtain⟨t,rfl⟩:=r; rfl
 | str z=>obtain⟨t,rfl⟩:=r; rfl
 | _=>exact absurd (show false = true from f) Bool.false_ne_true
theorem We {x:V}:∀ {xs:List V} {us:List Value},Vals xs us->xs.all Lb = true->us.any (eqU x) = xs.any fun y=>eqV y x
 | _,_,.nil,_=>rfl
 | y :: xs,u :: us,.cons r t,f=>by
  rw[all_cons,and_eq_true] at f
  rw[any_cons,any_cons,Ae9 r f.1,We t f.2]
theorem Ue {A:Around} {s:Shared} {x:V} {v:Value} (rx:RelV x v) (fx:Lb x = true):∀ {xs:List V} {us:List Value},Vals xs us->xs.all Lb = true->∀ u ∈ us,SeqAt.EqAt A s u v (eqU x u)
 | _,_,.nil,_=>fun u hu=>by cases hu
 | y :: xs,u :: us,.cons r t,f=>fun u' hu=>by
  rw[all_cons,and_eq_true] at f
  rcases mem_cons.mp hu with rfl | hu
  ·rw[Ae9 r f.1]; exact AdS r rx f.1 fx
  ·exact Ue rx fx t f.2 u' hu
def inV (x:V) (xs:List V):Bool:=xs.any fun y=>eqV y x
def rIn (K:Frag) (neg:Bool):R2:=fun x y H Q=>∃ p xs,y = .ref p/\(SqL K H p xs\/SqT K H p xs)/\Lb x = true/\xs.all Lb = true/\Q (.bl (if neg then !inV x xs else inV x xs)) H
theorem Rx:OpR X (compareOp .In) (rIn X.K false):=by
 intro pins s σ H x y v u Q I rx ry h
 obtain⟨p,xs,rfl,hq,fx,fs,q⟩:=h
 cases ry
 rcases hq with hq | hq
 ·obtain⟨its,r,pl,hz⟩:=I.list hq
  refine SeqAt.in_listAt (eqU x) pl.isList (fun w hw=>Ue rx fx r fs w (by simpa using hw)) ⟨.bl _,H,I,rfl,?_⟩
  rw[show its.toArray.any (eqU x) = its.any (eqU x) by simp,We r fs]
  exact q
 ·obtain⟨its,r,pl,hz⟩:=I.tuple hq
  refine SeqAt.in_tupleAt (eqU x) pl (fun w hw=>Ue rx fx r fs w (by simpa using hw)) ⟨.bl _,H,I,rfl,?_⟩
  rw[show its.toArray.any (eqU x) = its.any (eqU x) by simp,We r fs]
  exact q
theorem Oh:Lw X (.builtin "len") (fun xs H Q=>∃ p ys,xs = [.ref p]/\(SqL X.K H p ys\/SqT X.K H p ys)/\Q (.int ys.length) H):=by
 intro pins s σ H xs us Q I r h
 obtain⟨p,ys,rfl,hq,q⟩:=h
 obtain⟨u,rfl,rx⟩:=Yb r
 cases rx
 have hn:=Uw
 rcases hq with hq | hq
 ·obtain⟨its,r',pl,hz⟩:=I.list hq
  have hlen:=r'.length
  exact Calls.call_len_list pl.isList (by simp only [size_toArray] <;> omega) ⟨.int ys.length,H,I.tok _,⟨s.toks + 1,by rw[size_toArray,hlen]⟩,q⟩
 ·obtain⟨its,r',pl,hz⟩:=I.tuple hq
  have hlen:=r'.length
  exact len_tuple pl (by simp only [size_toArray] <;> omega) ⟨.int ys.length,H,I.tok _,⟨s.toks + 1,by rw[size_toArray,hlen]⟩,q⟩
theorem Aae:Lw X (.type "list") (fun xs H Q=>∃ p ys,xs = [.ref p]/\(SqL X.K H p ys\/SqT X.K H p ys)/\∀ l,H l = none->Q (.ref l) (upd H l (.lst ys))):=by
 intro pins s σ H xs us Q I r h
 obtain⟨p,ys,rfl,hq,q⟩:=h
 obtain⟨u,rfl,rx⟩:=Yb r
 cases rx
 have fin:∀ (its:List Value),Vals ys its->ys.length <= sizeLine->∀ (h':Heap) (c':Nat),(∀ b o',s.heap.get? b = some o'->h'.get? b = some o') ->
   h'.get? s.heap.objs.size = some { cls:=.type "list",dict:=none,data:=.seq its.toArray c',slots:=#[] }->EP X pins σ Q (.ref s.heap.objs.size) { s with heap:=h' }:=fun its r' hz h' c' kp e =>
  ⟨.ref s.heap.objs.size,_,I.laid (t':=s.toks) kp (Nat.le_refl _) (show ObjOk X.prog X.w _ h' _ (.lst ys) from ⟨hz,its,c',r',e⟩),rfl,q _ (I.hok.fresh (Nat.le_refl _))⟩
 rcases hq with hq | hq
 ·obtain⟨its,r',pl,hz⟩:=I.list hq
  have hlen:=r'.length
  obtain⟨o,ho,hc,n,hd⟩:=pl.isList
  exact call_list_seq p (.inl rfl) ho hc hd (fun h' c' kp e=>fin its r' hz h' c' kp e) (by simp only [size_toArray] <;> omega)
 ·obtain⟨its,r',pl,hz⟩:=I.tuple hq
  have hlen:=r'.length
  obtain⟨o,ho,hc,n,hd⟩:=pl
  exact call_list_seq p (.inr rfl) ho hc hd (fun h' c' kp e=>fin its r' hz h' c' kp e) (by simp only [size_toArray] <;> omega)
def tyV (K:Frag) (T:String) (x:V) (H:Hp):Prop:=match x with
 | .str _=>T = "str"
 | .int _=>T = "int"
 | .ref p=>(T = "list"/\∃ xs,SqL K H p xs)\/(T = "tuple"/\∃ o,K.lookup p = some o/\o.cls = .type "tuple"/\o.dict = none) \/
   (T = "dict"/\((∃ kvs,H p = some (.dK kvs))\/∃ kvs,H p = some (.dT kvs)))\/(T = "set"/\∃ S n,H p = some (.set S n))
 | _=>False
theorem Adn {pins:List (Addr × Obj)} {σ:St} {H:Hp} {s:Shared} {T:String} {x:V} {v:Value} (I:Inv X pins σ H s) (r:RelV x v) (ty:tyV X.K T x H) :
  s.TypeIs v T/\∀ a,v = .ref a->∃ ob,s.heap.get? a = some ob/\ob.dict = none:=by
 cases x with
 | str z =>
  obtain⟨t,rfl⟩:=r
  cases (show T = "str" from ty)
  exact⟨typeIs_str s z t,fun _ e=>nomatch e⟩
 | int i =>
  obtain⟨t,rfl⟩:=r
  cases (show T = "int" from ty)
  exact⟨typeIs_int s i t,fun _ e=>nomatch e⟩
 | ref p =>
  cases r
  rcases ty with ⟨rfl,xs,hq⟩ | ⟨rfl,o,hk,hc,hd⟩ | ⟨rfl,hk⟩ | ⟨rfl,S,n,hk⟩
  ·obtain⟨its,_,pl,_⟩:=I.list hq
   refine⟨pl.isList.typeIs,fun a e=>?_⟩
   cases e
   obtain⟨o,n,e,c,hd,_⟩:=pl
   exact⟨o,e,hd⟩
  ·refine⟨⟨o,I.kIn p o hk,hc⟩,fun a e=>?_⟩
   cases e
   exact⟨o,I.kIn _ o hk,hd⟩
  ·have z:∃ o,s.heap.get? p = some o/\o.ExactDict:=by
    rcases hk with ⟨kvs,hk⟩ | ⟨kvs,hk⟩
    ·obtain⟨_,_,_,_,o,_,_,e,ex,_⟩:=I.hok p _ hk
     exact⟨o,e,ex⟩
    ·obtain⟨_,_,_,_,o,_,_,e,ex,_⟩:=I.hok p _ hk
     exact⟨o,e,ex⟩
   obtain⟨o,e,ex⟩:=z
   refine⟨⟨o,e,ex.1⟩,fun a e2=>?_⟩
   cases e2
   exact⟨o,e,ex.2.1⟩
  ·obtain⟨o,_,_,_,e,ex,_⟩:=I.hok p _ hk
   refine⟨⟨o,e,ex.1⟩,fun a e2=>?_⟩
   cases e2
   exact⟨o,e,ex.2.1⟩
 | _=>exact False.elim ty
def AlU (K:Frag) (T:String) (r:V->List V->Hp->VK->Prop) (to:TE):TE:=fun σ H Q=>to σ H fun x H1=>tyV K T x H1/\r x [] H1 Q
def tBM (K:Frag) (T:String) (r:V->List V->Hp->VK->Prop) (to:TE) (t:TA):TE:=fun σ H Q=>to σ H fun x H1=>tyV K T x H1/\t σ H1 fun xs H2=>r x xs H2 Q
variable {o e:Expr} {es:List Expr} {to:TE} {t:TA} {name:Str} {apos cpos:Pos} {T id:String} {r:V->List V->Hp->VK->Prop}
theorem Aki (pa:PlainAttrs T) (slot:Slot T name id) (hty:typeOf (.builtin id) = pure (.type "method_descriptor")) (hm:MtR X id r) (ho:PE X o to)
  (hbase:attributeBase o name X.env (eval o X.env) = eval o X.env:=by rfl) (hline:(apos.endLine == cpos.line) = true:=by rfl):PE X (.Call (.Attribute o name apos) [] [] cpos) (AlU X.K T r to):=by
 intro pins s σ H Q I h
 refine wpAny_Call_method0_late hbase hline (thn (ho pins s σ H _ I h) fun v s1 ⟨x,H1,I1,r1,ty,q1⟩=>?_)
 obtain⟨h1,h2⟩:=Adn I1 r1 ty
 exact⟨T,id,pa,slot,hty,h1,h2,Calls.callWith_builtin rfl (PySem.evalArgs_none (hm pins s1 σ H1 x [] v [] Q I1 r1 .nil q1))⟩
theorem Fx (pa:PlainAttrs T) (slot:Slot T name id) (hty:typeOf (.builtin id) = pure (.type "method_descriptor")) (hm:MtR X id r) (ho:PE X o to) (ha:PA X (e :: es) t)
  (hbase:attributeBase o name X.env (eval o X.env) = eval o X.env:=by rfl)
  (hfew:((backTo cpos (starEach (e :: es) X.env)).all (fun x=>!x.1) && (backToKw cpos (keywordEach [] X.env)).all (fun x=>x.1.isSome)
   && decide ((e :: es).length + ([]:List Keyword).length + (if ([]:List Keyword).isEmpty then 0 else 1) < 30)) = true:=by rfl)
  (hline:(apos.endLine == cpos.line) = true:=by rfl) (hs:starEach (e :: es) X.env = (false,eval e X.env) :: starEach es X.env:=by rfl) (hplain:(backTo cpos (starEach es X.env)).any (·.1) = false:=by rfl) :
  PE X (.Call (.Attribute o name apos) (e :: es) [] cpos) (tBM X.K T r to t):=by
 intro pins s σ H Q I h
 refine wpAny_Call_method_late hbase hfew hline rfl (thn (ho pins s σ H _ I h) fun v s1 ⟨x,H1,I1,r1,ty,q1⟩=>?_)
 obtain⟨h1,h2⟩:=Adn I1 r1 ty
 refine⟨T,id,pa,slot,hty,h1,h2,?_⟩
 have hA:=ha cpos pins s1 σ H1 _ I1 q1
 rw[hs] at hA ⊢
 refine Calls.callWith_builtin (by show (false || (backTo cpos (starEach es X.env)).any (·.1)) = false; rw[hplain] <;> rfl) (Calls.evalArgs_plain ?_)
 exact thn hA fun us s2 ⟨vs,H2,I2,r2,q2⟩=>hm pins s2 σ H2 x vs v us Q I2 r1 r2 q2
end
def MtM (X:Cx) (id:String) (r:V->List V->Hp->VK->Prop):Prop :=
 ∀ (pins:List (Addr × Obj)) (s:Shared) (σ:St) (H:Hp) (x:V) (xs:List V) (v:Value) (us:List Value) (Q:VK),Inv X pins σ H s->RelV x v->Vals xs us->r x xs H Q ->
  wpAny (model X.prog X.w) X.A (call (.builtin id) (v :: us)) (EP X pins σ Q) X.xe s
theorem Vals.one:∀ {x:V} {us:List Value},Vals [x] us->∃ u,us = [u]/\RelV x u
 | _,_,.cons r .nil=>⟨_,rfl,r⟩
theorem Vals.zero:∀ {us:List Value},Vals [] us->us = []
 | _,.nil=>rfl
theorem Vals.dropLast {xs:List V} {us:List Value} (h:Vals xs us):Vals xs.dropLast us.dropLast:=by
 induction h with
 | nil=>exact .nil
 | cons r t ih =>
  cases t with
  | nil=>exact .nil
  | cons q t'=>exact .cons r ih
theorem Vals.rep {xs:List V} {us:List Value} (h:Vals xs us):∀ k:Nat,Vals (replicate k xs).flatten (replicate k us).flatten
 | 0=>.nil
 | k + 1=>by
  rw[replicate_succ,replicate_succ,flatten_cons,flatten_cons]
  exact Vals.append h (Vals.rep h k)
theorem Ac4 {α:Type} (l:List α):l.eraseIdx (l.length - 1) = l.dropLast:=by
 induction l with
 | nil=>rfl
 | cons a r ih =>
  cases r with
  | nil=>rfl
  | cons b r =>
   have e:(a :: b :: r).length - 1 = ((b :: r).length - 1) + 1:=by
    have h1:(a :: b :: r).length = r.length + 2:=rfl
    have h2:(b :: r).length = r.length + 1:=rfl
    omega
   rw[e,List.eraseIdx_cons_succ,ih]
   all_goals rfl
theorem Wv (its:List Value):∀ (k:Nat) (acc:List Value),
  foldl (fun x1 x2=>x1 ++ x2) acc.toArray (replicate k its.toArray) = (acc ++ (replicate k its).flatten).toArray
 | 0,acc=>by simp
 | k + 1,acc=>by
  have e:acc.toArray ++ its.toArray = (acc ++ its).toArray:=by simp
  have e2:(acc ++ its) ++ (replicate k its).flatten = acc ++ (replicate (k + 1) its).flatten:=by
   rw[replicate_succ,flatten_cons,append_assoc]
  rw[<- e2,<- Wv its k (acc ++ its),<- e,replicate_succ,foldl_cons]
section
variable {X:Cx} {pins:List (Addr × Obj)} {σ:St} {H:Hp} {s:Shared} {l b:Addr} {xs ys zs:List V}
theorem Inv.lset {its its':List Value} {n:Nat} {f:Array Value->Array Value} {t':Nat} (I:Inv X pins σ H s) (hH:H l = some (.lst xs))
  (e:s.heap.get? l = some { cls:=.type "list",data:=.seq its.toArray n }) (hf:f its.toArray = its'.toArray) (hv:Vals ys its') (hz:ys.length <= sizeLine) :
  Inv X pins σ (upd H l (.lst ys)) { s with heap:=s.heap.update l (Obj.mapSeq f),toks:=t' }:=by
 have q:=PySem.IsL.update e f
 rw[hf] at q
 refine I.write (x:=l) (e:=l) (by rw[hH]; exact trivial) (.inl rfl) (fun b' u hb hu=>(Heap.get?_update_other s.heap (Obj.mapSeq f) (Ne.symm hb)).trans hu) ⟨_,q⟩ ?_
 exact⟨hz,its',_,hv,q⟩
theorem Inv.lnew {its:List Value} {t':Nat} (I:Inv X pins σ H s) (hv:Vals ys its) (hz:ys.length <= sizeLine) :
  Inv X pins σ (upd H s.heap.objs.size (.lst ys)) { s with heap:=s.heap.push { cls:=.type "list",data:=.seq its.toArray },toks:=t' } :=
 I.laid (fun _ _ q=>get?_push_of_some _ q) (Nat.le_refl _) ⟨hz,its,0,hv,get?_push_size _ rfl⟩
theorem Inv.fresh (I:Inv X pins σ H s):H s.heap.objs.size = none:=I.hok.fresh (Nat.le_refl _)
theorem Inv.lstM (I:Inv X pins σ H s) (hH:H l = some (.lst xs)):xs.length <= sizeLine/\∃ (its:List Value) (n:Nat),Vals xs its/\xs.length = its.length/\s.heap.get? l = some { cls:=.type "list",data:=.seq its.toArray n }:=by
 obtain⟨z,its,n,r,e⟩:=I.hok l _ hH
 exact⟨z,its,n,r,r.length,e⟩
theorem AfU {n:Nat} (h:n <= sizeLine):Builtin.List.listTooLong n = false:=by
 unfold Builtin.List.listTooLong
 exact decide_eq_false (by omega)
end
section
variable {X:Cx}
def AiU:V->List V->Hp->VK->Prop:=fun x vs H Q=>∃ l xs y,x = .ref l/\vs = [y]/\H l = some (.lst xs)/\xs.length < sizeLine/\Q .non (upd H l (.lst (xs ++ [y])))
theorem Wn:MtM X "list.append" AiU:=by
 intro pins s σ H x vs v us Q I rx rv h
 obtain⟨l,xs,y,rfl,rfl,hH,hz,q⟩:=h
 cases rx
 obtain⟨u,rfl,ru⟩:=rv.one
 obtain⟨z,its,n,r,hl,e⟩:=I.lstM hH
 refine call_meets F.slot_list_append ⟨_,e,rfl⟩ F.entry_list_append (F.args_list_append_2 _ _) (PySem.list_append l its.toArray n u (by rw[size_toArray]; omega)) ⟨e,?_⟩
 refine⟨.non,_,I.lset (its':=its ++ [u]) hH e (by simp) (r.append (.cons ru .nil)) ?_,rfl,q⟩
 rw[length_append,length_singleton]
 omega
def Aoj:V->List V->Hp->VK->Prop:=fun x vs H Q=>∃ l xs y,x = .ref l/\vs = []/\H l = some (.lst xs)/\xs[xs.length - 1]? = some y/\Q y (upd H l (.lst xs.dropLast))
theorem Ame:MtM X "list.pop" Aoj:=by
 intro pins s σ H x vs v us Q I rx rv h
 obtain⟨l,xs,y,rfl,rfl,hH,hy,q⟩:=h
 cases rx
 have hus:=rv.zero
 subst hus
 obtain⟨z,its,n,r,hl,e⟩:=I.lstM hH
 obtain⟨u,hu,ru⟩:=r.get hy
 have hy':its.toArray[its.toArray.size - 1]? = some u:=by
  show its.toArray[its.length - 1]? = some u
  rw[<- Array.getElem?_toList,<- hl]
  exact hu
 refine call_meets F.slot_list_pop ⟨_,e,rfl⟩ F.entry_list_pop (F.args_list_pop_1 _) (MeetsSeq.list_pop_last l its.toArray n u hy' (by rw[size_toArray]; omega)) ⟨e,?_⟩
 refine⟨y,_,I.lset (its':=its.dropLast) hH e ?_ r.dropLast ?_,ru,q⟩
 ·show its.toArray.eraseIdxIfInBounds (its.toArray.size - 1) = its.dropLast.toArray
  rw[size_toArray,List.eraseIdxIfInBounds_toArray,Ac4]
 ·rw[List.length_dropLast]
  omega
def Aoe:R2:=fun x y H Q=>∃ l b xs zs,x = .ref l/\y = .ref b/\H l = some (.lst xs)/\H b = some (.lst zs)/\xs.length + zs.length <= sizeLine/\∀ p,H p = none->Q (.ref p) (upd H p (.lst (xs ++ zs)))
theorem AjO:OpR X (binaryOp .Add) Aoe:=by
 intro pins s σ H x y v u Q I rx ry h
 obtain⟨l,b,xs,zs,rfl,rfl,hH,hB,hz,q⟩:=h
 cases rx
 cases ry
 obtain⟨z,its,n,r,hl,e⟩:=I.lstM hH
 obtain⟨z2,its2,n2,r2,hl2,e2⟩:=I.lstM hB
 refine PySem.P.add_list e e2 ?_ (by rw[size_toArray,size_toArray]; omega)
 have ea:its.toArray ++ its2.toArray = (its ++ its2).toArray:=by simp
 rw[ea]
 exact⟨.ref _,_,I.lnew (t':=s.toks) (r.append r2) (by rw[length_append]; omega),rfl,q _ I.fresh⟩
def AnZ:R2:=fun x y H Q=>∃ l k xs,x = .ref l/\y = .int k/\H l = some (.lst xs)/\-(2 ^ 63) <= k/\k < 2 ^ 63/\xs.length * k.toNat <= sizeLine /\
 ∀ p,H p = none->Q (.ref p) (upd H p (.lst (replicate k.toNat xs).flatten))
theorem AiV {α:Type} (xs:List α) (k:Nat):(replicate k xs).flatten.length = k * xs.length:=by
 induction k with
 | zero=>simp
 | succ k ih=>rw[replicate_succ,flatten_cons,length_append,ih,Nat.succ_mul,Nat.add_comm]
theorem AkC:OpR X (binaryOp .Mult) AnZ:=by
 intro pins s σ H x y v u Q I rx ry h
 obtain⟨l,k,xs,rfl,rfl,hH,h1,h2,hz,q⟩:=h
 cases rx
 obtain⟨t,rfl⟩:=ry
 obtain⟨z,its,n,r,hl,e⟩:=I.lstM hH
 have hlen:its.toArray.size * k.toNat <= sizeLine:=by rw[size_toArray,<- hl]; exact hz
 have hcap:¬ its.toArray.size * k.toNat > (2 ^ 63 - 1) / 8:=by
  have:(sizeLine:Nat) <= (2 ^ 63 - 1) / 8:=by decide
  omega
 have hfit:¬ (!Builtin.List.listFitsIndex k) = true:=by
  rw[fitsIndex_both h1 h2]
  exact Bool.false_ne_true
 have hlong:¬ Builtin.List.listTooLong (its.toArray.size * k.toNat) = true:=by
  rw[AfU hlen]
  exact Bool.false_ne_true
 have hnew:foldl (fun x1 x2=>x1 ++ x2) #[] (replicate (if its.toArray.isEmpty = true then 0 else k.toNat) its.toArray) = (replicate k.toNat its).flatten.toArray:=by
  have f0:∀ m:Nat,foldl (fun x1 x2=>x1 ++ x2) #[] (replicate m its.toArray) = (replicate m its).flatten.toArray:=fun m=>by
   have:=Wv its m []
   rw[nil_append] at this
   exact this
  rw[f0]
  cases its with
  | nil=>simp
  | cons a r'=>rw[if_neg (by simp)]
 refine wpAny_binaryOp_repeat_ref (T:="list") (U:="int") (by decide) ⟨_,e,rfl⟩ (fun s'=>typeIs_int s' k t) noFill_list_mul F.fills_int_mul F.slot_int_rmul repeat_list F.slot_int_index.lookup
  (call_meets F.slot_int_rmul (typeIs_int s k t) F.entry_int_rmul (F.args_int_rmul_2 _ _) (int___rmul___int_list k t l its.toArray n)
   ⟨e,rfl,⟨_,e,rfl⟩,call_meets F.slot_list_mul ⟨_,e,rfl⟩ F.entry_list_mul (F.args_list_mul_2 _ _) (AutoListH.list___mul___list_int_3 l its.toArray n k t hfit hcap hlong) ⟨e,?_⟩⟩)
 rw[hnew]
 exact⟨.ref _,_,I.lnew (t':=s.toks) (r.rep k.toNat) (by rw[AiV,Nat.mul_comm]; exact hz),rfl,q _ I.fresh⟩
end
section
variable {prog:Program} {w:World} {A:Around} {E:Value->Shared->Prop} {s:Shared}
set_option maxRecDepth 100000 in
end
section
variable {X:Cx}
end
section
variable {κ:Type} [DecidableEq κ]
def Cs (kvs:List (κ × V)) (k:κ):Option V:=(kvs.find? fun kv=>decide (kv.1 = k)).map (·.2)
def Ja (kvs:List (κ × V)) (k:κ) (v:V):List (κ × V) :=
 if (kvs.any fun kv=>decide (kv.1 = k)) = true then kvs.map (fun kv=>if kv.1 = k then (kv.1,v) else kv) else kvs ++ [(k,v)]
theorem Lk {p:κ × V} {r:List (κ × V)} {k:κ} (e:p.1 = k):Cs (p :: r) k = some p.2:=by simp [Cs,find?_cons,e]
theorem Le {p:κ × V} {r:List (κ × V)} {k:κ} (e:¬ p.1 = k):Cs (p :: r) k = Cs r k:=by simp [Cs,find?_cons,e]
theorem Rc (k:κ):∀ kvs:List (κ × V),(kvs.any fun kv=>decide (kv.1 = k)) = (Cs kvs k).isSome
 | []=>rfl
 | p :: r=>by
  rw[any_cons]
  by_cases e:p.1 = k
  ·simp only [Lk e,decide_eq_true e,Bool.true_or,isSome_some]
  ·rw[Le e,decide_eq_false e,Bool.false_or]; exact Rc k r
theorem Tp (kvs:List (κ × V)) (k:κ) (v:V):(Ja kvs k v).length <= kvs.length + 1:=by
 unfold Ja
 split
 ·rw[length_map]; omega
 ·rw[length_append,length_cons,length_nil]; omega
theorem Ls {kvs:List (κ × V)} {k:κ} (v:V) (h:Cs kvs k = none):Ja kvs k v = kvs ++ [(k,v)]:=by
 unfold Ja
 rw[Rc,h]
 exact if_neg (by decide)
theorem RelO.isSome_eq {o:Option V} {u:Option Value} (r:RelO o u):o.isSome = u.isSome:=by
 cases o with
 | none=>cases u with
  | none=>rfl
  | some _=>exact (show False from r).elim
 | some _=>cases u with
  | none=>exact (show False from r).elim
  | some _=>rfl
theorem RelO.getD {o:Option V} {u:Option Value} {d:V} {d':Value} (r:RelO o u) (rd:RelV d d'):RelV (o.getD d) (u.getD d'):=by
 cases o with
 | none=>cases u with
  | none=>exact rd
  | some _=>exact (show False from r).elim
 | some _=>cases u with
  | none=>exact (show False from r).elim
  | some _=>exact r
theorem KV.val {kvs:List (κ × V)} {vs:List (κ × Value)} (r:KV kvs vs) (k:κ):RelO (Cs kvs k) (valueAt vs k):=by
 unfold KV at r
 induction r with
 | nil=>exact True.intro
 | @cons p q ps qs h t ih =>
  obtain⟨h1,h2⟩:=h
  by_cases e:p.1 = k
  ·have e':q.1 = k:=h1.symm.trans e
   have b:valueAt (q :: qs) k = some q.2:=by simp [valueAt,find?_cons,e']
   rw[Lk e,b]; exact h2
  ·have e':¬ q.1 = k:=fun z=>e (h1.trans z)
   have b:valueAt (q :: qs) k = valueAt qs k:=by simp [valueAt,find?_cons,e']
   rw[Le e,b]; exact ih
theorem KV.any {kvs:List (κ × V)} {vs:List (κ × Value)} (r:KV kvs vs) (k:κ):(kvs.any fun kv=>decide (kv.1 = k)) = vs.any fun kv=>decide (kv.1 = k):=by
 unfold KV at r
 induction r with
 | nil=>rfl
 | cons h t ih=>rw[any_cons,any_cons,ih,h.1]
theorem KV.repl {kvs:List (κ × V)} {vs:List (κ × Value)} (r:KV kvs vs) (k:κ) {y:V} {u:Value} (ry:RelV y u) :
  KV (kvs.map fun kv=>if kv.1 = k then (kv.1,y) else kv) (vs.map fun kv=>if kv.1 = k then (kv.1,u) else kv):=by
 unfold KV at r ⊢
 induction r with
 | nil=>exact .nil
 | @cons p q ps qs h t ih =>
  rw[map_cons,map_cons]
  refine .cons ?_ ih
  obtain⟨h1,h2⟩:=h
  by_cases e:p.1 = k
  ·rw[if_pos e,if_pos (h1.symm.trans e)]; exact⟨h1,ry⟩
  ·rw[if_neg e,if_neg (fun z=>e (h1.trans z))]; exact⟨h1,h2⟩
theorem KV.put {kvs:List (κ × V)} {vs:List (κ × Value)} (r:KV kvs vs) (k:κ) {y:V} {u:Value} (ry:RelV y u):KV (Ja kvs k y) (stored vs k u):=by
 unfold Ja stored
 rw[r.any k]
 by_cases e:(vs.any fun kv=>decide (kv.1 = k)) = true
 ·rw[if_pos e,if_pos e]; exact r.repl k ry
 ·rw[if_neg e,if_neg e]; exact Paired.snoc r ⟨rfl,ry⟩
theorem KV.keys {kvs:List (κ × V)} {vs:List (κ × Value)} (r:KV kvs vs):kvs.map (·.1) = vs.map (·.1):=by
 unfold KV at r
 induction r with
 | nil=>rfl
 | cons h t ih=>rw[map_cons,map_cons,ih,h.1]
theorem KV.length {kvs:List (κ × V)} {vs:List (κ × Value)} (r:KV kvs vs):kvs.length = vs.length:=Paired.length r
end
theorem Re {P:Program} {w:World} {k:Key} {u:Value} (r:RelV (kV k) u):(Dq P w).is k u = true:=by
 cases k with
 | inl i=>obtain⟨t,e⟩:=(show ∃ t,u = Value.int i t from r); subst e; exact AaR P w i t
 | inr x=>obtain⟨t,e⟩:=(show ∃ t,u = Value.str x t from r); subst e; exact AaS P w x t
theorem Xa {P:Program} {w:World}:∀ {ks:List Key} {us:List Value},Vals (ks.map kV) us->ItemsAre (Dq P w) ks us
 | [],_,r=>by rw[map_nil] at r; cases r; exact .nil
 | k :: ks,_,r=>by
  rw[map_cons] at r
  cases r with
  | cons h t=>exact .cons (Re h) (Xa t)
abbrev KT (H:Hp):List (List Key × V)->List (List Key × Addr × Value)->Prop:=Paired fun p q=>p.1 = q.1/\H q.2.1 = some (.tup (p.1.map kV))/\RelV p.2 q.2.2
theorem KT.val {H:Hp} {kvs:List (List Key × V)} {xs:List (List Key × Addr × Value)} (r:KT H kvs xs) (k:List Key):RelO (Cs kvs k) ((atKey xs k).map (·.2)):=by
 induction r with
 | nil=>exact True.intro
 | @cons p q ps qs h t ih =>
  obtain⟨h1,_,h2⟩:=h
  by_cases e:p.1 = k
  ·have e':q.1 = k:=h1.symm.trans e
   have b:atKey (q :: qs) k = some q.2:=by simp [atKey,find?_cons,e']
   rw[Lk e,b]; exact h2
  ·have e':¬ q.1 = k:=fun z=>e (h1.trans z)
   have b:atKey (q :: qs) k = atKey qs k:=by simp [atKey,find?_cons,e']
   rw[Le e,b]; exact ih
theorem KT.repl {H:Hp} {kvs:List (List Key × V)} {xs:List (List Key × Addr × Value)} (r:KT H kvs xs) (k:List Key) {y:V} {u:Value} (ry:RelV y u) :
  KT H (kvs.map fun kv=>if kv.1 = k then (kv.1,y) else kv) (xs.map (putAt k u)):=by
 induction r with
 | nil=>exact .nil
 | @cons p q ps qs h t ih =>
  rw[map_cons,map_cons]
  refine .cons ?_ ih
  obtain⟨h1,h2,h3⟩:=h
  unfold putAt
  by_cases e:p.1 = k
  ·rw[if_pos e,if_pos (h1.symm.trans e)]; exact⟨h1,h2,ry⟩
  ·rw[if_neg e,if_neg (fun z=>e (h1.trans z))]; exact⟨h1,h2,h3⟩
theorem KT.put {H:Hp} {kvs:List (List Key × V)} {xs:List (List Key × Addr × Value)} (r:KT H kvs xs) (k:List Key) {b:Addr} {y:V} {u:Value} (hb:H b = some (.tup (k.map kV))) (ry:RelV y u) :
  KT H (Ja kvs k y) (storedH xs k b u):=by
 have e:(kvs.any fun kv=>decide (kv.1 = k)) = (atKey xs k).isSome:=by
  rw[Rc,(r.val k).isSome_eq,isSome_map]
 unfold Ja storedH
 rw[e]
 by_cases q:(atKey xs k).isSome = true
 ·rw[if_pos q,if_pos q]; exact r.repl k ry
 ·rw[if_neg q,if_neg q]; exact Paired.snoc r ⟨rfl,hb,ry⟩
theorem KT.keeps {H H':Hp} {kvs:List (List Key × V)} {xs:List (List Key × Addr × Value)} (r:KT H kvs xs) (ht:∀ b ys,H b = some (.tup ys)->H' b = some (.tup ys)):KT H' kvs xs :=
 Paired.mapP r fun _ _ z=>⟨z.1,ht _ _ z.2.1,z.2.2⟩
section
variable {P:Program} {w:World} {H:Hp} {h:Heap} {a:Addr}
theorem AgG {u:HO} (ok:HOk P w H h) (e:Rd H a u):ObjOk P w H h a u:=e.ok ok
theorem Op {kvs:List (Key × V)} (ok:HOk P w H h) (e:Rd H a (.dK kvs)):kvs.length <= sizeLine/\(a == sysModules) = false/\∃ vs,KV kvs vs/\h.DictOf (Dq P w) a vs :=
 show ObjOk P w H h a (.dK kvs) from AgG ok e
theorem Am7 {kvs:List (Key × V)} (ok:HOk P w H h) (e:H a = some (.dK kvs)):kvs.length <= sizeLine/\(a == sysModules) = false/\∃ vs,KV kvs vs/\h.DictOf (Dq P w) a vs:=Op ok (.inl e)
theorem On {ks:List Key} (ok:HOk P w H h) (e:H a = some (.tup (ks.map kV))):(tupleKind (Dq P w)).is h ks a:=by
 obtain⟨_,its,r,o,h1,h2,n,h3⟩:=(show ObjOk P w H h a (.tup (ks.map kV)) from ok a _ e)
 exact⟨o,its.toArray,n,h1,h2,h3,by simpa using Xa r⟩
theorem Os {kvs:List (List Key × V)} (ok:HOk P w H h) (e:Rd H a (.dT kvs)):kvs.length <= sizeLine/\(a == sysModules) = false /\
  ∃ xs,KT H kvs xs/\h.DictOfH (tupleKind (Dq P w)) a xs:=by
 obtain⟨z,y,xs,r,o,es,ep,h1,h2,h3,h4,h5⟩:=(show ObjOk P w H h a (.dT kvs) from AgG ok e)
 refine⟨z,y,xs,r,o,es,ep,h1,h2,h3,h4,fun x hx=>?_,h5⟩
 have all:∀ {l:List (List Key × V)} {m:List (List Key × Addr × Value)},KT H l m->∀ x ∈ m,(tupleKind (Dq P w)).is h x.1 x.2.1:=by
  intro l m q
  induction q with
  | nil=>intro x hx; exact nomatch hx
  | @cons p q ps qs hq t ih =>
   intro x hx
   rcases mem_cons.mp hx with e | hx
   ·subst e
    exact On ok (by rw[<- hq.1]; exact hq.2.1)
   ·exact ih x hx
 exact all r x hx
theorem AmM {kvs:List (List Key × V)} (ok:HOk P w H h) (e:H a = some (.dT kvs)):kvs.length <= sizeLine/\(a == sysModules) = false /\
  ∃ xs,KT H kvs xs/\h.DictOfH (tupleKind (Dq P w)) a xs:=Os ok (.inl e)
end
def DGet (H:Hp) (a:Addr) (y:V) (r:Option V):Prop :=
 (∃ kvs k,Rd H a (.dK kvs)/\y = kV k/\r = Cs kvs k)\/∃ kvs k b,Rd H a (.dT kvs)/\y = .ref b/\H b = some (.tup (k.map kV))/\r = Cs kvs k
def DPut (H:Hp) (a:Addr) (y v:V) (H':Hp):Prop :=
 (∃ kvs k,H a = some (.dK kvs)/\y = kV k/\kvs.length < sizeLine/\H' = upd H a (.dK (Ja kvs k v))) \/
 ∃ kvs k b,H a = some (.dT kvs)/\y = .ref b/\H b = some (.tup (k.map kV))/\kvs.length < sizeLine/\H' = upd H a (.dT (Ja kvs k v))
theorem DGet.k {H:Hp} {a:Addr} {kvs:List (Key × V)} {k:Key} (e:H a = some (.dK kvs)):DGet H a (kV k) (Cs kvs k):=.inl ⟨kvs,k,.inl e,rfl,rfl⟩
theorem DGet.t {H:Hp} {a b:Addr} {kvs:List (List Key × V)} {k:List Key} (e:H a = some (.dT kvs)) (eb:H b = some (.tup (k.map kV))):DGet H a (.ref b) (Cs kvs k):=.inr ⟨kvs,k,b,.inl e,rfl,eb,rfl⟩
theorem DPut.k {H:Hp} {a:Addr} {kvs:List (Key × V)} {k:Key} {v:V} (e:H a = some (.dK kvs)) (hl:kvs.length < sizeLine):DPut H a (kV k) v (upd H a (.dK (Ja kvs k v))):=.inl ⟨kvs,k,e,rfl,hl,rfl⟩
theorem DPut.t {H:Hp} {a b:Addr} {kvs:List (List Key × V)} {k:List Key} {v:V} (e:H a = some (.dT kvs)) (eb:H b = some (.tup (k.map kV))) (hl:kvs.length < sizeLine) :
  DPut H a (.ref b) v (upd H a (.dT (Ja kvs k v))):=.inr ⟨kvs,k,b,e,rfl,eb,hl,rfl⟩
section
variable {X:Cx} {pins:List (Addr × Obj)} {σ:St} {H:Hp} {s:Shared} {a:Addr} {y v:V} {u r:Value} {o:Option V} {A:Around} {E:Value->Shared->Prop}
theorem Inv.big (I:Inv X pins σ H s):sysModules < s.heap.objs.size:=by
 have h:mainGlobals < s.heap.objs.size:=(I.mod.glob.keeps I.bk).lt
 exact Nat.lt_trans (by decide) h
theorem Aes {Q:Value->Shared->Prop} (hu:A.units + 1 < cLine) (I:Inv X pins σ H s) (g:DGet H a y (some v)) (ry:RelV y u) (h:∀ w' s',Inv X pins σ H s'->RelV v w'->Q w' s') :
  wpAny (model X.prog X.w) A (getItem (.ref a) u) Q E s:=by
 rcases g with ⟨kvs,k,e,ey,l⟩ | ⟨kvs,k,b,e,ey,eb,l⟩
 ·subst ey
  obtain⟨z,hd,vs,rel,dd⟩:=Op I.hok e
  obtain⟨w',hw,rw'⟩:=RelO.some_of (v:=v) (o:=valueAt vs k) (by rw[l]; exact rel.val k)
  exact wpAny_getItem_of (Re ry) dd.mapOf hw (h w' _ (I.tok _) rw')
 ·subst ey
  cases (show u = Value.ref b from ry)
  obtain⟨z,hd,xs,rel,dd⟩:=Os I.hok e
  obtain⟨w',hw,rw'⟩:=RelO.some_of (v:=v) (o:=(atKey xs k).map (·.2)) (by rw[l]; exact rel.val k)
  obtain⟨p,hp,hp2⟩:=map_eq_some_iff.mp hw
  refine wpAny_getItem_heap (tupleKind_room_in1 hu) (On I.hok eb) dd hp ?_
  rw[hp2]
  exact h w' _ (I.tok _) rw'
theorem Aom {Q:Value->Shared->Prop} (hu:A.units + 1 < cLine) (I:Inv X pins σ H s) (g:DGet H a y o) (ry:RelV y u) (h:∀ s',Inv X pins σ H s'->Q (.bool o.isSome) s') :
  wpAny (model X.prog X.w) A (compareOp .In u (.ref a)) Q E s:=by
 rcases g with ⟨kvs,k,e,ey,l⟩ | ⟨kvs,k,b,e,ey,eb,l⟩
 ·subst ey
  obtain⟨z,hd,vs,rel,dd⟩:=Op I.hok e
  refine wpAny_in_of (Re ry) hd dd.mapOf ?_
  rw[<- (rel.val k).isSome_eq,<- l]
  exact h _ (I.tok _)
 ·subst ey
  cases (show u = Value.ref b from ry)
  obtain⟨z,hd,xs,rel,dd⟩:=Os I.hok e
  refine wpAny_in_heap (tupleKind_room_in1 hu) (On I.hok eb) hd dd ?_
  have q:=(rel.val k).isSome_eq
  rw[isSome_map] at q
  rw[<- q,<- l]
  exact h _ (I.tok _)
theorem Aiu {Q:Value->Shared->Prop} (hu:A.units + 1 < cLine) (I:Inv X pins σ H s) (g:DGet H a y o) (ry:RelV y u) (h:∀ s',Inv X pins σ H s'->Q (.bool (!o.isSome)) s') :
  wpAny (model X.prog X.w) A (compareOp .NotIn u (.ref a)) Q E s:=by
 rcases g with ⟨kvs,k,e,ey,l⟩ | ⟨kvs,k,b,e,ey,eb,l⟩
 ·subst ey
  obtain⟨z,hd,vs,rel,dd⟩:=Op I.hok e
  refine wpAny_notIn_of (Re ry) hd dd.mapOf ?_
  rw[<- (rel.val k).isSome_eq,<- l]
  exact h _ (I.tok _)
 ·subst ey
  cases (show u = Value.ref b from ry)
  obtain⟨z,hd,xs,rel,dd⟩:=Os I.hok e
  refine wpAny_notIn_heap (tupleKind_room_in1 hu) (On I.hok eb) hd dd ?_
  have q:=(rel.val k).isSome_eq
  rw[isSome_map] at q
  rw[<- q,<- l]
  exact h _ (I.tok _)
theorem Aba {h':Heap} {t':Nat} {ob:HO} (I:Inv X pins σ H s) (mu:Mut (H a)) (hs:SameBut a s.heap h') (he:∃ q,h'.get? a = some q) (new:ObjOk X.prog X.w (upd H a ob) h' a ob) :
  Inv X pins σ (upd H a ob) { s with heap:=h',toks:=t' } :=
 I.write (x:=a) (e:=a) mu (.inl rfl) (fun b q hb z=>(hs.2 b hb).trans z) he new
theorem Alo {P:Program} {w:World} {H':Hp} {h':Heap} {kvs:List (Key × V)} {vs:List (Key × Value)} (z:kvs.length <= sizeLine) (hd:(a == sysModules) = false) (rel:KV kvs vs) (dd:h'.DictOf (Dq P w) a vs) :
  ObjOk P w H' h' a (.dK kvs):=⟨z,hd,vs,rel,dd⟩
theorem Afc {H':Hp} {Q:Unit->Shared->Prop} (hu:A.units + 1 < cLine) (I:Inv X pins σ H s) (g:DPut H a y v H') (ry:RelV y u) (rv:RelV v r) (h:∀ s',Inv X pins σ H' s'->Q () s') :
  wpAny (model X.prog X.w) A (setItem (.ref a) u r) Q E s:=by
 rcases g with ⟨kvs,k,e,ey,l,eH⟩ | ⟨kvs,k,b,e,ey,eb,l,eH⟩
 ·subst ey eH
  obtain⟨z,hd,vs,rel,dd⟩:=Am7 I.hok e
  have hz:vs.length <= sizeLine:=by rw[<- rel.length]; exact z
  have hl:(Ja kvs k v).length <= sizeLine:=by have:=Tp kvs k v; omega
  refine wpAny_setItem_pairs (hsz:=hz) (Re ry) dd fun h' dd' hs=>h _ ?_
  have he:∃ q,h'.get? a = some q:=let ⟨q,_,_,hq,_⟩:=dd'; ⟨q,hq⟩
  exact Aba I (by rw[e]; exact True.intro) hs he (Alo hl hd (rel.put k rv) dd')
 ·subst ey eH
  cases (show u = Value.ref b from ry)
  obtain⟨z,hd,xs,rel,dd⟩:=AmM I.hok e
  have hz:xs.length <= sizeLine:=by rw[<- Paired.length rel]; exact z
  have hl:(Ja kvs k v).length <= sizeLine:=by have:=Tp kvs k v; omega
  refine wpAny_setItem_heap (hsz:=hz) (tupleKind_room_in1 hu) (On I.hok eb) dd fun h' dd' hs=>h _ ?_
  obtain⟨q,es,ep,hq,h2,h3,h4,_,h5⟩:=dd'
  refine Aba I (by rw[e]; exact True.intro) hs ⟨q,hq⟩ ⟨hl,hd,_,(rel.put k eb rv).keeps fun c ys ec=>?_,q,es,ep,hq,h2,h3,h4,h5⟩
  rw[Bh (Fh ec e (fun z=>nomatch z))]
  exact ec
end
section
variable {X:Cx} {pins:List (Addr × Obj)} {σ:St} {H:Hp} {s:Shared} {a:Addr} {kvs:List (Key × V)} {k:Key} {u:Value} {A:Around} {E:Value->Shared->Prop}
end
def Ajq (i:Expr):Prop:=∀ ov iv,subscripted i false ov iv = operate [ov,iv] (getItem ov iv)
theorem AiS {prog:Program} {w:World} {A:Around} {E:Value->Shared->Prop} {s:Shared} {env:Env} {value slice:Expr} {pos:Pos} {T id:String} {Q:Value->Shared->Prop}
  (hl:typeLookup (.type T) "__getitem__" = pure (some (.builtin id))) (hs:Ajq slice)
  (h:wpAny (model prog w) A (eval value env) (fun o s₁=>wpAny (model prog w) A (eval slice env) (fun i s₂=>s₂.TypeIs o T/\wpAny (model prog w) A (getItem o i) Q E s₂) E s₁) E s) :
  wpAny (model prog w) A (eval (.Subscript value slice pos) env) Q E s:=by
 refine Subscript_ (wpAny_mono h (fun o s₁ h₁=>wpAny_mono h₁ (fun i s₂ h₂=>?_) fun _ _ x=>x) fun _ _ x=>x)
 obtain⟨hT,h₂⟩:=h₂
 unfold subscriptTail
 refine wpAny_bind ?_
 rw[getitemInPython_of_ne hT.not_modules]
 refine wpAny_bind (wpAny_specialOf hT hl ?_)
 have fin:wpAny (model prog w) A (subscripted slice false o i) (fun r s₃=>wpAny (model prog w) A (letTemporaryGo value o r >>= fun _=>pure r) Q E s₃) E s₂:=by
  rw[hs o i]
  exact wpAny_operating (wpAny_mono h₂ (fun r s₃ h₃=>wpAny_bind (wpAny_letTemporaryGo (wpAny_pure h₃))) fun _ _ x=>x)
 first
  | exact wpAny_pure (wpAny_bind fin)
  | exact wpAny_bind (wpAny_pure (wpAny_bind fin))
  | exact wpAny_bind fin
theorem AaU {X:Cx} {pins:List (Addr × Obj)} {σ:St} {H:Hp} {s:Shared} {a:Addr} {y:V} {o:Option V} (I:Inv X pins σ H s) (g:DGet H a y o):s.TypeIs (.ref a) "dict":=by
 rcases g with ⟨kvs,k,e,_,_⟩ | ⟨kvs,k,b,e,_,_,_⟩
 ·obtain⟨_,_,vs,_,dd⟩:=Op I.hok e
  exact dd.typeIs
 ·obtain⟨_,_,xs,_,dd⟩:=Os I.hok e
  exact dd.typeIs
def Xt (td ty:TE):TE:=fun σ H Q=>td σ H fun x H1=>ty σ H1 fun y H2=>∃ a v,x = .ref a/\DGet H2 a y (some v)/\Q v H2
def Afl (ty td:TE):TE:=fun σ H Q=>ty σ H fun y H1=>td σ H1 fun x H2=>∃ a o,x = .ref a/\DGet H2 a y o/\Q (.bl o.isSome) H2
def AbO (ty td:TE):TE:=fun σ H Q=>ty σ H fun y H1=>td σ H1 fun x H2=>∃ a o,x = .ref a/\DGet H2 a y o/\Q (.bl (!o.isSome)) H2
def Ac7 (td ty tv:TE):TS:=fun D σ H=>tv σ H fun v H1=>td σ H1 fun x H2=>ty σ H2 fun y H3=>∃ a H4,x = .ref a/\DPut H3 a y v H4/\D.nx σ H4
section
variable {X:Cx} {o i e value:Expr} {pos pos' tpos:Pos} {td ty tv:TE}
theorem Qi (hu:X.A.units + 1 < cLine) (ho:PE X o td) (hi:PE X i ty) (hs:Ajq i):PE X (.Subscript o i pos) (Xt td ty):=by
 intro pins s σ H Q I h
 refine AiS PySem.F.slot_dict_getitem.lookup hs (thn (ho pins s σ H _ I h) fun u s1 ⟨x,H1,I1,rx,q1⟩=>thn (hi pins s1 σ H1 _ I1 q1) fun iv s2 ⟨y,H2,I2,ry,a,v,ex,g,q2⟩=>?_)
 subst ex
 obtain rfl:u = Value.ref a:=rx
 exact⟨AaU I2 g,Aes hu I2 g ry fun w' s3 I3 rw'=>⟨v,H2,I3,rw',q2⟩⟩
theorem AdO (hu:X.A.units + 1 < cLine) (hi:PE X i ty) (ho:PE X o td):PC X .In i o (Afl ty td):=by
 intro pins s σ H Q I h
 refine thn (hi pins s σ H _ I h) fun iv s1 ⟨y,H1,I1,ry,q1⟩=>thn (ho pins s1 σ H1 _ I1 q1) fun u s2 ⟨x,H2,I2,rx,a,ov,ex,g,q2⟩=>?_
 subst ex
 obtain rfl:u = Value.ref a:=rx
 exact Aom hu I2 g ry fun s3 I3=>⟨.bl ov.isSome,H2,I3,rfl,q2⟩
theorem Ou (hu:X.A.units + 1 < cLine) (hi:PE X i ty) (ho:PE X o td):PC X .NotIn i o (AbO ty td):=by
 intro pins s σ H Q I h
 refine thn (hi pins s σ H _ I h) fun iv s1 ⟨y,H1,I1,ry,q1⟩=>thn (ho pins s1 σ H1 _ I1 q1) fun u s2 ⟨x,H2,I2,rx,a,ov,ex,g,q2⟩=>?_
 subst ex
 obtain rfl:u = Value.ref a:=rx
 exact Aiu hu I2 g ry fun s3 I3=>⟨.bl (!ov.isSome),H2,I3,rfl,q2⟩
theorem Gs (hu:X.A.units + 1 < cLine) (ho:PE X o td) (hi:PE X i ty) (hv:PE X value tv) (hs:swapsWith value (some (.Subscript o i pos')) pos.line X.env = pure false) :
  PS X (.Assign [.Subscript o i pos'] value pos) (Ac7 td ty tv):=by
 intro pins s σ H D I h
 refine wpAny_Assign_Subscript (thn (hv pins s σ H _ I h) fun r s1 ⟨v,H1,I1,rv,q1⟩=>thn (ho pins s1 σ H1 _ I1 q1) fun u s2 ⟨x,H2,I2,rx,q2⟩=>thn (hi pins s2 σ H2 _ I2 q2) fun iv s3 ⟨y,H3,I3,ry,a,H4,ex,g,q3⟩=>?_) hs
 subst ex
 obtain rfl:u = Value.ref a:=rx
 exact Afc hu I3 g ry rv fun s4 I4=>⟨σ,H4,I4,q3⟩
end
theorem Afs {P:Program} {w:World} {H:Hp} (h:Heap) (hb:sysModules < h.objs.size):ObjOk P w H (h.push { cls:=.type "dict",data:=.dict #[] }) h.objs.size (.dK []) :=
 ⟨zero_le _,beq_eq_false_iff_ne.mpr (Ne.symm (ne_of_lt hb)),[],.nil,Heap.DictOf.new h⟩
theorem Age {P:Program} {w:World} {H:Hp} (h:Heap) (hb:sysModules < h.objs.size):ObjOk P w H (h.push { cls:=.type "dict",data:=.dict #[] }) h.objs.size (.dT []) :=
 ⟨zero_le _,beq_eq_false_iff_ne.mpr (Ne.symm (ne_of_lt hb)),[],.nil,_,#[],0,get?_push_size _ rfl,⟨rfl,rfl,rfl⟩,rfl,rfl,nodup_nil⟩
def AaE:TE:=fun _ H Q=>∀ p,H p = none->Q (.ref p) (upd H p (.dK []))
def AeI:TE:=fun _ H Q=>∀ p,H p = none->Q (.ref p) (upd H p (.dT []))
section
variable {X:Cx} {pos:Pos}
theorem Lo:PE X (.Dict [] [] pos) AaE:=fun pins s σ H Q I h =>
 wpAny_Dict_empty ⟨.ref s.heap.objs.size,_,I.laid (a:=s.heap.objs.size) (o:=.dK []) (t':=s.toks) (fun _ _ q=>get?_push_of_some _ q) (Nat.le_refl _) (Afs s.heap I.big),rfl,h _ (I.hok.fresh (Nat.le_refl _))⟩
theorem Ags:PE X (.Dict [] [] pos) AeI:=fun pins s σ H Q I h =>
 wpAny_Dict_empty ⟨.ref s.heap.objs.size,_,I.laid (a:=s.heap.objs.size) (o:=.dT []) (t':=s.toks) (fun _ _ q=>get?_push_of_some _ q) (Nat.le_refl _) (Age s.heap I.big),rfl,h _ (I.hok.fresh (Nat.le_refl _))⟩
end
structure M1 (X:Cx) (o:Expr) (m:Str) (apos:Pos) (e:Expr) (cpos:Pos):Prop where
 base:attributeBase o m X.env (eval o X.env) = eval o X.env
 few:((backTo cpos (starEach [e] X.env)).all (fun x=>!x.1) && (backToKw cpos (keywordEach [] X.env)).all (fun x=>x.1.isSome)
  && decide (([e]:List Expr).length + ([]:List Keyword).length + (if ([]:List Keyword).isEmpty then 0 else 1) < 30)) = true
 line:(apos.endLine == cpos.line) = true
 trees:backTo cpos (starEach [e] X.env) = [(false,eval e X.env)]
structure M2 (X:Cx) (o:Expr) (m:Str) (apos:Pos) (e f:Expr) (cpos:Pos):Prop where
 base:attributeBase o m X.env (eval o X.env) = eval o X.env
 few:((backTo cpos (starEach [e,f] X.env)).all (fun x=>!x.1) && (backToKw cpos (keywordEach [] X.env)).all (fun x=>x.1.isSome)
  && decide (([e,f]:List Expr).length + ([]:List Keyword).length + (if ([]:List Keyword).isEmpty then 0 else 1) < 30)) = true
 line:(apos.endLine == cpos.line) = true
 trees:backTo cpos (starEach [e,f] X.env) = [(false,eval e X.env),(false,eval f X.env)]
def IsD (H:Hp) (a:Addr):Prop:=(∃ kvs,Rd H a (.dK kvs))\/∃ kvs,Rd H a (.dT kvs)
theorem Adj {X:Cx} {pins:List (Addr × Obj)} {σ:St} {H:Hp} {s:Shared} {a:Addr} (I:Inv X pins σ H s) (d:IsD H a) :
  s.TypeIs (.ref a) "dict"/\(∀ b,Value.ref a = .ref b->∃ ob,s.heap.get? b = some ob/\ob.dict = none)/\(a == sysModules) = false:=by
 rcases d with ⟨kvs,e⟩ | ⟨kvs,e⟩
 ·obtain⟨_,hd,vs,_,dd⟩:=Op I.hok e
  refine⟨dd.typeIs,fun b q=>?_,hd⟩
  cases q
  obtain⟨ob,_,_,h1,h2,_⟩:=dd
  exact⟨ob,h1,h2.2.1⟩
 ·obtain⟨_,hd,xs,_,dd⟩:=Os I.hok e
  refine⟨dd.typeIs,fun b q=>?_,hd⟩
  cases q
  obtain⟨ob,_,_,h1,h2,_⟩:=dd
  exact⟨ob,h1,h2.2.1⟩
section
variable {X:Cx} {pins:List (Addr × Obj)} {σ:St} {H:Hp} {s:Shared} {a:Addr} {y d:V} {u r:Value} {o:Option V} {A:Around} {E:Value->Shared->Prop}
theorem Akt {Q:Value->Shared->Prop} (hu:A.units + 1 < cLine) (I:Inv X pins σ H s) (g:DGet H a y o) (ry:RelV y u) (h:∀ w' s',Inv X pins σ H s'->RelV (o.getD .non) w'->Q w' s') :
  wpAny (model X.prog X.w) A (call (.builtin "dict.get") [.ref a,u]) Q E s:=by
 rcases g with ⟨kvs,k,e,ey,l⟩ | ⟨kvs,k,b,e,ey,eb,l⟩
 ·subst ey
  obtain⟨z,hd,vs,rel,dd⟩:=Op I.hok e
  refine call_meetsIn slot_dict_get dd.typeIs entry_dict_get (PySem.F.args_dict_get_2 _ _) (meets_dict_get (Dq X.prog X.w) a (Re ry) hd) ⟨_,dd.mapOf,h _ _ (I.tok _) ?_⟩
  rw[l]
  exact (rel.val k).getD rfl
 ·subst ey
  cases (show u = Value.ref b from ry)
  obtain⟨z,hd,xs,rel,dd⟩:=Os I.hok e
  refine call_meetsIn slot_dict_get dd.typeIs entry_dict_get (PySem.F.args_dict_get_2 _ _) (meetsH_dict_get (tupleKind (Dq X.prog X.w)) a b hd) ⟨tupleKind_room_in1 hu,k,xs,On I.hok eb,dd,h _ _ (I.tok _) ?_⟩
  rw[l]
  exact (rel.val k).getD rfl
theorem AjC {Q:Value->Shared->Prop} (hu:A.units + 1 < cLine) (I:Inv X pins σ H s) (g:DGet H a y o) (ry:RelV y u) (rd:RelV d r) (h:∀ w' s',Inv X pins σ H s'->RelV (o.getD d) w'->Q w' s') :
  wpAny (model X.prog X.w) A (call (.builtin "dict.get") [.ref a,u,r]) Q E s:=by
 rcases g with ⟨kvs,k,e,ey,l⟩ | ⟨kvs,k,b,e,ey,eb,l⟩
 ·subst ey
  obtain⟨z,hd,vs,rel,dd⟩:=Op I.hok e
  refine call_meetsIn slot_dict_get dd.typeIs entry_dict_get (PySem.F.args_dict_get_3 _ _ _) (meets_dict_get_default (Dq X.prog X.w) a (Re ry) hd r) ⟨_,dd.mapOf,h _ _ (I.tok _) ?_⟩
  rw[l]
  exact (rel.val k).getD rd
 ·subst ey
  cases (show u = Value.ref b from ry)
  obtain⟨z,hd,xs,rel,dd⟩:=Os I.hok e
  refine call_meetsIn slot_dict_get dd.typeIs entry_dict_get (PySem.F.args_dict_get_3 _ _ _) (meetsH_dict_get_default (tupleKind (Dq X.prog X.w)) a b hd r) ⟨tupleKind_room_in1 hu,k,xs,On I.hok eb,dd,h _ _ (I.tok _) ?_⟩
  rw[l]
  exact (rel.val k).getD rd
end
def Ae0 (td ty:TE):TE:=fun σ H Q=>td σ H fun x H1=>∃ a,x = .ref a/\IsD H1 a/\ty σ H1 fun y H2=>∃ o,DGet H2 a y o/\Q (o.getD .non) H2
def AaC (td ty tx:TE):TE:=fun σ H Q=>td σ H fun x H1=>∃ a,x = .ref a/\IsD H1 a/\ty σ H1 fun y H2=>tx σ H2 fun z H3=>∃ o,DGet H3 a y o/\Q (o.getD z) H3
section
variable {X:Cx} {o e f:Expr} {apos cpos:Pos} {td ty tx:TE}
theorem AfJ (hu:X.A.units + 1 < cLine) (ho:PE X o td) (he:PE X e ty) (m:M1 X o "get" apos e cpos):PE X (.Call (.Attribute o "get" apos) [e] [] cpos) (Ae0 td ty):=by
 intro pins s σ H Q I h
 refine wpAny_Call_method m.base m.few m.line plainAttrs_dict slot_dict_get type_dict_get (thn (ho pins s σ H _ I h) fun u s1 ⟨x,H1,I1,rx,a,ex,d,q1⟩=>?_)
 subst ex
 obtain rfl:u = Value.ref a:=rx
 obtain⟨t1,t2,_⟩:=Adj I1 d
 refine⟨t1,t2,?_⟩
 rw[m.trees]
 refine Calls.callWith_builtin rfl (Calls.evalArgs_plain (Calls.spliced_cons (thn (he pins s1 σ H1 _ I1 q1) fun iv s2 ⟨y,H2,I2,ry,ov,g,q2⟩=>Calls.spliced_nil ?_)))
 exact Akt hu I2 g ry fun w' s3 I3 rw'=>⟨_,H2,I3,rw',q2⟩
theorem Lu (hu:X.A.units + 1 < cLine) (ho:PE X o td) (he:PE X e ty) (hf:PE X f tx) (m:M2 X o "get" apos e f cpos):PE X (.Call (.Attribute o "get" apos) [e,f] [] cpos) (AaC td ty tx):=by
 intro pins s σ H Q I h
 refine wpAny_Call_method m.base m.few m.line plainAttrs_dict slot_dict_get type_dict_get (thn (ho pins s σ H _ I h) fun u s1 ⟨x,H1,I1,rx,a,ex,d,q1⟩=>?_)
 subst ex
 obtain rfl:u = Value.ref a:=rx
 obtain⟨t1,t2,_⟩:=Adj I1 d
 refine⟨t1,t2,?_⟩
 rw[m.trees]
 refine Calls.callWith_builtin rfl (Calls.evalArgs_plain (Calls.spliced_cons (thn (he pins s1 σ H1 _ I1 q1) fun iv s2 ⟨y,H2,I2,ry,q2⟩ =>
  Calls.spliced_cons (thn (hf pins s2 σ H2 _ I2 q2) fun fv s3 ⟨z,H3,I3,rz,ov,g,q3⟩=>Calls.spliced_nil ?_))))
 exact AjC hu I3 g ry rz fun w' s4 I4 rw'=>⟨_,H3,I4,rw',q3⟩
end
section
variable {X:Cx} {pins:List (Addr × Obj)} {σ:St} {H:Hp} {s:Shared} {a:Addr} {kvs:List (Key × V)} {A:Around} {E:Value->Shared->Prop}
end
section
variable {X:Cx} {pins:List (Addr × Obj)} {σ:St} {H:Hp} {s:Shared} {a:Addr} {y:V} {u:Value} {A:Around} {E:Value->Shared->Prop}
end
end L2
namespace Att
open PySem PySem.W PySem.Calls PyProof.Rows
theorem Vl {P:Params} {h:Heap}:∀ (ns:List Int) (vs:List Value),WellAll P h vs (ns.map WData.int)->IntsAre vs ns:=by
 intro ns
 induction ns with
 | nil =>
  intro vs w
  rw[map_nil] at w
  cases w
  exact .nil
 | cons n ns ih =>
  intro vs w
  rw[map_cons] at w
  cases w with
  | cons a b =>
   cases a
   exact .cons _ _ (ih _ b)
theorem Afe {l:OpenLaw} {n:Nat} (hn:l.most = some n) {P:Params} {h:Heap} {args:List WData} {vals:List Value}
  (hpre:l.row.toRowW.claim.pre args = true) (hwl:WellAll P h vals args) :
  ∃ a vs ns,vals = [Value.ref a]/\args = [WData.list (ns.map WData.int)]/\h.get? a = some { cls:=.type "list",data:=.seq vs.toArray }/\IntsAre vs ns/\ns.length <= n:=by
 have hsh:WShape.hasAll [] args [.list .int] = true:=(pre_splitW hpre).1
 have hc:l.pre.holds [] { args:=args } = true:=(pre_splitW hpre).2
 obtain⟨d,r,rfl,h1,h2⟩:=hasAllW_cons hsh
 obtain rfl:=hasAllW_nil h2
 obtain⟨xs,rfl,h3⟩:=hasW_list h1
 obtain⟨ns,rfl⟩:=items_int h3
 have hlen:ns.length <= n:=by
  unfold OpenLaw.pre at hc
  have h4:(WTm.not (.lt (.lit (.int (n:Int))) (.len (.arg 0)))).holds [] { args:=[.list (ns.map .int)] } = true:=by
   have h4:=(holds_andW hc).1
   rw[hn] at h4
   exact h4
  have h5:=condW_of h4 (w_not (w_lt w_lit (w_len_list (w_arg rfl))))
  rw[length_map] at h5
  refine Nat.le_of_not_lt fun q=>?_
  have q':(n:Int) < ((ns.length:Nat):Int):=by omega
  first
   | (rw[decide_eq_true q'] at h5; exact absurd h5 (by decide))
   | (simp at h5; omega)
 cases hwl with
 | cons w1 w2 =>
  cases w2
  cases w1 with
  | list ho hall=>exact⟨_,_,ns,rfl,rfl,ho,Vl ns _ hall,hlen⟩
theorem Afi (l:OpenLaw) (args:List WData):l.row.toRowW.claim.post args (.bool true) args = true :=
 postW_of (r:=l.row.toRowW) (X:=(true == true))
  (show WShape.has [] (.bool true) .bool = true by first | rfl | decide | simp [WShape.has,WShape.arms,WShape.armsAll])
  (show (WTm.eq .res (.lit (.bool true))).value [] { args:=args,res:=some (.bool true),after:=args } = some (.bool (true == true)) from w_eq_bool (w_res rfl) w_lit) rfl
theorem attach_call {l:OpenLaw} {n:Nat} {q:Program} {loose:List Str} {XP:(Str->Option Value)->Heap->Prop} {YP:World->Heap->Prop} {d:DefRec}
  (hn:l.most = some n) (hdf:d.params.defaults = [])
  (call:∀ (w:World) (s₀ s₁:Shared) (mg mb:Str->Option Value) (fa:Addr) (o:Obj) (pm cd doc:Value) (a:Addr) (vs:List Value) (ns:List Int),
   Ground q loose [] XP w s₀ mg mb s₁.heap->YP w s₁.heap ->
   s₁.heap.get? fa = some o->o.data = .func (docDef d.name d.params d.body d.scope pm cd doc)->s₁.heap.CodeRec cd d.name->mg d.name = some (.ref fa) ->
   s₁.heap.get? a = some { cls:=.type "list",data:=.seq vs.toArray }->IntsAre vs ns->ns.length <= n->s₁.gens = #[] ->
   codeAny (model l.prog w) callerA (.call (.ref fa) ⟨[.ref a],[]⟩) (fun r s'=>r = .ok (.ret (.bool true))/\OldK s₁.heap s'.heap/\s'.os = s₁.os/\AllBare s'.gens) s₁) :
  WalkO q loose XP YP l.row.toRowW d [] (fun f vs=>PySem.call f vs):=by
 intro w s₀ s₁ mg mb G Y fa o pm cd doc dV kV ho hd hcd hD hmg hg args vals as hpre hlay hrd hwl hlo
 obtain rfl:dV = .none:=Dflts.none hD hdf
 obtain rfl:kV = .none:=Dflts.noKw hD
 obtain⟨a,vs,ns,rfl,rfl,hobj,hints,hlen⟩:=Afe hn hpre hwl
 refine enter_call (codeAny_mono (call w s₀ s₁ mg mb fa o pm cd doc a vs ns G Y ho (fd_plain hd) hcd hmg hobj hints hlen hg) fun r s' hq=>?_)
 obtain⟨rfl,h2,h3,h4⟩:=hq
 exact⟨.inl ⟨.bool true,.bool true,[],rfl,fun _=>rfl,.bool true,Afi l _,fun _=>⟨Pairwise.nil,fun _ hm=>(nomatch hm)⟩⟩,h2,h3,h4⟩
section
variable {prog:Program} {w:World} {A:Around} {E:Value->Shared->Prop} {s:Shared} {K:Frag}
end
end Att
namespace L2
open PySem PySem.Spec PyProof.Rows
theorem Wr:∀ {vs:List Value} {ns:List Int},IntsAre vs ns->Vals (ns.map V.int) vs
 | _,_,.nil=>.nil
 | _,_,.cons n t h=>.cons ⟨t,rfl⟩ (Wr h)
def Agb (H:Hp):Prop:=∀ b,H b = none\/∃ o xs,H b = some (.frz o (.lst xs))
theorem Afy {P:Program} {w:World} {K:Frag} {mg mb:Str->Option Value} {CX:CXT} {k:Nat} {fa a:Addr} {fd:FuncData} {x:Str} {sp:Sp} {s₁:Shared} {vs:List Value} {ns:List Int}
  (KX:K.In s₁.heap) (hns:s₁.heap.Ns mainGlobals mg) (hb:s₁.heap.Ns builtinsNs mb) (hbb:∀ x:Str,x ≠ "__name__"->mb x = bootBuiltins x) (hlim:s₁.heap.NoLimit) (hg:s₁.gens = #[])
  (ha:s₁.heap.get? a = some { cls:=.type "list",data:=.seq vs.toArray }) (hi:IntsAre vs ns) (hl:ns.length <= sizeLine) (hr:Room k callerA)
  (F:∀ base:Heap,K.In base->base.Ns mainGlobals mg->FnOk P w K mg base CX k fa fd [x] sp) (hbind:∀ (s:Shared) (u:Value),BindsTo s fd ⟨[u],[]⟩ [(x,u)])
  (hsp:∀ H:Hp,Agb H->SqL K H a (ns.map V.int)->sp [.ref a] H (fun v _=>v = .bl true) fun _ _ _=>False)
  (hCX:∀ H e s',CX [] H s₁ (fun _ _ _=>False) e s'->False) :
  codeAny (model P w) callerA (.call (.ref fa) ⟨[.ref a],[]⟩) (fun r s'=>r = .ok (.ret (.bool true))/\OldK s₁.heap s'.heap/\s'.os = s₁.os/\AllBare s'.gens) s₁:=by
 have rv:=Wr hi
 have lenV:=hi.length
 -- from an abstract heap in which nothing but the script may be tracked
 have core:∀ H:Hp,Agb H->SqL K H a (ns.map V.int)->HOk P w H s₁.heap->(∀ b,H b ≠ none->b = a)->(H a ≠ none->K.lookup a = none) ->
   codeAny (model P w) callerA (.call (.ref fa) ⟨[.ref a],[]⟩) (fun r s'=>r = .ok (.ret (.bool true))/\OldK s₁.heap s'.heap/\s'.os = s₁.os/\AllBare s'.gens) s₁:=by
  intro H hO hS hok hA hK
  have base_of:∀ {b:Addr} {o:Obj},s₁.heap.get? b = some o->H b = none->(Rj s₁.heap H).get? b = some o:=fun e n=>Agc e n
  have noA:∀ {b:Addr} {o:Obj} {es:Array DictEntry} {ep:Nat},s₁.heap.get? b = some o->o.data = .dict es ep->H b = none:=fun {b o es ep} e d=>by
   cases q:H b with
   | none=>rfl
   | some u =>
    have e':b = a:=hA b (by rw[q]; simp)
    subst e'
    rw[ha] at e; cases e
    have d':Data.seq vs.toArray _ = Data.dict es ep:=d
    cases d'
  have nsK:∀ {b:Addr} {m:Str->Option Value},s₁.heap.Ns b m->(Rj s₁.heap H).Ns b m:=fun {b m} ⟨o,es,ep,e,d,r⟩=>⟨o,es,ep,base_of e (noA e d),d,r⟩
  have hKb:K.In (Rj s₁.heap H):=fun b o e=>base_of (KX b o e) (by
   cases q:H b with
   | none=>rfl
   | some u =>
    have e':b = a:=hA b (by rw[q]; simp)
    subst e'
    rw[hK (by rw[q]; simp)] at e; cases e)
  have hM:Mod K mg (Rj s₁.heap H):=⟨hKb,nsK hns,⟨mb,nsK hb,hbb⟩,let ⟨mc,h1,h2⟩:=hlim; ⟨mc,nsK h1,h2⟩⟩
  have e0:Env0 P w K mg (Rj s₁.heap H) callerA [] s₁ H:=⟨rfl,hM,fun b o e=>Air e,Nat.le_of_eq (AeA _ _),trivial,fun b hb=>absurd (show b ∈ ([]:List Addr) from hb) (by simp),hok,.of_eq hg⟩
  refine codeAny_mono ((F _ hKb (nsK hns)).run callerA [] s₁ H ⟨[.ref a],[]⟩ [.ref a] [.ref a] _ _ hr e0 (hbind s₁ (.ref a)) (.cons rfl .nil) (hsp H hO hS)) fun r s' h=>?_
  cases r with
  | error e=>exact (hCX H e s' h).elim
  | ok fl =>
   cases fl with
   | next=>exact False.elim h
   | brk=>exact False.elim h
   | cont=>exact False.elim h
   | ret u =>
    obtain⟨v,H',os,bare,un,hok',r',q⟩:=h
    have q':v = .bl true:=q
    subst q'
    obtain rfl:u = Value.bool true:=r'
    refine⟨rfl,OldK.of_keep fun b o e=>?_,os,bare⟩
    cases q:H b with
    | none=>exact un.keep b o e q (by intro z; exact absurd (show b ∈ ([]:List Addr) from z) (by simp)) (by simp)
    | some u =>
     rcases hO b with z | ⟨ob,xs,z⟩
     ·rw[q] at z; cases z
     ·have z2:=un.frzs b ob _ z
      obtain⟨e1,_⟩:=hok b _ z
      obtain⟨e2,_⟩:=hok' b _ z2
      rw[e] at e1; cases e1
      exact e2
 cases hk:K.lookup a with
 | some o =>
  -- the script is one of the module's own objects
  have e:=KX a o hk
  rw[ha] at e
  cases e
  refine core (fun _=>none) (fun _=>.inl rfl) (.inr ⟨_,vs.toArray,_,hk,rfl,rfl,rfl,by rw[size_toArray,lenV]; exact hl,by simpa using rv⟩) (fun b u z=>by have z':(none:Option HO) = some u:=z; cases z') (fun b z=>absurd rfl z) fun z=>absurd rfl z
 | none =>
  refine core (fun b=>if b = a then some (.frz { cls:=.type "list",data:=.seq vs.toArray } (.lst (ns.map V.int))) else none) (fun b=>?_) (.inl (.inr ⟨{ cls:=.type "list",data:=.seq vs.toArray },if_pos rfl⟩)) (fun b u z=>?_) (fun b z=>?_) fun _=>hk
  ·by_cases hb:b = a
   ·exact .inr ⟨_,_,if_pos hb⟩
   ·exact .inl (if_neg hb)
  ·by_cases hb:b = a
   ·have z':=(if_pos hb).symm.trans z
    cases z'
    subst hb
    exact⟨ha,by rw[length_map]; exact hl,vs,_,rv,ha⟩
   ·have z':=(if_neg hb).symm.trans z
    cases z'
  ·by_cases hb:b = a
   ·exact hb
   ·exact absurd (if_neg hb) z
theorem Aoo {l:PySem.W.OpenLaw} {n k:Nat} {q:Program} {loose:List Str} {XP:(Str->Option Value)->Heap->Prop} {YP:World->Heap->Prop} {d:DefRec} {K:Params->Frag} {CX:World->CXT} {sp:World->Sp} {x:Str}
  (hn:l.most = some n) (hn2:n <= sizeLine) (hdf:d.params.defaults = []) (hr:Room k callerA)
  (hY:∀ (w:World) (h:Heap),YP w h->(K w.params).In h)
  (F:∀ (w:World) (mg:Str->Option Value) (fa:Addr) (h:Heap),(K w.params).In h->h.Ns mainGlobals mg->mg d.name = some (.ref fa) ->
   ∃ fd:FuncData,(∀ (s:Shared) (u:Value),BindsTo s fd ⟨[u],[]⟩ [(x,u)]) /\
    ∀ base:Heap,(K w.params).In base->base.Ns mainGlobals mg->FnOk l.prog w (K w.params) mg base (CX w) k fa fd [x] (sp w))
  (hsp:∀ (w:World) (H:Hp) (a:Addr) (ns:List Int),ns.length <= n->Agb H->SqL (K w.params) H a (ns.map V.int)->sp w [.ref a] H (fun v _=>v = .bl true) fun _ _ _=>False)
  (hCX:∀ (w:World) (H:Hp) (s:Shared) (e:Value) (s':Shared),CX w [] H s (fun _ _ _=>False) e s'->False) :
  PySem.W.WalkO q loose XP YP l.row.toRowW d [] (fun f vs=>PySem.call f vs):=by
 refine Att.attach_call hn hdf fun w s₀ s₁ mg mb fa o pm cd doc a vs ns G Y ho hd hcd hmg hobj hints hlen hg=>?_
 have KX:=hY w _ Y
 obtain⟨fd,hb,hF⟩:=F w mg fa _ KX G.T.g hmg
 exact Afy KX G.T.g G.T.b G.T.builtins G.T.nolimit hg hobj hints (Nat.le_trans hlen hn2) hr hF hb (fun H hO hS=>hsp w H a ns hlen hO hS) fun H e s'=>hCX w H s₁ e s'
def Wc (s:Stmt) (j:Nat):Stmt:=match s with
 | .ClassDef _ _ _ body _ _ _ _ _ _ _=>body.getD j (.Pass ⟨0,0,0,0⟩)
 | _=>.Pass ⟨0,0,0,0⟩
def Jl (s:Stmt):Arguments:=match s with
 | .FunctionDef _ a _ _ _ _ _ _ _ _=>a
 | _=>{ posonlyargs:=[],args:=[],vararg:=none,kwonlyargs:=[],kw_defaults:=[],kwarg:=none,defaults:=[] }
def Gu (s:Stmt):List Stmt:=match s with
 | .FunctionDef _ _ b _ _ _ _ _ _ _=>b
 | _=>[]
def Bs (s:Stmt):Scope:=match s with
 | .FunctionDef _ _ _ _ _ _ sc _ _ _=>sc
 | _=>{ kind:=.function,names:=[],isGenerator:=false,isCoroutine:=false }
abbrev CX0:CXT:=fun _ _ _ _ _ _=>False
abbrev E0:XK:=fun _ _ _=>False
theorem Bx {X:Cx}:Qu CX0 X E0:=fun _ _ _ _ _ _ _ h=>h.elim
structure Fun (K:Frag) (x qual:Str) (st:Stmt) (f:Addr) (fd:FuncData):Prop where
 ex:∃ (oc:Value) (od:Option Addr) (kV doc pm:Value) (an:Option Addr) (cdv ct:Value) (osl:Array (Option Value)),
  fd = fnOf x qual (Jl st) (Gu st) (Bs st) .none kV doc pm an cdv ct/\K.lookup f = some ⟨oc,od,.func fd,osl⟩/\codeIn K cdv qual = true
 kp:keepIn K (.ref f) = true
section
variable {P:Program} {w:World} {K:Frag} {mg:Str->Option Value} {base:Heap}
theorem Fun.ok {x qual:Str} {st:Stmt} {f:Addr} {fd:FuncData} {N ps:List Str} {k:Nat} {sp:Sp} (F:Fun K x qual st f fd) (S:Cc N ps (Bs st)) (len:∀ vs H Q E,sp vs H Q E->vs.length = ps.length)
  (hbody:∀ (cdv:Value) (A:Around) (outer:List Env) (s:Shared) (H:Hp) (vs:List V) (Q:VK) (E:XK),Room k (A.deeper (envOfC qual (Bs st) s.heap.objs.size f cdv))->sp vs H Q E ->
   ∃ t,PSs (Sn CX0 P w K mg base N qual (Bs st) f cdv A outer s H E).nox (Gu st) t/\t { nx:=fun _ H'=>Q .non H',rt:=Q } (Nj N vs) H):FnOk P w K mg base CX0 (k + 1) f fd ps sp:=by
 obtain⟨oc,od,kV,doc,pm,an,cdv,ct,osl,rfl,lk,hcd⟩:=F.ex
 refine AhI lk hcd S len fun A outer s H vs Q E hr hsp=>?_
 obtain⟨t,h,q⟩:=hbody cdv A outer s H vs Q E hr hsp
 exact⟨t,h.nox,q⟩
theorem Fun.binds {x qual:Str} {st:Stmt} {f:Addr} {fd:FuncData} {ps:List Str} (F:Fun K x qual st f fd)
  (h:∀ (kV doc pm:Value) (an:Option Addr) (cdv ct:Value) (us:List Value),us.length = ps.length->bindArgs (fnOf x qual (Jl st) (Gu st) (Bs st) .none kV doc pm an cdv ct) ⟨us,[]⟩ = pure (ps.zip us)):Binds K fd ps []:=by
 obtain⟨oc,od,kV,doc,pm,an,cdv,ct,osl,rfl,lk,hcd⟩:=F.ex
 exact .all (h kV doc pm an cdv ct)
theorem Cm {x qual:Str} {st:Stmt} {f:Addr} {oc:Value} {od an:Option Addr} {osl:Array (Option Value)} {kV doc pm cdv ct:Value} (l:K.lookup f = some ⟨oc,od,.func (fnOf x qual (Jl st) (Gu st) (Bs st) .none kV doc pm an cdv ct),osl⟩)
  (c:codeIn K cdv qual = true) (k:keepIn K (.ref f) = true):Fun K x qual st f (fnOf x qual (Jl st) (Gu st) (Bs st) .none kV doc pm an cdv ct):=⟨⟨oc,od,kV,doc,pm,an,cdv,ct,osl,rfl,l,c⟩,k⟩
end
theorem Cr {A:Around} {k:Nat} (hr:Room k A):A.units + 1 < cLine:=Nat.lt_of_le_of_lt (Nat.add_le_add_left (by decide:1 <= 64) _) hr.units
theorem Nd {n:Nat} (h:n <= 1000):n < sizeLine:=Nat.lt_of_le_of_lt h (by decide)
section
variable {X:Cx}
theorem pv (i:Nat) {x:Str} {pos:Pos} (hN:X.N[i]? = some x:=by rfl) (hv:Vis X.env.scope x:=by first | exact Or.inl rfl | exact Or.inr (Or.inl rfl) | exact Or.inr (Or.inr rfl)) (hd:(x == ("__debug__" : Str)) = false:=by decide)
  (hcd:(x == ("__classdict__" : Str)) = false:=by decide):PE X (.Name x pos) (Fj i):=Akm hN hv hd hcd
end
theorem Ni {A B:Prop} (h:B):if false = true then A else B:=by
 rw[if_neg Bool.false_ne_true]
 exact h
theorem Lh {A B:Prop} (h:A):if true = true then A else B:=by
 rw[if_pos rfl]
 exact h
theorem Ze {c A B:Prop} [Decidable c] (h1:c->A) (h2:¬ c->B):if c then A else B:=by
 by_cases h:c
 ·rw[if_pos h]
  exact h1 h
 ·rw[if_neg h]
  exact h2 h
def Same (H H':Hp):Prop:=∀ b o,H b = some o->H' b = some o
theorem Same.refl (H:Hp):Same H H:=fun _ _ h=>h
theorem Same.trans {H H1 H2:Hp} (a:Same H H1) (b:Same H1 H2):Same H H2:=fun c o h=>b c o (a c o h)
theorem Same.free {H H':Hp} (e:Same H H') {l:Addr} (h:H' l = Option.none):H l = Option.none:=by
 cases q:H l with
 | none=>rfl
 | some o =>
  rw[e l o q] at h
  cases h
theorem Same.seq {K:Frag} {H H':Hp} {a:Addr} {xs:List V} (e:Same H H') (h:SqL K H a xs):SqL K H' a xs:=by
 rcases h with (h | ⟨o,h⟩) | h
 ·exact .inl (.inl (e _ _ h))
 ·exact .inl (.inr ⟨o,e _ _ h⟩)
 ·exact .inr h
section
variable {κ:Type} [DecidableEq κ]
theorem AbL {kvs:List (κ × V)} {k:κ} {v:V} (h:Cs kvs k = some v):k ∈ kvs.map (·.1):=by
 have q:(kvs.any fun kv=>decide (kv.1 = k)) = true:=by
  rw[Rc,h]
  all_goals rfl
 obtain⟨p,hp,e⟩:=any_eq_true.mp q
 exact mem_map.mpr ⟨p,hp,of_decide_eq_true e⟩
end
section
variable {X:Cx}
theorem Gy:Lw X (.builtin "isinstance") (fun vs H Q=>∃ x n t b,vs = [x,.ty n]/\Gk X.K H x t/\kitOne X.K t (.type n) = some b/\Q (.bl b) H):=by
 intro pins s σ H vs us Q I r h
 obtain⟨x,n,t,b,rfl,ty,e,q⟩:=h
 obtain⟨u,w',rfl,rx,ry⟩:=Acf r
 cases ry
 exact Aea I rx ty e fun tk=>⟨.bl b,H,I.tok tk,rfl,q⟩
end
theorem Qh {K:Frag} {T S:String} {b:Bool} (h:(if (Value.type T == Value.type S) = true then some true else if kitMeta S = true then (fastBuiltinMro T).map (·.contains (Value.type S)) else none) = some b):kitOne K (.type T) (.type S) = some b:=h
theorem AaT {K:Frag}:kitOne K (.type "int") (.type "int") = some true:=Qh (by decide +kernel)
theorem Za {K:Frag}:kitOne K (.type "int") (.type "bool") = some false:=Qh (by decide +kernel)
theorem AaQ {K:Frag}:kitOne K (.type "str") (.type "str") = some true:=Qh (by decide +kernel)
theorem Xe {K:Frag}:kitOne K (.type "list") (.type "list") = some true:=Qh (by decide +kernel)
theorem AaV {K:Frag}:kitOne K (.type "tuple") (.type "tuple") = some true:=Qh (by decide +kernel)
inductive EqD (K:Frag) (H:Hp):Nat->V->V->Bool->Prop where
 | flat {n:Nat} {x y:V} (hx:Lb x = true) (hy:Lb y = true):EqD K H n x y (eqV x y)
 | same {n:Nat} (a:Addr):EqD K H n (.ref a) (.ref a) true
 | lst {n:Nat} {a b:Addr} {xs ys:List V} (e:Nat->Bool) (ne:a ≠ b) (hx:SqL K H a xs) (hy:SqL K H b ys) (hl:xs.length = ys.length)
   (he:∀ (i:Nat) (x y:V),xs[i]? = some x->ys[i]? = some y->EqD K H n x y (e i)):EqD K H (n + 1) (.ref a) (.ref b) ((range xs.length).all e)
 | lstN {n:Nat} {a b:Addr} {xs ys:List V} (ne:a ≠ b) (hx:SqL K H a xs) (hy:SqL K H b ys) (hl:¬ xs.length = ys.length):EqD K H (n + 1) (.ref a) (.ref b) false
 | tup {n:Nat} {a b:Addr} {xs ys:List V} (e:Nat->Bool) (ne:a ≠ b) (hx:SqT K H a xs) (hy:SqT K H b ys)
   (he:∀ (i:Nat) (x y:V),xs[i]? = some x->ys[i]? = some y->EqD K H n x y (e i)):EqD K H (n + 1) (.ref a) (.ref b) ((range (min xs.length ys.length)).all e && xs.length == ys.length)
section
variable {X:Cx} {pins:List (Addr × Obj)} {σ:St} {H:Hp} {s:Shared}
theorem Jw (A:Around):A.in1.units = A.units + 1:=rfl
theorem Oi {xs ys:List V} {us vs:List Value} {R:Nat->Value->Value->Prop} (r1:Vals xs us) (r2:Vals ys vs)
  (h:∀ (i:Nat) (x y:V) (u v:Value),xs[i]? = some x->ys[i]? = some y->RelV x u->RelV y v->R i u v) :
  ∀ j (h1:j < us.toArray.size) (h2:j < vs.toArray.size),R j us.toArray[j] vs.toArray[j]:=by
 intro j h1 h2
 have h1':j < us.length:=by simpa using h1
 have h2':j < vs.length:=by simpa using h2
 have l1:j < xs.length:=by rw[r1.length]; exact h1'
 have l2:j < ys.length:=by rw[r2.length]; exact h2'
 obtain⟨u,eu,ru⟩:=r1.get (i:=j) (x:=xs[j]) (by simp [l1])
 obtain⟨v,ev,rv⟩:=r2.get (i:=j) (x:=ys[j]) (by simp [l2])
 have eu':us[j] = u:=by simpa [h1'] using eu
 have ev':vs[j] = v:=by simpa [h2'] using ev
 have q:=h j xs[j] ys[j] u v (by simp [l1]) (by simp [l2]) ru rv
 simpa [eu',ev'] using q
theorem EqD.at (I:Inv X pins σ H s):∀ {n:Nat} {x y:V} {b:Bool},EqD X.K H n x y b->∀ {A:Around} {u v:Value},A.units + n < cLine->RelV x u->RelV y v->SeqAt.EqAt A s u v b:=by
 intro n x y b h
 induction h with
 | flat hx hy=>intro A u v _ ru rv; exact AdS ru rv hx hy
 | same a=>intro A u v _ ru rv; cases ru; cases rv; exact SeqAt.EqAt.same _
 | @lst n a b xs ys e ne hx hy hl he ih =>
  intro A u v hu ru rv
  cases ru; cases rv
  obtain⟨us,r1,p1,_⟩:=I.list hx
  obtain⟨vs,r2,p2,_⟩:=I.list hy
  have es:us.toArray.size = xs.length:=by rw[size_toArray]; exact r1.length.symm
  have es2:us.toArray.size = vs.toArray.size:=by rw[es,size_toArray,<- r2.length]; exact hl
  refine SeqAt.EqAt.of_refs ne ?_
  rw[<- es]
  exact SeqAt.RcAt.lists p1.isList p2.isList es2 (by omega) (Oi r1 r2 fun i x y u v hx hy ru rv=>ih i x y hx hy (by rw[Jw]; omega) ru rv)
 | @lstN n a b xs ys ne hx hy hl =>
  intro A u v hu ru rv
  cases ru; cases rv
  obtain⟨us,r1,p1,_⟩:=I.list hx
  obtain⟨vs,r2,p2,_⟩:=I.list hy
  refine SeqAt.EqAt.of_refs ne (SeqAt.RcAt.lists_lengths p1.isList p2.isList ?_ (by omega))
  rw[size_toArray,size_toArray,<- r1.length,<- r2.length]
  simpa using hl
 | @tup n a b xs ys e ne hx hy he ih =>
  intro A u v hu ru rv
  cases ru; cases rv
  obtain⟨us,r1,p1,_⟩:=I.tuple hx
  obtain⟨vs,r2,p2,_⟩:=I.tuple hy
  have es:us.toArray.size = xs.length:=by rw[size_toArray]; exact r1.length.symm
  have es2:vs.toArray.size = ys.length:=by rw[size_toArray]; exact r2.length.symm
  refine SeqAt.EqAt.of_refs ne ?_
  rw[<- es,<- es2]
  exact SeqAt.RcAt.tuples p1 p2 (by omega) (Oi r1 r2 fun i x y u v hx hy ru rv=>ih i x y hx hy (by rw[Jw]; omega) ru rv)
def LEq (K:Frag) (H:Hp) (xs ys:List V) (k:Bool):Prop :=
 (¬ xs.length = ys.length/\k = false)\/(xs.length = ys.length/\∃ e:Nat->Bool,(∀ (i:Nat) (x y:V),xs[i]? = some x->ys[i]? = some y->EqD K H 40 x y (e i))/\k = (range xs.length).all e)
def AaG (K:Frag) (neg:Bool):R2:=fun x y H Q=>∃ a b xs ys k,x = .ref a/\y = .ref b/\SqL K H a xs/\SqL K H b ys/\LEq K H xs ys k/\Q (.bl (if neg then !k else k)) H
theorem Akl (hu:X.A.units + 64 < cLine):OpR X (compareOp .Eq) (AaG X.K false):=by
 intro pins s σ H x y v u Q I rx ry h
 obtain⟨a,b,xs,ys,k,rfl,rfl,hx,hy,hk,q⟩:=h
 cases rx; cases ry
 obtain⟨us,r1,p1,_⟩:=I.list hx
 obtain⟨vs,r2,p2,_⟩:=I.list hy
 have fin:EP X pins σ Q (.bool k) s:=⟨.bl k,H,I,rfl,q⟩
 rcases hk with ⟨hl,rfl⟩ | ⟨hl,e,he,rfl⟩
 ·refine SeqAt.eq_list_lengthsAt p1.isList p2.isList ?_ (by omega) fin
  rw[size_toArray,size_toArray,<- r1.length,<- r2.length]
  simpa using hl
 ·have es:us.toArray.size = xs.length:=by rw[size_toArray]; exact r1.length.symm
  have es2:us.toArray.size = vs.toArray.size:=by rw[es,size_toArray,<- r2.length]; exact hl
  rw[<- es] at fin
  exact SeqAt.eq_listAt p1.isList p2.isList es2 (by omega) (Oi r1 r2 fun i x y u v hx hy ru rv=>(he i x y hx hy).at I (by rw[Jw]; omega) ru rv) fin
theorem AkF (hu:X.A.units + 64 < cLine):OpR X (compareOp .NotEq) (AaG X.K true):=by
 intro pins s σ H x y v u Q I rx ry h
 obtain⟨a,b,xs,ys,k,rfl,rfl,hx,hy,hk,q⟩:=h
 cases rx; cases ry
 obtain⟨us,r1,p1,_⟩:=I.list hx
 obtain⟨vs,r2,p2,_⟩:=I.list hy
 have fin:EP X pins σ Q (.bool (!k)) s:=⟨.bl (!k),H,I,rfl,q⟩
 rcases hk with ⟨hl,rfl⟩ | ⟨hl,e,he,rfl⟩
 ·refine SeqAt.RcNeAt.lists_lengths p1.isList p2.isList ?_ (by omega) _ _ _ _ fin
  rw[size_toArray,size_toArray,<- r1.length,<- r2.length]
  simpa using hl
 ·have es:us.toArray.size = xs.length:=by rw[size_toArray]; exact r1.length.symm
  have es2:us.toArray.size = vs.toArray.size:=by rw[es,size_toArray,<- r2.length]; exact hl
  rw[<- es] at fin
  exact SeqAt.RcNeAt.lists p1.isList p2.isList es2 (by omega) (Oi r1 r2 fun i x y u v hx hy ru rv=>(he i x y hx hy).at I (by rw[Jw]; omega) ru rv) _ _ _ _ fin
def Agi (K:Frag) (neg:Bool):R2:=fun x y H Q=>∃ a b xs ys e,x = .ref a/\y = .ref b/\SqT K H a xs/\SqT K H b ys/\(∀ (i:Nat) (x y:V),xs[i]? = some x->ys[i]? = some y->EqD K H 40 x y (e i)) /\
 Q (.bl (if neg then !((range (min xs.length ys.length)).all e && xs.length == ys.length) else ((range (min xs.length ys.length)).all e && xs.length == ys.length))) H
theorem Ajp (hu:X.A.units + 64 < cLine):OpR X (compareOp .Eq) (Agi X.K false):=by
 intro pins s σ H x y v u Q I rx ry h
 obtain⟨a,b,xs,ys,e,rfl,rfl,hx,hy,he,q⟩:=h
 cases rx; cases ry
 obtain⟨us,r1,p1,_⟩:=I.tuple hx
 obtain⟨vs,r2,p2,_⟩:=I.tuple hy
 have es:us.toArray.size = xs.length:=by rw[size_toArray]; exact r1.length.symm
 have es2:vs.toArray.size = ys.length:=by rw[size_toArray]; exact r2.length.symm
 have fin:EP X pins σ Q (.bool ((range (min xs.length ys.length)).all e && xs.length == ys.length)) s:=⟨.bl _,H,I,rfl,q⟩
 rw[<- es,<- es2] at fin
 exact SeqAt.eq_tupleAt p1 p2 (by omega) (Oi r1 r2 fun i x y u v hx hy ru rv=>(he i x y hx hy).at I (by rw[Jw]; omega) ru rv) fin
end
section
variable {X:Cx} {pins:List (Addr × Obj)} {σ:St} {H:Hp} {s:Shared} {a:Addr}
def Frb:HO->Prop
 | .dK _=>True
 | .dT _=>True
 | _=>False
theorem Frb.notup {u:HO} (h:Frb u) (xs:List V):u ≠ .tup xs:=by intro e; subst e; exact h
theorem Frb.nofrz {u:HO} (h:Frb u) (o:Obj) (v:HO):u ≠ .frz o v:=by intro e; subst e; exact h
theorem Frb.noown {u:HO} (h:Frb u) (x:Addr):u ≠ .own x:=by intro e; subst e; exact h
theorem Frb.notbl {u:HO} (h:Frb u) (ps:Array Value):u ≠ .tbl ps:=by intro e; subst e; exact h
def Ac2 (X:Cx) (a:Addr):Prop:=(∀ xs,X.H₀ a ≠ some (.tup xs))/\(∀ o v,X.H₀ a ≠ some (.frz o v))/\∀ ps,X.H₀ a ≠ some (.tbl ps)
theorem Inv.free0 (I:Inv X pins σ H s) {u:HO} (hu:Frb u) (e:H a = some u):Ac2 X a:=by
 refine⟨fun xs q=>?_,fun o v q=>?_,fun ps q=>?_⟩
 ·have:=I.base.tups a xs q; rw[e] at this; exact hu.notup xs (Option.some.inj this)
 ·have:=I.base.frzs a o v q; rw[e] at this; exact hu.nofrz o v (Option.some.inj this)
 ·obtain⟨m,this⟩:=I.base.tbls a ps q; rw[e] at this; exact hu.notbl _ (Option.some.inj this)
theorem Inv.swap {u v:HO} (I:Inv X pins σ H s) (hu:∀ x,u ≠ .own x) (hu2:∀ xs,u ≠ .tup xs) (e:H a = some u) (f:Ac2 X a) (ok:ObjOk X.prog X.w (upd H a v) s.heap a v):Inv X pins σ (upd H a v) s:=by
 have nown:∀ b x,H b = some (.own x)->b ≠ a:=fun b x q z=>by subst z; rw[e] at q; exact hu x (Option.some.inj q)
 have ntup:∀ b xs,H b = some (.tup xs)->b ≠ a:=fun b xs q z=>by subst z; rw[e] at q; exact hu2 xs (Option.some.inj q)
 have nnone:∀ b,H b = none->b ≠ a:=fun b q z=>by subst z; rw[e] at q; cases q
 refine⟨I.ok,I.os,I.bare,⟨I.base.keep,I.base.slot,fun b o h1 h2 h3=>?_,I.base.there,fun b xs q=>?_,fun b o w q=>?_,fun b ps q=>?_⟩,I.loc,I.cell,?_,fun x c q=>?_,fun p hp=>?_,fun b o q=>?_,I.len⟩
 ·have q:=I.base.free b o h1 h2 h3
  rw[Bh (nnone b q)]; exact q
 ·have h:b ≠ a:=fun z=>by subst z; exact f.1 xs q
  rw[Bh h]; exact I.base.tups b xs q
 ·have h:b ≠ a:=fun z=>by subst z; exact f.2.1 o w q
  rw[Bh h]; exact I.base.frzs b o w q
 ·have h:b ≠ a:=fun z=>by subst z; exact f.2.2 ps q
  rw[Bh h]; exact I.base.tbls b ps q
 ·rw[Bh (nnone _ I.free)]; exact I.free
 ·rw[Bh (nnone _ (I.freeC x c q))]; exact I.freeC x c q
 ·obtain⟨h1,h2,h3⟩:=I.pin p hp
  exact⟨h1,by rw[Bh (nnone _ h2)]; exact h2,h3⟩
 ·by_cases hb:b = a
  ·subst hb; rw[Bl] at q; cases q; exact ok
  ·rw[Bh hb] at q
   exact (I.hok b o q).stay (fun _ _ _ z=>z) (fun c z=>by rw[Bh (nown c b z)]; exact z) fun c xs z=>by rw[Bh (ntup c xs z)]; exact z
theorem ObjOk.heap {P:Program} {w:World} {h:Heap} {H':Hp} {u:HO} (x:ObjOk P w H h a u) (hd:∀ b xs,H b = some (.tup xs)->H' b = some (.tup xs)) (ho:∀ b,H b = some (.own a)->H' b = some (.own a)):ObjOk P w H' h a u :=
 x.stay (fun _ _ _ z=>z) ho hd
theorem Inv.freeze {u:HO} (I:Inv X pins σ H s) (hu:Frb u) (e:H a = some u):∃ o,Inv X pins σ (upd H a (.frz o u)) s:=by
 have ok:=I.hok a u e
 obtain⟨o,ho⟩:∃ o,s.heap.get? a = some o:=by
  cases u with
  | dK kvs=>obtain⟨_,_,_,_,o,_,_,h,_⟩:=ok; exact⟨o,h⟩
  | dT kvs=>obtain⟨_,_,_,_,o,_,_,h,_⟩:=ok; exact⟨o,h⟩
  | _=>exact hu.elim
 refine⟨o,I.swap (fun x=>hu.noown x) (fun xs=>hu.notup xs) e (I.free0 hu e) ⟨ho,ok.heap (fun b xs q=>?_) fun b q=>?_⟩⟩
 ·rw[Bh (fun z=>by subst z; rw[e] at q; exact hu.notup xs (Option.some.inj q))]; exact q
 ·rw[Bh (fun z=>by subst z; rw[e] at q; exact hu.noown _ (Option.some.inj q))]; exact q
theorem Inv.thaw {u:HO} {o:Obj} (I:Inv X pins σ H s) (f:Ac2 X a) (e:H a = some (.frz o u)):Inv X pins σ (upd H a u) s:=by
 obtain⟨ho,ok⟩:=(show ObjOk X.prog X.w H s.heap a (.frz o u) from I.hok a _ e)
 refine I.swap (by intro x z; cases z) (by intro xs z; cases z) e f (ok.heap (fun b xs q=>?_) fun b q=>?_)
 ·rw[Bh (fun z=>by subst z; rw[e] at q; cases q)]; exact q
 ·rw[Bh (fun z=>by subst z; rw[e] at q; cases q)]; exact q
def Qs (a:Addr) (u:HO) (D:Ends):Ends where
 nx:=fun σ H=>∃ o,H a = some (.frz o u)/\D.nx σ (upd H a u)
 rt:=fun v H=>∃ o,H a = some (.frz o u)/\D.rt v (upd H a u)
 bk:=fun σ H=>∃ o,H a = some (.frz o u)/\D.bk σ (upd H a u)
 ct:=fun σ H=>∃ o,H a = some (.frz o u)/\D.ct σ (upd H a u)
def AcM (t:TS):TS:=fun D σ H=>∃ a u,Frb u/\H a = some u/\∀ o,t (Qs a u D) σ (upd H a (.frz o u))
theorem Vh {st:Stmt} {t:TS} (h:PS X st t):PS X st (AcM t):=by
 intro pins s σ H D I q
 obtain⟨a,u,hu,e,q⟩:=q
 have f:=I.free0 hu e
 obtain⟨o,I1⟩:=I.freeze hu e
 refine thn (h pins s σ _ _ I1 (q o)) fun fl s' hs=>?_
 cases fl with
 | next=>obtain⟨σ',H',I',o',e',q'⟩:=hs; exact⟨σ',_,I'.thaw f e',q'⟩
 | brk=>obtain⟨σ',H',I',o',e',q'⟩:=hs; exact⟨σ',_,I'.thaw f e',q'⟩
 | cont=>obtain⟨σ',H',I',o',e',q'⟩:=hs; exact⟨σ',_,I'.thaw f e',q'⟩
 | ret v=>obtain⟨x,σ',H',I',r,o',e',q'⟩:=hs; exact⟨x,σ',_,I'.thaw f e',r,q'⟩
end
def Itd (a:Addr) (o:Obj) (kvs:List (Key × V)):It :=
 ⟨fun i H=>H a = some (.frz o (.dK kvs))/\i < kvs.length,fun i H x H'=>H' = H/\∃ kv,kvs[i]? = some kv/\x = kV kv.1,fun i H=>H a = some (.frz o (.dK kvs))/\kvs.length <= i⟩
theorem AbH {P:Program} {w:World} {k:Key} {u:Value} (h:(Dq P w).is k u = true):RelV (kV k) u:=by
 rcases Fk h with ⟨i,t,rfl,rfl⟩ | ⟨x,t,rfl,rfl⟩
 ·exact⟨t,rfl⟩
 ·exact⟨t,rfl⟩
theorem Rb {P:Program} {w:World} {H:Hp} {h:Heap} {a:Addr} {o:Obj} {kvs:List (Key × V)} {es:Array DictEntry} {ep:Nat} (ok:HOk P w H h) (e:H a = some (.frz o (.dK kvs))) (hd:o.data = .dict es ep) :
  (a == sysModules) = false/\∃ vs,KV kvs vs/\h.DictAt (Dq P w) a vs ep:=by
 obtain⟨ho,_,hm,vs,r,o',es',ep',h1,h2,h3,h4⟩:=(show ObjOk P w H h a (.frz o (.dK kvs)) from ok a _ e)
 rw[ho] at h1
 cases h1
 rw[hd] at h3
 cases h3
 exact⟨hm,vs,r,o,es,ho,h2,hd,h4⟩
theorem AeL {P:Program} {w:World} {K:Frag} {tg:Expr} (a it:Addr) (o:Obj) (kvs:List (Key × V)) (es:Array DictEntry) (ep:Nat) (hd:o.data = .dict es ep) :
  Uj P w K tg (Itd a o kvs) [it] it (fun i h=>h.IsKeyIter it a i kvs.length ep) where
 mem:=by simp
 obj:=fun i h st b hb=>by
  have e:b = it:=by simpa using hb
  subst e
  obtain⟨o,e,c,d⟩:=st
  exact⟨o,e,fun v z=>by rw[d] at z; cases z⟩
 keep:=fun i h h' st k=>by
  obtain⟨o,e,r⟩:=st
  exact⟨o,k it (by simp) o e,r⟩
 item:=by
  intro X hP hw hK hc i pins s σ H E I hf st hg
  subst hP hw hK
  obtain⟨hz,hi⟩:=hg
  obtain⟨hm,vs,r,da⟩:=Rb I.hok hz hd
  have hl:kvs.length = vs.length:=Paired.length r
  obtain⟨f0,f1,f2,f3,f4,f5⟩:=hf it (by simp)
  have hiv:i < vs.length:=by omega
  have ek:(kvs[i]).1 = (vs[i]).1:=by
   have q:=KV.keys r
   have q1:=congrArg (fun l=>l[i]?) q
   simp only [getElem?_map,getElem?_eq_getElem hi,getElem?_eq_getElem hiv,Option.map_some,Option.some.injEq] at q1
   exact q1
  refine wpAny_pyNext_dict_item (k:=(vs[i]).1) (v:=(vs[i]).2) (kvs:=vs) (by rw[<- hl]; exact st) da (by rw[getElem?_eq_getElem hiv]) fun key h' hkey st' sb=>?_
  have I1:Inv X pins σ H { s with heap:=h' }:=I.turned (t':=s.toks) (fun b o hb e=>(sb.2 b hb).trans e) f0 f1 f3 f4 f5
  rw[<- hl] at st'
  obtain⟨o',e',c',d'⟩:=id st'
  exact⟨key,rfl,Ab1 (s:={ s with heap:=h' }) e' c' d' (by decide) ⟨kV (kvs[i]).1,H,I1,by rw[ek]; exact AbH hkey,⟨rfl,kvs[i],getElem?_eq_getElem hi,rfl⟩,st',fun b hb=>(hf b hb).1⟩⟩
 done:=by
  intro X hP hw hK hc i pins s σ H E I hf st hg
  subst hP hw hK
  obtain⟨hz,hi⟩:=hg
  obtain⟨hm,vs,r,da⟩:=Rb I.hok hz hd
  have hl:kvs.length = vs.length:=Paired.length r
  obtain⟨f0,f1,f2,f3,f4,f5⟩:=hf it (by simp)
  exact wpAny_pyNext_dict_end (kvs:=vs) (I.ok.hd hc) (by rw[<- hl]; exact st) da (getElem?_eq_none (by omega)) fun h' eb=>⟨rfl,I.turned (t':=s.toks) (fun b o hb e=>eb b o hb e) f0 f1 f3 f4 f5⟩
 self:=fun _ _ _ _ _ st h=>wpAny_pyIter_keyiter st h
section
variable {X:Cx} {tg:Expr}
def iDk (tl:TE):TI:=fun σ H R=>tl σ H fun x H1=>∃ a o kvs,x = .ref a/\H1 a = some (.frz o (.dK kvs))/\R (Itd a o kvs) H1
theorem Ud {l:Expr} {tl:TE} (hl:PE X l tl):PI X tg l (iDk tl):=by
 intro pins s σ H R I h
 refine thn (hl pins s σ H _ I h) fun v s1 ⟨x,H1,I1,r1,q1⟩=>?_
 obtain⟨a,o,kvs,e,hz,q⟩:=q1
 subst e
 cases r1
 obtain⟨ho,_,hm,vs,r,o',es,ep,h1,h2,h3,h4⟩:=(show ObjOk X.prog X.w H1 s1.heap a (.frz o (.dK kvs)) from I1.hok a _ hz)
 rw[ho] at h1
 cases h1
 have hl:kvs.length = vs.length:=Paired.length r
 refine wpAny_pyIter_dict (knd:=Dq X.prog X.w) (kvs:=vs) (ep:=ep) hm ⟨o,es,ho,h2,h3,h4⟩ ?_
 refine⟨s1.heap.objs.size,[s1.heap.objs.size],_,_,H1,rfl,I1.kept (t':=s1.toks) fun b o e=>get?_push_of_some _ e,AeL a _ o kvs es ep h3,⟨_,get?_push_size _ rfl,rfl,by rw[hl]; rfl⟩,fun b hb=>?_,q⟩
 have e:b = s1.heap.objs.size:=by simpa using hb
 subst e
 exact I1.fpOk (Nat.le_refl _) (I1.hok.fresh (Nat.le_refl _))
theorem Aec {a:Addr} {o:Obj} {kvs:List (Key × V)} {g:TG} {tb:TS} {D:Ends} {σ:St} {H:Hp} (Pv:Nat->St->Hp->Prop) (h0:Pv 0 σ H) (hl:∀ i σ H,i <= kvs.length->Pv i σ H->H a = some (.frz o (.dK kvs)))
  (hs:∀ i kv σ H,kvs[i]? = some kv->Pv i σ H->g (kV kv.1) σ H fun σ2 H2=>tb { D with nx:=Pv (i + 1),ct:=Pv (i + 1),bk:=D.nx } σ2 H2) (hd:∀ σ H,Pv kvs.length σ H->D.nx σ H) :
  ∃ W:Nat->Nat->St->Hp->Prop,(∃ m,W 0 m σ H)/\∀ i m σ H,W i m σ H ->
   ((Itd a o kvs).stop i H/\D.nx σ H)\/((Itd a o kvs).go i H/\∃ N:St->Hp->Prop,(∀ σ' H',N σ' H'->∃ m',m' < m/\W (i + 1) m' σ' H')/\∀ x H',(Itd a o kvs).yld i H x H'->g x σ H' fun σ2 H2=>tb { D with nx:=N,ct:=N,bk:=D.nx } σ2 H2):=by
 refine⟨fun i m σ H=>m = kvs.length - i/\i <= kvs.length/\Pv i σ H,⟨kvs.length,by simp,zero_le _,h0⟩,?_⟩
 rintro i m σ H ⟨rfl,hi,p⟩
 have q:=hl i σ H hi p
 by_cases hlt:i < kvs.length
 ·refine .inr ⟨⟨q,hlt⟩,Pv (i + 1),fun σ' H' p'=>⟨kvs.length - (i + 1),by omega,rfl,hlt,p'⟩,fun x H' y=>?_⟩
  obtain⟨e,kv,y1,y2⟩:=y
  subst e y2
  exact hs i kv σ _ y1 p
 ·have e:i = kvs.length:=by omega
  subst e
  exact .inl ⟨⟨q,Nat.le_refl _⟩,hd σ H p⟩
end
def Iti (a:Addr) (o:Obj) (kvs:List (Key × V)):It :=
 ⟨fun i H=>H a = some (.frz o (.dK kvs))/\i < kvs.length,fun i H x H'=>∃ t kv,H t = none/\kvs[i]? = some kv/\x = .ref t/\H' = upd H t (.tup [kV kv.1,kv.2]),fun i H=>H a = some (.frz o (.dK kvs))/\kvs.length <= i⟩
theorem AeX {κ:Type}:∀ {kvs:List (κ × V)} {vs:List (κ × Value)} {i:Nat} {kv:κ × V},KV kvs vs->kvs[i]? = some kv->∃ v,vs[i]? = some (kv.1,v)/\RelV kv.2 v
 | _,_,_,_,.nil,e=>by simp at e
 | _,(k',v') :: _,0,_,.cons r _,e=>by
  simp at e; subst e
  obtain⟨h1,h2⟩:=r
  exact⟨v',by simp [h1],h2⟩
 | _,_,i + 1,kv,.cons _ t,e=>by
  obtain⟨v,h1,h2⟩:=AeX (i:=i) (kv:=kv) t (by simpa using e)
  exact⟨v,by simpa using h1,h2⟩
theorem Ac1 {P:Program} {w:World} {K:Frag} {elts:List Expr} {x1:Nat} {tp:Pos} (a it:Addr) (o:Obj) (kvs:List (Key × V)) (es:Array DictEntry) (ep:Nat) (hd:o.data = .dict es ep) :
  Uj P w K (.Tuple elts x1 tp) (Iti a o kvs) [it] it (fun i h=>∃ ok ov,IsItemIter h it a i kvs.length ep ok ov) where
 mem:=by simp
 obj:=fun i h st b hb=>by
  have e:b = it:=by simpa using hb
  subst e
  obtain⟨ok,ov,e⟩:=st
  exact⟨_,e,fun v z=>nomatch z⟩
 keep:=fun i h h' st k=>by
  obtain⟨ok,ov,e⟩:=st
  exact⟨ok,ov,k it (by simp) _ e⟩
 item:=by
  intro X hP hw hK hc i pins s σ H E I hf st hg
  subst hP hw hK
  obtain⟨hz,hi⟩:=hg
  obtain⟨ok,ov,st⟩:=st
  obtain⟨hm,vs,r,da⟩:=Rb I.hok hz hd
  have hl:kvs.length = vs.length:=Paired.length r
  obtain⟨f0,f1,f2,f3,f4,f5⟩:=hf it (by simp)
  obtain⟨v,hv,rv⟩:=AeX (i:=i) (kv:=kvs[i]) r (getElem?_eq_getElem hi)
  have hit:it < s.heap.objs.size:=lt_size st
  have hne:s.heap.objs.size ≠ it:=Nat.ne_of_gt hit
  have hfr:H s.heap.objs.size = none:=I.hok.fresh (Nat.le_refl _)
  rw[hl] at st
  refine wpAny_pyNext_items_item st da hv fun key h' hkey ho hT hsz hk=>⟨_,rfl,?_⟩
  refine wpAny_letOwnedTupleGo_items (s:={ s with heap:=h' }) ho fun h2 he hs=>?_
  have hs2:∀ b,b ≠ it->h2.get? b = h'.get? b:=hs.2
  have kp:∀ b o,b ≠ it->s.heap.get? b = some o->h2.get? b = some o:=fun b o hb e=>(hs2 b hb).trans (hk b o hb e)
  have hT2:h2.get? s.heap.objs.size = some { cls:=.type "tuple",data:=.seq #[key,v] }:=(hs2 _ hne).trans hT
  have nt:∀ b u,H b = some u->b ≠ s.heap.objs.size:=fun b u e=>By e hfr
  rw[<- hl] at he
  refine⟨.ref s.heap.objs.size,upd H s.heap.objs.size (.tup [kV (kvs[i]).1,(kvs[i]).2]),?_,rfl,⟨_,_,hfr,getElem?_eq_getElem hi,rfl,rfl⟩,⟨_,_,he⟩,fun b hb=>?_⟩
  ·refine Inv.step (s:=s) (h':=h2) I (g':=s.gens) (d':=s.drawn) (t':=s.toks) (ch:=[it]) (fun b hb=>?_) (fun b o _ _ hc e _=>kp b o (fun z=>hc (by simp [z])) e) (fun b o _ _ hc e _=>⟨o.slots,kp b o (fun z=>hc (by simp [z])) e⟩)
    (fun b o hc e n=>by rw[Bh (ne_of_lt (lt_size e))]; exact n) (fun b o hc e=>⟨o,kp b o (fun z=>hc (by simp [z])) e⟩) (fun b xs e=>by rw[Bh (nt b _ e)]; exact e) (fun b o u e=>by rw[Bh (nt b _ e)]; exact e)
    (fun b ps e=>⟨#[],by rw[Bh (nt b _ e),e]; simp⟩) (fun m hm=>?_) (fun b u e=>?_) I.bare
   ·have e:b = it:=by simpa using hb
    subst e
    exact⟨f3,f1,f4,f5⟩
   ·obtain⟨o,es,ep,ho,r⟩:=hm
    exact⟨o,es,ep,kp _ o (Ne.symm f1) ho,r⟩
   ·by_cases hb:b = s.heap.objs.size
    ·subst hb
     rw[Bl] at e
     cases e
     exact⟨by show 2 <= sizeLine; decide,[key,v],.cons (AbH hkey) (.cons rv .nil),_,hT2,rfl,_,rfl⟩
    ·rw[Bh hb] at e
     have nit:∀ c w,H c = some w->c ≠ it:=fun c w e z=>by rw[z,f0] at e; cases e
     refine (I.hok b u e).stay (fun c v hc q=>kp c v ?_ q) (fun c q=>by rw[Bh (nt c _ q)]; exact q) fun c xs q=>by rw[Bh (nt c _ q)]; exact q
     rcases hc with z | z
     ·rw[z]; exact nit b u e
     ·exact nit c _ z
  ·have e:b = it:=by simpa using hb
   rw[e,Bh (Ne.symm hne)]
   exact f0
 done:=by
  intro X hP hw hK hc i pins s σ H E I hf st hg
  subst hP hw hK
  obtain⟨hz,hi⟩:=hg
  obtain⟨ok,ov,st⟩:=st
  obtain⟨hm,vs,r,da⟩:=Rb I.hok hz hd
  have hl:kvs.length = vs.length:=Paired.length r
  obtain⟨f0,f1,f2,f3,f4,f5⟩:=hf it (by simp)
  rw[hl] at st
  exact wpAny_pyNext_items_end (I.ok.hd hc) st da (getElem?_eq_none (by omega)) fun h' eb=>⟨rfl,I.turned (t':=s.toks) (fun b o hb e=>eb b o hb e) f0 f1 f3 f4 f5⟩
 self:=fun A i s Q E st h=>by
  obtain⟨ok,ov,e⟩:=st
  exact PySem.W.kcp_self e h
section
variable {X:Cx} {elts:List Expr} {x1:Nat} {tp apos cpos:Pos}
def iDi (tl:TE):TI:=fun σ H R=>tl σ H fun x H1=>∃ a o kvs,x = .ref a/\H1 a = some (.frz o (.dK kvs))/\R (Iti a o kvs) H1
theorem Aee {l:Expr} {tl:TE} (hl:PE X l tl) (hbase:attributeBase l "items" X.env (eval l X.env) = eval l X.env:=by rfl) (hline:(apos.endLine == cpos.line) = true:=by rfl) :
  PI X (.Tuple elts x1 tp) (.Call (.Attribute l "items" apos) [] [] cpos) (iDi tl):=by
 intro pins s σ H R I h
 refine wpAny_Call_method0_late hbase hline (thn (hl pins s σ H _ I h) fun v s1 ⟨x,H1,I1,r1,q1⟩=>?_)
 obtain⟨a,o,kvs,e,hz,q⟩:=q1
 subst e
 cases r1
 obtain⟨ho,_,hm,vs,r,o',es,ep,h1,h2,h3,h4⟩:=(show ObjOk X.prog X.w H1 s1.heap a (.frz o (.dK kvs)) from I1.hok a _ hz)
 rw[ho] at h1
 cases h1
 have hlen:kvs.length = vs.length:=Paired.length r
 have da:s1.heap.DictAt (Dq X.prog X.w) a vs ep:=⟨o,es,ho,h2,h3,h4⟩
 refine⟨"dict","dict.items",plainAttrs_dict,PySem.F.slot_dict_items,PySem.F.type_dict_items,⟨o,ho,h2.1⟩,fun b eb=>?_,Calls.callWith_builtin rfl (PySem.evalArgs_none ?_)⟩
 ·cases eb
  exact⟨o,ho,h2.2.1⟩
 refine call_meetsIn PySem.F.slot_dict_items da.dictOf.typeIs PySem.F.entry_dict_items (PySem.F.args_dict_items_1 _) (meets_dict_items (Dq X.prog X.w) a hm) ⟨⟨vs,da.dictOf⟩,?_⟩
 refine wpAny_pyIter_items (s:={ s1 with heap:=s1.heap.push { cls:=.type "dict_items",data:=.fields #[.ref a] } }) (knd:=Dq X.prog X.w) (kvs:=vs) (ep:=ep) ⟨_,get?_push_size _ rfl,rfl,rfl⟩ (da.push _) ?_
 have I2:Inv X pins σ H1 { s1 with heap:=s1.heap.push { cls:=.type "dict_items",data:=.fields #[.ref a] } }:=I1.kept (t':=s1.toks) fun b o e=>get?_push_of_some _ e
 refine⟨_,[_],_,_,H1,rfl,I2.kept (t':=s1.toks) fun b o e=>get?_push_of_some _ e,Ac1 a _ o kvs es ep h3,⟨.none,.none,by rw[hlen]; exact get?_push_size _ rfl⟩,fun b hb=>?_,q⟩
 have e:=mem_singleton.mp hb
 subst e
 exact I2.fpOk (Nat.le_refl _) (I2.hok.fresh (Nat.le_refl _))
theorem Ab9 {a:Addr} {o:Obj} {kvs:List (Key × V)} {g:TG} {tb:TS} {D:Ends} {σ:St} {H:Hp} (Pv:Nat->St->Hp->Prop) (h0:Pv 0 σ H) (hl:∀ i σ H,i <= kvs.length->Pv i σ H->H a = some (.frz o (.dK kvs)))
  (hs:∀ i kv t σ H,kvs[i]? = some kv->H t = none->Pv i σ H->g (.ref t) σ (upd H t (.tup [kV kv.1,kv.2])) fun σ2 H2=>tb { D with nx:=Pv (i + 1),ct:=Pv (i + 1),bk:=D.nx } σ2 H2) (hd:∀ σ H,Pv kvs.length σ H->D.nx σ H) :
  ∃ W:Nat->Nat->St->Hp->Prop,(∃ m,W 0 m σ H)/\∀ i m σ H,W i m σ H ->
   ((Iti a o kvs).stop i H/\D.nx σ H)\/((Iti a o kvs).go i H/\∃ N:St->Hp->Prop,(∀ σ' H',N σ' H'->∃ m',m' < m/\W (i + 1) m' σ' H')/\∀ x H',(Iti a o kvs).yld i H x H'->g x σ H' fun σ2 H2=>tb { D with nx:=N,ct:=N,bk:=D.nx } σ2 H2):=by
 refine⟨fun i m σ H=>m = kvs.length - i/\i <= kvs.length/\Pv i σ H,⟨kvs.length,by simp,zero_le _,h0⟩,?_⟩
 rintro i m σ H ⟨rfl,hi,p⟩
 have q:=hl i σ H hi p
 by_cases hlt:i < kvs.length
 ·refine .inr ⟨⟨q,hlt⟩,Pv (i + 1),fun σ' H' p'=>⟨kvs.length - (i + 1),by omega,rfl,hlt,p'⟩,fun x H' y=>?_⟩
  obtain⟨t,kv,ht,y1,y2,y3⟩:=y
  subst y2 y3
  exact hs i kv t σ _ y1 ht p
 ·have e:i = kvs.length:=by omega
  subst e
  exact .inl ⟨⟨q,Nat.le_refl _⟩,hd σ H p⟩
end
section
variable {σ:St} {H:Hp} {Q:VK} {B:Bool->Hp->Prop} {v x y:V} {ta tb tc:TE} {tA tB':TT} {D:Ends} {t u:TS} {K:Frag}
theorem AmP {i:Nat} (h:σ[i]? = some (some v)) (q:Q v H):Fj i σ H Q:=⟨v,h,q⟩
theorem i_c (q:Q v H):tC v σ H Q:=q
theorem AnM {r:R2} (q:ta σ H fun x H1=>tb σ H1 fun y H2=>r x y H2 Q):tOp r ta tb σ H Q:=q
theorem Aof {r:V->Hp->VK->Prop} (q:ta σ H fun x H1=>r x H1 Q):tUn r ta σ H Q:=q
theorem AnO {g:Int->V} {i:Int} (q:Q (g i) H):rU g (.int i) H Q:=⟨i,rfl,q⟩
theorem Anp {g:Int->Int->V} {i j:Int} (q:Q (g i j) H):rI0 g (.int i) (.int j) H Q:=⟨i,j,rfl,rfl,q⟩
theorem Ah2 {i j:Int}:decide (V.int i = V.int j) = decide (i = j):=by
 by_cases h:i = j
 ·subst h; simp
 ·rw[decide_eq_false h,decide_eq_false fun e=>h (V.int.inj e)]
theorem AhJ {i j:Str}:decide (V.str i = V.str j) = decide (i = j):=by
 by_cases h:i = j
 ·subst h; simp
 ·rw[decide_eq_false h,decide_eq_false fun e=>h (V.str.inj e)]
theorem Ag4 {i j:Int} (q:Q (.bl (decide (i = j))) H):rEq (.int i) (.int j) H Q:=⟨rfl,by rw[Ah2]; exact q⟩
theorem Aht {i j:Str} (q:Q (.bl (decide (i = j))) H):rEq (.str i) (.str j) H Q:=⟨rfl,by rw[AhJ]; exact q⟩
theorem AhC {i j:Int} (q:Q (.bl (!decide (i = j))) H):rNe (.int i) (.int j) H Q:=⟨rfl,by rw[Ah2]; exact q⟩
theorem Ag1 {i j:Str} (q:Q (.bl (!decide (i = j))) H):rNe (.str i) (.str j) H Q:=⟨rfl,by rw[AhJ]; exact q⟩
theorem Aoc {t:TE} (q:t σ H fun x H1=>∃ c,x = .bl c/\B c H1):tB t σ H B:=q
theorem AlL {t:TE} (q:t σ H fun x H1=>∃ c,x = .bl c/\B c H1):Ace t σ H B:=q
theorem Amx {b:Bool} {P:Bool->Prop} (q:P b):∃ c,V.bl b = V.bl c/\P c:=⟨b,rfl,q⟩
theorem An7 (q:tA σ H fun c H1=>if c = true then B true H1 else tB' σ H1 B):tOr tA tB' σ H B:=q
theorem Ann (q:tA σ H fun c H1=>B (!c) H1):Agp tA σ H B:=q
theorem Alz (q:ta σ H fun x H1=>∃ c,x = .bl c/\if c = true then tb σ H1 Q else Q (.bl false) H1):AgH ta tb σ H Q:=q
theorem AkR (q:ta σ H fun x H1=>∃ c,x = .bl c/\Q (.bl (!c)) H1):Ah3 ta σ H Q:=q
theorem AcS (q:t { D with nx:=u D } σ H):Vw t u D σ H:=q
theorem An3 (q:D.nx σ H):Adc D σ H:=q
theorem Ala (q:ta σ H fun _ H1=>D.nx σ H1):Vi ta D σ H:=q
theorem Am9 (q:ta σ H D.rt):Tw ta D σ H:=q
theorem Aol (q:tA σ H fun b H1=>if b = true then t D σ H1 else u D σ H1):Agt tA t u D σ H:=q
theorem Amm {g:TG} (q:ta σ H fun x H1=>g x σ H1 D.nx):Lq ta g D σ H:=q
theorem AiF {i:Nat} {R:St->Hp->Prop} (q:R (σ.set i (some v)) H):Gn i v σ H R:=q
theorem AjV {n:Nat} {a:Addr} {xs:List V} {g:TGs} {R:St->Hp->Prop} (h:SqT K H a xs) (hl:xs.length = n) (q:g xs σ H R):Wj K n g (.ref a) σ H R:=⟨a,xs,rfl,h,hl,q⟩
theorem Ajg {g:TG} {gs:TGs} {vs:List V} {R:St->Hp->Prop} (q:g v σ H fun σ' H'=>gs vs σ' H' R):Vk g gs (v :: vs) σ H R:=⟨v,vs,rfl,q⟩
theorem AkV {R:St->Hp->Prop} (q:R σ H):AcZ [] σ H R:=⟨rfl,q⟩
theorem AjU {sp:Sp} {dvs:List V} {E:XK} {t:TA} (q:t σ H fun vs H1=>sp (vs ++ dvs) H1 Q E):Tk sp dvs E t σ H Q:=q
theorem AjN {C:Addr} {m:Str} {sp:Sp} {dvs:List V} {E:XK} {t:TA} (q:ta σ H fun x H1=>∃ a dx fs,x = .ref a/\H1 a = some (.ins C dx fs)/\fs.lookup m = none/\t σ H1 fun vs H2=>sp (x :: (vs ++ dvs)) H2 Q E):Va C m sp dvs E ta t σ H Q:=q
theorem Amq {R:List V->Hp->Prop} (q:R [] H):Ln σ H R:=q
theorem Al8 {tr:TA} {R:List V->Hp->Prop} (q:ta σ H fun x H1=>tr σ H1 fun xs H2=>R (x :: xs) H2):Fy ta tr σ H R:=q
theorem Ans {t:TA} (q:t σ H fun xs H1=>xs.length <= sizeLine/\∀ p,H1 p = none->Q (.ref p) (upd H1 p (.tup xs))):Al5 t σ H Q:=q
theorem AmT {f:Str} (q:ta σ H fun x H1=>∃ a C dx fs v,x = .ref a/\H1 a = some (.ins C dx fs)/\Cls K C/\NoAttr K C f/\fs.lookup f = some v/\Q v H1):Akx K ta f σ H Q:=q
theorem AnS {r:List V->Hp->VK->Prop} {t:TA} (q:t σ H fun vs H1=>r vs H1 Q):tCB r t σ H Q:=q
theorem Anw (q:ta σ H fun y H1=>tb σ H1 fun x H2=>∃ a o,x = .ref a/\DGet H2 a y o/\Q (.bl o.isSome) H2):Afl ta tb σ H Q:=q
theorem Af9 (q:ta σ H fun y H1=>tb σ H1 fun x H2=>∃ a o,x = .ref a/\DGet H2 a y o/\Q (.bl (!o.isSome)) H2):AbO ta tb σ H Q:=q
theorem AlC (q:ta σ H fun x H1=>tb σ H1 fun y H2=>∃ a v,x = .ref a/\DGet H2 a y (some v)/\Q v H2):Xt ta tb σ H Q:=q
theorem AiE (q:ta σ H fun x H1=>∃ a,x = .ref a/\IsD H1 a/\tb σ H1 fun y H2=>∃ o,DGet H2 a y o/\Q (o.getD .non) H2):Ae0 ta tb σ H Q:=q
theorem AiC (q:ta σ H fun x H1=>∃ a,x = .ref a/\IsD H1 a/\tb σ H1 fun y H2=>tc σ H2 fun z H3=>∃ o,DGet H3 a y o/\Q (o.getD z) H3):AaC ta tb tc σ H Q:=q
theorem AkE (q:tc σ H fun v H1=>ta σ H1 fun x H2=>tb σ H2 fun y H3=>∃ a H4,x = .ref a/\DPut H3 a y v H4/\D.nx σ H4):Ac7 ta tb tc D σ H:=q
theorem Alc {f:Str} (q:tb σ H fun y H1=>ta σ H1 fun x H2=>∃ a C dx fs,x = .ref a/\H2 a = some (.ins C dx fs)/\Cls K C/\NoAttr K C f/\fs.length < 1000/\D.nx σ (upd H2 a (.ins C dx (Bz f y fs)))):Alh K ta tb f D σ H:=q
theorem An0 {T:String} {r:V->List V->Hp->VK->Prop} {t:TA} (q:ta σ H fun x H1=>tyV K T x H1/\t σ H1 fun xs H2=>r x xs H2 Q):tBM K T r ta t σ H Q:=q
theorem AjZ (q:∀ p,H p = none->Q (.ref p) (upd H p (.dK []))):AaE σ H Q:=q
theorem Akv (q:∀ p,H p = none->Q (.ref p) (upd H p (.dT []))):AeI σ H Q:=q
theorem Ob {i:Nat} {a:Addr} {xs:List V} {g:TG} (hv:σ[i]? = some (some (.ref a))) (hS:SqL K H a xs) (Pv:Nat->St->Hp->Prop) (h0:Pv 0 σ H) (hl:∀ i σ H,i <= xs.length->Pv i σ H->SqL K H a xs)
  (hs:∀ i x σ H,xs[i]? = some x->Pv i σ H->g x σ H fun σ2 H2=>t { D with nx:=Pv (i + 1),ct:=Pv (i + 1),bk:=D.nx } σ2 H2) (hd:∀ σ H,Pv xs.length σ H->D.nx σ H):Lg (Oo K (Fj i)) g t D σ H :=
 ⟨_,hv,a,rfl,⟨_,hS⟩,Ri Pv h0 hl hs hd⟩
theorem AnC {ta:TA} {R:It->Hp->Prop} (q:ta σ H fun vs H1=>∃ j:Int,vs = [.int j]/\-(2 ^ 62) <= j/\j < 2 ^ 62/\R (Itr 0 j.toNat) H1):Up ta σ H R:=q
theorem AnR {R:It->Hp->Prop} (q:ta σ H fun x H1=>∃ a,x = .ref a/\(∃ xs,SqL K H1 a xs)/\R (Itl K a) H1):Oo K ta σ H R:=q
theorem Ak1 {i:Nat} {a:Addr} {kvs:List (Key × V)} {g:TG} (hv:σ[i]? = some (some (.ref a))) (hS:H a = some (.dK kvs)) (Pv:Nat->St->Hp->Prop) (h0:Pv 0 σ H)
  (hl:∀ i σ H,i <= kvs.length->Pv i σ H->H a = some (.dK kvs))
  (hs:∀ o i kv σ H,kvs[i]? = some kv->Pv i σ H->g (kV kv.1) σ (upd H a (.frz o (.dK kvs))) fun σ2 H2=>t (Ends.mk (fun σ H=>H a = some (.frz o (.dK kvs))/\Pv (i + 1) σ (upd H a (.dK kvs))) (Qs a (.dK kvs) D).rt (Qs a (.dK kvs) D).nx (fun σ H=>H a = some (.frz o (.dK kvs))/\Pv (i + 1) σ (upd H a (.dK kvs)))) σ2 H2)
  (hd:∀ σ H,Pv kvs.length σ H->D.nx σ H):AcM (Lg (iDk (Fj i)) g t) D σ H:=by
 refine⟨a,.dK kvs,trivial,hS,fun o=>⟨_,hv,a,o,kvs,rfl,Bl,Aec (fun i σ H=>H a = some (.frz o (.dK kvs))/\Pv i σ (upd H a (.dK kvs))) ⟨Bl,?_⟩ (fun i σ H _ p=>p.1) (fun i kv σ H e p=>?_) fun σ H p=>⟨o,p.1,hd σ _ p.2⟩⟩⟩
 ·have e:upd (upd H a (.frz o (.dK kvs))) a (.dK kvs) = H:=by
   rw[Go]; funext b; unfold upd; split
   ·rename_i h; rw[h,hS]
   ·rfl
  rw[e]; exact h0
 ·have e2:upd (upd H a (.dK kvs)) a (.frz o (.dK kvs)) = H:=by
   rw[Go]; funext b; unfold upd; split
   ·rename_i h; rw[h,p.1]
   ·rfl
  have q:=hs o i kv σ _ e p.2
  rw[e2] at q
  exact q
theorem Akh {i:Nat} {a:Addr} {kvs:List (Key × V)} {g:TG} (hv:σ[i]? = some (some (.ref a))) (hS:H a = some (.dK kvs)) (Pv:Nat->St->Hp->Prop) (h0:Pv 0 σ H)
  (hs:∀ o i kv p σ H,kvs[i]? = some kv->H p = none->p ≠ a->Pv i σ H->g (.ref p) σ (upd (upd H a (.frz o (.dK kvs))) p (.tup [kV kv.1,kv.2])) fun σ2 H2=>t (Ends.mk (fun σ H=>H a = some (.frz o (.dK kvs))/\Pv (i + 1) σ (upd H a (.dK kvs))) (Qs a (.dK kvs) D).rt (Qs a (.dK kvs) D).nx (fun σ H=>H a = some (.frz o (.dK kvs))/\Pv (i + 1) σ (upd H a (.dK kvs)))) σ2 H2)
  (hd:∀ σ H,Pv kvs.length σ H->D.nx σ H):AcM (Lg (iDi (Fj i)) g t) D σ H:=by
 refine⟨a,.dK kvs,trivial,hS,fun o=>⟨_,hv,a,o,kvs,rfl,Bl,Ab9 (fun i σ H=>H a = some (.frz o (.dK kvs))/\Pv i σ (upd H a (.dK kvs))) ⟨Bl,?_⟩ (fun i σ H _ p=>p.1) (fun i kv p σ H e hp w=>?_) fun σ H p=>⟨o,p.1,hd σ _ p.2⟩⟩⟩
 ·have e:upd (upd H a (.frz o (.dK kvs))) a (.dK kvs) = H:=by
   rw[Go]; funext b; unfold upd; split
   ·rename_i h; rw[h,hS]
   ·rfl
  rw[e]; exact h0
 ·have e2:upd (upd H a (.dK kvs)) a (.frz o (.dK kvs)) = H:=by
   rw[Go]; funext b; unfold upd; split
   ·rename_i h; rw[h,w.1]
   ·rfl
  have ne:p ≠ a:=fun z=>by rw[z,w.1] at hp; cases hp
  have q:=hs o i kv p σ (upd H a (.dK kvs)) e (by rw[Bh ne]; exact hp) ne w.2
  rw[e2] at q
  exact q
theorem Ajf {ta:TA} {g:TG} {hi:Int} {n:Nat} (hargs:∀ R:List V->Hp->Prop,R [.int hi] H->ta σ H R) (hb:-(2 ^ 62) <= hi/\hi < 2 ^ 62) (hn:hi.toNat = n) (Pv:Nat->St->Hp->Prop) (h0:Pv 0 σ H)
  (hs:∀ i σ H,i < n->Pv i σ H->g (.int (0 + i)) σ H fun σ2 H2=>t { D with nx:=Pv (i + 1),ct:=Pv (i + 1),bk:=D.nx } σ2 H2) (hd:∀ σ H,Pv n σ H->D.nx σ H):Lg (Up ta) g t D σ H :=
 hargs _ ⟨hi,rfl,hb.1,hb.2,by rw[hn]; exact Xc Pv h0 hs hd⟩
end
def Fd (fn:List Str) (env:Env):List (Str × Addr):=fn.map fun x=>(x,(env.cells.lookup x).getD 0)
theorem Tq {env:Env}:∀ {fn:List Str} {x:Str} {c:Addr},(Fd fn env).lookup x = some c->x ∈ fn/\c = (env.cells.lookup x).getD 0
 | [],_,_,h=>by cases h
 | y :: r,x,c,h=>by
  unfold Fd at h
  rw[map_cons,lookup_cons] at h
  cases e:x == y with
  | true =>
   rw[e] at h
   have:x = y:=eq_of_beq e
   subst this
   cases h
   exact⟨mem_cons_self,rfl⟩
  | false =>
   rw[e] at h
   obtain⟨h1,h2⟩:=Tq (fn:=r) (x:=x) (c:=c) h
   exact⟨mem_cons_of_mem _ h1,h2⟩
theorem Ub {env:Env}:∀ {fn:List Str} {x:Str},x ∈ fn->(Fd fn env).lookup x = some ((env.cells.lookup x).getD 0)
 | [],_,h=>by cases h
 | y :: r,x,h=>by
  unfold Fd
  rw[map_cons,lookup_cons]
  cases e:x == y with
  | true =>
   have:x = y:=eq_of_beq e
   subst this
   rfl
  | false =>
   rcases mem_cons.mp h with z | z
   ·subst z; rw[beq_self_eq_true] at e; cases e
   ·exact Ub z
def Dx (X:Cx) (scope:Scope) (N' fn:List Str) (C:Addr) (fp:List Addr) (s:Shared) (H:Hp):Cx :=
 { X with N:=N',s₀:=s,H₀:=H,env:=compEnvC scope (Fd fn X.env) C X.env,outer:=X.stack,stack:=X.stack,ex:=fp,fn:=fun _=>false,pn:=[],xe:=fun _ _=>False }
def compσ (k:Nat) (fr:List Nat) (σ:St):St:=replicate k none ++ fr.map fun i=>(σ[i]?).join
def Jc (wi:TI) (g:TG) (tc:TT) (te:TE) (k:Nat) (fr:List Nat):TE:=fun σ H Q=>wi σ H fun J H1=>∀ D,H1 D = none ->
 ∃ W:Nat->Nat->Hp->Prop,(∃ m,W 0 m (upd H1 D (.lst [])))/\∀ i m H,W i m H->(J.stop i H/\Q (.ref D) H)\/(J.go i H/\∀ x H',J.yld i H x H'->g x (compσ k fr σ) H' fun σ2 H2 =>
  σ2.drop k = (compσ k fr σ).drop k/\tc σ2 H2 fun b H3=>if b = true then te σ2 H3 (fun y H4=>∃ ys,H4 D = some (.lst ys)/\ys.length < sizeLine/\∃ m',m' < m/\W (i + 1) m' (upd H4 D (.lst (ys ++ [y])))) else ∃ m',m' < m/\W (i + 1) m' H3)
def Qd (X:Cx) (ifs:List Expr) (t:TT):Prop :=
 ∀ (pins:List (Addr × Obj)) (s:Shared) (σ:St) (H:Hp) (Q:Bool->Hp->Prop),Inv X pins σ H s->t σ H Q ->
  wpAny (model X.prog X.w) X.A (forIn ifs true fun c r=>if r = true then do let ok <- isTrue c X.env (eval c X.env); pure (ForInStep.yield ok) else pure (ForInStep.yield r)) (TP X pins σ Q) X.xe s
def AcP:TT:=fun _ H Q=>Q true H
theorem Gh {X:Cx}:Qd X [] AcP:=fun _ _ _ H _ I h=>wpAny_tests_nil ⟨H,I,h⟩
theorem Gz {X:Cx} {c:Expr} {t:TT} (h:PT X c t):Qd X [c] t:=fun pins s σ H Q I q=>wpAny_tests_one (h pins s σ H Q I q)
theorem Adh {prog:Program} {w:World} {A:Around} {R:Result->Shared->Prop} {s:Shared} {elt target iter:Expr} {ifs:List Expr} {scope:Scope} {pos:Pos} {it acc:Value} {env:Env} (I:Nat->Shared->Prop)
  (turn:∀ n s,I n s->wpAny (model prog w) A (pyNext it) (fun r s₁=>match r with
   | none=>R (.ok .next) s₁
   | some v=>wpAny (model prog w) A (letOwnedTupleGo target it v) (fun _ s₁'=>wpAny (model prog w) A (assign target env v) (fun _ s₂ =>
     wpAny (model prog w) A (forIn ifs true fun c r=>if r = true then do let ok <- isTrue c env (eval c env); pure (ForInStep.yield ok) else pure (ForInStep.yield r)) (fun ok s₃ =>
      if ok = true then wpAny (model prog w) A (eval elt env) (fun x s₄ =>
       wpAny (model prog w) A (call (.builtin "list.append") [acc,x]) (fun _ s₅=>∃ m,m < n/\I m s₅) (fun _ _=>False) s₄) (fun _ _=>False) s₃
      else ∃ m,m < n/\I m s₃) (fun _ _=>False) s₂) (fun _ _=>False) s₁') (fun _ _=>False) s₁) (fun _ _=>False) s)
  (n:Nat) (h:I n s) :
  codeAny (model prog w) A (.compLoop (.ListComp elt [⟨target,iter,ifs,0⟩] scope pos) 0 it acc env) R s:=by
 refine codeAny_loop rfl I (fun n s hI=>?_) n h
 show wpAny _ A ((compTurn (.ListComp elt [⟨target,iter,ifs,0⟩] scope pos) 0 it acc env).onRaise (fun x=>do noteFrame x env; theTreesLotGoes x)) _ _ s
 refine wpAny_noted ?_
 rw[compTurn_list]
 refine wpAny_bind (wpAny_standAt (wpAny_bind (wpAny_mono (turn n s hI) (fun r s₁ h₁=>?_) fun _ _ h'=>h'.elim)))
 cases r with
 | none=>exact wpAny_pure h₁
 | some v =>
  refine wpAny_bind (wpAny_mono h₁ (fun _ s₁' h₁'=>?_) fun _ _ h'=>h'.elim)
  refine wpAny_bind (wpAny_mono h₁' (fun _ s₂ h₂=>wpAny_bind (wpAny_mono h₂ (fun ok s₃ h₃=>?_) fun _ _ h'=>h'.elim)) fun _ _ h'=>h'.elim)
  cases ok with
  | false=>exact wpAny_pure ⟨rfl,h₃⟩
  | true =>
   exact wpAny_bind (wpAny_bind (wpAny_mono h₃ (fun x s₄ h₄=>wpAny_bind (wpAny_mono h₄ (fun _ s₅ h₅=>wpAny_pure (wpAny_pure ⟨rfl,h₅⟩)) fun _ _ h'=>h'.elim)) fun _ _ h'=>h'.elim))
theorem compσ_len (k:Nat) (fr:List Nat) (σ:St):(compσ k fr σ).length = k + fr.length:=by
 unfold compσ; rw[length_append,length_replicate,length_map]
theorem compσ_weak {k:Nat} {fr:List Nat} {σ σ2:St} (hd:σ2.drop k = (compσ k fr σ).drop k):∀ (i:Nat) v,(compσ k fr σ)[i]? = some (some v)->σ2[i]? = some (some v):=by
 intro i v h
 by_cases hi:i < k
 ·unfold compσ at h
  rw[getElem?_append_left (by rw[length_replicate]; exact hi),getElem?_replicate] at h
  rw[if_pos hi] at h; cases h
 ·have e:∀ l:St,l[i]? = (l.drop k)[i - k]?:=fun l=>by rw[List.getElem?_drop]; congr 1; omega
  rw[e] at h ⊢
  rw[hd]; exact h
theorem Inv.nsch {X:Cx} {pins:List (Addr × Obj)} {σ:St} {H:Hp} {s:Shared} {C:Addr} {h':Heap} (I:Inv X pins σ H s) (sb:SameBut C s.heap h') (hC:H C = none) (h1:X.s₀.heap.objs.size <= C) (h2:C ≠ X.env.locals)
  (h3:∀ x c,X.env.cells.lookup x = some c->c ≠ C) (h4:∀ p ∈ X.pn ++ pins,p.1 ≠ C):Inv X pins σ H { s with heap:=h' }:=by
 have nc:∀ b:Addr,b ∉ [C]->b ≠ C:=fun b z w=>z (by rw[w]; exact mem_cons_self)
 refine Inv.call (s:=s) I (h':=h') (g':=s.gens) (d':=s.drawn) (t':=s.toks) (ch:=[C]) ⟨fun b o e n _ hx=>(sb.2 b (nc b hx)).trans e,fun b o e n _ hx=>⟨o.slots,(sb.2 b (nc b hx)).trans e⟩,fun _ _ _ n _=>n,fun b o e hx=>⟨o,(sb.2 b (nc b hx)).trans e⟩,fun _ _ e=>e,fun _ _ _ e=>e,fun b ps e=>⟨#[],by rw[Array.append_empty]; exact e⟩⟩ (fun b u e=>?_) I.bare (fun b hb=>?_)
 ·refine (I.hok b u e).stay (fun c v hc' q'=>(sb.2 c ?_).trans q') (fun _ q'=>q') fun _ _ q'=>q'
  rcases hc' with w | w
  ·rw[w]; exact By e hC
  ·exact By w hC
 ·rw[mem_singleton.mp hb]
  exact⟨.inr h1,h2,h3,h4⟩
theorem Wu {X:Cx} {elt tg iter:Expr} {ifs:List Expr} {scope:Scope} {pos:Pos} {wi:TI} {g:TG} {tc:TT} {te:TE} {k:Nat} {fr:List Nat} {N' fn:List Str} (hc:X.calm = true)
  (hi:PI X tg iter wi) (hN:N'.length = k + fr.length)
  (hfr:∀ j y,N'[k + j]? = some y->∀ i,fr[j]? = some i->X.N[i]? = some y/\X.env.kindOf y = some .cell/\(compEnvC scope (Fd fn X.env) 0 X.env).kindOf y = some .cell/\y ∈ fn)
  (hfn:∀ y ∈ fn,X.env.kindOf y = some .cell)
  (hkd:∀ y,((compEnvC scope (Fd fn X.env) 0 X.env).kindOf y = some .cell\/(compEnvC scope (Fd fn X.env) 0 X.env).kindOf y = some .free)->y ∈ fn)
  (hg:∀ C fp s H,PG (Dx X scope N' fn C fp s H) tg g) (ht:∀ C fp s H,Qd (Dx X scope N' fn C fp s H) ifs tc) (he:∀ C fp s H,PE (Dx X scope N' fn C fp s H) elt te)
  (hclos:closureFor scope X.env = pure (Fd fn X.env)) (hcell:∀ y ∈ scope.names,y.2 ≠ .cell) (hkind:scope.kind = .function) (hnames:∀ y ∈ scope.names,y.2 = .local->scope.names.lookup y.1 = some .local)
  (hs:∀ x,foldedSetIterable iter X.env x = pure x:=by intro _; rfl) {pins:List (Addr × Obj)} {s:Shared} {σ:St} {H:Hp} {Q:VK} {use:Option (Value->Sem Unit)} {Qc:Value->Shared->Prop} {cpos:Pos} (I:Inv X pins σ H s) (h:Jc wi g tc te k fr σ H Q)
  (fin:∀ (H3:Hp) (s4:Shared) (D C:Addr) (m:Str->Option Value),s4.heap.Ns C m->Inv X pins σ H3 s4->H3 C = none->X.s₀.heap.objs.size <= C->C ≠ X.env.locals->(∀ x c,X.env.cells.lookup x = some c->c ≠ C)->(∀ p ∈ X.pn ++ pins,p.1 ≠ C)->Q (.ref D) H3 ->
   compPost (model X.prog X.w) X.A X.xe use Qc (.ref D) C (.ok .next) s4) :
  wpAny (model X.prog X.w) X.A (comprehension (.ListComp elt [⟨tg,iter,ifs,0⟩] scope pos) scope X.env cpos (newList []) false (eval iter X.env) use) Qc X.xe s:=by
 refine wpAny_comprehension_free (use:=use) rfl hs hclos hkind hnames (thn (hi pins s σ H _ I h) fun v s1 h1=>thn h1 fun itv s2 h2=>?_)
 obtain⟨it,fp,tn,J,H2,e,I2,T,st2,f2,q⟩:=h2
 subst e
 have hfr2:H2 s2.heap.objs.size = none:=I2.hok.fresh (Nat.le_refl _)
 obtain⟨W,⟨m0,w0⟩,turn⟩:=q s2.heap.objs.size hfr2
 refine wpAny_newObj_type (wpAny_newFunctionEnv hcell (by intro y hy; simp at hy) (fun h₁ hns₁ hsb₁=>?_) hkind)
 dsimp only at hns₁ hsb₁ ⊢
 generalize hHH:s2.heap.push { cls:=.type "list",dict:=none,data:=.seq ([]:List Value).toArray } = HH at hns₁ hsb₁ ⊢
 have hC:HH.objs.size = s2.heap.objs.size + 1:=by rw[<- hHH,Heap.size_push]
 have hDC:s2.heap.objs.size ≠ HH.objs.size:=by rw[hC]; exact ne_of_lt (lt_succ_self _)
 have hCle:s2.heap.objs.size <= HH.objs.size:=by rw[hC]; exact le_succ _
 have below:∀ b,b < s2.heap.objs.size->b ≠ HH.objs.size:=fun b hb=>by rw[hC]; exact ne_of_lt (lt_succ_of_lt hb)
 have old:∀ b o,s2.heap.get? b = some o->h₁.get? b = some o:=fun b o e=>hsb₁.extBut b o (below b (lt_size e)) (get?_push_of_some _ (hHH ▸ get?_push_of_some _ e))
 have hacc:h₁.get? s2.heap.objs.size = some { cls:=.type "list",dict:=none,data:=.seq ([]:List Value).toArray }:=hsb₁.extBut _ _ hDC (get?_push_of_some _ (hHH ▸ get?_push_size _ rfl))
 have hst₁:tn 0 h₁:=T.keep _ _ _ st2 fun b _ o e=>old b o e
 -- the cells from around
 have hcl:∀ x c,(Fd fn X.env).lookup x = some c->X.env.cells.lookup x = some c:=fun x c e=>by
  obtain⟨h1,h2⟩:=Tq e
  obtain⟨c',e'⟩:=I2.ok.has x (.inl (hfn x h1))
  rw[h2,e']; rfl
 have kd0:∀ C y,(compEnvC scope (Fd fn X.env) C X.env).kindOf y = (compEnvC scope (Fd fn X.env) 0 X.env).kindOf y:=fun _ _=>rfl
 have fpLt:∀ b ∈ fp,b < s2.heap.objs.size:=fun b hb=>by obtain⟨o,e,_⟩:=T.obj _ _ st2 b hb; exact lt_size e
 have cLt:∀ x c,(Fd fn X.env).lookup x = some c->c < s2.heap.objs.size:=fun x c e=>by obtain⟨v,z⟩:=I2.cell x c (hcl x c e); exact z.lt
 -- the block's context
 generalize hX:Dx X scope N' fn HH.objs.size fp s2 H2 = X'
 have ok:X'.Ok:=by
  subst hX
  exact {
   mod:=I2.ok.mod
   kind:=hkind
   glob:=I2.ok.glob
   blt:=I2.ok.blt
   above:=hCle
   inj:=fun x y c h1 h2=>I2.ok.inj x y c (hcl x c h1) (hcl y c h2)
   has:=fun x hx=>⟨_,Ub (hkd x hx)⟩
   cab:=fun x c z=>by cases z
   hd:=fun _=>I2.ok.hd hc
   frames:=I2.ok.frames
   stk:=.inl rfl
   exf:=fun b hb=>⟨ne_of_lt (Nat.lt_of_lt_of_le (fpLt b hb) hCle),fun x c e z=>by
    obtain⟨_,_,_,_,f4,_⟩:=f2 b hb
    exact f4 x c (hcl x c e) z⟩
   bs:=I2.bs
   bsz:=Nat.le_trans I2.ok.bsz I2.sz
   noex:=fun b o e z=>by
    obtain⟨_,_,_,f3,_,_⟩:=f2 b z
    rcases f3 with w | w
    ·exact I2.ok.noex b o e w
    ·have h1:=(I2.ok.bs b o e).1
     exact absurd (Nat.lt_of_lt_of_le (lt_size h1) w) (Nat.lt_irrefl _)
   exfs:=fun b z hb=>by
    obtain⟨_,f1,f2',_⟩:=f2 b z
    rcases mem_cons.mp (I2.stkSub b hb) with w | w
    ·exact f1 w
    ·exact f2' w
   funs:=I2.stack
   frf:=I2.stkFree }
 have un1:Un X'.fs X'.ex H2 (upd H2 s2.heap.objs.size (.lst [])) s2.heap h₁:=Un.laid old (Nat.le_refl _) hfr2
 have hok1:HOk X.prog X.w (upd H2 s2.heap.objs.size (.lst [])) h₁:=I2.hok.laid old (Nat.le_refl _) ⟨zero_le _,[],0,.nil,hacc⟩
 have nC:H2 HH.objs.size = none:=I2.hok.fresh hCle
 have I0:∀ tk,Inv X' [] (compσ k fr σ) (upd H2 s2.heap.objs.size (.lst [])) { s2 with heap:=h₁,toks:=tk }:=fun tk=>by
  have ex:X'.env = compEnvC scope (Fd fn X.env) HH.objs.size X.env:=by subst hX; rfl
  refine⟨ok,by subst hX; rfl,I2.bare,by subst hX; exact un1,?_,?_,?_,?_,?_,by subst hX; exact hok1,?_⟩
  ·obtain⟨m,hn,hl⟩:=I2.loc
   refine⟨_,by rw[ex]; exact hns₁,fun i x v e1 e2 e3=>?_⟩
   have e1':N'[i]? = some x:=by subst hX; exact e1
   have hik:k <= i:=by
    rcases Nat.lt_or_ge i k with z | z
    ·unfold compσ at e2
     rw[getElem?_append_left (by rw[length_replicate]; exact z),getElem?_replicate,if_pos z] at e2
     cases e2
    ·exact z
   obtain⟨j,rfl⟩:=Nat.exists_eq_add_of_le hik
   have e2':(fr.map fun i=>(σ[i]?).join)[j]? = some (some v):=by
    unfold compσ at e2
    rw[getElem?_append_right (by rw[length_replicate]; omega),length_replicate] at e2
    simpa using e2
   rw[getElem?_map] at e2'
   cases ef:fr[j]? with
   | none=>rw[ef] at e2'; cases e2'
   | some i0 =>
    rw[ef] at e2'
    have e4:(σ[i0]?).join = some v:=Option.some.inj e2'
    obtain⟨a1,a2,a3,a4⟩:=hfr j x e1' i0 ef
    have e5:σ[i0]? = some (some v):=by
     cases z:σ[i0]? with
     | none=>rw[z] at e4; cases e4
     | some o=>rw[z] at e4; have:o = some v:=e4; rw[this]
    obtain⟨u,ru,l⟩:=hl i0 x v a1 e5 (.inr (.inl a2))
    refine⟨u,ru,.inr ⟨.inl (by rw[ex,kd0]; exact a3),?_⟩⟩
    rcases l with ⟨lk,_⟩ | ⟨_,c,lc,lcell⟩
    ·rw[a2] at lk; cases lk
    ·refine⟨c,by rw[ex]; show (Fd fn X.env).lookup x = some c; rw[Ub a4,lc]; rfl,?_⟩
     obtain⟨o,ho,hd⟩:=lcell
     exact⟨o,old c o ho,hd⟩
  ·intro x c e
   rw[ex] at e
   obtain⟨v,o,ho,hd⟩:=I2.cell x c (hcl x c e)
   exact⟨v,o,old c o ho,hd⟩
  ·rw[ex]
   show (upd H2 s2.heap.objs.size (.lst [])) HH.objs.size = none
   rw[Bh hDC.symm]; exact nC
  ·intro x c e
   rw[ex] at e
   rw[Bh (ne_of_lt (cLt x c e))]
   exact I2.freeC x c (hcl x c e)
  ·intro p hp
   subst hX
   exact absurd (show p ∈ ([]:List (Addr × Obj)) from hp) (by simp)
  ·rw[compσ_len]; subst hX; exact hN.symm
 have fpOk:∀ {H':Hp} {pins':List (Addr × Obj)},(∀ b ∈ fp,H' b = none)->pins' = []->∀ b ∈ fp,Sf X' pins' H' b:=fun {H' pins'} hn e b hb=>by
  subst e
  obtain⟨_,f1,f2',f3,f4,f5⟩:=f2 b hb
  subst hX
  refine⟨hn b hb,ne_of_lt (Nat.lt_of_lt_of_le (fpLt b hb) hCle),fun z=>?_,.inl hb,fun x c e=>f4 x c (hcl x c e),fun p hp=>absurd (show p ∈ ([]:List (Addr × Obj)) from hp) (by simp)⟩
  rcases mem_cons.mp (I2.stkSub b z) with w | w
  ·exact f1 w
  ·exact f2' w
 have eqP:X'.prog = X.prog/\X'.w = X.w/\X'.K = X.K/\X'.calm = true/\X'.A = X.A/\X'.env = compEnvC scope (Fd fn X.env) HH.objs.size X.env/\X'.N = N':=by subst hX; exact⟨rfl,rfl,rfl,hc,rfl,rfl,rfl⟩
 obtain⟨eP,eW,eK,eC,eA,eE,eN⟩:=eqP
 have hg':PG X' tg g:=by subst hX; exact hg _ _ _ _
 have ht':Qd X' ifs tc:=by subst hX; exact ht _ _ _ _
 have he':PE X' elt te:=by subst hX; exact he _ _ _ _
 have eX:X'.xe = fun _ _=>False:=by subst hX; rfl
 have loop:∀ s₃:Shared,s₃ = { s2 with heap:=h₁,toks:=s2.toks + ([]:List (Str × Value)).length } ->
   codeAny (model X.prog X.w) X.A (.compLoop (.ListComp elt [⟨tg,iter,ifs,0⟩] scope pos) 0 (.ref it) (.ref s2.heap.objs.size) (compEnvC scope (Fd fn X.env) HH.objs.size X.env))
    (compPost (model X.prog X.w) X.A X.xe use Qc (.ref s2.heap.objs.size) HH.objs.size) s₃:=by
  rintro s₃ rfl
  refine Adh (fun n s'=>∃ i H',Inv X' [] (compσ k fr σ) H' s'/\tn i s'.heap/\(∀ b ∈ fp,H' b = none)/\W i n H') ?_ m0 ⟨0,_,I0 _,hst₁,fun b hb=>by rw[Bh (ne_of_lt (fpLt b hb))]; exact (f2 b hb).1,w0⟩
  rintro n s3 ⟨i,H3,I3,st3,fr3,w3⟩
  rcases turn i n H3 w3 with ⟨stop,qn⟩ | ⟨go,step⟩
  ·have d:=T.done X' eP eW eK eC i [] s3 (compσ k fr σ) H3 (fun _ _=>False) I3 (fpOk fr3 rfl) st3 stop
   rw[eA] at d
   refine thn d fun r s4 ⟨hr,I4⟩=>?_
   subst hr
   obtain⟨m,hn,_⟩:=I4.loc
   rw[eE] at hn
   have u4:Un (frs X.stack) fp H2 H3 s2.heap s4.heap:=by have:=I4.base; subst hX; exact this
   have nC3:H3 HH.objs.size = none:=by have:=I4.free; rw[eE] at this; exact this
   have hok5:HOk X.prog X.w H3 s4.heap:=fun b u e=>by
    have z:=I4.hok b u e
    rw[eP,eW] at z
    exact z
   have os4:s4.os = s2.os:=by have:=I4.os; subst hX; exact this
   obtain⟨hh,gg,dd,tt,oo⟩:=s4
   obtain rfl:oo = s2.os:=os4
   have Ix:Inv X pins σ H3 ⟨hh,gg,dd,tt,s2.os⟩:=Inv.call (s:=s2) I2 (h':=hh) (g':=gg) (d':=dd) (t':=tt) (ch:=fp) u4 hok5 I4.bare fun b hb=>by
    obtain⟨_,f1,_,f3,f4,f5⟩:=f2 b hb
    exact⟨f3,f1,f4,f5⟩
   refine fin H3 _ _ _ m hn Ix nC3 (Nat.le_trans I2.sz hCle) ?_ (fun x c e=>?_) (fun p hp=>?_) qn
   ·obtain⟨_,⟨o,_,_,ho,_⟩,_⟩:=I2.loc
    exact (below _ (lt_size ho)).symm
   ·obtain⟨v,z⟩:=I2.cell x c e
    exact below _ z.lt
   ·exact below _ (lt_size (I2.pin p hp).1)
  ·have d:=T.item X' eP eW eK eC i [] s3 (compσ k fr σ) H3 (fun _ _=>False) I3 (fpOk fr3 rfl) st3 go
   rw[eA] at d
   refine thn d fun r s4 ⟨u,hr,h4⟩=>?_
   subst hr
   refine thn h4 fun _ s5 ⟨x,H5,I5,r5,y5,st5,fr5⟩=>?_
   have I5':=I5.pinned (fpOk fr5 rfl) (T.obj _ _ st5)
   have a1:=hg' _ s5 (compσ k fr σ) H5 x u _ I5' r5 (step x H5 y5)
   rw[eP,eW,eA,eE,eX] at a1
   refine thn a1 fun _ s6 ⟨σ6,H6,I6,q6a,q6⟩=>?_
   have a2:=ht' _ s6 σ6 H6 _ I6 q6
   rw[eP,eW,eA,eE,eX] at a2
   refine thn a2 fun b s7 ⟨H7,I7,q7⟩=>?_
   have again:∀ {H8:Hp} {s8:Shared},Inv X' ([] ++ Sk fp s5.heap) σ6 H8 s8->(∃ m',m' < n/\W (i + 1) m' H8)->∃ m,m < n/\∃ i H',Inv X' [] (compσ k fr σ) H' s8/\tn i s8.heap/\(∀ b ∈ fp,H' b = none)/\W i m H':=fun {H8 s8} I8 ⟨m',hm,w8⟩=>by
    refine⟨m',hm,i + 1,H8,I8.unpinned.weak ?_ (compσ_weak q6a),T.keep _ _ _ st5 fun b hb o e=>(I8.pin (b,o) (mem_append_right _ (mem_append_right _ (Nn hb e)))).1,fun b hb=>?_,w8⟩
    ·rw[compσ_len,I8.len,eN,hN]
    ·obtain⟨o,e,_⟩:=T.obj _ _ st5 b hb
     exact (I8.pin (b,o) (mem_append_right _ (mem_append_right _ (Nn hb e)))).2.1
   cases b with
   | false =>
    rw[if_neg Bool.false_ne_true] at q7 ⊢
    exact again I7 q7
   | true =>
    rw[if_pos rfl] at q7 ⊢
    have a3:=he' _ s7 σ6 H7 _ I7 q7
    rw[eP,eW,eA,eE,eX] at a3
    refine thn a3 fun yv s8 ⟨y,H8,I8,r8,ys,hD,hz,q8⟩=>?_
    have a4:=Wn (X:=X') _ s8 σ6 H8 (.ref s2.heap.objs.size) [y] (.ref s2.heap.objs.size) [yv] (fun _ H9=>∃ m',m' < n/\W (i + 1) m' H9) I8 rfl (.cons r8 .nil) ⟨_,ys,y,rfl,rfl,hD,hz,q8⟩
    rw[eP,eW,eA,eX] at a4
    exact thn a4 fun _ s9 ⟨_,H9,I9,_,q9⟩=>again I9 q9
 exact codeAny_compStart_list (loop _ rfl) (T.self _ 0 _ _ _ hst₁ (loop _ rfl))
theorem Abc {X:Cx} {elt tg iter:Expr} {ifs:List Expr} {scope:Scope} {pos:Pos} {wi:TI} {g:TG} {tc:TT} {te:TE} {k:Nat} {fr:List Nat} {N' fn:List Str} (hc:X.calm = true)
  (hi:PI X tg iter wi) (hN:N'.length = k + fr.length)
  (hfr:∀ j y,N'[k + j]? = some y->∀ i,fr[j]? = some i->X.N[i]? = some y/\X.env.kindOf y = some .cell/\(compEnvC scope (Fd fn X.env) 0 X.env).kindOf y = some .cell/\y ∈ fn)
  (hfn:∀ y ∈ fn,X.env.kindOf y = some .cell)
  (hkd:∀ y,((compEnvC scope (Fd fn X.env) 0 X.env).kindOf y = some .cell\/(compEnvC scope (Fd fn X.env) 0 X.env).kindOf y = some .free)->y ∈ fn)
  (hg:∀ C fp s H,PG (Dx X scope N' fn C fp s H) tg g) (ht:∀ C fp s H,Qd (Dx X scope N' fn C fp s H) ifs tc) (he:∀ C fp s H,PE (Dx X scope N' fn C fp s H) elt te)
  (hclos:closureFor scope X.env = pure (Fd fn X.env)) (hcell:∀ y ∈ scope.names,y.2 ≠ .cell) (hkind:scope.kind = .function) (hnames:∀ y ∈ scope.names,y.2 = .local->scope.names.lookup y.1 = some .local)
  (hs:∀ x,foldedSetIterable iter X.env x = pure x:=by intro _; rfl):PE X (.ListComp elt [⟨tg,iter,ifs,0⟩] scope pos) (Jc wi g tc te k fr):=by
 intro pins s σ H Q I h
 rw[eval_ListComp]
 refine Wu hc hi hN hfr hfn hkd hg ht he hclos hcell hkind hnames hs I h fun H3 s4 D C m hn Ix hC h1 h2 h3 h4 q=>?_
 exact⟨m,hn,fun h' sb=>⟨.ref D,H3,Inv.nsch Ix sb hC h1 h2 h3 h4,rfl,q⟩⟩
theorem Aa6 {X:Cx} {elt tg iter:Expr} {ifs:List Expr} {scope:Scope} {pos px spos:Pos} {i:Nat} {x:Str} {wi:TI} {g:TG} {tc:TT} {te:TE} {k:Nat} {fr:List Nat} {N' fn:List Str} (hc:X.calm = true)
  (hi:PI X tg iter wi) (hN:N'.length = k + fr.length)
  (hfr:∀ j y,N'[k + j]? = some y->∀ i,fr[j]? = some i->X.N[i]? = some y/\X.env.kindOf y = some .cell/\(compEnvC scope (Fd fn X.env) 0 X.env).kindOf y = some .cell/\y ∈ fn)
  (hfn:∀ y ∈ fn,X.env.kindOf y = some .cell)
  (hkd:∀ y,((compEnvC scope (Fd fn X.env) 0 X.env).kindOf y = some .cell\/(compEnvC scope (Fd fn X.env) 0 X.env).kindOf y = some .free)->y ∈ fn)
  (hg:∀ C fp s H,PG (Dx X scope N' fn C fp s H) tg g) (ht:∀ C fp s H,Qd (Dx X scope N' fn C fp s H) ifs tc) (he:∀ C fp s H,PE (Dx X scope N' fn C fp s H) elt te)
  (hclos:closureFor scope X.env = pure (Fd fn X.env)) (hcell:∀ y ∈ scope.names,y.2 ≠ .cell) (hkind:scope.kind = .function) (hnames:∀ y ∈ scope.names,y.2 = .local->scope.names.lookup y.1 = some .local)
  (hs:∀ x,foldedSetIterable iter X.env x = pure x:=by intro _; rfl) (hNd:X.N.Nodup) (hix:X.N[i]? = some x) (hx:Loc X.env.scope x) (hsw:swapsWith (.ListComp elt [⟨tg,iter,ifs,0⟩] scope pos) (some (.Name x px)) spos.line X.env = pure true)
  (hf:X.fn x = true\/X.env.scope.names.lookup x = some .local:=by first | exact .inl rfl | exact .inr rfl | assumption):PS X (.Assign [.Name x px] (.ListComp elt [⟨tg,iter,ifs,0⟩] scope pos) spos) (Lq (Jc wi g tc te k fr) (Gn i)):=by
 intro pins s σ H D I h
 rw[exec_Assign_Name_used _ _ _ _ hsw]
 refine wpAny_bind (wpAny_standAt (wpAny_bind ?_))
 show wpAny _ X.A (do let _ <- comprehension (.ListComp elt [⟨tg,iter,ifs,0⟩] scope pos) scope X.env _ (newList []) false (eval iter X.env) (some (assign (.Name x px) X.env))) _ _ s
 refine wpAny_bind (wpAny_mono (Wu (use:=some (assign (.Name x px) X.env)) (Qc:=fun _ s'=>SP X pins D .next s') hc hi hN hfr hfn hkd hg ht he hclos hcell hkind hnames hs I h fun H3 s4 D' C m hn Ix hC h1 h2 h3 h4 q=>?_) (fun _ s' hq=>wpAny_pure (wpAny_pure hq)) fun _ _ e=>e)
 show wpAny _ X.A (assign (.Name x px) X.env (.ref D')) _ _ _
 refine wpAny_assign_Name (Ww Ix hNd hix hx (v:=.ref D') rfl (fun s' I' ⟨a,sb,ha⟩=>?_) hf)
 have nCa:C ≠ a:=by
  rcases ha with w | w
  ·rw[w]; exact h2
  ·exact (h3 _ _ w).symm
 exact⟨m,hn.sameBut sb nCa,fun h' sb'=>⟨_,H3,Inv.nsch I' sb' hC h1 h2 h3 h4,q⟩⟩
theorem Cb {X:Cx} {scope:Scope} {N' fn:List Str} {C:Addr} {fp:List Addr} {s:Shared} {H:Hp}:(Dx X scope N' fn C fp s H).K = X.K:=rfl
theorem Ga {X:Cx} {pos:Pos} {K':Frag} (hK:X.K = K') {es:List Expr} {k:Nat} {t:TGs} {n:Nat} (hc:X.calm = true) (h:PGs X es t)
  (hn:(assignEach es X.env).length = n:=by rfl) (hst:(assignEach es X.env).findIdx? (·.1) = none:=by rfl):PG X (.Tuple es k pos) (Wj K' n t):=by
 subst hK
 exact Oj hc h hn hst
theorem Jm:∀ {l:List (Str × NameKind)} {y:Str} {k:NameKind},l.lookup y = some k->(y,k) ∈ l
 | [],_,_,h=>by cases h
 | (x,j) :: r,y,k,h=>by
  rw[lookup_cons] at h
  cases e:y == x with
  | true =>
   rw[e] at h
   cases h
   rw[eq_of_beq e]; exact mem_cons_self
  | false =>
   rw[e] at h
   exact mem_cons_of_mem _ (Jm h)
theorem Rq {X:Cx} {elt tg iter:Expr} {ifs:List Expr} {scope:Scope} {pos:Pos} {wi:TI} {g:TG} {tc:TT} {te:TE} (k:Nat) (N':List Str) (hN:N'.length = k) (hc:X.calm = true)
  (hi:PI X tg iter wi)
  (hg:∀ C fp s H,PG (Dx X scope N' [] C fp s H) tg g) (ht:∀ C fp s H,Qd (Dx X scope N' [] C fp s H) ifs tc) (he:∀ C fp s H,PE (Dx X scope N' [] C fp s H) elt te)
  (hfree:∀ y ∈ scope.names,y.2 ≠ .free) (hcell:∀ y ∈ scope.names,y.2 ≠ .cell) (hkind:scope.kind = .function) (hnames:∀ y ∈ scope.names,y.2 = .local->scope.names.lookup y.1 = some .local)
  (hs:∀ x,foldedSetIterable iter X.env x = pure x:=by intro _; rfl):PE X (.ListComp elt [⟨tg,iter,ifs,0⟩] scope pos) (Jc wi g tc te k []):=by
 refine Abc (fn:=[]) (fr:=[]) (k:=k) hc hi hN (fun j y _ i e=>by simp at e) (fun y hy=>by cases hy) (fun y h=>?_) hg ht he (PySem.closureFor_none hfree) hcell hkind hnames hs
 have e:∀ k,(compEnvC scope (Fd [] X.env) 0 X.env).kindOf y = some k->∃ p ∈ scope.names,p.2 = .free\/p.2 = k:=by
  intro k h
  have m:=Jm (show (relabel scope X.env).names.lookup y = some k from h)
  obtain⟨p,hp,ep⟩:=mem_map.mp (show (y,k) ∈ scope.names.map _ from m)
  obtain⟨n,kd⟩:=p
  refine⟨(n,kd),hp,?_⟩
  dsimp only at ep
  split at ep
  ·rename_i c
   simp only [and_eq_true,beq_iff_eq] at c
   exact .inl c.1.1
  ·exact .inr (Prod.mk.inj ep).2
 rcases h with h | h
 ·obtain⟨p,hp,z⟩:=e _ h
  rcases z with z | z
  ·exact (hfree p hp z).elim
  ·exact (hcell p hp z).elim
 ·obtain⟨p,hp,z⟩:=e _ h
  rcases z with z | z
  ·exact (hfree p hp z).elim
  ·exact (hfree p hp z).elim
theorem Rp {X:Cx} {elt tg iter:Expr} {ifs:List Expr} {scope:Scope} {pos px spos:Pos} {i:Nat} {x:Str} {wi:TI} {g:TG} {tc:TT} {te:TE} (k:Nat) (N':List Str) (hN:N'.length = k) (hc:X.calm = true)
  (hi:PI X tg iter wi)
  (hg:∀ C fp s H,PG (Dx X scope N' [] C fp s H) tg g) (ht:∀ C fp s H,Qd (Dx X scope N' [] C fp s H) ifs tc) (he:∀ C fp s H,PE (Dx X scope N' [] C fp s H) elt te)
  (hfree:∀ y ∈ scope.names,y.2 ≠ .free) (hcell:∀ y ∈ scope.names,y.2 ≠ .cell) (hkind:scope.kind = .function) (hnames:∀ y ∈ scope.names,y.2 = .local->scope.names.lookup y.1 = some .local)
  (hs:∀ x,foldedSetIterable iter X.env x = pure x:=by intro _; rfl) (hNd:X.N.Nodup) (hix:X.N[i]? = some x) (hx:Loc X.env.scope x) (hsw:swapsWith (.ListComp elt [⟨tg,iter,ifs,0⟩] scope pos) (some (.Name x px)) spos.line X.env = pure true)
  (hf:X.fn x = true\/X.env.scope.names.lookup x = some .local:=by first | exact .inl rfl | exact .inr rfl | assumption):PS X (.Assign [.Name x px] (.ListComp elt [⟨tg,iter,ifs,0⟩] scope pos) spos) (Lq (Jc wi g tc te k []) (Gn i)):=by
 refine Aa6 (fn:=[]) (fr:=[]) (k:=k) hc hi hN (fun j y _ i e=>by simp at e) (fun y hy=>by cases hy) (fun y h=>?_) hg ht he (PySem.closureFor_none hfree) hcell hkind hnames hs hNd hix hx hsw hf
 have e:∀ k,(compEnvC scope (Fd [] X.env) 0 X.env).kindOf y = some k->∃ p ∈ scope.names,p.2 = .free\/p.2 = k:=by
  intro k h
  have m:=Jm (show (relabel scope X.env).names.lookup y = some k from h)
  obtain⟨p,hp,ep⟩:=mem_map.mp (show (y,k) ∈ scope.names.map _ from m)
  obtain⟨n,kd⟩:=p
  refine⟨(n,kd),hp,?_⟩
  dsimp only at ep
  split at ep
  ·rename_i c
   simp only [and_eq_true,beq_iff_eq] at c
   exact .inl c.1.1
  ·exact .inr (Prod.mk.inj ep).2
 rcases h with h | h
 ·obtain⟨p,hp,z⟩:=e _ h
  rcases z with z | z
  ·exact (hfree p hp z).elim
  ·exact (hcell p hp z).elim
 ·obtain⟨p,hp,z⟩:=e _ h
  rcases z with z | z
  ·exact (hfree p hp z).elim
  ·exact (hfree p hp z).elim
theorem Gm {X:Cx} {elt tg iter:Expr} {ifs:List Expr} {scope:Scope} {pos:Pos} {wi:TI} {g:TG} {tc:TT} {te:TE} (k:Nat) (fr:List Nat) (N' fn:List Str) (hc:X.calm = true)
  (hi:PI X tg iter wi) (hN:N'.length = k + fr.length)
  (hfr:∀ j y,N'[k + j]? = some y->∀ i,fr[j]? = some i->X.N[i]? = some y/\X.env.kindOf y = some .cell/\(compEnvC scope (Fd fn X.env) 0 X.env).kindOf y = some .cell/\y ∈ fn)
  (hfn:∀ y ∈ fn,X.env.kindOf y = some .cell) (hkd:∀ p ∈ scope.names,(p.2 = .cell\/p.2 = .free)->p.1 ∈ fn)
  (hg:∀ C fp s H,PG (Dx X scope N' fn C fp s H) tg g) (ht:∀ C fp s H,Qd (Dx X scope N' fn C fp s H) ifs tc) (he:∀ C fp s H,PE (Dx X scope N' fn C fp s H) elt te)
  (hclos:closureFor scope X.env = pure (Fd fn X.env)) (hcell:∀ y ∈ scope.names,y.2 ≠ .cell) (hkind:scope.kind = .function) (hnames:∀ y ∈ scope.names,y.2 = .local->scope.names.lookup y.1 = some .local)
  (hs:∀ x,foldedSetIterable iter X.env x = pure x:=by intro _; rfl):PE X (.ListComp elt [⟨tg,iter,ifs,0⟩] scope pos) (Jc wi g tc te k fr):=by
 refine Abc hc hi hN hfr hfn (fun y h=>?_) hg ht he hclos hcell hkind hnames hs
 have e:∀ k,(compEnvC scope (Fd fn X.env) 0 X.env).kindOf y = some k->∃ p ∈ scope.names,p.1 = y/\(p.2 = .free\/p.2 = k):=by
  intro k h
  have m:=Jm (show (relabel scope X.env).names.lookup y = some k from h)
  obtain⟨p,hp,ep⟩:=mem_map.mp (show (y,k) ∈ scope.names.map _ from m)
  obtain⟨n,kd⟩:=p
  refine⟨(n,kd),hp,?_⟩
  dsimp only at ep
  split at ep
  ·rename_i c
   simp only [and_eq_true,beq_iff_eq] at c
   exact⟨(Prod.mk.inj ep).1,.inl c.1.1⟩
  ·exact⟨(Prod.mk.inj ep).1,.inr (Prod.mk.inj ep).2⟩
 rcases h with h | h
 ·obtain⟨p,hp,z1,z⟩:=e _ h
  rw[<- z1]; exact hkd p hp (z.elim .inr .inl)
 ·obtain⟨p,hp,z1,z⟩:=e _ h
  rw[<- z1]; exact hkd p hp (.inr (z.elim id id))
theorem Ra {X:Cx} {elt tg iter:Expr} {ifs:List Expr} {scope:Scope} {pos px spos:Pos} {i:Nat} {x:Str} {wi:TI} {g:TG} {tc:TT} {te:TE} (k:Nat) (fr:List Nat) (N' fn:List Str) (hc:X.calm = true)
  (hi:PI X tg iter wi) (hN:N'.length = k + fr.length)
  (hfr:∀ j y,N'[k + j]? = some y->∀ i,fr[j]? = some i->X.N[i]? = some y/\X.env.kindOf y = some .cell/\(compEnvC scope (Fd fn X.env) 0 X.env).kindOf y = some .cell/\y ∈ fn)
  (hfn:∀ y ∈ fn,X.env.kindOf y = some .cell) (hkd:∀ p ∈ scope.names,(p.2 = .cell\/p.2 = .free)->p.1 ∈ fn)
  (hg:∀ C fp s H,PG (Dx X scope N' fn C fp s H) tg g) (ht:∀ C fp s H,Qd (Dx X scope N' fn C fp s H) ifs tc) (he:∀ C fp s H,PE (Dx X scope N' fn C fp s H) elt te)
  (hclos:closureFor scope X.env = pure (Fd fn X.env)) (hcell:∀ y ∈ scope.names,y.2 ≠ .cell) (hkind:scope.kind = .function) (hnames:∀ y ∈ scope.names,y.2 = .local->scope.names.lookup y.1 = some .local)
  (hs:∀ x,foldedSetIterable iter X.env x = pure x:=by intro _; rfl) (hNd:X.N.Nodup) (hix:X.N[i]? = some x) (hx:Loc X.env.scope x) (hsw:swapsWith (.ListComp elt [⟨tg,iter,ifs,0⟩] scope pos) (some (.Name x px)) spos.line X.env = pure true)
  (hf:X.fn x = true\/X.env.scope.names.lookup x = some .local:=by first | exact .inl rfl | exact .inr rfl | assumption):PS X (.Assign [.Name x px] (.ListComp elt [⟨tg,iter,ifs,0⟩] scope pos) spos) (Lq (Jc wi g tc te k fr) (Gn i)):=by
 refine Aa6 hc hi hN hfr hfn (fun y h=>?_) hg ht he hclos hcell hkind hnames hs hNd hix hx hsw hf
 have e:∀ k,(compEnvC scope (Fd fn X.env) 0 X.env).kindOf y = some k->∃ p ∈ scope.names,p.1 = y/\(p.2 = .free\/p.2 = k):=by
  intro k h
  have m:=Jm (show (relabel scope X.env).names.lookup y = some k from h)
  obtain⟨p,hp,ep⟩:=mem_map.mp (show (y,k) ∈ scope.names.map _ from m)
  obtain⟨n,kd⟩:=p
  refine⟨(n,kd),hp,?_⟩
  dsimp only at ep
  split at ep
  ·rename_i c
   simp only [and_eq_true,beq_iff_eq] at c
   exact⟨(Prod.mk.inj ep).1,.inl c.1.1⟩
  ·exact⟨(Prod.mk.inj ep).1,.inr (Prod.mk.inj ep).2⟩
 rcases h with h | h
 ·obtain⟨p,hp,z1,z⟩:=e _ h
  rw[<- z1]; exact hkd p hp (z.elim .inr .inl)
 ·obtain⟨p,hp,z1,z⟩:=e _ h
  rw[<- z1]; exact hkd p hp (.inr (z.elim id id))
theorem Afj {K:Frag} {σ:St} {H:Hp} {Q:VK} {D a:Addr} {xs:List V} {g:TG} {tc:TT} {te:TE} {k:Nat} {fr:List Nat} (Pv:Nat->Hp->Prop)
  (h0:Pv 0 H) (hl:∀ i H',i <= xs.length->Pv i H'->SqL K H' a xs)
  (hs:∀ i x H' (N:Hp->Prop),xs[i]? = some x->Pv i H'->(∀ H'',Pv (i + 1) H''->N H'')->g x (compσ k fr σ) H' fun σ2 H2=>σ2.drop k = (compσ k fr σ).drop k/\tc σ2 H2 fun b H3 =>
   if b = true then te σ2 H3 (fun y H4=>∃ ys,H4 D = some (.lst ys)/\ys.length < sizeLine/\N (upd H4 D (.lst (ys ++ [y])))) else N H3)
  (hd:∀ H',Pv xs.length H'->Q (.ref D) H') :
  ∃ W:Nat->Nat->Hp->Prop,(∃ m,W 0 m H)/\∀ i m H,W i m H->((Itl K a).stop i H/\Q (.ref D) H)\/((Itl K a).go i H/\∀ x H',(Itl K a).yld i H x H'->g x (compσ k fr σ) H' fun σ2 H2 =>
  σ2.drop k = (compσ k fr σ).drop k/\tc σ2 H2 fun b H3=>if b = true then te σ2 H3 (fun y H4=>∃ ys,H4 D = some (.lst ys)/\ys.length < sizeLine/\∃ m',m' < m/\W (i + 1) m' (upd H4 D (.lst (ys ++ [y])))) else ∃ m',m' < m/\W (i + 1) m' H3):=by
 refine⟨fun i m H=>m = xs.length - i/\i <= xs.length/\Pv i H,⟨xs.length,by simp,zero_le _,h0⟩,?_⟩
 rintro i m H' ⟨rfl,hi,p⟩
 have q:=hl i H' hi p
 by_cases hlt:i < xs.length
 ·refine .inr ⟨⟨xs,xs[i],q,by simp [hlt]⟩,fun x H'' y=>?_⟩
  obtain⟨e,y⟩:=y
  subst e
  exact hs i x _ (fun H''=>∃ m',m' < xs.length - i/\m' = xs.length - (i + 1)/\i + 1 <= xs.length/\Pv (i + 1) H'') (y xs q) p fun H'' p'=>⟨_,by omega,rfl,hlt,p'⟩
 ·have e:i = xs.length:=by omega
  subst e
  exact .inl ⟨⟨xs,q,Nat.le_refl _⟩,hd H' p⟩
theorem Acm {σ:St} {H:Hp} {Q:VK} {D:Addr} {lo:Int} {n:Nat} {g:TG} {tc:TT} {te:TE} {k:Nat} {fr:List Nat} (Pv:Nat->Hp->Prop) (h0:Pv 0 H)
  (hs:∀ i H' (N:Hp->Prop),i < n->Pv i H'->(∀ H'',Pv (i + 1) H''->N H'')->g (.int (lo + i)) (compσ k fr σ) H' fun σ2 H2=>σ2.drop k = (compσ k fr σ).drop k/\tc σ2 H2 fun b H3 =>
   if b = true then te σ2 H3 (fun y H4=>∃ ys,H4 D = some (.lst ys)/\ys.length < sizeLine/\N (upd H4 D (.lst (ys ++ [y])))) else N H3)
  (hd:∀ H',Pv n H'->Q (.ref D) H') :
  ∃ W:Nat->Nat->Hp->Prop,(∃ m,W 0 m H)/\∀ i m H,W i m H->((Itr lo n).stop i H/\Q (.ref D) H)\/((Itr lo n).go i H/\∀ x H',(Itr lo n).yld i H x H'->g x (compσ k fr σ) H' fun σ2 H2 =>
  σ2.drop k = (compσ k fr σ).drop k/\tc σ2 H2 fun b H3=>if b = true then te σ2 H3 (fun y H4=>∃ ys,H4 D = some (.lst ys)/\ys.length < sizeLine/\∃ m',m' < m/\W (i + 1) m' (upd H4 D (.lst (ys ++ [y])))) else ∃ m',m' < m/\W (i + 1) m' H3):=by
 refine⟨fun i m H=>m = n - i/\i <= n/\Pv i H,⟨n,by simp,zero_le _,h0⟩,?_⟩
 rintro i m H' ⟨rfl,hi,p⟩
 by_cases hlt:i < n
 ·refine .inr ⟨hlt,fun x H'' y=>?_⟩
  obtain⟨e,y⟩:=y
  subst e
  subst y
  exact hs i _ (fun H''=>∃ m',m' < n - i/\m' = n - (i + 1)/\i + 1 <= n/\Pv (i + 1) H'') hlt p fun H'' p'=>⟨_,by omega,rfl,hlt,p'⟩
 ·have e:i = n:=by omega
  subst e
  exact .inl ⟨Nat.le_refl _,hd H' p⟩
section
variable {X:Cx} {K':Frag}
theorem Dh (K':Frag) (h:X.K = K':=by rfl):IxR X (Vx K'):=by subst h; exact AeQ
theorem Ck (K':Frag) (h:X.K = K':=by rfl):IxR X (Aar K'):=by subst h; exact AbK
theorem Ji (K':Frag) (h:X.K = K':=by rfl):OpR X (compareOp .In) (rIn K' false):=by subst h; exact Rx
theorem Aii (K':Frag) (hu:X.A.units + 64 < cLine) (h:X.K = K':=by rfl):OpR X (compareOp .Eq) (AaG K' false):=by subst h; exact Akl hu
theorem Tc (K':Frag) (hu:X.A.units + 64 < cLine) (h:X.K = K':=by rfl):OpR X (compareOp .NotEq) (AaG K' true):=by subst h; exact AkF hu
theorem Zc (K':Frag) (h:X.K = K':=by rfl):Lw X (.builtin "isinstance") (fun vs H Q=>∃ x n t b,vs = [x,.ty n]/\Gk K' H x t/\kitOne K' t (.type n) = some b/\Q (.bl b) H):=by subst h; exact Gy
theorem Cq (K':Frag) (h:X.K = K':=by rfl):Lw X (.builtin "len") (fun xs H Q=>∃ p ys,xs = [.ref p]/\(SqL K' H p ys\/SqT K' H p ys)/\Q (.int ys.length) H):=by subst h; exact Oh
end
theorem Same.laid {H:Hp} {p:Addr} {o:HO} (h:H p = none):Same H (upd H p o):=fun q u e=>by rw[Bh (by intro z; subst z; rw[h] at e; cases e)]; exact e
def Chg (a:Addr) (H H':Hp):Prop:=∀ q o,H q = some o->q ≠ a->H' q = some o
theorem Chg.put {H:Hp} {a:Addr} {o:HO}:Chg a H (upd H a o):=fun q u e n=>by rw[Bh n]; exact e
theorem Same.chg {a:Addr} {H H1 H2:Hp} (x:Same H H1) (y:Chg a H1 H2) (f:H a = none):Same H H2:=fun q o h=>y q o (x q o h) (by intro z; subst z; rw[f] at h; cases h)
section
variable {X:Cx} {es:List Expr} {t:TA} {pos:Pos}
def Ab0 (t:TA):TE:=fun σ H Q=>t σ H fun xs H1=>xs.length <= sizeLine/\∀ p H2,H1 p = none->Same H1 H2->H2 p = some (.tup xs)->Q (.ref p) H2
def Xl (t:TA):TE:=fun σ H Q=>t σ H fun xs H1=>xs.length <= sizeLine/\∀ p H2,H1 p = none->Same H1 H2->H2 p = some (.lst xs)->Q (.ref p) H2
theorem Fw {x1} (h:PA X es t):PE X (.Tuple es x1 pos) (Ab0 t):=by
 intro pins s σ H Q I hq
 refine wpAny_Tuple_spliced (thn (h pos pins s σ H _ I hq) fun us s1 ⟨xs,H1,I1,r,z,q⟩=>⟨by rw[<- r.length]; exact z,?_⟩)
 have hf:H1 s1.heap.objs.size = none:=I1.hok.fresh (Nat.le_refl _)
 refine⟨.ref s1.heap.objs.size,upd H1 s1.heap.objs.size (.tup xs),I1.laid (t':=s1.toks) (fun b u e=>get?_push_of_some _ e) (Nat.le_refl _) ?_,rfl,q _ _ hf (Same.laid hf) Bl⟩
 exact⟨z,us,r,⟨_,get?_push_size _ rfl,rfl,_,rfl⟩⟩
theorem Co (h:PA X es t):PE X (.List es pos) (Xl t):=by
 intro pins s σ H Q I hq
 refine wpAny_List_spliced (thn (h pos pins s σ H _ I hq) fun us s1 ⟨xs,H1,I1,r,z,q⟩=>⟨by rw[<- r.length]; exact z,?_⟩)
 have hf:H1 s1.heap.objs.size = none:=I1.hok.fresh (Nat.le_refl _)
 refine⟨.ref s1.heap.objs.size,upd H1 s1.heap.objs.size (.lst xs),I1.laid (t':=s1.toks) (fun b u e=>get?_push_of_some _ e) (Nat.le_refl _) ?_,rfl,q _ _ hf (Same.laid hf) Bl⟩
 exact⟨z,us,0,r,get?_push_size _ rfl⟩
def Ahc:R2:=fun x y H Q=>∃ l b xs zs,x = .ref l/\y = .ref b/\H l = some (.lst xs)/\H b = some (.lst zs)/\xs.length + zs.length <= sizeLine/\∀ p H',H p = none->Same H H'->H' p = some (.lst (xs ++ zs))->Q (.ref p) H'
theorem Fv:OpR X (binaryOp .Add) Ahc:=fun pins s σ H x y v u Q I r1 r2 ⟨l,b,xs,zs,e1,e2,h1,h2,hz,q⟩=>AjO pins s σ H x y v u Q I r1 r2 ⟨l,b,xs,zs,e1,e2,h1,h2,hz,fun p hp=>q p _ hp (Same.laid hp) Bl⟩
def Og:V->List V->Hp->VK->Prop:=fun x vs H Q=>∃ l xs y,x = .ref l/\vs = [y]/\H l = some (.lst xs)/\xs.length < sizeLine/\∀ H',Chg l H H'->H' l = some (.lst (xs ++ [y]))->Q .non H'
theorem Df:MtR X "list.append" Og:=fun pins s σ H x vs v us Q I rx rv ⟨l,xs,y,e1,e2,h1,hz,q⟩=>Wn pins s σ H x vs v us Q I rx rv ⟨l,xs,y,e1,e2,h1,hz,q _ Chg.put Bl⟩
variable {K':Frag}
def Ahj (K:Frag):V->Option Int->Option Int->Hp->VK->Prop:=fun x lo hi H Q=>∃ a xs,x = .ref a/\SqL K H a xs/\∀ p H',H p = none->Same H H'->H' p = some (.lst (Ui xs lo hi))->Q (.ref p) H'
theorem Jh (K':Frag) (h:X.K = K':=by rfl):SlR X (Ahj K'):=by
 subst h
 exact fun pins s σ H x v vl vu lo hi sl Q I rx hs pl pu ⟨a,xs,e,hx,q⟩=>Aiw pins s σ H x v vl vu lo hi sl Q I rx hs pl pu ⟨a,xs,e,hx,fun p hp=>q p _ hp (Same.laid hp) Bl⟩
theorem Jo (K':Frag) (h:X.K = K':=by rfl):Lw X (.type "list") (fun xs H Q=>∃ p ys,xs = [.ref p]/\(SqL K' H p ys\/SqT K' H p ys)/\∀ l H',H l = none->Same H H'->H' l = some (.lst ys)->Q (.ref l) H'):=by
 subst h
 exact fun pins s σ H xs us Q I r ⟨p,ys,e,hx,q⟩=>Aae pins s σ H xs us Q I r ⟨p,ys,e,hx,fun l hl=>q l _ hl (Same.laid hl) Bl⟩
end
section
variable {σ:St} {H:Hp} {Q:VK} {K:Frag}
theorem AjL {t:TA} (q:t σ H fun xs H1=>xs.length <= sizeLine/\∀ p H2,H1 p = none->Same H1 H2->H2 p = some (.lst xs)->Q (.ref p) H2):Xl t σ H Q:=q
theorem Ng {a:Addr} {xs:List V} {y:V} (h:H a = some (.lst xs)) (hl:xs.length < sizeLine) (q:∀ H',Chg a H H'->H' a = some (.lst (xs ++ [y]))->Q .non H'):Og (.ref a) [y] H Q:=⟨a,xs,y,rfl,rfl,h,hl,q⟩
end
def CP (J:It) (D:Addr) (g:TG) (tc:TT) (te:TE) (k:Nat) (fr:List Nat) (σ:St) (H1:Hp) (Q:VK):Prop :=
 ∃ W:Nat->Nat->Hp->Prop,(∃ m,W 0 m H1)/\∀ i m H,W i m H->(J.stop i H/\Q (.ref D) H)\/(J.go i H/\∀ x H',J.yld i H x H'->g x (compσ k fr σ) H' fun σ2 H2 =>
  σ2.drop k = (compσ k fr σ).drop k/\tc σ2 H2 fun b H3=>if b = true then te σ2 H3 (fun y H4=>∃ ys,H4 D = some (.lst ys)/\ys.length < sizeLine/\∃ m',m' < m/\W (i + 1) m' (upd H4 D (.lst (ys ++ [y])))) else ∃ m',m' < m/\W (i + 1) m' H3)
theorem Nq {σ:St} {H:Hp} {Q:VK} {wi:TI} {g:TG} {tc:TT} {te:TE} {k:Nat} {fr:List Nat} (q:wi σ H fun J H1=>∀ D,H1 D = none->CP J D g tc te k fr σ (upd H1 D (.lst [])) Q):Jc wi g tc te k fr σ H Q:=q
theorem CP.list {K:Frag} {σ:St} {H:Hp} {Q:VK} {D a:Addr} {g:TG} {tc:TT} {te:TE} {k:Nat} {fr:List Nat} (xs:List V) (Pv:Nat->Hp->Prop)
  (h0:Pv 0 H) (hl:∀ i H',i <= xs.length->Pv i H'->SqL K H' a xs)
  (hs:∀ i x H' (N:Hp->Prop),xs[i]? = some x->Pv i H'->(∀ H'',Pv (i + 1) H''->N H'')->g x (compσ k fr σ) H' fun σ2 H2=>σ2.drop k = (compσ k fr σ).drop k/\tc σ2 H2 fun b H3 =>
   if b = true then te σ2 H3 (fun y H4=>∃ ys,H4 D = some (.lst ys)/\ys.length < sizeLine/\N (upd H4 D (.lst (ys ++ [y])))) else N H3)
  (hd:∀ H',Pv xs.length H'->Q (.ref D) H'):CP (Itl K a) D g tc te k fr σ H Q:=Afj Pv h0 hl hs hd
theorem CP.range {σ:St} {H:Hp} {Q:VK} {D:Addr} {lo:Int} {n:Nat} {g:TG} {tc:TT} {te:TE} {k:Nat} {fr:List Nat} (Pv:Nat->Hp->Prop) (h0:Pv 0 H)
  (hs:∀ i H' (N:Hp->Prop),i < n->Pv i H'->(∀ H'',Pv (i + 1) H''->N H'')->g (.int (lo + i)) (compσ k fr σ) H' fun σ2 H2=>σ2.drop k = (compσ k fr σ).drop k/\tc σ2 H2 fun b H3 =>
   if b = true then te σ2 H3 (fun y H4=>∃ ys,H4 D = some (.lst ys)/\ys.length < sizeLine/\N (upd H4 D (.lst (ys ++ [y])))) else N H3)
  (hd:∀ H',Pv n H'->Q (.ref D) H'):CP (Itr lo n) D g tc te k fr σ H Q:=Acm Pv h0 hs hd
def Yy (e:Addr->Bool):V->Bool
 | .ref p=>e p
 | _=>false
def AbT (e:Addr->Bool):Value->Bool
 | .ref p=>e p
 | _=>false
theorem Aac {e:Addr->Bool}:∀ {xs:List V} {us:List Value},Vals xs us->(∀ x ∈ xs,∃ p,x = V.ref p)->us.any (AbT e) = xs.any (Yy e)
 | _,_,.nil,_=>rfl
 | y :: xs,u :: us,.cons r t,f=>by
  obtain⟨p,rfl⟩:=f y mem_cons_self
  cases r
  rw[any_cons,any_cons,Aac t fun x hx=>f x (mem_cons_of_mem _ hx)]
  rfl
theorem Aft {xs:List V} {us:List Value} (r:Vals xs us):∀ u ∈ us,∃ x ∈ xs,RelV x u:=by
 induction r with
 | nil=>intro u hu; cases hu
 | cons r t ih =>
  intro u hu
  rcases mem_cons.mp hu with e | hu
  ·subst e; exact⟨_,mem_cons_self,r⟩
  ·obtain⟨x,hx,rx⟩:=ih u hu
   exact⟨x,mem_cons_of_mem _ hx,rx⟩
def Al2 (K:Frag) (neg:Bool):R2:=fun x y H Q=>∃ p xs e,y = .ref p/\SqL K H p xs/\(∀ x ∈ xs,∃ r,x = V.ref r)/\(∀ r,V.ref r ∈ xs->EqD K H 40 (.ref r) x (e r))/\Q (.bl (if neg then !(xs.any (Yy e)) else xs.any (Yy e))) H
theorem Xg {X:Cx} (hu:X.A.units + 64 < cLine):OpR X (compareOp .NotIn) (Al2 X.K true):=by
 intro pins s σ H x y v u Q I rx ry h
 obtain⟨p,xs,e,rfl,hq,fr,he,q⟩:=h
 cases ry
 obtain⟨its,r,pl,hz⟩:=I.list hq
 refine SeqAt.notIn_listAt (AbT e) pl.isList (fun w hw=>?_) ⟨.bl _,H,I,rfl,?_⟩
 ·obtain⟨z,hz,rz⟩:=Aft r w (by simpa using hw)
  obtain⟨a,rfl⟩:=fr z hz
  have:=(he a hz).at I (A:=X.A.in1) (by rw[Jw]; omega) rz rx
  cases rz
  exact this
 ·rw[show its.toArray.any (AbT e) = its.any (AbT e) by simp,Aac r fr]
  exact q
section
variable {X:Cx}
end
section
variable {X:Cx}
end
section
variable {M:Model} {A:Around} {E:Value->Shared->Prop} {s:Shared} {base:Heap} {env:Env} {outer:List Env} {L e:Addr} {Q:Unit->Shared->Prop}
end
section
variable {P:Program} {w:World} {H:Hp} {h h':Heap} {a:Addr} {o:HO}
end
section
variable {P:Program} {w:World} {K:Frag} {mg:Str->Option Value} {base:Heap} {N:List Str} {qual:Str} {scope:Scope} {f:Addr} {cd:Value} {A:Around} {outer:List Env} {s0:Shared} {H0:Hp} {E:XK}
end
section
variable {P:Program} {w:World} {K:Frag} {mg:Str->Option Value} {base:Heap} {N:List Str} {qual:Str} {scope:Scope} {f:Addr} {cd:Value} {A:Around} {outer:List Env} {s0:Shared} {H0:Hp} {E:XK}
end
section
variable {X:Cx} {pins:List (Addr × Obj)} {σ:St} {H:Hp} {s:Shared}
end
def An5 (x C:Addr):Heap->Prop:=fun h=>∃ o vs,h.get? x = some o/\o.cls = .ref C/\o.dict = none/\o.data = .fields vs
section
variable {X:Cx} {pins:List (Addr × Obj)} {σ:St} {H:Hp} {s:Shared}
end
section
variable {X:Cx} {k:Nat} {f C:Addr} {fd:FuncData} {ps:List Str} {sp:Sp} {dvs:List V} {ds:List Value} {x m:Str} {p pos apos:Pos} {e o:Expr} {es:List Expr} {ta:TE} {t:TA}
end
section
variable {σ:St} {H:Hp} {Q:VK} {D:Ends} {Ex:Addr->Hp->Prop}
end
section
variable {X:Cx} {pos:Pos} {a b:Expr} {op op' op2:CmpOp} {ops:List CmpOp} {es:List Expr} {e2:Expr} {ta tb:TE} {r:R2} {u:V->TE}
end
section
variable {a:Array Keyed}
end
section
variable {prog:Program} {w:World} {A:Around} {E:Value->Shared->Prop} {s:Shared} {z:Array Keyed}
end
section
variable {X:Cx} {pins:List (Addr × Obj)} {σ:St} {H:Hp} {s:Shared}
end
section
variable {X:Cx} {CX:CXT} {pins:List (Addr × Obj)} {σ:St} {H:Hp} {s:Shared} {k:Nat} {f:Addr} {fd:FuncData} {ps:List Str} {sp:Sp}
end
section
variable {X:Cx} {CX:CXT} {pins:List (Addr × Obj)} {σ:St} {H:Hp} {s:Shared} {k:Nat} {f C a dx:Addr} {fd:FuncData} {ps:List Str} {sp:Sp} {fs:List (Str × V)} {m x:Str} {A:Around} {E:Value->Shared->Prop} {o e ke:Expr} {to te:TE} {t tk:TA} {pos p kpos:Pos}
end
def Itn (K:Frag) (a:Addr):It :=
 ⟨fun i H=>∃ xs x,SqL K H a xs/\xs[i]? = some x,fun i H x H'=>∃ t y,H t = none/\(∀ xs,SqL K H a xs->xs[i]? = some y)/\x = .ref t/\H' = upd H t (.tup [.int (i:Int),y]),fun i H=>∃ xs,SqL K H a xs/\xs.length <= i⟩
theorem Aff {P:Program} {w:World} {K:Frag} {elts:List Expr} {x1:Nat} {tp:Pos} (a e it:Addr) (hne:e ≠ it) :
  Uj P w K (.Tuple elts x1 tp) (Itn K a) [e,it] e (fun i h=>(∃ old,IsEnum h e it i old)/\h.IsListIter it a i) where
 mem:=by simp
 obj:=fun i h st b hb=>by
  obtain⟨⟨old,e1⟩,ob,e2,c2,d2⟩:=st
  rcases mem_cons.mp hb with z | z
  ·subst z; exact⟨_,e1,fun v z=>nomatch z⟩
  ·have z':=mem_singleton.mp z
   subst z'
   exact⟨ob,e2,fun v z=>by rw[d2] at z; cases z⟩
 keep:=fun i h h' st k=>by
  obtain⟨⟨old,e1⟩,li⟩:=st
  exact⟨⟨old,k e (by simp) _ e1⟩,li.at fun o q=>k it (by simp) o q⟩
 item:=by
  intro X hP hw hK hc i pins s σ H E I hf st hg
  subst hP hw hK
  obtain⟨xs,x,hq,hx⟩:=hg
  obtain⟨⟨old,he⟩,li⟩:=st
  obtain⟨its,rv,p,hz⟩:=I.list hq
  obtain⟨u,hu,ru⟩:=rv.get hx
  obtain⟨f0,f1,f2,f3,f4,f5⟩:=hf e (by simp)
  obtain⟨g0,g1,g2,g3,g4,g5⟩:=hf it (by simp)
  have hfr:H s.heap.objs.size = none:=I.hok.fresh (Nat.le_refl _)
  have hne1:s.heap.objs.size ≠ e:=Nat.ne_of_gt (lt_size he)
  have hne2:s.heap.objs.size ≠ it:=by obtain⟨_,q,_⟩:=li; exact Nat.ne_of_gt (lt_size q)
  refine wpAny_pyNext_enum_item he li p.isList (x:=u) (by simpa using hu) hne fun h' ho li' hT hsz hk=>⟨_,rfl,?_⟩
  refine wpAny_letOwnedTupleGo_enum (s:={ s with heap:=h',toks:=s.toks + 1 }) ho fun h2 he2 hs=>?_
  have kp:∀ b o,b ≠ e->b ≠ it->s.heap.get? b = some o->h2.get? b = some o:=fun b o n1 n2 q=>(hs.2 b n1).trans (hk b o n1 n2 q)
  have hT2:h2.get? s.heap.objs.size = some { cls:=.type "tuple",data:=.seq #[.int i s.toks,u] }:=(hs.2 _ hne1).trans hT
  have nt:∀ b v,H b = some v->b ≠ s.heap.objs.size:=fun b v q=>By q hfr
  have nc:∀ b,b ∉ [e,it]->b ≠ e/\b ≠ it:=fun b z=>⟨fun w=>z (by simp [w]),fun w=>z (by simp [w])⟩
  refine⟨.ref s.heap.objs.size,upd H s.heap.objs.size (.tup [.int (i:Int),x]),?_,rfl,⟨_,x,hfr,(fun ys hy=>by rw[I.list_inj hy hq]; exact hx),rfl,rfl⟩,⟨⟨u,by simpa using he2⟩,li'.at fun o q=>(hs.2 it hne.symm).trans q⟩,fun b hb=>?_⟩
  ·refine Inv.step (s:=s) (h':=h2) I (g':=s.gens) (d':=s.drawn) (t':=s.toks + 1) (ch:=[e,it]) (fun b hb=>?_) (fun b o _ _ hc q _=>kp b o (nc b hc).1 (nc b hc).2 q) (fun b o _ _ hc q _=>⟨o.slots,kp b o (nc b hc).1 (nc b hc).2 q⟩)
    (fun b o hc q n=>by rw[Bh (ne_of_lt (lt_size q))]; exact n) (fun b o hc q=>⟨o,kp b o (nc b hc).1 (nc b hc).2 q⟩) (fun b xs q=>by rw[Bh (nt b _ q)]; exact q) (fun b o v q=>by rw[Bh (nt b _ q)]; exact q)
    (fun b ps q=>⟨#[],by rw[Bh (nt b _ q),q]; simp⟩) (fun m hm=>?_) (fun b v q=>?_) I.bare
   ·rcases mem_cons.mp hb with z | z
    ·subst z; exact⟨f3,f1,f4,f5⟩
    ·have z':=mem_singleton.mp z
     subst z'; exact⟨g3,g1,g4,g5⟩
   ·obtain⟨o,es,ep,ho,r⟩:=hm
    exact⟨o,es,ep,kp _ o (Ne.symm f1) (Ne.symm g1) ho,r⟩
   ·by_cases hb:b = s.heap.objs.size
    ·subst hb
     rw[Bl] at q
     cases q
     exact⟨by show 2 <= sizeLine; decide,[.int i s.toks,u],.cons (show RelV (.int (i:Int)) (.int i s.toks) from ⟨_,rfl⟩) (.cons ru .nil),_,hT2,rfl,_,rfl⟩
    ·rw[Bh hb] at q
     have n1:∀ c w,H c = some w->c ≠ e:=fun c w q z=>by rw[z,f0] at q; cases q
     have n2:∀ c w,H c = some w->c ≠ it:=fun c w q z=>by rw[z,g0] at q; cases q
     refine (I.hok b v q).stay (fun c v' hc q'=>?_) (fun c q'=>by rw[Bh (nt c _ q')]; exact q') fun c xs q'=>by rw[Bh (nt c _ q')]; exact q'
     rcases hc with z | z
     ·rw[z] at q' ⊢; exact kp b v' (n1 b _ q) (n2 b _ q) q'
     ·exact kp c v' (n1 c _ z) (n2 c _ z) q'
  ·rcases mem_cons.mp hb with z | z
   ·rw[z,Bh (Ne.symm hne1)]; exact f0
   ·rw[mem_singleton.mp z,Bh (Ne.symm hne2)]; exact g0
 done:=by
  intro X hP hw hK hc i pins s σ H E I hf st hg
  subst hP hw hK
  obtain⟨xs,hq,hx⟩:=hg
  obtain⟨⟨old,he⟩,li⟩:=st
  obtain⟨its,rv,p,hz⟩:=I.list hq
  obtain⟨g0,g1,g2,g3,g4,g5⟩:=hf it (by simp)
  have hl:=rv.length
  exact wpAny_pyNext_enum_end (I.ok.hd hc) he li p.isList (by simp; omega) fun h' eb=>⟨rfl,I.turned (t':=s.toks) (fun b o hb q=>eb b o hb q) g0 g1 g3 g4 g5⟩
 self:=fun A i s Q E st h=>by
  obtain⟨⟨old,he⟩,_⟩:=st
  exact wpAny_pyIter_enum he h
section
variable {X:Cx} {elts:List Expr} {x1:Nat} {tp p pos:Pos}
def Xn (K:Frag) (tl:TE):TI:=fun σ H R=>tl σ H fun x H1=>∃ a,x = .ref a/\(∃ xs,SqL K H1 a xs)/\R (Itn K a) H1
theorem Qf {l:Expr} {tl:TE} (hl:PE X l tl) (hg:Gl X "enumerate") (hm:X.mg "enumerate" = none) (hs:starEach [l] X.env = [(false,eval l X.env)]:=by rfl):PI X (.Tuple elts x1 tp) (.Call (.Name "enumerate" p) [l] [] pos) (Xn X.K tl):=by
 intro pins s σ H R I h
 have pa:PA X [l] (Fy tl Ln):=Ba hl Bd hs
 refine Call_ (Jz I hg hm PyProof.Rows.boot_enumerate (PyProof.Rows.callWith_type1 (thn (pa pos pins s σ H (fun vs H1=>match vs with
  | [x]=>∃ a,x = .ref a/\(∃ xs,SqL X.K H1 a xs)/\R (Itn X.K a) H1
  | _=>False) I h) fun us s1 ⟨vs,H1,I1,r1,q1⟩=>?_) hs rfl))
 match vs,q1 with
 | [x],⟨a,e,⟨xs,hq⟩,q⟩ =>
  subst e
  obtain⟨u,rfl,ru⟩:=Yb r1
  cases ru
  obtain⟨its,rv,pl,hz⟩:=I1.list hq
  refine call_enumerate_list pl.isList fun h' he li hsz hk=>?_
  have I2:Inv X pins σ H1 { s1 with heap:=h' }:=I1.kept (t':=s1.toks) hk
  refine wpAny_pyIter_enum (s:={ s1 with heap:=h' }) he ⟨s1.heap.objs.size + 1,[s1.heap.objs.size + 1,s1.heap.objs.size],_,_,H1,rfl,I2,Aff a _ _ (Nat.succ_ne_self _),⟨⟨_,he⟩,li⟩,fun b hb=>?_,q⟩
  have hge:s1.heap.objs.size <= b:=by
   rcases mem_cons.mp hb with z | z
   ·rw[z]; exact le_succ _
   ·rw[mem_singleton.mp z]; exact Nat.le_refl _
  exact I1.fpOk hge (I1.hok.fresh hge)
theorem AaL {K:Frag} {a:Addr} {xs:List V} {g:TG} {tb:TS} {D:Ends} {σ:St} {H:Hp} (Pv:Nat->St->Hp->Prop) (h0:Pv 0 σ H) (hl:∀ i σ H,i <= xs.length->Pv i σ H->SqL K H a xs)
  (hs:∀ i x t σ H,xs[i]? = some x->H t = none->Pv i σ H->g (.ref t) σ (upd H t (.tup [.int (i:Int),x])) fun σ2 H2=>tb { D with nx:=Pv (i + 1),ct:=Pv (i + 1),bk:=D.nx } σ2 H2) (hd:∀ σ H,Pv xs.length σ H->D.nx σ H) :
  ∃ W:Nat->Nat->St->Hp->Prop,(∃ m,W 0 m σ H)/\∀ i m σ H,W i m σ H ->
   ((Itn K a).stop i H/\D.nx σ H)\/((Itn K a).go i H/\∃ N:St->Hp->Prop,(∀ σ' H',N σ' H'->∃ m',m' < m/\W (i + 1) m' σ' H')/\∀ x H',(Itn K a).yld i H x H'->g x σ H' fun σ2 H2=>tb { D with nx:=N,ct:=N,bk:=D.nx } σ2 H2):=by
 refine⟨fun i m σ H=>m = xs.length - i/\i <= xs.length/\Pv i σ H,⟨xs.length,by simp,zero_le _,h0⟩,?_⟩
 rintro i m σ H ⟨rfl,hi,p⟩
 have q:=hl i σ H hi p
 by_cases hlt:i < xs.length
 ·refine .inr ⟨⟨xs,xs[i],q,by simp [hlt]⟩,Pv (i + 1),fun σ' H' p'=>⟨xs.length - (i + 1),by omega,rfl,hlt,p'⟩,fun x H' y=>?_⟩
  obtain⟨t,y,ht,hy,rfl,rfl⟩:=y
  have e:=hy xs q
  exact hs i y t σ _ e ht p
 ·have e:i = xs.length:=by omega
  subst e
  exact .inl ⟨⟨xs,q,Nat.le_refl _⟩,hd σ H p⟩
theorem CP.enum {K:Frag} {σ:St} {H:Hp} {Q:VK} {D a:Addr} {g:TG} {tc:TT} {te:TE} {k:Nat} {fr:List Nat} (xs:List V) (Pv:Nat->Hp->Prop)
  (h0:Pv 0 H) (hl:∀ i H',i <= xs.length->Pv i H'->SqL K H' a xs)
  (hs:∀ i x t H' (N:Hp->Prop),xs[i]? = some x->H' t = none->Pv i H'->(∀ H'',Pv (i + 1) H''->N H'')->g (.ref t) (compσ k fr σ) (upd H' t (.tup [.int (i:Int),x])) fun σ2 H2=>σ2.drop k = (compσ k fr σ).drop k/\tc σ2 H2 fun b H3 =>
   if b = true then te σ2 H3 (fun y H4=>∃ ys,H4 D = some (.lst ys)/\ys.length < sizeLine/\N (upd H4 D (.lst (ys ++ [y])))) else N H3)
  (hd:∀ H',Pv xs.length H'->Q (.ref D) H'):CP (Itn K a) D g tc te k fr σ H Q:=by
 refine⟨fun i m H=>m = xs.length - i/\i <= xs.length/\Pv i H,⟨xs.length,by simp,zero_le _,h0⟩,?_⟩
 rintro i m H ⟨rfl,hi,p⟩
 have q:=hl i H hi p
 by_cases hlt:i < xs.length
 ·refine .inr ⟨⟨xs,xs[i],q,by simp [hlt]⟩,fun x H' y=>?_⟩
  obtain⟨t,y,ht,hy,rfl,rfl⟩:=y
  have e:=hy xs q
  exact hs i y t H (fun H''=>∃ m',m' < xs.length - i/\m' = xs.length - (i + 1)/\i + 1 <= xs.length/\Pv (i + 1) H'') e ht p fun H'' p''=>⟨xs.length - (i + 1),by omega,rfl,hlt,p''⟩
 ·have e:i = xs.length:=by omega
  subst e
  exact .inl ⟨⟨xs,q,Nat.le_refl _⟩,hd H p⟩
end
section
variable {X:Cx} {e de:Expr} {t tk:TA} {pos p kpos:Pos}
end
theorem Aey:typeLookup (.type "list_reverseiterator") "__len__" = pure none:=by rw[typeLookup_type,builtinLookup_eq_fast]; kernel_rfl
theorem Agl:typeLookup (.type "list_reverseiterator") "__length_hint__" = pure (some (.builtin "list_reverseiterator.__length_hint__")):=by rw[typeLookup_type,builtinLookup_eq_fast]; kernel_rfl
section
variable {prog:Program} {w:World} {A:Around} {E:Value->Shared->Prop} {s:Shared} {R:Result->Shared->Prop} {I:Addr} {fp wr:List Addr} {G:Array GenState->Array GenState->Prop} {n:Nat} {P:Nat->Value->Prop} {St:Nat->Shared->Prop}
theorem Acb (W:WalksS prog w A.in1 I fp wr G n P St) (hT:∀ i s,St i s->s.TypeIs (.ref I) "list_reverseiterator") (S:Addr) (res:Value) (c₀:Nat) (hst:St 0 s) (hSf:S ∉ fp) (hI:I ∈ fp)
  (hS:s.heap.get? S = some { cls:=.type "list",data:=.seq #[] c₀ })
  (hR:∀ s' acc' c',Moved (S :: wr) G s s'->s'.heap.get? S = some { cls:=.type "list",dict:=none,data:=.seq acc' c',slots:=#[] }->ItemsOf P acc' n->R (.ok (.ret res)) s') (hn:n <= sizeLine) :
  wpAny (model prog w) A.in1 (Builtin.List.listExtendWith (.ref S) (.ref I) res)
   (fun fin s'=>match fin with | .done f=>R (.ok f) s' | .again c'=>c'.quiet = true/\codeAny (model prog w) A c' R s') (fun e s'=>R (.error e) s') s:=by
 have hSI:S ≠ I:=fun e=>hSf (e ▸ hI)
 unfold Builtin.List.listExtendWith
 refine wpAny_bind (wpAny_typeOf (hT 0 _ hst) ?_)
 have h1:Builtin.List.listSameRef (.ref S) (.ref I) = false:=by simp [Builtin.List.listSameRef,hSI]
 rw[if_neg (by rw[h1]; decide)]
 refine wpAny_bind (W.self 0 _ _ _ hst ?_)
 refine wpAny_bind (wpAny_holding ?_)
 unfold Builtin.List.listLengthHint
 refine wpAny_bind (wpAny_specialOf (hT 0 _ hst) Aey ?_)
 show wpAny _ A.in1 (specialOf (Value.ref I) (Str.ofString "__length_hint__") >>= _) _ _ _
 refine wpAny_bind (wpAny_specialOf (hT 0 _ hst) Agl ?_)
 (generalize hid:("list_reverseiterator.__length_hint__" : String) = id0; (fail_if_success (clear hid id0)); wp_delta; rw[show splitId id0 = some ("list_reverseiterator","__length_hint__") from by subst hid; decide +kernel]; subst hid)
 refine wpAny_bind (wpAny_isInstance (b:=true) (hT 0 _ hst) (by rw[isSubtype_type]; kernel_rfl) ?_)
 refine wpAny_pure ?_
 rw[if_neg (by decide)]
 exact wpAny_pure ⟨plainId_quiet F.plain_extend_loop _,codeAny_extend_loopS W hn _ hSf _ n 0 _ _ _ rfl (zero_le _) hst hS (ItemsOf.nil P) fun s' acc' c' hm hS' hacc=>hR s' acc' c' hm hS' hacc⟩
theorem AfT (W:WalksS prog w A.in1 I fp wr G n P St) (hT:∀ i s,St i s->s.TypeIs (.ref I) "list_reverseiterator") (S:Addr) (hst:St 0 s) (hSf:S ∉ fp) (hI:I ∈ fp)
  (hS:s.heap.get? S = some { cls:=.type "list",data:=.seq #[] })
  (hR:∀ s' acc' c',Moved (S :: wr) G s s'->s'.heap.get? S = some { cls:=.type "list",dict:=none,data:=.seq acc' c',slots:=#[] }->ItemsOf P acc' n->R (.ok (.ret .none)) s') (hn:n <= sizeLine) :
  wpAny (model prog w) A.in1 (Builtin.«list.__init__» ⟨[.ref S,.ref I],[]⟩)
   (fun fin s'=>match fin with | .done f=>R (.ok f) s' | .again c'=>c'.quiet = true/\codeAny (model prog w) A c' R s') (fun e s'=>R (.error e) s') s:=by
 show wpAny _ A.in1 (do let old <- Builtin.List.listItems (.ref S); Builtin.List.listUpdate (.ref S) (fun _=>#[]); letGo old.toList.reverse; Builtin.List.listExtendWith (.ref S) (.ref I) .none) _ _ s
 refine wpAny_bind ?_
 unfold Builtin.List.listItems
 refine wpAny_bind (wpAny_seqItems hS rfl (wpAny_pure ?_))
 show wpAny _ A.in1 (updateSeq S (fun _=>#[]) >>= fun _=>letGo (#[]:Array Value).toList.reverse >>= fun _=>Builtin.List.listExtendWith (.ref S) (.ref I) .none) _ _ s
 refine wpAny_bind (wpAny_updateSeq hS rfl ?_)
 have hS₂:=Heap.get?_update_self (Obj.mapSeq (fun _=>(#[]:Array Value))) hS rfl
 have oth:∀ b o,b ≠ S->s.heap.get? b = some o->(s.heap.update S (Obj.mapSeq (fun _=>(#[]:Array Value)))).get? b = some o :=
  fun b o hb e=>(Heap.get?_update_other _ _ (Ne.symm hb)).trans e
 refine wpAny_bind (wpAny_letGo ?_)
 refine Acb W hT S .none _ (W.frame 0 s _ s.toks hst (Nat.le_refl _) fun b hb o e=>oth b o (fun h=>hSf (h ▸ hb)) e) hSf hI hS₂ (fun s' acc' c' hm hS' hacc=>?_) hn
 exact hR s' acc' c' (Moved.trans W.gtrans ((Moved.refl W.grefl).then_heap (Nat.le_refl _) fun b o hb e=>oth b o (fun h=>hb (h ▸ mem_cons_self)) e) hm) hS' hacc
theorem Xh {Q:Value->Shared->Prop} (W:WalksS prog w A.in1.in1 I fp wr G n P St) (hT:∀ i s,St i s->s.TypeIs (.ref I) "list_reverseiterator") (hst:St 0 s) (hfp:∀ b ∈ fp,b < s.heap.objs.size) (hI:I ∈ fp)
  (hQ:∀ s' acc' c',Moved (s.heap.objs.size :: wr) G { s with heap:=s.heap.push { cls:=.type "list",data:=.seq #[] } } s' ->
   s'.heap.get? s.heap.objs.size = some { cls:=.type "list",dict:=none,data:=.seq acc' c',slots:=#[] }->ItemsOf P acc' n->Q (.ref s.heap.objs.size) s') (hn:n <= sizeLine) :
  wpAny (model prog w) A (call (.type "list") [.ref I]) Q E s:=by
 have hSf:s.heap.objs.size ∉ fp:=fun hm=>Nat.lt_irrefl _ (hfp _ hm)
 refine callType_codes (Q₁:=fun obj s₁=>obj = .ref s.heap.objs.size/\s₁ = { s with heap:=s.heap.push { cls:=.type "list",data:=.seq #[] } }) F.called_list (F.typeCall_list_1 _) F.entry_list_init
  (code_list_new _ ⟨rfl,rfl⟩) fun obj s₁ h₁=>?_
 obtain⟨rfl,rfl⟩:=h₁
 have hS:(s.heap.push { cls:=.type "list",data:=.seq #[] }).get? s.heap.objs.size = some { cls:=.type "list",data:=.seq #[] }:=get?_push_size _ rfl
 refine⟨⟨_,hS,rfl⟩,F.args_list_init_2 _ _,AfT W hT _ (W.frame 0 s _ s.toks hst (Nat.le_refl _) fun b _ o e=>get?_push_of_some _ e) hSf hI hS (fun s' acc' c' hm hS' hacc=>?_) hn⟩
 exact⟨rfl,hQ s' acc' c' hm hS' hacc⟩
end
theorem Xi:bootBuiltins "reversed" = some (.type "reversed"):=by kernel_rfl
def Aj7 (K:Frag) (tl:TE):TE:=fun σ H Q=>tl σ H fun x H1=>∃ a xs,x = .ref a/\SqL K H1 a xs/\∀ l H',H1 l = none->Same H1 H'->H' l = some (.lst xs.reverse)->Q (.ref l) H'
def on1 (R:V->Hp->Prop):List V->Hp->Prop
 | [x],H=>R x H
 | _,_=>False
section
variable {X:Cx} {p p2 pos pos2:Pos} {tg:Expr}
theorem Agr {xs:List V} {its:List Value} (h:Vals xs its):Vals xs.reverse its.reverse:=by
 induction h with
 | nil=>exact .nil
 | cons r t ih =>
  rw[List.reverse_cons,List.reverse_cons]
  exact ih.append (.cons r .nil)
theorem Aem {l:Expr} {tl:TE} (hl:PE X l tl) (hc:X.calm = true) (hgl:Gl X "list") (hml:X.mg "list" = none) (hg:Gl X "reversed") (hm:X.mg "reversed" = none) (hs:starEach [l] X.env = [(false,eval l X.env)]:=by rfl)
  (hs2:starEach [.Call (.Name "reversed" p) [l] [] pos] X.env = [(false,eval (.Call (.Name "reversed" p) [l] [] pos) X.env)]:=by rfl) :
  PE X (.Call (.Name "list" p2) [.Call (.Name "reversed" p) [l] [] pos] [] pos2) (Aj7 X.K tl):=by
 intro pins s σ H Q I h
 refine wpAny_Call_Name_kw (Jz I hgl hml boot_list ?_)
 refine callWith_type1 ?_ hs2 rfl
 rw[hs2]
 refine Calls.spliced_cons ?_
 refine wpAny_Call_Name_kw (Jz I hg hm Xi (callWith_type1 (thn ((Ba hl Bd hs) pos pins s σ H (on1 fun x H1=>∃ a xs,x = .ref a/\SqL X.K H1 a xs/\∀ l H',H1 l = none->Same H1 H'->H' l = some (.lst xs.reverse)->Q (.ref l) H') I h) fun us s1 ⟨vs,H1,I1,r1,q1⟩=>?_) hs rfl))
 cases vs with
 | nil=>exact False.elim q1
 | cons x vs =>
  cases vs with
  | cons y vs=>exact False.elim q1
  | nil =>
    obtain⟨a,xs,e0,hq,q⟩:=q1
    subst e0
    obtain⟨u,rfl,ru⟩:=Yb r1
    cases ru
    obtain⟨its,rv,pl,hz⟩:=I1.list hq
    have hlen:=rv.length
    have psz:∀ (h:Heap) (o:Obj),(h.push o).objs.size = h.objs.size + 1:=fun h o=>by simp [Heap.push]
    refine call_reversed_list pl.isList ?_
    refine Calls.spliced_nil ?_
    have hlt:a < s1.heap.objs.size:=by obtain⟨_,e,_⟩:=pl.isList; exact lt_size e
    have W:=(Walks.listRev (prog:=X.prog) (w:=X.w) (A:=X.A.in1.in1) (I.ok.hd hc) s1.heap.objs.size a (ne_of_lt hlt) its.toArray).toS
    refine Xh W (fun i s st=>st.2.1.typeIs) ⟨zero_le _,?_,pl.isList.push _⟩ (fun b hb=>?_) (by simp) (fun s' acc' c' hm hS hacc=>?_) (by simpa [<- hlen] using hz)
    ·exact⟨_,get?_push_size _ rfl,rfl,by simp [revObj]⟩
    ·have hb':b = s1.heap.objs.size\/b = a:=by simpa using hb
     rcases hb' with e | e
     ·rw[e]; show _ < (s1.heap.push _).objs.size; rw[psz]; exact lt_succ_self _
     ·rw[e]; show _ < (s1.heap.push _).objs.size; rw[psz]; exact lt_succ_of_lt hlt
    ·rw[Moved.eq_with hm]
     have es:acc' = its.reverse.toArray:=by
      apply Array.ext_getElem?
      intro i
      obtain⟨h1,h2⟩:=hacc
      by_cases hi:i < acc'.size
      ·have e1:acc'[i]? = some acc'[i]:=Array.getElem?_eq_getElem hi
       have e2:=h2 i _ e1
       rw[e1,<- e2]
       simp only [size_toArray] at h1 ⊢
       rw[List.getElem?_toArray,List.getElem?_toArray,List.getElem?_reverse (by omega)]
      ·rw[Array.getElem?_eq_none (by omega),Array.getElem?_eq_none (by simp only [size_toArray] at h1; simp; omega)]
     subst es
     refine⟨.ref _,upd H1 _ (.lst xs.reverse),I1.laid (s:=s1) (h':=s'.heap) (fun b o e=>?_) ?_ ?_,rfl,q _ _ (I1.hok.fresh ?_) (Same.laid (I1.hok.fresh ?_)) Bl⟩
     ·have hb:b < s1.heap.objs.size:=lt_size e
      refine hm.heap b o (fun z=>?_) (get?_push_of_some _ (get?_push_of_some _ e))
      have z':b = (s1.heap.push (revObj a ((its.toArray.size:Int) - 1))).objs.size\/b = s1.heap.objs.size:=by simpa using z
      rw[psz] at z'
      rcases z' with z' | z'
      ·rw[z'] at hb; exact absurd hb (Nat.not_lt.mpr (le_succ _))
      ·rw[z'] at hb; exact Nat.lt_irrefl _ hb
     ·show _ <= (s1.heap.push _).objs.size; rw[psz]; exact le_succ _
     ·exact⟨by simpa using hz,its.reverse,c',Agr rv,hS⟩
     ·show _ <= (s1.heap.push _).objs.size; rw[psz]; exact le_succ _
     ·show _ <= (s1.heap.push _).objs.size; rw[psz]; exact le_succ _
def Aej:V->V->V->Hp->(Hp->Prop)->Prop:=fun o i v H Q=>∃ p xs k j,o = .ref p/\i = .int k/\H p = some (.lst xs)/\ixN xs.length k = some j/\∀ H',Chg p H H'->H' p = some (.lst (xs.set j v))->Q H'
theorem Nf:AfH X Aej:=fun pins s σ H o i v ov iv u Q I ro ri rv ⟨p,xs,k,j,e1,e2,h1,h2,q⟩=>Af7 pins s σ H o i v ov iv u Q I ro ri rv ⟨p,xs,k,j,e1,e2,h1,h2,q _ Chg.put Bl⟩
def AhQ:R2:=fun x y H Q=>∃ l k xs,x = .ref l/\y = .int k/\H l = some (.lst xs)/\-(2 ^ 63) <= k/\k < 2 ^ 63/\xs.length * k.toNat <= sizeLine /\
 ∀ p H',H p = none->Same H H'->H' p = some (.lst (replicate k.toNat xs).flatten)->Q (.ref p) H'
theorem Abi:OpR X (binaryOp .Mult) AhQ:=fun pins s σ H x y v u Q I r1 r2 ⟨l,k,xs,e1,e2,h1,h2,h3,hz,q⟩=>AkC pins s σ H x y v u Q I r1 r2 ⟨l,k,xs,e1,e2,h1,h2,h3,hz,fun p hp=>q p _ hp (Same.laid hp) Bl⟩
def Alk (K:Frag) (neg:Bool):R2:=fun x y H Q=>Agi K neg x y H Q\/(AfM x y = true/\Q (.bl (if neg then !decide (x = y) else decide (x = y))) H)\/∃ a xs,SqT K H a xs/\((x = .ref a/\(y = .non\/∃ z,y = .str z))\/(x = .non/\y = .ref a))/\Q (.bl neg) H
theorem Ak6 (K':Frag) (hu:X.A.units + 64 < cLine) (hK:X.K = K':=by rfl):OpR X (compareOp .Eq) (Alk K' false):=by
 subst hK
 intro pins s σ H x y v u Q I rx ry h
 rcases h with h | h | ⟨a,xs,hq,h,q⟩
 ·exact Ajp hu pins s σ H x y v u Q I rx ry h
 ·exact Dp pins s σ H x y v u Q I rx ry h
 ·obtain⟨us,r1,p1,_⟩:=I.tuple hq
  have fin:EP X pins σ Q (.bool false) s:=⟨.bl _,H,I,rfl,q⟩
  rcases h with ⟨rfl,rfl | ⟨z,rfl⟩⟩ | ⟨rfl,rfl⟩
  ·cases rx; cases ry
   exact SeqAt.RcAt.tuple_none p1 (by omega) _ _ _ _ fin
  ·cases rx
   obtain⟨t,rfl⟩:=ry
   exact SeqAt.RcAt.tuple_str z t p1 (by omega) _ _ _ _ fin
  ·cases rx; cases ry
   exact SeqAt.RcAt.none_tuple p1 (by omega) _ _ _ _ fin
end
theorem Adg:bootBuiltins "zip" = some (.type "zip"):=by kernel_rfl
theorem Inv.turnedL {X:Cx} {pins:List (Addr × Obj)} {σ:St} {H:Hp} {s:Shared} {h':Heap} {t':Nat} {ch:List Addr} (I:Inv X pins σ H s) (k:∀ b o,b ∉ ch->s.heap.get? b = some o->h'.get? b = some o) (hf:∀ b ∈ ch,Sf X pins H b):Inv X pins σ H { s with heap:=h',toks:=t' }:=by
 have nit:∀ b u,H b = some u->b ∉ ch:=fun b u e z=>by rw[(hf b z).1] at e; cases e
 refine I.step (g':=s.gens) (d':=s.drawn) (ch:=ch) (fun b hb=>?_) (fun b o _ _ hc e _=>k b o hc e) (fun b o _ _ hc e _=>⟨o.slots,k b o hc e⟩) (fun _ _ _ _ n=>n)
  (fun b o hc e=>⟨o,k b o hc e⟩) (fun _ _ e=>e) (fun _ _ _ e=>e) (fun b ps e=>⟨#[],by rw[e]; simp⟩) (fun m hm=>?_) (fun b u e=>?_) I.bare
 ·obtain⟨f0,f1,f2,f3,f4,f5⟩:=hf b hb
  exact⟨f3,f1,f4,f5⟩
 ·obtain⟨o,es,ep,ho,r⟩:=hm
  exact⟨o,es,ep,k _ o (fun z=>(hf _ z).2.1 rfl) ho,r⟩
 ·refine (I.hok b u e).stay (fun c v hc q=>k c v ?_ q) (fun _ q=>q) fun _ _ q=>q
  rcases hc with z | z
  ·rw[z]; exact nit b u e
  ·exact nit c _ z
def Itz (K:Frag) (a b:Addr):It :=
 ⟨fun i H=>∃ xs x ys y,SqL K H a xs/\xs[i]? = some x/\SqL K H b ys/\ys[i]? = some y,
  fun i H v H'=>∃ t x y,H t = none/\(∀ xs,SqL K H a xs->xs[i]? = some x)/\(∀ ys,SqL K H b ys->ys[i]? = some y)/\v = .ref t/\H' = upd H t (.tup [x,y]),
  fun i H=>∃ xs ys,SqL K H a xs/\SqL K H b ys/\(xs.length <= i\/ys.length <= i)⟩
theorem Afp {P:Program} {w:World} {K:Frag} {elts:List Expr} {x1:Nat} {tp:Pos} (a b z TI TO i1 i2:Addr) (D:ZipApart z TI TO i1 i2 a b) :
  Uj P w K (.Tuple elts x1 tp) (Itz K a b) [z,TI,TO,i1,i2] z (fun i h=>IsZip h z TI TO .none/\IsPair h TI (.ref i1) (.ref i2)/\(∃ x y,IsPair h TO x y)/\h.IsListIter i1 a i/\h.IsListIter i2 b i) where
 mem:=by simp
 obj:=fun i h st c hc=>by
  obtain⟨hz,hTI,⟨x,y,hTO⟩,⟨o1,e1,c1,d1⟩,⟨o2,e2,c2,d2⟩⟩:=st
  simp only [mem_cons,not_mem_nil,or_false] at hc
  rcases hc with rfl | rfl | rfl | rfl | rfl
  ·exact⟨_,hz,fun v z=>nomatch z⟩
  ·exact⟨_,hTI,fun v z=>nomatch z⟩
  ·exact⟨_,hTO,fun v z=>nomatch z⟩
  ·exact⟨o1,e1,fun v z=>by rw[d1] at z; cases z⟩
  ·exact⟨o2,e2,fun v z=>by rw[d2] at z; cases z⟩
 keep:=fun i h h' st k=>by
  obtain⟨hz,hTI,⟨x,y,hTO⟩,h1,h2⟩:=st
  exact⟨k z (by simp) _ hz,k TI (by simp) _ hTI,⟨x,y,k TO (by simp) _ hTO⟩,h1.at fun o e=>k i1 (by simp) o e,h2.at fun o e=>k i2 (by simp) o e⟩
 item:=by
  intro X hP hw hK hc i pins s σ H E I hf st hg
  subst hP hw hK
  obtain⟨xs,x,ys,y,hq,hx,hq2,hy⟩:=hg
  obtain⟨hz,hTI,⟨oa,ob,hTO⟩,h1,h2⟩:=st
  obtain⟨its,rv,p,hzz⟩:=I.list hq
  obtain⟨its2,rv2,p2,hzz2⟩:=I.list hq2
  obtain⟨u,hu,ru⟩:=rv.get hx
  obtain⟨u2,hu2,ru2⟩:=rv2.get hy
  have hfr:H s.heap.objs.size = none:=I.hok.fresh (Nat.le_refl _)
  have lt:∀ c ∈ [z,TI,TO,i1,i2],s.heap.objs.size ≠ c:=fun c hc=>by
   simp only [mem_cons,not_mem_nil,or_false] at hc
   rcases hc with rfl | rfl | rfl | rfl | rfl
   ·exact Nat.ne_of_gt (lt_size hz)
   ·exact Nat.ne_of_gt (lt_size hTI)
   ·exact Nat.ne_of_gt (lt_size hTO)
   ·obtain⟨_,e,_⟩:=h1; exact Nat.ne_of_gt (lt_size e)
   ·obtain⟨_,e,_⟩:=h2; exact Nat.ne_of_gt (lt_size e)
  refine wpAny_pyNext_zip_item D hz hTI hTO h1 h2 p.isList p2.isList (x:=u) (y:=u2) (by simpa using hu) (by simpa using hu2) fun h' a1 a2 a3 a4 a5 a6 hk=>⟨_,rfl,?_⟩
  refine wpAny_letOwnedTupleGo_zip (s:={ s with heap:=h' }) a1 fun h2' hz2 hs=>?_
  have kp:∀ c o,c ∉ [z,TI,TO,i1,i2]->s.heap.get? c = some o->h2'.get? c = some o:=fun c o hc q=>by
   simp only [mem_cons,not_mem_nil,or_false,not_or] at hc
   exact (hs.2 c hc.1).trans (hk c o hc.1 hc.2.2.1 hc.2.2.2.1 hc.2.2.2.2 q)
  have hT2:h2'.get? s.heap.objs.size = some { cls:=.type "tuple",data:=.seq #[u,u2] }:=(hs.2 _ (lt z (by simp))).trans a5
  have nt:∀ b v,H b = some v->b ≠ s.heap.objs.size:=fun b v q=>By q hfr
  have nit:∀ b v,H b = some v->b ∉ [z,TI,TO,i1,i2]:=fun b v q hb=>by rw[(hf b hb).1] at q; cases q
  refine⟨.ref s.heap.objs.size,upd H s.heap.objs.size (.tup [x,y]),?_,rfl,⟨_,x,y,hfr,(fun zs hy=>by rw[I.list_inj hy hq]; exact hx),(fun zs hz=>by rw[I.list_inj hz hq2]; exact hy),rfl,rfl⟩,
   ⟨hz2,(hs.2 TI D.TIz).trans (hk TI _ D.TIz D.TITO D.TIi1 D.TIi2 hTI),⟨_,_,(hs.2 TO D.TOz).trans a2⟩,a3.at fun o q=>(hs.2 i1 D.i1z).trans q,a4.at fun o q=>(hs.2 i2 D.i2z).trans q⟩,fun c hc=>?_⟩
  ·refine Inv.step (s:=s) (h':=h2') I (g':=s.gens) (d':=s.drawn) (t':=s.toks) (ch:=[z,TI,TO,i1,i2]) (fun b hb=>?_) (fun b o _ _ hc q _=>kp b o hc q) (fun b o _ _ hc q _=>⟨o.slots,kp b o hc q⟩)
    (fun b o hc q n=>by rw[Bh (ne_of_lt (lt_size q))]; exact n) (fun b o hc q=>⟨o,kp b o hc q⟩) (fun b xs q=>by rw[Bh (nt b _ q)]; exact q) (fun b o v q=>by rw[Bh (nt b _ q)]; exact q)
    (fun b ps q=>⟨#[],by rw[Bh (nt b _ q),q]; simp⟩) (fun m hm=>?_) (fun b v q=>?_) I.bare
   ·obtain⟨f0,f1,f2,f3,f4,f5⟩:=hf b hb
    exact⟨f3,f1,f4,f5⟩
   ·obtain⟨o,es,ep,ho,r⟩:=hm
    exact⟨o,es,ep,kp _ o (fun z=>(hf _ z).2.1 rfl) ho,r⟩
   ·by_cases hb:b = s.heap.objs.size
    ·subst hb
     rw[Bl] at q
     cases q
     exact⟨by show 2 <= sizeLine; decide,[u,u2],.cons ru (.cons ru2 .nil),_,hT2,rfl,_,rfl⟩
    ·rw[Bh hb] at q
     refine (I.hok b v q).stay (fun c v' hc q'=>?_) (fun c q'=>by rw[Bh (nt c _ q')]; exact q') fun c xs q'=>by rw[Bh (nt c _ q')]; exact q'
     rcases hc with z | z
     ·rw[z] at q' ⊢; exact kp b v' (nit b _ q) q'
     ·exact kp c v' (nit c _ z) q'
  ·rw[Bh (Ne.symm (lt c hc))]; exact (hf c hc).1
 done:=by
  intro X hP hw hK hc i pins s σ H E I hf st hg
  subst hP hw hK
  obtain⟨xs,ys,hq,hq2,he⟩:=hg
  obtain⟨hz,hTI,⟨oa,ob,hTO⟩,h1,h2⟩:=st
  obtain⟨its,rv,p,hzz⟩:=I.list hq
  obtain⟨its2,rv2,p2,hzz2⟩:=I.list hq2
  have hl:=rv.length
  have hl2:=rv2.length
  refine wpAny_pyNext_zip_end (I.ok.hd hc) D hz hTI hTO h1 h2 p.isList p2.isList (he.imp (fun h=>by simp; omega) (fun h=>by simp; omega)) fun h' hk=>⟨rfl,I.turnedL (t':=s.toks) (ch:=[z,TI,TO,i1,i2]) (fun c o hc q=>?_) hf⟩
  simp only [mem_cons,not_mem_nil,or_false,not_or] at hc
  exact hk c o hc.1 hc.2.2.1 hc.2.2.2.1 hc.2.2.2.2 q
 self:=fun A i s Q E st h=>wpAny_pyIter_zip st.1 h
theorem AaP {n a b:Nat} (la:a < n) (lb:b < n):ZipApart (n + 4) (n + 2) (n + 3) n (n + 1) a b:=by
 constructor <;> (intro h; have h':@Eq Nat _ _:=h; omega)
section
variable {X:Cx} {elts:List Expr} {x1:Nat} {tp p pos:Pos}
def Ab2 (K:Frag) (ta tb:TE):TI:=fun σ H R=>ta σ H fun x H1=>tb σ H1 fun y H2=>∃ a b,x = .ref a/\y = .ref b/\(∃ xs,SqL K H2 a xs)/\(∃ ys,SqL K H2 b ys)/\R (Itz K a b) H2
theorem AlV {l m:Expr} {tl tm:TE} (hl:PE X l tl) (hm':PE X m tm) (hg:Gl X "zip") (hm:X.mg "zip" = none) (hs:starEach [l,m] X.env = [(false,eval l X.env),(false,eval m X.env)]:=by rfl) (hs2:starEach [m] X.env = [(false,eval m X.env)]:=by rfl):PI X (.Tuple elts x1 tp) (.Call (.Name "zip" p) [l,m] [] pos) (Ab2 X.K tl tm):=by
 intro pins s σ H R I h
 have pa:PA X [l,m] (Fy tl (Fy tm Ln)):=Ba hl (Ba hm' Bd hs2) (by rw[hs,hs2])
 refine Call_ (Jz I hg hm Adg (PyProof.Rows.callWith_type1 (thn (pa pos pins s σ H (fun vs H1=>match vs with
  | [x,y]=>∃ a b,x = .ref a/\y = .ref b/\(∃ xs,SqL X.K H1 a xs)/\(∃ ys,SqL X.K H1 b ys)/\R (Itz X.K a b) H1
  | _=>False) I h) fun us s1 ⟨vs,H1,I1,r1,q1⟩=>?_) (by rw[hs,hs2]) (by rw[hs2]; rfl)))
 match vs,q1 with
 | [x,y],⟨a,b,e1,e2,⟨xs,hq⟩,⟨ys,hq2⟩,q⟩ =>
  subst e1 e2
  cases r1 with
  | cons r rr =>
   cases rr with
   | cons r' rr =>
    cases rr
    cases r
    cases r'
    obtain⟨its,rv,pl,hz⟩:=I1.list hq
    obtain⟨its2,rv2,pl2,hz2⟩:=I1.list hq2
    have la:a < s1.heap.objs.size:=by obtain⟨o,e,_⟩:=pl.isList; exact lt_size e
    have lb:b < s1.heap.objs.size:=by obtain⟨o,e,_⟩:=pl2.isList; exact lt_size e
    have D:=AaP la lb
    refine call_zip_2 pl.isList pl2.isList fun h' z1 z2 z3 z4 z5 z6 hk=>?_
    have I2:Inv X pins σ H1 { s1 with heap:=h' }:=I1.kept (t':=s1.toks) hk
    refine wpAny_pyIter_zip (s:={ s1 with heap:=h' }) z1 ⟨_,[s1.heap.objs.size + 4,s1.heap.objs.size + 2,s1.heap.objs.size + 3,s1.heap.objs.size,s1.heap.objs.size + 1],_,_,H1,rfl,I2,Afp a b _ _ _ _ _ D,⟨z1,z2,⟨_,_,z3⟩,z4,z5⟩,fun c hc=>?_,q⟩
    have hge:s1.heap.objs.size <= c:=by
     simp only [mem_cons,not_mem_nil,or_false] at hc
     rcases hc with rfl | rfl | rfl | rfl | rfl
     ·exact le_add_right _ _
     ·exact le_add_right _ _
     ·exact le_add_right _ _
     ·exact Nat.le_refl _
     ·exact le_add_right _ _
    exact I1.fpOk hge (I1.hok.fresh hge)
theorem Tf (K':Frag) {l m:Expr} {tl tm:TE} (hl:PE X l tl) (hm':PE X m tm) (hg:Gl X "zip") (hm:X.mg "zip" = none) (hK:X.K = K':=by rfl) (hs:starEach [l,m] X.env = [(false,eval l X.env),(false,eval m X.env)]:=by rfl) (hs2:starEach [m] X.env = [(false,eval m X.env)]:=by rfl):PI X (.Tuple elts x1 tp) (.Call (.Name "zip" p) [l,m] [] pos) (Ab2 K' tl tm):=by
 subst hK
 exact AlV hl hm' hg hm hs hs2
theorem AiD {K:Frag} {a b:Addr} {xs ys:List V} {g:TG} {tb:TS} {D:Ends} {σ:St} {H:Hp} (Pv:Nat->St->Hp->Prop) (h0:Pv 0 σ H) (hl:∀ i σ H,Pv i σ H->SqL K H a xs/\SqL K H b ys)
  (hs:∀ i x y t σ H,xs[i]? = some x->ys[i]? = some y->H t = none->Pv i σ H->g (.ref t) σ (upd H t (.tup [x,y])) fun σ2 H2=>tb { D with nx:=Pv (i + 1),ct:=Pv (i + 1),bk:=D.nx } σ2 H2) (hd:∀ σ H,Pv (min xs.length ys.length) σ H->D.nx σ H) :
  ∃ W:Nat->Nat->St->Hp->Prop,(∃ m,W 0 m σ H)/\∀ i m σ H,W i m σ H ->
   ((Itz K a b).stop i H/\D.nx σ H)\/((Itz K a b).go i H/\∃ N:St->Hp->Prop,(∀ σ' H',N σ' H'->∃ m',m' < m/\W (i + 1) m' σ' H')/\∀ x H',(Itz K a b).yld i H x H'->g x σ H' fun σ2 H2=>tb { D with nx:=N,ct:=N,bk:=D.nx } σ2 H2):=by
 refine⟨fun i m σ H=>m = min xs.length ys.length - i/\i <= min xs.length ys.length/\Pv i σ H,⟨min xs.length ys.length,by simp,zero_le _,h0⟩,?_⟩
 rintro i m σ H ⟨rfl,hi,p⟩
 obtain⟨q,q2⟩:=hl i σ H p
 by_cases hlt:i < min xs.length ys.length
 ·have h1:i < xs.length:=by omega
  have h2:i < ys.length:=by omega
  refine .inr ⟨⟨xs,xs[i],ys,ys[i],q,by simp [h1],q2,by simp [h2]⟩,Pv (i + 1),fun σ' H' p'=>⟨min xs.length ys.length - (i + 1),by omega,rfl,hlt,p'⟩,fun x H' y=>?_⟩
  obtain⟨t,y,z,ht,hy,hz,rfl,rfl⟩:=y
  exact hs i y z t σ _ (hy xs q) (hz ys q2) ht p
 ·have e:i = min xs.length ys.length:=by omega
  subst e
  exact .inl ⟨⟨xs,ys,q,q2,by omega⟩,hd σ H p⟩
theorem CP.zip {K:Frag} {σ:St} {H:Hp} {Q:VK} {D a b:Addr} {g:TG} {tc:TT} {te:TE} {k:Nat} {fr:List Nat} (xs ys:List V) (Pv:Nat->Hp->Prop)
  (h0:Pv 0 H) (hl:∀ i H',Pv i H'->SqL K H' a xs/\SqL K H' b ys)
  (hs:∀ i x y t H' (N:Hp->Prop),xs[i]? = some x->ys[i]? = some y->H' t = none->Pv i H'->(∀ H'',Pv (i + 1) H''->N H'')->g (.ref t) (compσ k fr σ) (upd H' t (.tup [x,y])) fun σ2 H2=>σ2.drop k = (compσ k fr σ).drop k/\tc σ2 H2 fun b H3 =>
   if b = true then te σ2 H3 (fun y H4=>∃ ys,H4 D = some (.lst ys)/\ys.length < sizeLine/\N (upd H4 D (.lst (ys ++ [y])))) else N H3)
  (hd:∀ H',Pv (min xs.length ys.length) H'->Q (.ref D) H'):CP (Itz K a b) D g tc te k fr σ H Q:=by
 refine⟨fun i m H=>m = min xs.length ys.length - i/\i <= min xs.length ys.length/\Pv i H,⟨min xs.length ys.length,by simp,zero_le _,h0⟩,?_⟩
 rintro i m H ⟨rfl,hi,p⟩
 obtain⟨q,q2⟩:=hl i H p
 by_cases hlt:i < min xs.length ys.length
 ·have h1:i < xs.length:=by omega
  have h2:i < ys.length:=by omega
  refine .inr ⟨⟨xs,xs[i],ys,ys[i],q,by simp [h1],q2,by simp [h2]⟩,fun x H' y=>?_⟩
  obtain⟨t,y,z,ht,hy,hz,rfl,rfl⟩:=y
  exact hs i y z t H (fun H''=>∃ m',m' < min xs.length ys.length - i/\m' = min xs.length ys.length - (i + 1)/\i + 1 <= min xs.length ys.length/\Pv (i + 1) H'') (hy xs q) (hz ys q2) ht p fun H'' p''=>⟨min xs.length ys.length - (i + 1),by omega,rfl,hlt,p''⟩
 ·have e:i = min xs.length ys.length:=by omega
  subst e
  exact .inl ⟨⟨xs,ys,q,q2,by omega⟩,hd H p⟩
end
theorem De {X:Cx} {c:Const} {n:Nat} {pos:Pos} {es:List Expr} {te:TE} {t:TA} (h:PE X (.Constant c n pos) te) (h2:PA X es t):PA X (.Constant c n pos :: es) (Fy te t):=Ba h h2 rfl
section
variable {X:Cx}
end
theorem CP.dkeys {σ:St} {H:Hp} {Q:VK} {D a:Addr} {o:Obj} {kvs:List (Key × V)} {g:TG} {tc:TT} {te:TE} {k:Nat} {fr:List Nat} (Pv:Nat->Hp->Prop)
  (h0:Pv 0 H) (hl:∀ i H',Pv i H'->H' a = some (.frz o (.dK kvs)))
  (hs:∀ i kv H' (N:Hp->Prop),kvs[i]? = some kv->Pv i H'->(∀ H'',Pv (i + 1) H''->N H'')->g (kV kv.1) (compσ k fr σ) H' fun σ2 H2=>σ2.drop k = (compσ k fr σ).drop k/\tc σ2 H2 fun b H3 =>
   if b = true then te σ2 H3 (fun y H4=>∃ ys,H4 D = some (.lst ys)/\ys.length < sizeLine/\N (upd H4 D (.lst (ys ++ [y])))) else N H3)
  (hd:∀ H',Pv kvs.length H'->Q (.ref D) H'):CP (Itd a o kvs) D g tc te k fr σ H Q:=by
 refine⟨fun i m H=>m = kvs.length - i/\i <= kvs.length/\Pv i H,⟨kvs.length,by simp,zero_le _,h0⟩,?_⟩
 rintro i m H ⟨rfl,hi,p⟩
 have q:=hl i H p
 by_cases hlt:i < kvs.length
 ·refine .inr ⟨⟨q,hlt⟩,fun x H' y=>?_⟩
  obtain⟨rfl,kv,hy,rfl⟩:=y
  exact hs i kv H' (fun H''=>∃ m',m' < kvs.length - i/\m' = kvs.length - (i + 1)/\i + 1 <= kvs.length/\Pv (i + 1) H'') hy p fun H'' p''=>⟨kvs.length - (i + 1),by omega,rfl,hlt,p''⟩
 ·have e:i = kvs.length:=by omega
  subst e
  exact .inl ⟨⟨q,Nat.le_refl _⟩,hd H p⟩
structure FunD (K:Frag) (x qual:Str) (st:Stmt) (f:Addr) (fd:FuncData) (D:Addr) (ds:List Value):Prop where
 ex:∃ (oc:Value) (od:Option Addr) (kV doc pm:Value) (an:Option Addr) (cdv ct:Value) (osl:Array (Option Value)),
  fd = fnOf x qual (Jl st) (Gu st) (Bs st) (.ref D) kV doc pm an cdv ct/\K.lookup f = some ⟨oc,od,.func fd,osl⟩/\codeIn K cdv qual = true
 kp:keepIn K (.ref f) = true
 dl:∃ (od:Option Addr) (n:Nat) (sl:Array (Option Value)),K.lookup D = some ⟨.type "tuple",od,.seq ds.toArray n,sl⟩
section
variable {P:Program} {w:World} {K:Frag} {mg:Str->Option Value} {base:Heap}
theorem FunD.ok {x qual:Str} {st:Stmt} {f D:Addr} {dl:List Value} {fd:FuncData} {N ps:List Str} {k:Nat} {sp:Sp} (F:FunD K x qual st f fd D dl) (S:Cc N ps (Bs st)) (len:∀ vs H Q E,sp vs H Q E->vs.length = ps.length)
  (hbody:∀ (cdv:Value) (A:Around) (outer:List Env) (s:Shared) (H:Hp) (vs:List V) (Q:VK) (E:XK),Room k (A.deeper (envOfC qual (Bs st) s.heap.objs.size f cdv))->sp vs H Q E ->
   ∃ t,PSs (Sn CX0 P w K mg base N qual (Bs st) f cdv A outer s H E).nox (Gu st) t/\t { nx:=fun _ H'=>Q .non H',rt:=Q } (Nj N vs) H):FnOk P w K mg base CX0 (k + 1) f fd ps sp:=by
 obtain⟨oc,od,kV,doc,pm,an,cdv,ct,osl,rfl,lk,hcd⟩:=F.ex
 refine AhI lk hcd S len fun A outer s H vs Q E hr hsp=>?_
 obtain⟨t,h,q⟩:=hbody cdv A outer s H vs Q E hr hsp
 exact⟨t,h.nox,q⟩
theorem FunD.binds {x qual:Str} {st:Stmt} {f D:Addr} {dl ds:List Value} {fd:FuncData} {ps:List Str} (g:Nat) (F:FunD K x qual st f fd D dl) (hg:ps.length = g + ds.length)
  (h:∀ (kV doc pm:Value) (an:Option Addr) (cdv ct:Value) (us:List Value),us.length = g->∃ k:Option (Array Value)->Sem (List (Str × Value)),bindArgs (fnOf x qual (Jl st) (Gu st) (Bs st) (.ref D) kV doc pm an cdv ct) ⟨us,[]⟩ = seqItems? (.ref D) >>= k/\k (some dl.toArray) = pure (ps.zip (us ++ ds))):Binds K fd ps ds:=by
 obtain⟨oc,od,kV,doc,pm,an,cdv,ct,osl,rfl,lk,hcd⟩:=F.ex
 obtain⟨od2,n,sl,ld⟩:=F.dl
 intro s us X hl
 obtain⟨k,h1,h2⟩:=h kV doc pm an cdv ct us (by rw[length_append,hg] at hl; omega)
 exact PySem.W.binds_K X rfl ld rfl h1 h2
theorem Aby {x qual:Str} {st:Stmt} {f D:Addr} {dl:List Value} {oc:Value} {od an od2:Option Addr} {n:Nat} {osl sl:Array (Option Value)} {kV doc pm cdv ct:Value} (l:K.lookup f = some ⟨oc,od,.func (fnOf x qual (Jl st) (Gu st) (Bs st) (.ref D) kV doc pm an cdv ct),osl⟩)
  (c:codeIn K cdv qual = true) (k:keepIn K (.ref f) = true) (d:K.lookup D = some ⟨.type "tuple",od2,.seq dl.toArray n,sl⟩):FunD K x qual st f (fnOf x qual (Jl st) (Gu st) (Bs st) (.ref D) kV doc pm an cdv ct) D dl:=⟨⟨oc,od,kV,doc,pm,an,cdv,ct,osl,rfl,l,c⟩,k,od2,n,sl,d⟩
end
def Ahv:V->List V->Hp->VK->Prop:=fun x vs H Q=>∃ l xs y,x = .ref l/\vs = []/\H l = some (.lst xs)/\xs[xs.length - 1]? = some y/\∀ H',Chg l H H'->H' l = some (.lst xs.dropLast)->Q y H'
theorem Aiz {X:Cx}:MtR X "list.pop" Ahv:=fun pins s σ H x vs v us Q I rx rv ⟨l,xs,y,e1,e2,h1,hy,q⟩=>Ame pins s σ H x vs v us Q I rx rv ⟨l,xs,y,e1,e2,h1,hy,q _ Chg.put Bl⟩
end L2
namespace My
open PySem L2
def top (i:Nat):Stmt:=PySem.Challenge.pw_bothhands_k38_raised_by_two.main.body.getD i (.Pass ⟨0,0,0,0⟩)
abbrev Xo:Stmt:=top 51
theorem sc_qbo:Cc ["_law_cell","_law_by","_law_low","_law_step"] ["_law_cell"] (Bs Xo):=⟨rfl,rfl,rfl,by decide +kernel,rfl,by decide +kernel,by decide +kernel⟩
abbrev Xs:Stmt:=top 52
theorem sc_qbv:Cc ["_law_cell","_law_more","_law_signs_here","_law_words_here","_law_told_here","_law_k","_law_word","_law_rank"] ["_law_cell","_law_more","_law_signs_here"] (Bs Xs):=⟨rfl,rfl,rfl,by decide +kernel,rfl,by decide +kernel,by decide +kernel⟩
abbrev Yw:Stmt:=top 53
theorem sc_qbl:Cc ["_law_cell","_law_told_here","_law_signs_here","_law_words_here","_law_sign","_law_word","_law_rank","_law_marks","_law_bases","_law_joins_here","_law_held","_law_k","_law_base","_law_mark"] ["_law_cell","_law_told_here","_law_signs_here"] (Bs Yw):=⟨rfl,rfl,rfl,by decide +kernel,rfl,by decide +kernel,by decide +kernel⟩
abbrev Acn:Stmt:=top 50
theorem Amk:Cc ["_law_script","_law_k"] ["_law_script","_law_k"] (Bs Acn):=⟨rfl,rfl,rfl,by decide +kernel,rfl,by decide +kernel,by decide +kernel⟩
abbrev Ya:Stmt:=top 54
theorem sc_qbn:Cc ["_law_script","_law_cell","_law_signs_here","_law_told_here","_law_joins_here","_law_mates"] ["_law_script"] (Bs Ya):=⟨rfl,rfl,rfl,by decide +kernel,rfl,by decide +kernel,by decide +kernel⟩
abbrev Xw:Stmt:=top 55
theorem sc_qbp:Cc ["_law_lists_here","_law_words_here","_law_sign","_law_word","_law_rank","_law_one","_law_other"] ["_law_lists_here"] (Bs Xw):=⟨rfl,rfl,rfl,by decide +kernel,rfl,by decide +kernel,by decide +kernel⟩
abbrev AbU:Stmt:=top 56
theorem sc_qz:Cc ["_law_lists_here","_law_words_here","_law_chosen","_law_groups_here","_law_word"] ["_law_lists_here","_law_words_here","_law_chosen"] (Bs AbU):=⟨rfl,rfl,rfl,by decide +kernel,rfl,by decide +kernel,by decide +kernel⟩
abbrev Acq:Stmt:=top 35
theorem AmC:Cc ["held","words"] ["held","words"] (Bs Acq):=⟨rfl,rfl,rfl,by decide +kernel,rfl,by decide +kernel,by decide +kernel⟩
abbrev Ab5:Stmt:=top 36
theorem sc_qf:Cc ["rows","length","row"] ["rows","length"] (Bs Ab5):=⟨rfl,rfl,rfl,by decide +kernel,rfl,by decide +kernel,by decide +kernel⟩
abbrev AcT:Stmt:=top 29
theorem Ani:Cc ["thing"] ["thing"] (Bs AcT):=⟨rfl,rfl,rfl,by decide +kernel,rfl,by decide +kernel,by decide +kernel⟩
abbrev Xq:Stmt:=top 30
theorem Aj9:Cc ["thing"] ["thing"] (Bs Xq):=⟨rfl,rfl,rfl,by decide +kernel,rfl,by decide +kernel,by decide +kernel⟩
abbrev Yj:Stmt:=top 40
theorem AkD:Cc ["kinds","sign","kind"] ["kinds","sign","kind"] (Bs Yj):=⟨rfl,rfl,rfl,by decide +kernel,rfl,by decide +kernel,by decide +kernel⟩
abbrev AbY:Stmt:=top 37
theorem Anm:Cc ["thing"] ["thing"] (Bs AbY):=⟨rfl,rfl,rfl,by decide +kernel,rfl,by decide +kernel,by decide +kernel⟩
abbrev Ac8:Stmt:=top 38
theorem AmG:Cc ["kind","thing"] ["kind","thing"] (Bs Ac8):=⟨rfl,rfl,rfl,by decide +kernel,rfl,by decide +kernel,by decide +kernel⟩
abbrev AcI:Stmt:=top 41
theorem sc_qy:Cc ["signs","mates","kinds","sign","kind","rank","first","second"] ["signs","mates"] (Bs AcI):=⟨rfl,rfl,rfl,by decide +kernel,rfl,by decide +kernel,by decide +kernel⟩
abbrev Ys:Stmt:=top 42
theorem sc_qbd:Cc ["signs","ranks","sign","kind","rank"] ["signs"] (Bs Ys):=⟨rfl,rfl,rfl,by decide +kernel,rfl,by decide +kernel,by decide +kernel⟩
abbrev Yk:Stmt:=top 43
theorem sc_qbi:Cc ["mates","found","first","second"] ["mates"] (Bs Yk):=⟨rfl,rfl,rfl,by decide +kernel,rfl,by decide +kernel,by decide +kernel⟩
abbrev AcD:Stmt:=top 39
theorem Amy:Cc ["kinds","sign"] ["kinds","sign"] (Bs AcD):=⟨rfl,rfl,rfl,by decide +kernel,rfl,by decide +kernel,by decide +kernel⟩
abbrev Acz:Stmt:=top 44
theorem sc_qv:Cc ["kinds","whole","base","mark","kind"] ["kinds","whole","base","mark"] (Bs Acz):=⟨rfl,rfl,rfl,by decide +kernel,rfl,by decide +kernel,by decide +kernel⟩
abbrev Acg:Stmt:=top 45
theorem sc_qg:Cc ["pairs","whole","sign","going"] ["pairs","whole"] (Bs Acg):=⟨rfl,rfl,rfl,by decide +kernel,rfl,by decide +kernel,by decide +kernel⟩
abbrev Yi:Stmt:=top 46
theorem sc_qbc:Cc ["kinds","joins","pairs","whole","base","mark"] ["kinds","joins"] (Bs Yi):=⟨rfl,rfl,rfl,by decide +kernel,rfl,by decide +kernel,by decide +kernel⟩
abbrev Ac3:Stmt:=top 47
theorem sc_qt:Cc ["pairs","wholes","whole","pair"] ["pairs"] (Bs Ac3):=⟨rfl,rfl,rfl,by decide +kernel,rfl,by decide +kernel,by decide +kernel⟩
abbrev Xx:Stmt:=Wc (top 48) 0
theorem Ajz:Cc ["self","signs","mates","joins"] ["self","signs","mates","joins"] (Bs Xx):=⟨rfl,rfl,rfl,by decide +kernel,rfl,by decide +kernel,by decide +kernel⟩
abbrev Yr:Stmt:=top 57
theorem sc_qbu:Cc ["_law_groups_here","_law_cells","_law_found","_law_cell","_law_group"] ["_law_groups_here","_law_cells"] (Bs Yr):=⟨rfl,rfl,rfl,by decide +kernel,rfl,by decide +kernel,by decide +kernel⟩
abbrev Yg:Stmt:=Wc (top 48) 1
theorem Alt:Cc ["self","sign"] ["self","sign"] (Bs Yg):=⟨rfl,rfl,rfl,by decide +kernel,rfl,by decide +kernel,by decide +kernel⟩
abbrev Xk:Stmt:=top 2
theorem sc_qbr:Cc ["book","text","wholes","sign"] ["book","text"] (Bs Xk):=⟨rfl,rfl,rfl,by decide +kernel,rfl,by decide +kernel,by decide +kernel⟩
abbrev Acy:Stmt:=top 3
theorem sc_qc:Cc ["book","whole","kind"] ["book","whole"] (Bs Acy):=⟨rfl,rfl,rfl,by decide +kernel,rfl,by decide +kernel,by decide +kernel⟩
abbrev Xr:Stmt:=top 4
theorem Ale:Cc ["book","text"] ["book","text"] (Bs Xr):=⟨rfl,rfl,rfl,by decide +kernel,rfl,by decide +kernel,by decide +kernel⟩
abbrev Xu:Stmt:=top 7
theorem sc_qbx:Cc ["book","text","depth","kind"] ["book","text"] (Bs Xu):=⟨rfl,rfl,rfl,by decide +kernel,rfl,by decide +kernel,by decide +kernel⟩
abbrev Ab7:Stmt:=top 8
theorem AnG:Cc ["book","text","base"] ["book","text","base"] (Bs Ab7):=⟨rfl,rfl,rfl,by decide +kernel,rfl,by decide +kernel,by decide +kernel⟩
abbrev AcV:Stmt:=top 9
theorem sc_qk:Cc ["kind","level","most","remainder","least"] ["kind","level","most"] (Bs AcV):=⟨rfl,rfl,rfl,by decide +kernel,rfl,by decide +kernel,by decide +kernel⟩
abbrev Yl:Stmt:=top 10
theorem sc_qbw:Cc ["book","text","base","most","kinds","nests","waiting","level","at","kind","inner","ended","nest"] ["book","text","base","most"] (Bs Yl):=⟨rfl,rfl,rfl,by decide +kernel,rfl,by decide +kernel,by decide +kernel⟩
abbrev Adb:Stmt:=top 14
theorem sc_ql:Cc ["nests","number","base","stretches","homes","home","stretch","k","rows"] ["nests","number","base"] (Bs Adb):=⟨rfl,rfl,rfl,by decide +kernel,rfl,by decide +kernel,by decide +kernel⟩
abbrev Ab4:Stmt:=top 15
theorem sc_qi:Cc ["kinds","own","ways","last","kind"] ["kinds","own"] (Bs Ab4):=⟨rfl,rfl,rfl,by decide +kernel,rfl,by decide +kernel,by decide +kernel⟩
abbrev Yf:Stmt:=Wc (top 48) 3
theorem AjK:Cc ["self","sign"] ["self","sign"] (Bs Yf):=⟨rfl,rfl,rfl,by decide +kernel,rfl,by decide +kernel,by decide +kernel⟩
abbrev Yu:Stmt:=top 16
theorem sc_qby:Cc ["book","kinds","bases","pairs","waiting","k","kind","fitting"] ["book","kinds","bases"] (Bs Yu):=⟨rfl,rfl,rfl,by decide +kernel,rfl,by decide +kernel,by decide +kernel⟩
abbrev Xj:Stmt:=top 19
theorem sc_qbj:Cc ["ways","own","found","last","way"] ["ways","own"] (Bs Xj):=⟨rfl,rfl,rfl,by decide +kernel,rfl,by decide +kernel,by decide +kernel⟩
abbrev Ada:Stmt:=top 20
theorem sc_qr:Cc ["ways","own","ahead","behind"] ["ways","own"] (Bs Ada):=⟨rfl,rfl,rfl,by decide +kernel,rfl,by decide +kernel,by decide +kernel⟩
abbrev Acr:Stmt:=top 17
theorem sc_qq:Cc ["ways","pair","own","within","ahead"] ["ways","pair","own"] (Bs Acr):=⟨rfl,rfl,rfl,by decide +kernel,rfl,by decide +kernel,by decide +kernel⟩
abbrev AcK:Stmt:=top 18
theorem sc_qb:Cc ["ways","pairs","own","found","pair","way"] ["ways","pairs","own"] (Bs AcK):=⟨rfl,rfl,rfl,by decide +kernel,rfl,by decide +kernel,by decide +kernel⟩
abbrev Ab6:Stmt:=top 21
theorem sc_qs:Cc ["book","kinds","bases","own","ways","pairs"] ["book","kinds","bases","own"] (Bs Ab6):=⟨rfl,rfl,rfl,by decide +kernel,rfl,by decide +kernel,by decide +kernel⟩
abbrev AcY:Stmt:=top 13
theorem Amr:Cc ["level"] ["level"] (Bs AcY):=⟨rfl,rfl,rfl,by decide +kernel,rfl,by decide +kernel,by decide +kernel⟩
abbrev AcH:Stmt:=top 22
theorem AnA:Cc ["kind","way","level"] ["kind","way","level"] (Bs AcH):=⟨rfl,rfl,rfl,by decide +kernel,rfl,by decide +kernel,by decide +kernel⟩
abbrev AcJ:Stmt:=top 23
theorem sc_qd:Cc ["book","row","level","kinds","bases","ways"] ["book","row","level"] (Bs AcJ):=⟨rfl,rfl,rfl,by decide +kernel,rfl,by decide +kernel,by decide +kernel⟩
abbrev Yn:Stmt:=top 24
theorem sc_qbq:Cc ["book","text","base","most","wholes","lowest","levels","nests","level","row","found","k","own"] ["book","text","base","most"] (Bs Yn):=⟨rfl,rfl,rfl,by decide +kernel,rfl,by decide +kernel,by decide +kernel⟩
abbrev Xy:Stmt:=top 60
theorem sc_qba:Cc ["_law_text_here","_law_marks","_law_cells","_law_found","_law_sign","_law_cell","_law_k"] ["_law_text_here","_law_marks","_law_cells"] (Bs Xy):=⟨rfl,rfl,rfl,by decide +kernel,rfl,by decide +kernel,by decide +kernel⟩
abbrev Yh:Stmt:=top 61
theorem sc_qbk:Cc ["_law_words_here","_law_signs_here","_law_close","_law_found","_law_deep","_law_sign","_law_word"] ["_law_words_here","_law_signs_here","_law_close"] (Bs Yh):=⟨rfl,rfl,rfl,by decide +kernel,rfl,by decide +kernel,by decide +kernel⟩
abbrev Vc:Stmt:=top 62
theorem sc_qcb:Cc ["_law_script","_law_lists_here","_law_words_here","_law_chosen","_law_groups_here","_law_cell","_law_book","_law_text_here","_law_base","_law_most","_law_here","_law_marks","_law_marked_here","_law_first","_law_close","_law_inner","_law_level","_law_around","_law_bare"] ["_law_script"] (Bs Vc):=⟨rfl,rfl,rfl,by decide +kernel,rfl,by decide +kernel,by decide +kernel⟩
structure Adr where
 f_qbo:Addr
 d_qbo:FuncData
 f_qbv:Addr
 d_qbv:FuncData
 f_qbl:Addr
 d_qbl:FuncData
 f_qp:Addr
 d_qp:FuncData
 f_qbn:Addr
 d_qbn:FuncData
 f_qbp:Addr
 d_qbp:FuncData
 f_qz:Addr
 d_qz:FuncData
 f_qe:Addr
 d_qe:FuncData
 f_qf:Addr
 d_qf:FuncData
 f_qa:Addr
 d_qa:FuncData
 f_qbz:Addr
 d_qbz:FuncData
 f_qbs:Addr
 d_qbs:FuncData
 f_qh:Addr
 d_qh:FuncData
 f_qw:Addr
 d_qw:FuncData
 f_qy:Addr
 d_qy:FuncData
 f_qbd:Addr
 d_qbd:FuncData
 f_qbi:Addr
 d_qbi:FuncData
 f_qx:Addr
 d_qx:FuncData
 f_qv:Addr
 d_qv:FuncData
 f_qg:Addr
 d_qg:FuncData
 f_qbc:Addr
 d_qbc:FuncData
 f_qt:Addr
 d_qt:FuncData
 f_qbe:Addr
 d_qbe:FuncData
 f_qbu:Addr
 d_qbu:FuncData
 f_qbf:Addr
 d_qbf:FuncData
 f_qbr:Addr
 d_qbr:FuncData
 f_qc:Addr
 d_qc:FuncData
 f_qbt:Addr
 d_qbt:FuncData
 f_qbx:Addr
 d_qbx:FuncData
 f_qo:Addr
 d_qo:FuncData
 f_qk:Addr
 d_qk:FuncData
 f_qbw:Addr
 d_qbw:FuncData
 D_nests_of:Addr
 v_nests_of_0:Value
 f_ql:Addr
 d_ql:FuncData
 f_qi:Addr
 d_qi:FuncData
 f_qbg:Addr
 d_qbg:FuncData
 f_qby:Addr
 d_qby:FuncData
 f_qbj:Addr
 d_qbj:FuncData
 f_qr:Addr
 d_qr:FuncData
 f_qq:Addr
 d_qq:FuncData
 f_qb:Addr
 d_qb:FuncData
 f_qs:Addr
 d_qs:FuncData
 f_qm:Addr
 d_qm:FuncData
 f_qj:Addr
 d_qj:FuncData
 f_qd:Addr
 d_qd:FuncData
 f_qbq:Addr
 d_qbq:FuncData
 D_levels_of:Addr
 v_levels_of_0:Value
 v_levels_of_1:Value
 f_qba:Addr
 d_qba:FuncData
 f_qbk:Addr
 d_qbk:FuncData
 f_qcb:Addr
 d_qcb:FuncData
 C_Book:Addr
 a_BEGINNINGS:Addr
 a_JOINED_KINDS:Addr
 a_LEADING_KINDS:Addr
 a_TOLD_KINDS:Addr
structure Txt (K:Frag) (mg:Str->Option Value) (t:Adr):Prop where
 F_qbo:Fun K "_law_signs" "_law_signs" Xo t.f_qbo t.d_qbo
 m_qbo:mg "_law_signs" = some (.ref t.f_qbo)
 F_qbv:Fun K "_law_told" "_law_told" Xs t.f_qbv t.d_qbv
 m_qbv:mg "_law_told" = some (.ref t.f_qbv)
 F_qbl:Fun K "_law_joins" "_law_joins" Yw t.f_qbl t.d_qbl
 m_qbl:mg "_law_joins" = some (.ref t.f_qbl)
 F_qp:Fun K "_law_cell_at" "_law_cell_at" Acn t.f_qp t.d_qp
 m_qp:mg "_law_cell_at" = some (.ref t.f_qp)
 F_qbn:Fun K "_law_lists" "_law_lists" Ya t.f_qbn t.d_qbn
 m_qbn:mg "_law_lists" = some (.ref t.f_qbn)
 F_qbp:Fun K "_law_words" "_law_words" Xw t.f_qbp t.d_qbp
 m_qbp:mg "_law_words" = some (.ref t.f_qbp)
 F_qz:Fun K "_law_groups" "_law_groups" AbU t.f_qz t.d_qz
 m_qz:mg "_law_groups" = some (.ref t.f_qz)
 F_qe:Fun K "refuse_unless" "refuse_unless" Acq t.f_qe t.d_qe
 m_qe:mg "refuse_unless" = some (.ref t.f_qe)
 F_qf:Fun K "check_tuples" "check_tuples" Ab5 t.f_qf t.d_qf
 m_qf:mg "check_tuples" = some (.ref t.f_qf)
 F_qa:Fun K "is_whole_number" "is_whole_number" AcT t.f_qa t.d_qa
 m_qa:mg "is_whole_number" = some (.ref t.f_qa)
 F_qbz:Fun K "is_sign" "is_sign" Xq t.f_qbz t.d_qbz
 m_qbz:mg "is_sign" = some (.ref t.f_qbz)
 F_qbs:Fun K "add_kind" "add_kind" Yj t.f_qbs t.d_qbs
 m_qbs:mg "add_kind" = some (.ref t.f_qbs)
 F_qh:Fun K "is_told_kind" "is_told_kind" AbY t.f_qh t.d_qh
 m_qh:mg "is_told_kind" = some (.ref t.f_qh)
 F_qw:Fun K "is_rank_of" "is_rank_of" Ac8 t.f_qw t.d_qw
 m_qw:mg "is_rank_of" = some (.ref t.f_qw)
 F_qy:Fun K "kinds_told" "kinds_told" AcI t.f_qy t.d_qy
 m_qy:mg "kinds_told" = some (.ref t.f_qy)
 F_qbd:Fun K "ranks_told" "ranks_told" Ys t.f_qbd t.d_qbd
 m_qbd:mg "ranks_told" = some (.ref t.f_qbd)
 F_qbi:Fun K "both_ways" "both_ways" Yk t.f_qbi t.d_qbi
 m_qbi:mg "both_ways" = some (.ref t.f_qbi)
 F_qx:Fun K "kind_among" "kind_among" AcD t.f_qx t.d_qx
 m_qx:mg "kind_among" = some (.ref t.f_qx)
 F_qv:Fun K "check_join" "check_join" Acz t.f_qv t.d_qv
 m_qv:mg "check_join" = some (.ref t.f_qv)
 F_qg:Fun K "ends_in_time" "ends_in_time" Acg t.f_qg t.d_qg
 m_qg:mg "ends_in_time" = some (.ref t.f_qg)
 F_qbc:Fun K "pairs_told" "pairs_told" Yi t.f_qbc t.d_qbc
 m_qbc:mg "pairs_told" = some (.ref t.f_qbc)
 F_qt:Fun K "wholes_told" "wholes_told" Ac3 t.f_qt t.d_qt
 m_qt:mg "wholes_told" = some (.ref t.f_qt)
 F_qbe:Fun K "__init__" "Book.__init__" Xx t.f_qbe t.d_qbe
 F_qbu:Fun K "_law_text" "_law_text" Yr t.f_qbu t.d_qbu
 m_qbu:mg "_law_text" = some (.ref t.f_qbu)
 F_qbf:Fun K "kind" "Book.kind" Yg t.f_qbf t.d_qbf
 M_qbf:Acl K t.C_Book "kind" t.f_qbf
 F_qbr:Fun K "wholes_of" "wholes_of" Xk t.f_qbr t.d_qbr
 m_qbr:mg "wholes_of" = some (.ref t.f_qbr)
 F_qc:Fun K "kind_of_whole" "kind_of_whole" Acy t.f_qc t.d_qc
 m_qc:mg "kind_of_whole" = some (.ref t.f_qc)
 F_qbt:Fun K "kinds_of" "kinds_of" Xr t.f_qbt t.d_qbt
 m_qbt:mg "kinds_of" = some (.ref t.f_qbt)
 F_qbx:Fun K "own_base" "own_base" Xu t.f_qbx t.d_qbx
 m_qbx:mg "own_base" = some (.ref t.f_qbx)
 F_qo:Fun K "base_or_own" "base_or_own" Ab7 t.f_qo t.d_qo
 m_qo:mg "base_or_own" = some (.ref t.f_qo)
 F_qk:Fun K "level_within" "level_within" AcV t.f_qk t.d_qk
 m_qk:mg "level_within" = some (.ref t.f_qk)
 F_qbw:FunD K "nests_of" "nests_of" Yl t.f_qbw t.d_qbw t.D_nests_of [t.v_nests_of_0]
 w_nests_of_0:Vals [.int 20] [t.v_nests_of_0]
 m_qbw:mg "nests_of" = some (.ref t.f_qbw)
 F_ql:Fun K "stretch_rows" "stretch_rows" Adb t.f_ql t.d_ql
 m_ql:mg "stretch_rows" = some (.ref t.f_ql)
 F_qi:Fun K "leading_ways" "leading_ways" Ab4 t.f_qi t.d_qi
 m_qi:mg "leading_ways" = some (.ref t.f_qi)
 F_qbg:Fun K "mate" "Book.mate" Yf t.f_qbg t.d_qbg
 M_qbg:Acl K t.C_Book "mate" t.f_qbg
 F_qby:Fun K "pairs_in" "pairs_in" Yu t.f_qby t.d_qby
 m_qby:mg "pairs_in" = some (.ref t.f_qby)
 F_qbj:Fun K "last_ways" "last_ways" Xj t.f_qbj t.d_qbj
 m_qbj:mg "last_ways" = some (.ref t.f_qbj)
 F_qr:Fun K "ways_filled" "ways_filled" Ada t.f_qr t.d_qr
 m_qr:mg "ways_filled" = some (.ref t.f_qr)
 F_qq:Fun K "way_of_pair" "way_of_pair" Acr t.f_qq t.d_qq
 m_qq:mg "way_of_pair" = some (.ref t.f_qq)
 F_qb:Fun K "ways_with_pairs" "ways_with_pairs" AcK t.f_qb t.d_qb
 m_qb:mg "ways_with_pairs" = some (.ref t.f_qb)
 F_qs:Fun K "ways_in_row" "ways_in_row" Ab6 t.f_qs t.d_qs
 m_qs:mg "ways_in_row" = some (.ref t.f_qs)
 F_qm:Fun K "way_of_level" "way_of_level" AcY t.f_qm t.d_qm
 m_qm:mg "way_of_level" = some (.ref t.f_qm)
 F_qj:Fun K "level_by_way" "level_by_way" AcH t.f_qj t.d_qj
 m_qj:mg "level_by_way" = some (.ref t.f_qj)
 F_qd:Fun K "levels_in_row" "levels_in_row" AcJ t.f_qd t.d_qd
 m_qd:mg "levels_in_row" = some (.ref t.f_qd)
 F_qbq:FunD K "levels_of" "levels_of" Yn t.f_qbq t.d_qbq t.D_levels_of [t.v_levels_of_0,t.v_levels_of_1]
 w_levels_of_0:Vals [.non] [t.v_levels_of_0]
 w_levels_of_1:Vals [.int 20] [t.v_levels_of_1]
 m_qbq:mg "levels_of" = some (.ref t.f_qbq)
 F_qba:Fun K "_law_marked" "_law_marked" Xy t.f_qba t.d_qba
 m_qba:mg "_law_marked" = some (.ref t.f_qba)
 F_qbk:Fun K "_law_ended" "_law_ended" Yh t.f_qbk t.d_qbk
 m_qbk:mg "_law_ended" = some (.ref t.f_qbk)
 F_qcb:Fun K "law" "law" Vc t.f_qcb t.d_qcb
 m_qcb:mg "law" = some (.ref t.f_qcb)
 m_Book:mg "Book" = some (.ref t.C_Book)
 cl_Book:Cls K t.C_Book
 K_Book:Mk K t.C_Book t.f_qbe
 n_Book_kinds:NoAttr K t.C_Book "kinds"
 n_Book_ranks:NoAttr K t.C_Book "ranks"
 n_Book_mates:NoAttr K t.C_Book "mates"
 n_Book_pairs:NoAttr K t.C_Book "pairs"
 n_Book_wholes:NoAttr K t.C_Book "wholes"
 z_bool:mg "bool" = none
 z_enumerate:mg "enumerate" = none
 z_int:mg "int" = none
 z_isinstance:mg "isinstance" = none
 z_len:mg "len" = none
 z_list:mg "list" = none
 z_max:mg "max" = none
 z_min:mg "min" = none
 z_range:mg "range" = none
 z_reversed:mg "reversed" = none
 z_str:mg "str" = none
 z_tuple:mg "tuple" = none
 z_zip:mg "zip" = none
 g_BEGINNINGS:mg "BEGINNINGS" = some (.ref t.a_BEGINNINGS)
 q_BEGINNINGS:∀ H,SqT K H t.a_BEGINNINGS [.str "forein",.str "backin"]
 g_JOINED_KINDS:mg "JOINED_KINDS" = some (.ref t.a_JOINED_KINDS)
 q_JOINED_KINDS:∀ H,SqT K H t.a_JOINED_KINDS [.str "fore",.str "back",.str "num",.str "blank",.str "plain"]
 g_LEADING_KINDS:mg "LEADING_KINDS" = some (.ref t.a_LEADING_KINDS)
 q_LEADING_KINDS:∀ H,SqT K H t.a_LEADING_KINDS [.str "fore",.str "back",.str "num"]
 g_MOST_GOINGS:∃ u,mg "MOST_GOINGS" = some u/\RelV (.int 7) u
 g_TOLD_KINDS:mg "TOLD_KINDS" = some (.ref t.a_TOLD_KINDS)
 q_TOLD_KINDS:∀ H,SqT K H t.a_TOLD_KINDS [.str "fore",.str "back",.str "num",.str "blank",.str "mark",.str "forein",.str "backin",.str "out"]
abbrev Sg:=Int × Str × Int
def toldK:List Str:=["fore","back","num","blank","mark","forein","backin","out"]
def Nb (k:Str) (r:Int):Prop:=(k = "mark"/\1 <= r)\/(¬ k = "mark"/\r = 0)
def TripAt (H:Hp) (x:V) (s:Sg):Prop:=∃ p,x = .ref p/\H p = some (.tup [.int s.1,.str s.2.1,.int s.2.2])
def PairAt (H:Hp) (x:V) (m:Int × Int):Prop:=∃ p,x = .ref p/\H p = some (.tup [.int m.1,.int m.2])
def LAt {β α:Type} (R:Hp->β->α->Prop) (H:Hp) (xs:List β) (ys:List α):Prop:=xs.length = ys.length/\∀ (i:Nat) (x:β) (y:α),xs[i]? = some x->ys[i]? = some y->R H x y
theorem LAt.get {β α:Type} {R:Hp->β->α->Prop} {H:Hp} {xs:List β} {ys:List α} (h:LAt R H xs ys) {i:Nat} {x:β} (e:xs[i]? = some x):∃ y,ys[i]? = some y/\R H x y:=by
 have hi:i < xs.length:=(List.getElem?_eq_some_iff.mp e).1
 have hy:i < ys.length:=by rw[<- h.1]; exact hi
 exact⟨ys[i],getElem?_eq_getElem hy,h.2 i x _ e (getElem?_eq_getElem hy)⟩
theorem LAt.mono {β α:Type} {R R':Hp->β->α->Prop} {H H':Hp} {xs:List β} {ys:List α} (h:LAt R H xs ys) (m:∀ x y,R H x y->R' H' x y):LAt R' H' xs ys:=⟨h.1,fun i x y e1 e2=>m x y (h.2 i x y e1 e2)⟩
theorem LAt.snoc {β α:Type} {R:Hp->β->α->Prop} {H:Hp} {xs:List β} {ys:List α} {x:β} {y:α} (h:LAt R H xs ys) (r:R H x y):LAt R H (xs ++ [x]) (ys ++ [y]):=by
 refine⟨by simp [h.1],fun i u v e1 e2=>?_⟩
 by_cases hi:i < xs.length
 ·rw[getElem?_append_left hi] at e1
  rw[getElem?_append_left (by rw[<- h.1]; exact hi)] at e2
  exact h.2 i u v e1 e2
 ·rw[getElem?_append_right (by omega)] at e1
  rw[getElem?_append_right (by rw[<- h.1]; omega),<- h.1] at e2
  have hz:i - xs.length = 0:=by
   have:=(List.getElem?_eq_some_iff.mp e1).1
   simp at this; omega
  rw[hz] at e1 e2
  simp at e1 e2
  rw[<- e1,<- e2]; exact r
theorem LAt.nil {β α:Type} {R:Hp->β->α->Prop} {H:Hp}:LAt R H ([]:List β) ([]:List α):=⟨rfl,fun i x y e=>by simp at e⟩
structure Yq (s:Sg):Prop where
 nn:0 <= s.1
 kd:s.2.1 ∈ toldK
 rk:Nb s.2.1 s.2.2
def kK (signs:List Sg):List (Key × V):=signs.map fun s=>(.inl s.1,.str s.2.1)
def kR (signs:List Sg):List (Key × V):=signs.map fun s=>(.inl s.1,.int s.2.2)
def kM:List (Int × Int)->List (Key × V)
 | []=>[]
 | m :: r=>(.inl m.1,.str "open") :: (.inl m.2,.str "shut") :: kM r
def kB:List (Int × Int)->List (Key × V)
 | []=>[]
 | m :: r=>(.inl m.1,.int m.2) :: (.inl m.2,.int m.1) :: kB r
def Fr:List (Int × Int)->List Int
 | []=>[]
 | m :: r=>m.1 :: m.2 :: Fr r
theorem To (xs ys:List (Int × Int)):Fr (xs ++ ys) = Fr xs ++ Fr ys:=by
 induction xs with
 | nil=>rfl
 | cons x r ih=>simp [Fr,ih]
theorem Oy (xs ys:List (Int × Int)):kM (xs ++ ys) = kM xs ++ kM ys:=by
 induction xs with
 | nil=>rfl
 | cons x r ih=>simp [kM,ih]
theorem Wy (xs ys:List (Int × Int)):kB (xs ++ ys) = kB xs ++ kB ys:=by
 induction xs with
 | nil=>rfl
 | cons x r ih=>simp [kB,ih]
theorem Abr (xs:List (Int × Int)):(kM xs).map (·.1) = (Fr xs).map Sum.inl:=by
 induction xs with
 | nil=>rfl
 | cons x r ih=>simp [kM,Fr,ih]
theorem Ajl (xs:List (Int × Int)):(kB xs).map (·.1) = (Fr xs).map Sum.inl:=by
 induction xs with
 | nil=>rfl
 | cons x r ih=>simp [kB,Fr,ih]
theorem Alf (xs:List (Int × Int)):(kM xs).length = 2 * xs.length:=by
 induction xs with
 | nil=>rfl
 | cons x r ih=>simp [kM,ih]; omega
theorem Als (xs:List (Int × Int)):(kB xs).length = 2 * xs.length:=by
 induction xs with
 | nil=>rfl
 | cons x r ih=>simp [kB,ih]; omega
theorem Lj {kvs:List (Key × V)} {n:Int} (h:¬ (Sum.inl n:Key) ∈ kvs.map (·.1)):Cs kvs (Sum.inl n) = none:=by
 cases e:Cs kvs (Sum.inl n:Key) with
 | none=>rfl
 | some v=>exact absurd (AbL e) h
theorem Ua {kvs:List (Key × V)} (nd:(kvs.map (·.1)).Nodup) {k:Key} {v:V} (h:(k,v) ∈ kvs):Cs kvs k = some v:=by
 induction kvs with
 | nil=>cases h
 | cons p r ih =>
  have nd':(p.1 :: r.map (·.1)).Nodup:=nd
  obtain⟨h1,h2⟩:=nodup_cons.mp nd'
  rcases mem_cons.mp h with e | e
  ·subst e; exact Lk rfl
  ·have:¬ p.1 = k:=fun z=>h1 (by rw[z]; exact mem_map.mpr ⟨_,e,rfl⟩)
   rw[Le this]; exact ih h2 e
theorem Oq {l:List Int} (h:l.Nodup):(l.map (Sum.inl:Int->Key)).Nodup:=by
 induction l with
 | nil=>exact nodup_nil
 | cons a r ih =>
  obtain⟨h1,h2⟩:=nodup_cons.mp h
  refine nodup_cons.mpr ⟨fun m=>h1 ?_,ih h2⟩
  obtain⟨b,hb,e⟩:=mem_map.mp m
  cases e; exact hb
theorem inl_mem {l:List Int} {n:Int}:(Sum.inl n:Key) ∈ l.map (Sum.inl:Int->Key) ↔ n ∈ l:=by
 constructor
 ·intro m; obtain⟨b,hb,e⟩:=mem_map.mp m; cases e; exact hb
 ·intro m; exact mem_map.mpr ⟨n,m,rfl⟩
theorem Jy {n:Nat} (h:n <= 1000):n < sizeLine:=Nd h
theorem Dt {α:Type} {l:List α} {i:Nat} {x:α} (h:l[i]? = some x):l.take (i + 1) = l.take i ++ [x]:=by
 obtain⟨hi,e⟩:=List.getElem?_eq_some_iff.mp h
 rw[List.take_add_one,getElem?_eq_getElem hi,e]
 rfl
theorem Same.new {d:Addr} {H:Hp} {o:HO} (h:H d = none):Same H (upd H d o):=fun q u e=>by rw[Bh (By e h)]; exact e
theorem TripAt.mono {H H':Hp} {x:V} {s:Sg} (h:TripAt H x s) (k:∀ q xs,H q = some (.tup xs)->H' q = some (.tup xs)):TripAt H' x s:=by
 obtain⟨p,e,hp⟩:=h
 exact⟨p,e,k p _ hp⟩
theorem PairAt.mono {H H':Hp} {x:V} {s:Int × Int} (h:PairAt H x s) (k:∀ q xs,H q = some (.tup xs)->H' q = some (.tup xs)):PairAt H' x s:=by
 obtain⟨p,e,hp⟩:=h
 exact⟨p,e,k p _ hp⟩
theorem Cl {CX:CXT} {P:Program} {w:World} {K:Frag} {mg:Str->Option Value} {base:Heap} {N:List Str} {qual:Str} {sc:Scope} {f:Addr} {cd:Value} {A:Around} {outer:List Env} {s:Shared} {H:Hp} {E:XK}:(Sn CX P w K mg base N qual sc f cd A outer s H E).K = K:=rfl
section
variable {σ:St} {H:Hp} {Q:VK} {K:Frag} {a d:Addr} {n:Int}
theorem AbZ {A B:Prop} (h:B):if (!true) = true then A else B:=Ni h
theorem AcW {A B:Prop} (h:A):if (!false) = true then A else B:=Lh h
theorem Af4 {P:Bool->Prop} (q:P true):∃ x m t b,[V.int n,V.ty "int"] = [x,V.ty m]/\Gk K H x t/\kitOne K t (.type m) = some b/\P b:=⟨_,_,_,_,rfl,.int n,AaT,q⟩
theorem AeW {P:Bool->Prop} (q:P false):∃ x m t b,[V.int n,V.ty "bool"] = [x,V.ty m]/\Gk K H x t/\kitOne K t (.type m) = some b/\P b:=⟨_,_,_,_,rfl,.int n,Za,q⟩
theorem Afx {z:Str} {P:Bool->Prop} (q:P true):∃ x m t b,[V.str z,V.ty "str"] = [x,V.ty m]/\Gk K H x t/\kitOne K t (.type m) = some b/\P b:=⟨_,_,_,_,rfl,.str z,AaQ,q⟩
theorem AkT {xs:List V} (h:H a = some (.lst xs)) {P:Bool->Prop} (q:P true):∃ x m t b,[V.ref a,V.ty "list"] = [x,V.ty m]/\Gk K H x t/\kitOne K t (.type m) = some b/\P b:=⟨_,_,_,_,rfl,.lst h,Xe,q⟩
theorem AmU {xs:List V} (h:H a = some (.tup xs)) {P:Bool->Prop} (q:P true):∃ x m t b,[V.ref a,V.ty "tuple"] = [x,V.ty m]/\Gk K H x t/\kitOne K t (.type m) = some b/\P b:=⟨_,_,_,_,rfl,.tup h,AaV,q⟩
theorem Adp {xs:List V} (h:SqL K H a xs) {P:List V->Prop} (q:P xs):∃ p ys,[V.ref a] = [V.ref p]/\(SqL K H p ys\/SqT K H p ys)/\P ys:=⟨a,xs,rfl,.inl h,q⟩
theorem AkW {xs:List V} (h:H a = some (.tup xs)) {P:List V->Prop} (q:P xs):∃ p ys,[V.ref a] = [V.ref p]/\(SqL K H p ys\/SqT K H p ys)/\P ys:=⟨a,xs,rfl,.inr (SqT.of h),q⟩
theorem AmB {kvs:List (Key × V)} (h:H d = some (.dK kvs)) {P:Option V->Prop} (q:P (Cs kvs (.inl n))):∃ a o,V.ref d = V.ref a/\DGet H a (.int n) o/\P o:=⟨d,_,rfl,DGet.k (k:=Sum.inl n) h,q⟩
theorem Aeh {kvs:List (Key × V)} {v:V} {R:Hp->Prop} (h:H d = some (.dK kvs)) (q:R (upd H d (.dK (Ja kvs (.inl n) v)))) (hl:kvs.length < sizeLine):∃ a H4,V.ref d = V.ref a/\DPut H a (.int n) v H4/\R H4:=⟨d,_,rfl,DPut.k (k:=Sum.inl n) h hl,q⟩
theorem Ane {kvs:List (Key × V)} {P:Addr->Prop} (h:H d = some (.dK kvs)) (q:P d):∃ a,V.ref d = V.ref a/\IsD H a/\P a:=⟨d,rfl,.inl ⟨_,.inl h⟩,q⟩
theorem Akp {kvs:List (Key × V)} {P:Option V->Prop} (h:H d = some (.dK kvs)) (q:P (Cs kvs (.inl n))):∃ o,DGet H d (.int n) o/\P o:=⟨_,DGet.k (k:=Sum.inl n) h,q⟩
theorem Anj {P:Prop} {xs:List V} (h:H a = some (.lst xs)) (q:P):tyV K "list" (.ref a) H/\P:=⟨.inl ⟨rfl,_,SqL.of h⟩,q⟩
theorem AcX {xs:List V} {i:Int} {v:V} (h:SqL K H a xs) (q:Q v H) (hv:atI xs i = some v):Aar K (.ref a) (.int i) H Q:=⟨a,xs,i,v,rfl,rfl,h,hv,q⟩
theorem Amj {xs:List V} {i:Int} {v:V} (h:H a = some (.tup xs)) (q:Q v H) (hv:atI xs i = some v):Vx K (.ref a) (.int i) H Q:=⟨a,xs,i,v,rfl,rfl,SqT.of h,hv,q⟩
end
section
variable {S:List Sg} {M:List (Int × Int)} {s:Sg} {m:Int × Int} {n:Int}
theorem Aif (s:List Sg):(kK s).map (·.1) = (s.map (·.1)).map Sum.inl:=by simp [kK]
theorem Abn:(kK S ++ kM M).map (·.1) = (S.map (·.1) ++ Fr M).map (Sum.inl:Int->Key):=by rw[map_append,Aif,Abr,<- map_append]
theorem Yp (nd:(S.map (·.1) ++ Fr M).Nodup):((kK S ++ kM M).map (·.1)).Nodup:=by rw[Abn]; exact Oq nd
theorem AdQ (h:m ∈ M):(Sum.inl m.1,V.str "open") ∈ kM M/\(Sum.inl m.2,V.str "shut") ∈ kM M:=by
 induction M with
 | nil=>cases h
 | cons x r ih =>
  rcases mem_cons.mp h with e | e
  ·subst e; exact⟨mem_cons_self,mem_cons_of_mem _ mem_cons_self⟩
  ·exact⟨mem_cons_of_mem _ (mem_cons_of_mem _ (ih e).1),mem_cons_of_mem _ (mem_cons_of_mem _ (ih e).2)⟩
theorem Ai0 (nd:(S.map (·.1) ++ Fr M).Nodup) (h:m ∈ M):(Cs (kK S ++ kM M) (Sum.inl m.1)).getD (.str "plain") = .str "open":=by
 rw[Ua (Yp nd) (mem_append_right _ (AdQ h).1)]; rfl
theorem Ajj (nd:(S.map (·.1) ++ Fr M).Nodup) (h:m ∈ M):(Cs (kK S ++ kM M) (Sum.inl m.2)).getD (.str "plain") = .str "shut":=by
 rw[Ua (Yp nd) (mem_append_right _ (AdQ h).2)]; rfl
theorem Wb (nd:(S.map (·.1) ++ Fr M).Nodup) (h:s ∈ S):(Cs (kK S ++ kM M) (Sum.inl s.1)).getD (.str "plain") = .str s.2.1:=by
 rw[Ua (v:=.str s.2.1) (Yp nd) (mem_append_left _ (mem_map.mpr ⟨s,h,rfl⟩))]; rfl
theorem Zk (h:¬ n ∈ S.map (·.1) ++ Fr M):(Cs (kK S ++ kM M) (Sum.inl n)).getD (.str "plain") = .str "plain":=by
 rw[Lj (by rw[Abn]; exact fun w=>h (inl_mem.mp w))]; rfl
end
abbrev Jn:=Int × Int × Int
def joinedK:List Str:=["fore","back","num","blank","plain"]
def TrjAt (H:Hp) (x:V) (j:Jn):Prop:=∃ p,x = .ref p/\H p = some (.tup [.int j.1,.int j.2.1,.int j.2.2])
def KvAt (H:Hp) (kv:Key × V) (j:Jn):Prop:=kv.1 = Sum.inl j.1/\∃ p,kv.2 = .ref p/\H p = some (.tup [.int j.2.1,.int j.2.2])
theorem TrjAt.mono {H H':Hp} {x:V} {j:Jn} (h:TrjAt H x j) (k:∀ q xs,H q = some (.tup xs)->H' q = some (.tup xs)):TrjAt H' x j:=by
 obtain⟨p,e,hp⟩:=h
 exact⟨p,e,k p _ hp⟩
theorem KvAt.mono {H H':Hp} {x:Key × V} {j:Jn} (h:KvAt H x j) (k:∀ q xs,H q = some (.tup xs)->H' q = some (.tup xs)):KvAt H' x j:=by
 obtain⟨e1,p,e,hp⟩:=h
 exact⟨e1,p,e,k p _ hp⟩
theorem LAt.tripS {H H':Hp} {xs:List V} {S:List Sg} (h:LAt TripAt H xs S) (s:Same H H'):LAt TripAt H' xs S:=h.mono fun _ _ z=>z.mono fun _ _ e=>s _ _ e
theorem LAt.pairS {H H':Hp} {xs:List V} {S:List (Int × Int)} (h:LAt PairAt H xs S) (s:Same H H'):LAt PairAt H' xs S:=h.mono fun _ _ z=>z.mono fun _ _ e=>s _ _ e
theorem LAt.trjS {H H':Hp} {xs:List V} {S:List Jn} (h:LAt TrjAt H xs S) (s:Same H H'):LAt TrjAt H' xs S:=h.mono fun _ _ z=>z.mono fun _ _ e=>s _ _ e
theorem LAt.kvS {H H':Hp} {xs:List (Key × V)} {S:List Jn} (h:LAt KvAt H xs S) (s:Same H H'):LAt KvAt H' xs S:=h.mono fun _ _ z=>z.mono fun _ _ e=>s _ _ e
theorem LAt.take {β α:Type} {R:Hp->β->α->Prop} {H:Hp} {xs:List β} {ys:List α} (h:LAt R H xs ys) (n:Nat):LAt R H (xs.take n) (ys.take n) :=
 ⟨by rw[length_take,length_take,h.1],fun i x y e1 e2=>by
  rw[getElem?_take] at e1 e2
  split at e1
  ·rename_i hi
   rw[if_pos hi] at e2
   exact h.2 i x y e1 e2
  ·cases e1⟩
theorem LAt.drop {β α:Type} {R:Hp->β->α->Prop} {H:Hp} {xs:List β} {ys:List α} (h:LAt R H xs ys) (n:Nat):LAt R H (xs.drop n) (ys.drop n) :=
 ⟨by rw[length_drop,length_drop,h.1],fun i x y e1 e2=>by
  rw[List.getElem?_drop] at e1 e2
  exact h.2 _ x y e1 e2⟩
theorem LAt.append {β α:Type} {R:Hp->β->α->Prop} {H:Hp} {xs xs':List β} {ys ys':List α} (h:LAt R H xs ys) (h':LAt R H xs' ys'):LAt R H (xs ++ xs') (ys ++ ys') :=
 ⟨by rw[length_append,length_append,h.1,h'.1],fun i x y e1 e2=>by
  by_cases hi:i < xs.length
  ·rw[getElem?_append_left hi] at e1
   rw[getElem?_append_left (by rw[<- h.1]; exact hi)] at e2
   exact h.2 i x y e1 e2
  ·rw[getElem?_append_right (by omega)] at e1
   rw[getElem?_append_right (by rw[<- h.1]; omega),<- h.1] at e2
   exact h'.2 _ x y e1 e2⟩
theorem Lf {α:Type}:∀ {l:List α},(∀ (i j:Nat) (x:α),l[i]? = some x->l[j]? = some x->i = j)->l.Nodup
 | [],_=>nodup_nil
 | a :: r,h=>nodup_cons.mpr ⟨fun m=>by
   obtain⟨j,hj⟩:=getElem?_of_mem m
   have:=h 0 (j + 1) a rfl (by simpa using hj)
   omega,Lf fun i j x h1 h2=>by
   have:=h (i + 1) (j + 1) x (by simpa using h1) (by simpa using h2)
   omega⟩
theorem LAt.uncons {β α:Type} {R:Hp->β->α->Prop} {H:Hp} {x:β} {xs:List β} {y:α} {ys:List α} (h:LAt R H (x :: xs) (y :: ys)):R H x y/\LAt R H xs ys :=
 ⟨h.2 0 x y rfl rfl,by simpa using h.1,fun i u v e1 e2=>h.2 (i + 1) u v e1 e2⟩
def Fm:List Jn->Int->Option (Int × Int)
 | [],_=>none
 | j :: r,n=>if j.1 = n then some j.2 else Fm r n
def Fn (J:List Jn) (n:Int):Int:=match Fm J n with | some m=>m.1 | none=>n
def jGo (J:List Jn):Nat->Int->Int
 | 0,n=>n
 | k + 1,n=>Fn J (jGo J k n)
theorem Uv {J:List Jn} {n:Int} {m:Int × Int} (h:Fm J n = some m):(n,m) ∈ J:=by
 induction J with
 | nil=>cases h
 | cons x r ih =>
  unfold Fm at h
  split at h
  ·rename_i e
   cases h
   rw[<- e]; exact mem_cons_self
  ·exact mem_cons_of_mem _ (ih h)
theorem Zl {H:Hp} {kvs:List (Key × V)} {J:List Jn} (h:LAt KvAt H kvs J) (n:Int) :
  (Fm J n = none/\Cs kvs (Sum.inl n) = none)\/∃ m p,Fm J n = some m/\Cs kvs (Sum.inl n) = some (.ref p)/\H p = some (.tup [.int m.1,.int m.2]):=by
 induction kvs generalizing J with
 | nil =>
  cases J with
  | nil=>exact .inl ⟨rfl,rfl⟩
  | cons j r=>have:=h.1; simp at this
 | cons kv ks ih =>
  cases J with
  | nil=>have:=h.1; simp at this
  | cons j r =>
   obtain⟨⟨h1,p,e,hp⟩,h3⟩:=h.uncons
   unfold Fm
   by_cases z:j.1 = n
   ·rw[if_pos z]
    exact .inr ⟨j.2,p,rfl,by rw[Lk (by rw[h1,z]),e],hp⟩
   ·rw[if_neg z,Le (by rw[h1]; intro w; exact z (Sum.inl.inj w))]
    exact ih h3
def kW (J:List Jn):List (List Key × V):=J.map fun j=>([Sum.inl j.2.1,Sum.inl j.2.2],V.int j.1)
theorem Am4 {J:List Jn} {a b:Int} (h:¬ (a,b) ∈ J.map (·.2)):Cs (kW J) [Sum.inl a,Sum.inl b] = none:=by
 cases e:Cs (kW J) ([Sum.inl a,Sum.inl b]:List Key) with
 | none=>rfl
 | some v =>
  have:=AbL e
  unfold kW at this
  rw[map_map] at this
  obtain⟨j,hj,z⟩:=mem_map.mp this
  have z':([Sum.inl j.2.1,Sum.inl j.2.2]:List Key) = [Sum.inl a,Sum.inl b]:=z
  injection z' with z1 z2
  injection z2 with z3 z4
  exact absurd (mem_map.mpr ⟨j,hj,Prod.ext (Sum.inl.inj z1) (Sum.inl.inj z3)⟩) h
def knd (kk:List (Key × V)) (n:Int):V:=(Cs kk (Sum.inl n)).getD (.str "plain")
structure Ac6 (kk:List (Key × V)) (J:List Jn):Prop where
 nn:∀ j ∈ J,0 <= j.1/\0 <= j.2.1/\0 <= j.2.2
 mr:∀ j ∈ J,knd kk j.2.2 = .str "mark"
 kd:∀ j ∈ J,∃ k ∈ joinedK,knd kk j.1 = .str k/\knd kk j.2.1 = .str k
 nw:(J.map (·.1)).Nodup
 np:(J.map (·.2)).Nodup
 en:∀ j ∈ J,Fm J (jGo J 7 j.1) = none
 ln:J.length <= 400
theorem Ake {c A B:Prop} [Decidable c] (hc:c) (h:A):if decide c = true then A else B:=by
 rw[if_pos (decide_eq_true hc)]; exact h
theorem AfP {H:Hp} {a:Addr} {u o:HO} (h:H a = some u):upd (upd H a o) a u = H:=by
 rw[Go]; funext b; unfold upd; split
 ·rename_i e; rw[e,h]
 ·rfl
theorem Alm {H:Hp} {a:Addr} {u:HO} {o:Obj}:Rd (upd H a (.frz o u)) a u:=.inr ⟨o,Bl⟩
theorem Rl {α:Type} {l:List α} {i:Nat} {x:α} (nd:l.Nodup) (h:l[i]? = some x):¬ x ∈ l.take i:=by
 obtain⟨hi,e⟩:=List.getElem?_eq_some_iff.mp h
 rw[<- take_append_drop i l,drop_eq_getElem_cons hi,e] at nd
 intro m
 exact (nodup_append.mp nd).2.2 _ m _ mem_cons_self rfl
theorem Ol {α β:Type} {l:List α} {f:α->β} {i:Nat} {x:α} (nd:(l.map f).Nodup) (h:l[i]? = some x):¬ f x ∈ (l.take i).map f:=by
 rw[map_take]
 exact Rl nd (by rw[getElem?_map,h]; rfl)
def bkF (dk dr dm dp dw:Addr):List (Str × V):=Bz "wholes" (.ref dw) (Bz "pairs" (.ref dp) (Bz "mates" (.ref dm) (Bz "ranks" (.ref dr) (Bz "kinds" (.ref dk) []))))
theorem AeY {dk dr dm dp dw:Addr}:(bkF dk dr dm dp dw).lookup ("kinds" : Str) = some (.ref dk):=by
 unfold bkF
 rw[Cz,if_neg (by decide +kernel),Cz,if_neg (by decide +kernel),Cz,if_neg (by decide +kernel),Cz,if_neg (by decide +kernel),Cz,if_pos rfl]
theorem AeO {dk dr dm dp dw:Addr}:(bkF dk dr dm dp dw).lookup ("mates" : Str) = some (.ref dm):=by
 unfold bkF
 rw[Cz,if_neg (by decide +kernel),Cz,if_neg (by decide +kernel),Cz,if_pos rfl]
theorem AeS {dk dr dm dp dw:Addr} {m:Str} (h1:¬ m = "wholes") (h2:¬ m = "pairs") (h3:¬ m = "mates") (h4:¬ m = "ranks") (h5:¬ m = "kinds"):(bkF dk dr dm dp dw).lookup m = none:=by
 unfold bkF
 rw[Cz,if_neg h1,Cz,if_neg h2,Cz,if_neg h3,Cz,if_neg h4,Cz,if_neg h5]
 rfl
theorem Zp {dk dr dm dp dw:Addr}:(bkF dk dr dm dp dw).lookup ("kind" : Str) = none:=AeS (by decide +kernel) (by decide +kernel) (by decide +kernel) (by decide +kernel) (by decide +kernel)
theorem Zb {dk dr dm dp dw:Addr}:(bkF dk dr dm dp dw).lookup ("mate" : Str) = none:=AeS (by decide +kernel) (by decide +kernel) (by decide +kernel) (by decide +kernel) (by decide +kernel)
def BookAt (C:Addr) (H:Hp) (b:Addr) (k r m p:List (Key × V)) (w:List (List Key × V)):Prop :=
 ∃ dx dk dr dm dp dw,H b = some (.ins C dx (bkF dk dr dm dp dw))/\H dk = some (.dK k)/\H dr = some (.dK r)/\H dm = some (.dK m)/\H dp = some (.dK p)/\H dw = some (.dT w)
theorem BookAt.mono {C:Addr} {H H':Hp} {b:Addr} {k r m p:List (Key × V)} {w:List (List Key × V)} (h:BookAt C H b k r m p w) (s:∀ q o,H q = some o->(∀ xs,o ≠ .lst xs)->H' q = some o):BookAt C H' b k r m p w:=by
 obtain⟨dx,dk,dr,dm,dp,dw,h1,h2,h3,h4,h5,h6⟩:=h
 exact⟨dx,dk,dr,dm,dp,dw,s _ _ h1 (fun _ z=>nomatch z),s _ _ h2 (fun _ z=>nomatch z),s _ _ h3 (fun _ z=>nomatch z),s _ _ h4 (fun _ z=>nomatch z),s _ _ h5 (fun _ z=>nomatch z),s _ _ h6 (fun _ z=>nomatch z)⟩
theorem Aao {C b:Addr} {H:Hp} {k r m p:List (Key × V)} {w:List (List Key × V)} {nm:Str} {P:Prop} (h:BookAt C H b k r m p w) (hm:∀ {dk dr dm dp dw:Addr},(bkF dk dr dm dp dw).lookup nm = none) (q:P) :
  ∃ a dx fs,V.ref b = V.ref a/\H a = some (.ins C dx fs)/\fs.lookup nm = none/\P:=by
 obtain⟨dx,dk,dr,dm,dp,dw,h1,_⟩:=h
 exact⟨b,dx,_,rfl,h1,hm,q⟩
def Keep (p:Addr) (H H':Hp):Prop:=∀ q o,H q = some o->q ≠ p->H' q = some o
theorem Keep.trans {p:Addr} {H H1 H2:Hp} (a:Keep p H H1) (b:Keep p H1 H2):Keep p H H2:=fun q o h n=>b q o (a q o h n) n
theorem Keep.new {p d:Addr} {H:Hp} {o:HO} (h:H d = none):Keep p H (upd H d o):=fun q u e _=>by rw[Bh (By e h)]; exact e
theorem Keep.put {p:Addr} {H:Hp} {o:HO}:Keep p H (upd H p o):=fun q u e n=>by rw[Bh n]; exact e
theorem Keep.free {p:Addr} {H H':Hp} {o:HO} (k:Keep p H H') (hp:H' p = some o) {d:Addr} (h:H' d = none):H d = none:=by
 cases e:H d with
 | none=>rfl
 | some u =>
  by_cases z:d = p
  ·subst z; rw[hp] at h; cases h
  ·rw[k _ _ e z] at h; cases h
def Aa1 (C:Addr):Sp:=fun vs H Q _=>∃ p dx a b cc xs ys zs signs mates J,vs = [.ref p,.ref a,.ref b,.ref cc]/\H p = some (.ins C dx [])/\H a = some (.lst xs)/\H b = some (.lst ys)/\H cc = some (.lst zs)/\LAt TripAt H xs signs/\LAt PairAt H ys mates/\LAt TrjAt H zs J /\
 (∀ s ∈ signs,Yq s)/\(∀ m ∈ mates,0 <= m.1/\0 <= m.2)/\(signs.map (·.1) ++ Fr mates).Nodup/\Ac6 (kK signs ++ kM mates) J/\signs.length + 2 * mates.length <= 400 /\
 ∀ H' kvs dx dk dr dm dp dw,Keep p H H'->H dk = none->H dr = none->H dm = none->H dp = none->H dw = none->H' p = some (.ins C dx (bkF dk dr dm dp dw))->H' dk = some (.dK (kK signs ++ kM mates))->H' dr = some (.dK (kR signs))->H' dm = some (.dK (kB mates))->H' dp = some (.dK kvs)->H' dw = some (.dT (kW J))->LAt KvAt H' kvs J->Q .non H'
def Wg (C:Addr):Sp:=fun vs H Q _=>∃ b n k r m p w,vs = [.ref b,.int n]/\BookAt C H b k r m p w/\Q ((Cs k (Sum.inl n)).getD (.str "plain")) H
theorem Ae3 {C b:Addr} {n:Int} {k r m p:List (Key × V)} {w:List (List Key × V)} {H:Hp} {Q:VK} {E:XK} (h:BookAt C H b k r m p w) (q:Q ((Cs k (Sum.inl n)).getD (.str "plain")) H):Wg C [.ref b,.int n] H Q E:=⟨b,n,k,r,m,p,w,rfl,h,q⟩
def Abx (C:Addr):Sp:=fun vs H Q _=>∃ b n k r m p w,vs = [.ref b,.int n]/\BookAt C H b k r m p w/\Q ((Cs m (Sum.inl n)).getD .non) H
inductive PV where
 | non | bl (b:Bool) | int (i:Int) | str (x:Str)
 | lst (xs:List PV) | tup (xs:List PV) | ctp (xs:List PV)
 | dk (kvs:List (Key × PV)) | dt (kvs:List (List Key × PV))
 | bk (S:List Sg) (M:List (Int × Int)) (J:List Jn)
 | scr (ns:List Int)
 | exc (c:Addr) | cls (c:Addr) | ty (n:String)
inductive Rep (K:Frag) (C:Addr) (G:Hp):V->PV->Prop where
 | non:Rep K C G .non .non
 | bl (b:Bool):Rep K C G (.bl b) (.bl b)
 | int (i:Int):Rep K C G (.int i) (.int i)
 | str (x:Str):Rep K C G (.str x) (.str x)
 | lst {a:Addr} {vs:List V} {ps:List PV} (e:G a = some (.lst vs)) (l:vs.length = ps.length) (h:∀ (i:Nat) (v:V) (p:PV),vs[i]? = some v->ps[i]? = some p->Rep K C G v p):Rep K C G (.ref a) (.lst ps)
 | tup {a:Addr} {vs:List V} {ps:List PV} (e:G a = some (.tup vs)) (l:vs.length = ps.length) (h:∀ (i:Nat) (v:V) (p:PV),vs[i]? = some v->ps[i]? = some p->Rep K C G v p):Rep K C G (.ref a) (.tup ps)
 | ctp {a:Addr} {vs:List V} {ps:List PV} (e:∀ H,SqT K H a vs) (l:vs.length = ps.length) (h:∀ (i:Nat) (v:V) (p:PV),vs[i]? = some v->ps[i]? = some p->Rep K C G v p):Rep K C G (.ref a) (.ctp ps)
 | dk {a:Addr} {kvs:List (Key × V)} {ps:List (Key × PV)} (e:G a = some (.dK kvs)) (l:kvs.length = ps.length) (hk:∀ (i:Nat) (v:Key × V) (p:Key × PV),kvs[i]? = some v->ps[i]? = some p->v.1 = p.1)
   (h:∀ (i:Nat) (v:Key × V) (p:Key × PV),kvs[i]? = some v->ps[i]? = some p->Rep K C G v.2 p.2):Rep K C G (.ref a) (.dk ps)
 | dt {a:Addr} {kvs:List (List Key × V)} {ps:List (List Key × PV)} (e:G a = some (.dT kvs)) (l:kvs.length = ps.length) (hk:∀ (i:Nat) (v:List Key × V) (p:List Key × PV),kvs[i]? = some v->ps[i]? = some p->v.1 = p.1)
   (h:∀ (i:Nat) (v:List Key × V) (p:List Key × PV),kvs[i]? = some v->ps[i]? = some p->Rep K C G v.2 p.2):Rep K C G (.ref a) (.dt ps)
 | bk {b:Addr} {S:List Sg} {M:List (Int × Int)} {J:List Jn} {kvs:List (Key × V)} (h:BookAt C G b (kK S ++ kM M) (kR S) (kB M) kvs (kW J)) (l:LAt KvAt G kvs J):Rep K C G (.ref b) (.bk S M J)
 | scr {a:Addr} {ns:List Int} (h:SqL K G a (ns.map V.int)):Rep K C G (.ref a) (.scr ns)
 | exc {a c:Addr} (e:G a = some (.ext (An5 a c))):Rep K C G (.ref a) (.exc c)
 | cls {c:Addr}:Rep K C G (.ref c) (.cls c)
 | ty {n:String}:Rep K C G (.ty n) (.ty n)
section
variable {K:Frag} {C:Addr} {ω:Om} {G G' H H':Hp} {v:V} {p:PV} {a:Addr}
theorem Rep.mono (h:Rep K C G v p) (s:Same G G'):Rep K C G' v p:=by
 induction h with
 | non=>exact .non
 | bl b=>exact .bl b
 | int i=>exact .int i
 | str x=>exact .str x
 | lst e l _ ih=>exact .lst (s _ _ e) l ih
 | tup e l _ ih=>exact .tup (s _ _ e) l ih
 | ctp e l _ ih=>exact .ctp e l ih
 | dk e l hk _ ih=>exact .dk (s _ _ e) l hk ih
 | dt e l hk _ ih=>exact .dt (s _ _ e) l hk ih
 | bk h l=>exact .bk (h.mono fun _ _ e _=>s _ _ e) (l.kvS s)
 | scr h=>exact .scr (s.seq h)
 | exc e=>exact .exc (s _ _ e)
 | cls=>exact .cls
 | ty=>exact .ty
def KRep {κ:Type} (K:Frag) (C:Addr) (G:Hp) (v:κ × V) (p:κ × PV):Prop:=v.1 = p.1/\Rep K C G v.2 p.2
theorem KRep.mono {κ:Type} {v:κ × V} {p:κ × PV} (h:KRep K C G v p) (s:Same G G'):KRep K C G' v p:=⟨h.1,h.2.mono s⟩
abbrev Reps (K:Frag) (C:Addr) (G:Hp) (vs:List V) (ps:List PV):Prop:=LAt (Rep K C) G vs ps
theorem Reps.mono {vs:List V} {ps:List PV} (h:Reps K C G vs ps) (s:Same G G'):Reps K C G' vs ps:=LAt.mono h fun _ _ z=>z.mono s
theorem KReps.mono {κ:Type} {vs:List (κ × V)} {ps:List (κ × PV)} (h:LAt (KRep K C) G vs ps) (s:Same G G'):LAt (KRep K C) G' vs ps:=LAt.mono h fun _ _ z=>z.mono s
theorem Rep.ofL {vs:List V} {ps:List PV} (e:G a = some (.lst vs)) (h:Reps K C G vs ps):Rep K C G (.ref a) (.lst ps):=.lst e h.1 h.2
theorem Rep.ofT {vs:List V} {ps:List PV} (e:G a = some (.tup vs)) (h:Reps K C G vs ps):Rep K C G (.ref a) (.tup ps):=.tup e h.1 h.2
theorem Rep.ofD {vs:List (Key × V)} {ps:List (Key × PV)} (e:G a = some (.dK vs)) (h:LAt (KRep K C) G vs ps):Rep K C G (.ref a) (.dk ps):=.dk e h.1 (fun i v p h1 h2=>(h.2 i v p h1 h2).1) (fun i v p h1 h2=>(h.2 i v p h1 h2).2)
theorem Rep.ofDt {vs:List (List Key × V)} {ps:List (List Key × PV)} (e:G a = some (.dT vs)) (h:LAt (KRep K C) G vs ps):Rep K C G (.ref a) (.dt ps):=.dt e h.1 (fun i v p h1 h2=>(h.2 i v p h1 h2).1) (fun i v p h1 h2=>(h.2 i v p h1 h2).2)
def Rh (o:HO):Prop:=∀ xs,o ≠ .tup xs
def OwnA (K:Frag) (C:Addr) (G H:Hp) (a:Addr):PV->Prop
 | .lst ps=>∃ vs,H a = some (.lst vs)/\Reps K C G vs ps
 | .dk ps=>∃ kvs,H a = some (.dK kvs)/\LAt (KRep K C) G kvs ps
 | .dt ps=>∃ kvs,H a = some (.dT kvs)/\LAt (KRep K C) G kvs ps
 | _=>False
theorem OwnA.ofL {vs:List V} {ps:List PV} (e:H a = some (.lst vs)) (r:Reps K C G vs ps):OwnA K C G H a (.lst ps):=⟨vs,e,r⟩
theorem OwnA.ofD {vs:List (Key × V)} {ps:List (Key × PV)} (e:H a = some (.dK vs)) (r:LAt (KRep K C) G vs ps):OwnA K C G H a (.dk ps):=⟨vs,e,r⟩
theorem OwnA.here (h:OwnA K C G H a p):H a ≠ none:=by
 cases p <;> first | exact h.elim | (obtain⟨_,e,_⟩:=h; rw[e]; exact fun z=>nomatch z)
theorem OwnA.thing (h:OwnA K C G H a p):∃ o,H a = some o/\Rh o:=by
 cases p <;> first | exact h.elim | (obtain⟨_,e,_⟩:=h; exact⟨_,e,fun _ z=>nomatch z⟩)
theorem OwnA.mono (h:OwnA K C G H a p) (s:Same G G') (e:H' a = H a):OwnA K C G' H' a p:=by
 cases p <;> first | exact h.elim | (obtain⟨vs,e1,l⟩:=h; exact⟨vs,by rw[e]; exact e1,l.mono s⟩) | (obtain⟨vs,e1,l⟩:=h; exact⟨vs,by rw[e]; exact e1,KReps.mono l s⟩)
def RepB (K:Frag) (C:Addr) (G H:Hp) (v:V) (p:PV):Prop:=Rep K C G v p\/∃ a,v = .ref a/\OwnA K C G H a p
structure Grow (G H G' H':Hp):Prop where
 g:Same G G'
 h:Same H H'
 i:Same G' H'
 n:∀ a o,H a = some o->Rh o->G a = none->G' a = none
theorem Grow.refl (s:Same G H):Grow G H G H:=⟨Same.refl _,Same.refl _,s,fun _ _ _ _ h=>h⟩
theorem _root_.L2.Same.eq (s:Same H H') {a:Addr} (h:H a ≠ none):H' a = H a:=by
 cases e:H a with
 | none=>exact absurd e h
 | some o=>exact s _ _ e
theorem Grow.trans {G1 H1:Hp} (x:Grow G H G1 H1) (y:Grow G1 H1 G' H'):Grow G H G' H':=⟨x.g.trans y.g,x.h.trans y.h,y.i,fun a o h1 t h2=>y.n a o (x.h _ _ h1) t (x.n a o h1 t h2)⟩
theorem RepB.grow (h:RepB K C G H v p) (w:Grow G H G' H'):RepB K C G' H' v p:=by
 rcases h with h | ⟨a,e,h⟩
 ·exact .inl (h.mono w.g)
 ·exact .inr ⟨a,e,h.mono w.g (w.h.eq h.here)⟩
theorem Grow.put {o:HO} (s:Same G H) (n:H a = none) (s2:Same H H') (e:H' a = some o):Grow G H (upd G a o) H':=by
 have gn:G a = none:=s.free n
 refine⟨Same.new gn,s2,fun b u h=>?_,fun b u h1 _ h2=>?_⟩
 ·by_cases z:b = a
  ·subst z; rw[Bl] at h; rw[e]; exact h
  ·rw[Bh z] at h; exact s2 _ _ (s _ _ h)
 ·rw[Bh (by intro z; subst z; rw[n] at h1; cases h1)]; exact h2
theorem Grow.own (s:Same G H) (s2:Same H H'):Grow G H G H':=⟨Same.refl _,s2,s.trans s2,fun _ _ _ _ h=>h⟩
end
inductive Sl where
 | un | sh (p:PV) | bo (p:PV) | ow (p:PV) | fz (z:Addr × Obj × List (Key × V)) (kvs:List (Key × PV)) | bz (kvs:List (Key × PV)) | fl (z:Addr × List V) (ps:List PV) | om (a:Addr) (p:PV)
abbrev Bg:=List Sl
def SlOk (K:Frag) (C:Addr) (G0 H0:Hp) (own:Nat->Option Addr) (G:Hp) (σ:St) (H:Hp) (i:Nat):Sl->Prop
 | .un=>True
 | .sh p=>∃ v,σ[i]? = some (some v)/\Rep K C G v p
 | .bo p=>∃ v,σ[i]? = some (some v)/\RepB K C G0 H0 v p
 | .ow p=>∃ a,σ[i]? = some (some (.ref a))/\own i = some a/\OwnA K C G H a p
 | .fz z kvs=>σ[i]? = some (some (.ref z.1))/\own i = some z.1/\H z.1 = some (.frz z.2.1 (.dK z.2.2))/\LAt (KRep K C) G z.2.2 kvs
 | .bz kvs=>∃ a o vs,σ[i]? = some (some (.ref a))/\H0 a = some (.frz o (.dK vs))/\LAt (KRep K C) G vs kvs
 | .fl z ps=>σ[i]? = some (some (.ref z.1))/\own i = some z.1/\H z.1 = some (.lst z.2)/\Reps K C G z.2 ps
 | .om a p=>σ[i]? = some (some (.ref a))/\own i = some a/\OwnA K C G H a p
structure Om where
 E:XK
 X:Nat->Prop
 ca:Nat->Addr
def Om.no:Om:=⟨fun _ _ _=>False,fun _=>False,fun _=>0⟩
structure Sat (K:Frag) (C:Addr) (ω:Om) (B G0 H0:Hp) (own:Nat->Option Addr) (G:Hp) (σ:St) (H:Hp) (ρ:Bg):Prop where
 kb:Same B G
 gr:Grow G0 H0 G H
 len:σ.length = ρ.length
 inj:∀ i j a,own i = some a->own j = some a->i = j
 fr:∀ i a,own i = some a->H0 a = none/\G a = none/\∃ o,H a = some o/\Rh o
 sl:∀ i s,ρ[i]? = some s->SlOk K C G0 H0 own G σ H i s
 ex:∀ x H',Same H0 H'->ω.X x->ω.E (.ref (ω.ca x)) none H'
abbrev UE:=Bg->(PV->Prop)->Prop
abbrev UT:=Bg->(Bool->Prop)->Prop
abbrev UA:=Bg->(List PV->Prop)->Prop
structure Fq where
 nx:Bg->Prop
 rt:PV->Prop
 bk:Bg->Prop
 ct:Bg->Prop
abbrev US:=Fq->Bg->Prop
section
variable (K:Frag) (C:Addr) (ω:Om)
def EB (t:TE) (u:UE):Prop:=∀ (B G0 H0:Hp) (own:Nat->Option Addr) (G:Hp) (σ:St) (H:Hp) (ρ:Bg) (P:PV->Prop) (Q:VK),Sat K C ω B G0 H0 own G σ H ρ->u ρ P->(∀ v p G' H',Grow G H G' H'->RepB K C G' H' v p->P p->Q v H')->t σ H Q
def EU (t:TE) (u:UE):Prop:=∀ (B G0 H0:Hp) (own:Nat->Option Addr) (G:Hp) (σ:St) (H:Hp) (ρ:Bg) (P:PV->Prop) (Q:VK),Sat K C ω B G0 H0 own G σ H ρ->u ρ P->(∀ v p G' H',Grow G H G' H'->Rep K C G' v p->P p->Q v H')->t σ H Q
def EF (t:TE) (u:UE):Prop:=∀ (B G0 H0:Hp) (own:Nat->Option Addr) (G:Hp) (σ:St) (H:Hp) (ρ:Bg) (P:PV->Prop) (Q:VK),Sat K C ω B G0 H0 own G σ H ρ->u ρ P->(∀ a p G' H',Grow G H G' H'->H a = none->G' a = none->OwnA K C G' H' a p->P p->Q (.ref a) H')->t σ H Q
def TU (t:TT) (u:UT):Prop:=∀ (B G0 H0:Hp) (own:Nat->Option Addr) (G:Hp) (σ:St) (H:Hp) (ρ:Bg) (P:Bool->Prop) (Q:Bool->Hp->Prop),Sat K C ω B G0 H0 own G σ H ρ->u ρ P->(∀ b G' H',Grow G H G' H'->P b->Q b H')->t σ H Q
def ArgsOk (G H:Hp):List Bool->List V->List PV->Prop
 | [],[],[]=>True
 | true :: ms,v :: vs,p :: ps=>Rep K C G v p/\ArgsOk G H ms vs ps
 | false :: ms,v :: vs,p :: ps=>RepB K C G H v p/\ArgsOk G H ms vs ps
 | _,_,_=>False
def AU (ms:List Bool) (t:TA) (u:UA):Prop:=∀ (B G0 H0:Hp) (own:Nat->Option Addr) (G:Hp) (σ:St) (H:Hp) (ρ:Bg) (P:List PV->Prop) (Q:List V->Hp->Prop),Sat K C ω B G0 H0 own G σ H ρ->u ρ P->(∀ vs ps G' H',Grow G H G' H'->ArgsOk K C G' H' ms vs ps->P ps->Q vs H')->t σ H Q
inductive Rm where
 | sh | fr | mu (a:Addr)
def ROk (rm:Rm) (H0 G H:Hp) (v:V) (p:PV):Prop:=match rm with
 | .sh=>Rep K C G v p
 | .fr=>∃ a,v = .ref a/\H0 a = none/\G a = none/\OwnA K C G H a p
 | .mu b=>∃ p1 p2 a,p = .tup [p1,p2]/\v = .ref a/\H0 a = none/\a ≠ b/\G a = none/\OwnA K C G H a p1/\G b = none/\OwnA K C G H b p2
structure AcU (rm:Rm) (B G0 H0:Hp) (D:Ends) (d:Fq):Prop where
 nx:∀ own G σ H ρ,Sat K C ω B G0 H0 own G σ H ρ->d.nx ρ->D.nx σ H
 rt:∀ G H v p,Grow G0 H0 G H->ROk K C rm H0 G H v p->d.rt p->D.rt v H
 bk:∀ own G σ H ρ,Sat K C ω B G0 H0 own G σ H ρ->d.bk ρ->D.bk σ H
 ct:∀ own G σ H ρ,Sat K C ω B G0 H0 own G σ H ρ->d.ct ρ->D.ct σ H
def SU (rm:Rm) (t:TS) (u:US):Prop:=∀ (B G0 H0:Hp) (own:Nat->Option Addr) (G:Hp) (σ:St) (H:Hp) (ρ:Bg) (D:Ends) (d:Fq),Sat K C ω B G0 H0 own G σ H ρ->AcU K C ω rm B G0 H0 D d->u d ρ->t D σ H
def GU (top:Nat) (g:TG) (u:PV->Bg->(Bg->Prop)->Prop):Prop:=∀ (B G0 H0:Hp) (own:Nat->Option Addr) (G:Hp) (σ:St) (H:Hp) (ρ:Bg) (v:V) (p:PV) (P:Bg->Prop) (R:St->Hp->Prop),Sat K C ω B G0 H0 own G σ H ρ->Rep K C G v p->u p ρ P ->
 (∀ own' σ' ρ',Sat K C ω B G0 H0 own' G σ' H ρ'->σ'.drop top = σ.drop top->P ρ'->R σ' H)->g v σ H R
def GsU (top:Nat) (g:TGs) (u:List PV->Bg->(Bg->Prop)->Prop):Prop:=∀ (B G0 H0:Hp) (own:Nat->Option Addr) (G:Hp) (σ:St) (H:Hp) (ρ:Bg) (vs:List V) (ps:List PV) (P:Bg->Prop) (R:St->Hp->Prop),Sat K C ω B G0 H0 own G σ H ρ->Reps K C G vs ps->u ps ρ P ->
 (∀ own' σ' ρ',Sat K C ω B G0 H0 own' G σ' H ρ'->σ'.drop top = σ.drop top->P ρ'->R σ' H)->g vs σ H R
end
section
variable {K:Frag} {C:Addr} {ω:Om} {B G0 H0 G G' H H':Hp} {own:Nat->Option Addr} {σ:St} {ρ:Bg}
theorem SlOk.grow {i:Nat} {s:Sl} (h:SlOk K C G0 H0 own G σ H i s) (w:Grow G H G' H'):SlOk K C G0 H0 own G' σ H' i s:=by
 cases s with
 | un=>trivial
 | sh p=>obtain⟨v,e,r⟩:=h; exact⟨v,e,r.mono w.g⟩
 | bo p=>exact h
 | ow p=>obtain⟨a,e,o,r⟩:=h; exact⟨a,e,o,r.mono w.g (w.h.eq r.here)⟩
 | fz z kvs=>obtain⟨e,o,h1,h2⟩:=h; exact⟨e,o,w.h _ _ h1,KReps.mono h2 w.g⟩
 | bz kvs=>obtain⟨a,o,vs,e,h1,h2⟩:=h; exact⟨a,o,vs,e,h1,KReps.mono h2 w.g⟩
 | fl z ps=>obtain⟨e,o,h1,h2⟩:=h; exact⟨e,o,w.h _ _ h1,h2.mono w.g⟩
 | om a p=>obtain⟨e,o,r⟩:=h; exact⟨e,o,r.mono w.g (w.h.eq r.here)⟩
theorem Sat.grow (S:Sat K C ω B G0 H0 own G σ H ρ) (w:Grow G H G' H'):Sat K C ω B G0 H0 own G' σ H' ρ :=
 ⟨S.kb.trans w.g,S.gr.trans w,S.len,S.inj,fun i a e=>let ⟨f0,fg,o,ho,ht⟩:=S.fr i a e; ⟨f0,w.n a o ho ht fg,o,w.h _ _ ho,ht⟩,fun i s e=>(S.sl i s e).grow w,S.ex⟩
theorem Sat.base {B':Hp} (S:Sat K C ω B G0 H0 own G σ H ρ) (h:Same B' G):Sat K C ω B' G0 H0 own G σ H ρ:=⟨h,S.gr,S.len,S.inj,S.fr,S.sl,S.ex⟩
def Jp (own:Nat->Option Addr) (i:Nat):Nat->Option Addr:=fun j=>if j = i then none else own j
def Qx (own:Nat->Option Addr) (i:Nat) (a:Addr):Nat->Option Addr:=fun j=>if j = i then some a else own j
theorem Fg {own:Nat->Option Addr} {i j:Nat} {a:Addr} (h:Jp own i j = some a):j ≠ i/\own j = some a:=by
 unfold Jp at h
 split at h
 ·cases h
 ·rename_i z; exact⟨z,h⟩
theorem Lv {α:Type} {l:List α} {i j:Nat} {x s:α} (h:(l.set i x)[j]? = some s):(j = i/\s = x/\i < l.length)\/(j ≠ i/\l[j]? = some s):=by
 by_cases z:j = i
 ·subst z
  rw[List.getElem?_set_self'] at h
  cases e:l[j]? with
  | none=>rw[e] at h; cases h
  | some y=>rw[e] at h; cases h; exact .inl ⟨rfl,rfl,(List.getElem?_eq_some_iff.mp e).1⟩
 ·rw[getElem?_set_ne (Ne.symm z)] at h; exact .inr ⟨z,h⟩
theorem Th {α:Type} {l:List α} {i j:Nat} {x:α} (z:j ≠ i):(l.set i x)[j]? = l[j]?:=getElem?_set_ne (Ne.symm z)
theorem Jt {α:Type} {l:List α} {i:Nat} {x:α} (h:i < l.length):(l.set i x)[i]? = some x:=by rw[getElem?_set_self h]
theorem SlOk.other {own':Nat->Option Addr} {σ':St} {i:Nat} {s:Sl} (h:SlOk K C G0 H0 own G σ H i s) (e1:σ'[i]? = σ[i]?) (e2:own' i = own i):SlOk K C G0 H0 own' G σ' H i s:=by
 cases s with
 | un=>trivial
 | sh p=>obtain⟨v,e,r⟩:=h; exact⟨v,e1.trans e,r⟩
 | bo p=>obtain⟨v,e,r⟩:=h; exact⟨v,e1.trans e,r⟩
 | ow p=>obtain⟨a,e,o,r⟩:=h; exact⟨a,e1.trans e,e2.trans o,r⟩
 | fz z kvs=>obtain⟨e,o,r⟩:=h; exact⟨e1.trans e,e2.trans o,r⟩
 | bz kvs=>obtain⟨a,o,vs,e,r⟩:=h; exact⟨a,o,vs,e1.trans e,r⟩
 | fl z ps=>obtain⟨e,o,r⟩:=h; exact⟨e1.trans e,e2.trans o,r⟩
 | om a p=>obtain⟨e,o,r⟩:=h; exact⟨e1.trans e,e2.trans o,r⟩
theorem Sat.setS (S:Sat K C ω B G0 H0 own G σ H ρ) {i:Nat} {v:V} {p:PV} (r:Rep K C G v p):Sat K C ω B G0 H0 (Jp own i) G (σ.set i (some v)) H (ρ.set i (.sh p)):=by
 refine⟨S.kb,S.gr,by rw[length_set,length_set,S.len],fun j k a h1 h2=>S.inj j k a (Fg h1).2 (Fg h2).2,fun j a h=>S.fr j a (Fg h).2,fun j s h=>?_,S.ex⟩
 rcases Lv h with ⟨rfl,rfl,hl⟩ | ⟨z,h⟩
 ·exact⟨v,Jt (by rw[S.len]; exact hl),r⟩
 ·exact (S.sl j s h).other (Th z) (by unfold Jp; rw[if_neg z])
theorem Sat.setO (S:Sat K C ω B G0 H0 own G σ H ρ) {i:Nat} {a:Addr} {p:PV} (r:OwnA K C G H a p) (f0:H0 a = none) (fg:G a = none) (fo:∀ j,own j ≠ some a):Sat K C ω B G0 H0 (Qx own i a) G (σ.set i (some (.ref a))) H (ρ.set i (.ow p)):=by
 refine⟨S.kb,S.gr,by rw[length_set,length_set,S.len],fun j k b h1 h2=>?_,fun j b h=>?_,fun j s h=>?_,S.ex⟩
 ·unfold Qx at h1 h2
  split at h1 <;> split at h2
  ·rename_i z1 z2; rw[z1,z2]
  ·cases h1; exact absurd h2 (fo k)
  ·cases h2; exact absurd h1 (fo j)
  ·exact S.inj j k b h1 h2
 ·unfold Qx at h
  split at h
  ·cases h; exact⟨f0,fg,r.thing⟩
  ·exact S.fr j b h
 ·rcases Lv h with ⟨rfl,rfl,hl⟩ | ⟨z,h⟩
  ·exact⟨a,Jt (by rw[S.len]; exact hl),by unfold Qx; rw[if_pos rfl],r⟩
  ·exact (S.sl j s h).other (Th z) (by unfold Qx; rw[if_neg z])
theorem Sat.chg (S:Sat K C ω B G0 H0 own G σ H ρ) {i:Nat} {a:Addr} {p:PV} (e:own i = some a) (hi:σ[i]? = some (some (.ref a))) (c:Chg a H H') (r:OwnA K C G H' a p):Sat K C ω B G0 H0 own G σ H' (ρ.set i (.ow p)):=by
 obtain⟨f0,fg,fh⟩:=S.fr i a e
 have ng:∀ b o,G b = some o->b ≠ a:=fun b o h z=>by subst z; rw[fg] at h; cases h
 refine⟨S.kb,⟨S.gr.g,fun b o h=>c _ _ (S.gr.h _ _ h) (by intro z; subst z; rw[f0] at h; cases h),fun b o h=>c _ _ (S.gr.i _ _ h) (ng b o h),S.gr.n⟩,by rw[length_set,S.len],S.inj,fun j b h=>?_,fun j s h=>?_,S.ex⟩
 ·obtain⟨q0,qg,o,qh,qt⟩:=S.fr j b h
  refine⟨q0,qg,?_⟩
  by_cases z:b = a
  ·subst z; exact r.thing
  ·exact⟨o,c _ _ qh z,qt⟩
 ·rcases Lv h with ⟨rfl,rfl,hl⟩ | ⟨z,h⟩
  ·exact⟨a,hi,e,r⟩
  ·have q:=S.sl j s h
   cases s with
   | un=>trivial
   | sh p=>exact q
   | bo p=>exact q
   | bz kvs=>exact q
   | fz y kvs =>
    obtain⟨e1,o,h1,h2⟩:=q
    exact⟨e1,o,c _ _ h1 fun w=>z (S.inj j i a (by rw[<- w]; exact o) e),h2⟩
   | fl y ps =>
    obtain⟨e1,o,h1,h2⟩:=q
    exact⟨e1,o,c _ _ h1 fun w=>z (S.inj j i a (by rw[<- w]; exact o) e),h2⟩
   | om b p' =>
    obtain⟨e1,o,r1⟩:=q
    refine⟨e1,o,r1.mono (Same.refl _) ?_⟩
    cases w:H b with
    | none=>exact absurd w r1.here
    | some o'=>exact c _ _ w fun w=>z (S.inj j i a (by rw[<- w]; exact o) e)
   | ow p' =>
    obtain⟨b,e1,o,r1⟩:=q
    have nb:b ≠ a:=fun w=>z (S.inj j i a (by rw[<- w]; exact o) e)
    refine⟨b,e1,o,r1.mono (Same.refl _) ?_⟩
    cases w:H b with
    | none=>exact absurd w r1.here
    | some o=>exact c _ _ w nb
def Qr:Sl->Sl
 | .ow p=>.sh p
 | s=>s
def Ju (i:Nat) (ρ:Bg):Bg:=match ρ[i]? with
 | some s=>ρ.set i (Qr s)
 | none=>ρ
theorem Sat.share (S:Sat K C ω B G0 H0 own G σ H ρ) (i:Nat):∃ own' G',Sat K C ω B G0 H0 own' G' σ H (Ju i ρ):=by
 cases e:ρ[i]? with
 | none=>exact⟨own,G,by unfold Ju; rw[e]; exact S⟩
 | some s =>
  have hl:i < ρ.length:=(List.getElem?_eq_some_iff.mp e).1
  have same:Qr s = s->∃ own' G',Sat K C ω B G0 H0 own' G' σ H (Ju i ρ):=fun z=>⟨own,G,by
   unfold Ju; rw[e]
   have:ρ.set i (Qr s) = ρ:=by
    rw[z]
    refine ext_getElem? fun j=>?_
    by_cases w:j = i
    ·subst w; rw[Jt hl,e]
    ·rw[Th w]
   simp only [this]; exact S⟩
  cases s with
  | un=>exact same rfl
  | sh p=>exact same rfl
  | bo p=>exact same rfl
  | fz _ _=>exact same rfl
  | bz _=>exact same rfl
  | fl _ _=>exact same rfl
  | om _ _=>exact same rfl
  | ow p =>
   obtain⟨a,e1,o,r⟩:=S.sl i _ e
   obtain⟨f0,fg,ob,hob,_⟩:=S.fr i a o
   have sg:Same G (upd G a ob):=Same.new fg
   have rp:Rep K C (upd G a ob) (.ref a) p:=by
    cases p <;> first | exact r.elim | skip
    ·obtain⟨vs,h1,h2⟩:=r; rw[hob] at h1; cases h1; exact Rep.ofL Bl (h2.mono sg)
    ·obtain⟨vs,h1,h2⟩:=r; rw[hob] at h1; cases h1; exact Rep.ofD Bl (KReps.mono h2 sg)
    ·obtain⟨vs,h1,h2⟩:=r; rw[hob] at h1; cases h1; exact Rep.ofDt Bl (KReps.mono h2 sg)
   have gi:Same (upd G a ob) H:=fun b u h=>by
    by_cases z:b = a
    ·subst z; rw[Bl] at h; rw[hob]; exact h
    ·rw[Bh z] at h; exact S.gr.i _ _ h
   have ge:∀ b,b ≠ a->upd G a ob b = G b:=fun b z=>Bh z
   refine⟨Jp own i,upd G a ob,S.kb.trans sg,⟨S.gr.g.trans sg,S.gr.h,gi,fun b u h1 t h2=>?_⟩,?_,fun j k b h1 h2=>S.inj j k b (Fg h1).2 (Fg h2).2,fun j b h=>?_,fun j s h=>?_,S.ex⟩
   ·rw[ge b (by intro z; subst z; rw[f0] at h1; cases h1)]; exact S.gr.n b u h1 t h2
   ·unfold Ju; rw[e]; simp only [length_set]; exact S.len
   ·obtain⟨nj,h⟩:=Fg h
    obtain⟨q0,qg,qh⟩:=S.fr j b h
    exact⟨q0,by rw[ge b (by intro z; subst z; exact nj (S.inj j i b h o))]; exact qg,qh⟩
   ·have h':(ρ.set i (.sh p))[j]? = some s:=by
     unfold Ju at h; rw[e] at h; exact h
    rcases Lv h' with ⟨rfl,rfl,_⟩ | ⟨z,h2⟩
    ·exact⟨_,e1,rp⟩
    ·have q:=S.sl j s h2
     cases s with
     | un=>trivial
     | sh p'=>obtain⟨v,w1,w2⟩:=q; exact⟨v,w1,w2.mono sg⟩
     | bo p'=>exact q
     | fz y kvs=>obtain⟨w0,w1,w2,w3⟩:=q; exact⟨w0,by unfold Jp; rw[if_neg z]; exact w1,w2,KReps.mono w3 sg⟩
     | bz kvs=>obtain⟨b,o,vs,w0,w1,w2⟩:=q; exact⟨b,o,vs,w0,w1,KReps.mono w2 sg⟩
     | fl y ps=>obtain⟨w0,w1,w2,w3⟩:=q; exact⟨w0,by unfold Jp; rw[if_neg z]; exact w1,w2,w3.mono sg⟩
     | om b p'=>obtain⟨w0,w1,w2⟩:=q; exact⟨w0,by unfold Jp; rw[if_neg z]; exact w1,w2.mono sg rfl⟩
     | ow p' =>
      obtain⟨b,w1,w2,w3⟩:=q
      exact⟨b,w1,by unfold Jp; rw[if_neg z]; exact w2,w3.mono sg rfl⟩
end
section
variable {K:Frag} {C:Addr} {ω:Om}
theorem EU.eb {t:TE} {u:UE} (h:EU K C ω t u):EB K C ω t u:=fun B G0 H0 own G σ H ρ P Q S hu k=>h B G0 H0 own G σ H ρ P Q S hu fun v p G' H' w r hp=>k v p G' H' w (.inl r) hp
theorem EF.eb {t:TE} {u:UE} (h:EF K C ω t u):EB K C ω t u:=fun B G0 H0 own G σ H ρ P Q S hu k=>h B G0 H0 own G σ H ρ P Q S hu fun a p G' H' w _ _ r hp=>k _ p G' H' w (.inr ⟨a,rfl,r⟩) hp
theorem Aei {G H G' H':Hp} {a:Addr} {p:PV} (w:Grow G H G' H') (n:H a = none) (g:G' a = none) (r:OwnA K C G' H' a p):∃ G'',Grow G H G'' H'/\Rep K C G'' (.ref a) p:=by
 obtain⟨ob,hob⟩:∃ ob,H' a = some ob:=by
  cases e:H' a with
  | none=>exact absurd e r.here
  | some x=>exact⟨x,rfl⟩
 have sg:Same G' (upd G' a ob):=Same.new g
 refine⟨upd G' a ob,⟨w.g.trans sg,w.h,fun b u h=>?_,fun b u h1 t h2=>?_⟩,?_⟩
 ·by_cases z:b = a
  ·subst z; rw[Bl] at h; rw[hob]; exact h
  ·rw[Bh z] at h; exact w.i _ _ h
 ·rw[Bh (by intro z; subst z; rw[n] at h1; cases h1)]; exact w.n b u h1 t h2
 ·cases p <;> first | exact r.elim | skip
  ·obtain⟨vs,h1,h2⟩:=r; rw[hob] at h1; cases h1; exact Rep.ofL Bl (h2.mono sg)
  ·obtain⟨vs,h1,h2⟩:=r; rw[hob] at h1; cases h1; exact Rep.ofD Bl (KReps.mono h2 sg)
  ·obtain⟨vs,h1,h2⟩:=r; rw[hob] at h1; cases h1; exact Rep.ofDt Bl (KReps.mono h2 sg)
theorem EF.eu {t:TE} {u:UE} (h:EF K C ω t u):EU K C ω t u:=fun B G0 H0 own G σ H ρ P Q S hu k=>h B G0 H0 own G σ H ρ P Q S hu fun a p G' H' w n g r hp =>
 let ⟨G'',w2,r2⟩:=Aei w n g r
 k _ p G'' H' w2 r2 hp
def Sl.val:Sl->Option PV
 | .un=>none
 | .sh p=>some p
 | .bo p=>some p
 | .ow p=>some p
 | .fz _ _=>none
 | .bz _=>none
 | .fl _ ps=>some (.lst ps)
 | .om _ p=>some p
def AkG (i:Nat):UE:=fun ρ P=>∃ s p,ρ[i]? = some s/\s.val = some p/\P p
def Ah6 (i:Nat):UE:=fun ρ P=>∃ p,ρ[i]? = some (.sh p)/\P p
theorem Bb {i:Nat}:EB K C ω (Fj i) (AkG i):=fun B G0 H0 own G σ H ρ P Q S ⟨s,p,h1,h2,h3⟩ k=>by
 have q:=S.sl i s h1
 have w:=Grow.refl S.gr.i
 cases s with
 | un=>cases h2
 | sh p'=>cases h2; obtain⟨v,e,r⟩:=q; exact⟨v,e,k v _ G H w (.inl r) h3⟩
 | bo p'=>cases h2; obtain⟨v,e,r⟩:=q; exact⟨v,e,k v _ G H w (r.grow S.gr) h3⟩
 | ow p'=>cases h2; obtain⟨a,e,_,r⟩:=q; exact⟨_,e,k _ _ G H w (.inr ⟨a,rfl,r⟩) h3⟩
 | fz _ _=>cases h2
 | bz _=>cases h2
 | fl z ps=>cases h2; obtain⟨e,_,h1,r⟩:=q; exact⟨_,e,k _ _ G H w (.inr ⟨z.1,rfl,OwnA.ofL h1 r⟩) h3⟩
 | om a p'=>cases h2; obtain⟨e,_,r⟩:=q; exact⟨_,e,k _ _ G H w (.inr ⟨a,rfl,r⟩) h3⟩
theorem Bn {i:Nat}:EU K C ω (Fj i) (Ah6 i):=fun B G0 H0 own G σ H ρ P Q S ⟨p,h1,h3⟩ k=>by
 obtain⟨v,e,r⟩:=S.sl i _ h1
 exact⟨v,e,k v _ G H (Grow.refl S.gr.i) r h3⟩
def uC (p:PV):UE:=fun _ P=>P p
theorem Ty {v:V} {p:PV} (h:∀ G,Rep K C G v p):EU K C ω (tC v) (uC p):=fun B G0 H0 own G σ H ρ P Q S hu k=>k v p G H (Grow.refl S.gr.i) (h G) hu
theorem Bf {i:Int}:EU K C ω (tC (.int i)) (uC (.int i)):=Ty fun _=>.int i
theorem Uu {b:Bool}:EU K C ω (tC (.bl b)) (uC (.bl b)):=Ty fun _=>.bl b
theorem Cg {x:Str}:EU K C ω (tC (.str x)) (uC (.str x)):=Ty fun _=>.str x
theorem Aap:EU K C ω (tC .non) (uC .non):=Ty fun _=>.non
theorem RepB.int {G H:Hp} {v:V} {i:Int} (h:RepB K C G H v (.int i)):v = .int i:=by
 rcases h with h | ⟨a,_,h⟩
 ·cases h; rfl
 ·exact h.elim
theorem RepB.bl {G H:Hp} {v:V} {b:Bool} (h:RepB K C G H v (.bl b)):v = .bl b:=by
 rcases h with h | ⟨a,_,h⟩
 ·cases h; rfl
 ·exact h.elim
theorem RepB.str {G H:Hp} {v:V} {b:Str} (h:RepB K C G H v (.str b)):v = .str b:=by
 rcases h with h | ⟨a,_,h⟩
 ·cases h; rfl
 ·exact h.elim
theorem RepB.lst {G H:Hp} {v:V} {ps:List PV} (i:Same G H) (h:RepB K C G H v (.lst ps)):∃ a vs,v = .ref a/\H a = some (.lst vs)/\Reps K C G vs ps:=by
 rcases h with h | ⟨a,e,vs,h1,h2⟩
 ·cases h with
  | lst e l q=>exact⟨_,_,rfl,i _ _ e,l,q⟩
 ·exact⟨a,vs,e,h1,h2⟩
theorem RepB.tup {G H:Hp} {v:V} {ps:List PV} (i:Same G H) (h:RepB K C G H v (.tup ps)):∃ a vs,v = .ref a/\H a = some (.tup vs)/\Reps K C G vs ps:=by
 rcases h with h | ⟨a,e,h⟩
 ·cases h with
  | tup e l q=>exact⟨_,_,rfl,i _ _ e,l,q⟩
 ·exact h.elim
theorem RepB.scr {G H:Hp} {v:V} {ns:List Int} (i:Same G H) (h:RepB K C G H v (.scr ns)):∃ a,v = .ref a/\SqL K H a (ns.map V.int):=by
 rcases h with h | ⟨a,e,h⟩
 ·cases h with
  | scr e=>exact⟨_,rfl,i.seq e⟩
 ·exact h.elim
theorem RepB.dk {G H:Hp} {v:V} {ps:List (Key × PV)} (i:Same G H) (h:RepB K C G H v (.dk ps)):∃ a kvs,v = .ref a/\H a = some (.dK kvs)/\LAt (KRep K C) G kvs ps:=by
 rcases h with h | ⟨a,e,vs,h1,h2⟩
 ·cases h with
  | dk e l hk q=>exact⟨_,_,rfl,i _ _ e,l,fun i v p h1 h2=>⟨hk i v p h1 h2,q i v p h1 h2⟩⟩
 ·exact⟨a,vs,e,h1,h2⟩
theorem RepB.dt {G H:Hp} {v:V} {ps:List (List Key × PV)} (i:Same G H) (h:RepB K C G H v (.dt ps)):∃ a kvs,v = .ref a/\H a = some (.dT kvs)/\LAt (KRep K C) G kvs ps:=by
 rcases h with h | ⟨a,e,vs,h1,h2⟩
 ·cases h with
  | dt e l hk q=>exact⟨_,_,rfl,i _ _ e,l,fun i v p h1 h2=>⟨hk i v p h1 h2,q i v p h1 h2⟩⟩
 ·exact⟨a,vs,e,h1,h2⟩
theorem two {ta tb:TE} {ua ub:UE} {r:R2} (ha:EB K C ω ta ua) (hb:EB K C ω tb ub) {B G0 H0:Hp} {own:Nat->Option Addr} {G:Hp} {σ:St} {H:Hp} {ρ:Bg} {Q:VK} {P:PV->PV->Prop} (S:Sat K C ω B G0 H0 own G σ H ρ)
  (hu:ua ρ fun p=>ub ρ fun q=>P p q) (k:∀ v w p q G' H',Grow G H G' H'->RepB K C G' H' v p->RepB K C G' H' w q->P p q->r v w H' Q):tOp r ta tb σ H Q :=
 ha B G0 H0 own G σ H ρ _ _ S hu fun v p G1 H1 w1 r1 h1=>hb B G0 H0 own G1 σ H1 ρ _ _ (S.grow w1) h1 fun w q G2 H2 w2 r2 h2=>k v w p q G2 H2 (w1.trans w2) (r1.grow w2) r2 h2
def bI0 (g:Int->Int->PV) (p q:PV) (P:PV->Prop):Prop:=∃ i j,p = .int i/\q = .int j/\P (g i j)
def uI0 (g:Int->Int->PV) (ua ub:UE):UE:=fun ρ P=>ua ρ fun p=>ub ρ fun q=>bI0 g p q P
def bI (c:Int->Int->Prop) (g:Int->Int->PV) (p q:PV) (P:PV->Prop):Prop:=∃ i j,p = .int i/\q = .int j/\c i j/\P (g i j)
def uI (c:Int->Int->Prop) (g:Int->Int->PV) (ua ub:UE):UE:=fun ρ P=>ua ρ fun p=>ub ρ fun q=>bI c g p q P
theorem Dr {g:Int->Int->V} {g':Int->Int->PV} {ta tb:TE} {ua ub:UE} (hg:∀ G i j,Rep K C G (g i j) (g' i j)) (ha:EB K C ω ta ua) (hb:EB K C ω tb ub):EU K C ω (tOp (rI0 g) ta tb) (uI0 g' ua ub) :=
 fun B G0 H0 own G σ H ρ P Q S hu k=>two ha hb S hu fun v w p q G' H' gr r1 r2 ⟨i,j,e1,e2,h⟩=>by
  subst e1 e2
  exact⟨i,j,r1.int,r2.int,k _ _ G' H' gr (hg G' i j) h⟩
theorem Cp {c:Int->Int->Prop} {g:Int->Int->V} {g':Int->Int->PV} {ta tb:TE} {ua ub:UE} (hg:∀ G i j,Rep K C G (g i j) (g' i j)) (ha:EB K C ω ta ua) (hb:EB K C ω tb ub):EU K C ω (tOp (rI c g) ta tb) (uI c g' ua ub) :=
 fun B G0 H0 own G σ H ρ P Q S hu k=>two ha hb S hu fun v w p q G' H' gr r1 r2 ⟨i,j,e1,e2,hc,h⟩=>by
  subst e1 e2
  exact⟨i,j,r1.int,r2.int,hc,k _ _ G' H' gr (hg G' i j) h⟩
def bU (g:Int->PV) (p:PV) (P:PV->Prop):Prop:=∃ i,p = .int i/\P (g i)
def uU (g:Int->PV) (ua:UE):UE:=fun ρ P=>ua ρ fun p=>bU g p P
theorem AaD {g:Int->V} {g':Int->PV} {ta:TE} {ua:UE} (hg:∀ G i,Rep K C G (g i) (g' i)) (ha:EB K C ω ta ua):EU K C ω (tUn (rU g) ta) (uU g' ua) :=
 fun B G0 H0 own G σ H ρ P Q S hu k=>ha B G0 H0 own G σ H ρ _ _ S hu fun v p G' H' w r ⟨i,e,h⟩=>by
  subst e
  exact⟨i,r.int,k _ _ G' H' w (hg G' i) h⟩
def Wh (neg:Bool) (p q:PV) (P:PV->Prop):Prop:=(∃ i j,p = .int i/\q = .int j/\P (.bl (if neg then !decide (i = j) else decide (i = j))))\/(∃ i j,p = .str i/\q = .str j/\P (.bl (if neg then !decide (i = j) else decide (i = j))))
def Ago (neg:Bool) (ua ub:UE):UE:=fun ρ P=>ua ρ fun p=>ub ρ fun q=>Wh neg p q P
theorem Dz {ta tb:TE} {ua ub:UE} (ha:EB K C ω ta ua) (hb:EB K C ω tb ub):EU K C ω (tOp rEq ta tb) (Ago false ua ub) :=
 fun B G0 H0 own G σ H ρ P Q S hu k=>two ha hb S hu fun v w p q G' H' gr r1 r2 h=>by
  rcases h with ⟨i,j,e1,e2,h⟩ | ⟨i,j,e1,e2,h⟩
  ·subst e1 e2; rw[r1.int,r2.int]; exact Ag4 (k _ _ G' H' gr (.bl _) h)
  ·subst e1 e2; rw[r1.str,r2.str]; exact Aht (k _ _ G' H' gr (.bl _) h)
theorem Ahw {ta tb:TE} {ua ub:UE} (ha:EB K C ω ta ua) (hb:EB K C ω tb ub):EU K C ω (tOp rNe ta tb) (Ago true ua ub) :=
 fun B G0 H0 own G σ H ρ P Q S hu k=>two ha hb S hu fun v w p q G' H' gr r1 r2 h=>by
  rcases h with ⟨i,j,e1,e2,h⟩ | ⟨i,j,e1,e2,h⟩
  ·subst e1 e2; rw[r1.int,r2.int]; exact AhC (k _ _ G' H' gr (.bl _) h)
  ·subst e1 e2; rw[r1.str,r2.str]; exact Ag1 (k _ _ G' H' gr (.bl _) h)
def isN:PV->Bool
 | .non=>true
 | _=>false
theorem Aer {G H:Hp} {v:V} {p:PV} (r:RepB K C G H v p):decide (v = .non) = isN p:=by
 rcases r with r | ⟨a,e,r⟩
 ·cases r <;> first | rfl | exact decide_eq_false (fun z=>nomatch z)
 ·subst e
  cases p <;> first | exact r.elim | exact decide_eq_false (fun z=>nomatch z)
def AcN (neg:Bool) (ua:UE):UE:=fun ρ P=>ua ρ fun p=>P (.bl (if neg then !isN p else isN p))
theorem AjB {ta:TE} {ua:UE} (ha:EB K C ω ta ua):EU K C ω (AkM ta) (AcN false ua) :=
 fun B G0 H0 own G σ H ρ P Q S hu k=>ha B G0 H0 own G σ H ρ _ _ S hu fun v p G' H' w r h=>by rw[Aer r]; exact k _ _ G' H' w (.bl _) h
theorem Qy {ta:TE} {ua:UE} (ha:EB K C ω ta ua):EU K C ω (Agy ta) (AcN true ua) :=
 fun B G0 H0 own G σ H ρ P Q S hu k=>ha B G0 H0 own G σ H ρ _ _ S hu fun v p G' H' w r h=>by rw[Aer r]; exact k _ _ G' H' w (.bl _) h
def bB (p:PV) (P:Bool->Prop):Prop:=∃ b,p = .bl b/\P b
def uB (ua:UE):UT:=fun ρ P=>ua ρ fun p=>bB p P
theorem Cy {ta:TE} {ua:UE} (ha:EB K C ω ta ua):TU K C ω (tB ta) (uB ua) :=
 fun B G0 H0 own G σ H ρ P Q S hu k=>ha B G0 H0 own G σ H ρ _ _ S hu fun v p G' H' w r ⟨b,e,h⟩=>by subst e; exact⟨b,r.bl,k b G' H' w h⟩
theorem Aib {ta:TE} {ua:UE} (ha:EB K C ω ta ua):TU K C ω (Ace ta) (uB ua) :=
 fun B G0 H0 own G σ H ρ P Q S hu k=>ha B G0 H0 own G σ H ρ _ _ S hu fun v p G' H' w r ⟨b,e,h⟩=>by subst e; exact⟨b,r.bl,k b G' H' w h⟩
def Alu (ua ub:UT):UT:=fun ρ P=>ua ρ fun b=>if b = true then ub ρ P else P false
def uOr (ua ub:UT):UT:=fun ρ P=>ua ρ fun b=>if b = true then P true else ub ρ P
def Al6 (ua:UT):UT:=fun ρ P=>ua ρ fun b=>P (!b)
theorem Zu {ta tb:TT} {ua ub:UT} (ha:TU K C ω ta ua) (hb:TU K C ω tb ub):TU K C ω (AlK ta tb) (Alu ua ub) :=
 fun B G0 H0 own G σ H ρ P Q S hu k=>ha B G0 H0 own G σ H ρ _ _ S hu fun b G' H' w h=>by
  cases b with
  | true=>exact Lh (hb B G0 H0 own G' σ H' ρ P Q (S.grow w) (by simpa using h) fun c G2 H2 w2 h2=>k c G2 H2 (w.trans w2) h2)
  | false=>exact Ni (k _ G' H' w (by simpa using h))
theorem AhL {ta tb:TT} {ua ub:UT} (ha:TU K C ω ta ua) (hb:TU K C ω tb ub):TU K C ω (tOr ta tb) (uOr ua ub) :=
 fun B G0 H0 own G σ H ρ P Q S hu k=>ha B G0 H0 own G σ H ρ _ _ S hu fun b G' H' w h=>by
  cases b with
  | false=>exact Ni (hb B G0 H0 own G' σ H' ρ P Q (S.grow w) (by simpa using h) fun c G2 H2 w2 h2=>k c G2 H2 (w.trans w2) h2)
  | true=>exact Lh (k _ G' H' w (by simpa using h))
theorem AlE {ta:TT} {ua:UT} (ha:TU K C ω ta ua):TU K C ω (Agp ta) (Al6 ua) :=
 fun B G0 H0 own G σ H ρ P Q S hu k=>ha B G0 H0 own G σ H ρ _ _ S hu fun b G' H' w h=>k _ G' H' w h
def uIf (uc:UT) (ua ub:UE):UE:=fun ρ P=>uc ρ fun b=>if b = true then ua ρ P else ub ρ P
theorem Nm {tc:TT} {ta tb:TE} {uc:UT} {ua ub:UE} (hc:TU K C ω tc uc) (ha:EU K C ω ta ua) (hb:EU K C ω tb ub):EU K C ω (tIf tc ta tb) (uIf uc ua ub) :=
 fun B G0 H0 own G σ H ρ P Q S hu k=>hc B G0 H0 own G σ H ρ _ _ S hu fun b G' H' w h=>by
  cases b with
  | true=>exact Lh (ha B G0 H0 own G' σ H' ρ P Q (S.grow w) (by simpa using h) fun c p2 G2 H2 w2 h2=>k c p2 G2 H2 (w.trans w2) h2)
  | false=>exact Ni (hb B G0 H0 own G' σ H' ρ P Q (S.grow w) (by simpa using h) fun c p2 G2 H2 w2 h2=>k c p2 G2 H2 (w.trans w2) h2)
end
section
variable {K:Frag} {C:Addr} {ω:Om}
theorem ArgsOk.len {G H:Hp}:∀ {ms:List Bool} {vs:List V} {ps:List PV},ArgsOk K C G H ms vs ps->vs.length = ms.length/\ps.length = ms.length
 | [],[],[],_=>⟨rfl,rfl⟩
 | true :: _,_ :: _,_ :: _,h=>⟨congrArg Nat.succ h.2.len.1,congrArg Nat.succ h.2.len.2⟩
 | false :: _,_ :: _,_ :: _,h=>⟨congrArg Nat.succ h.2.len.1,congrArg Nat.succ h.2.len.2⟩
 | [],_ :: _,_,h=>h.elim
 | [],[],_ :: _,h=>h.elim
 | true :: _,[],_,h=>by cases h
 | false :: _,[],_,h=>by cases h
 | true :: _,_ :: _,[],h=>by cases h
 | false :: _,_ :: _,[],h=>by cases h
theorem ArgsOk.reps {G H:Hp}:∀ {n:Nat} {vs:List V} {ps:List PV},ArgsOk K C G H (replicate n true) vs ps->Reps K C G vs ps
 | 0,[],[],_=>LAt.nil
 | 0,_ :: _,_,h=>by cases h
 | 0,[],_ :: _,h=>by cases h
 | _ + 1,[],_,h=>by cases h
 | _ + 1,_ :: _,[],h=>by cases h
 | n + 1,v :: vs,p :: ps,h=>by
  have h1:Rep K C G v p:=h.1
  have h2:Reps K C G vs ps:=ArgsOk.reps (n:=n) h.2
  exact⟨congrArg Nat.succ h2.1,fun i x y e1 e2=>by
   cases i with
   | zero=>cases e1; cases e2; exact h1
   | succ i=>exact h2.2 i x y (by simpa using e1) (by simpa using e2)⟩
def Akf:UA:=fun _ P=>P []
def AcF (ua:UE) (ur:UA):UA:=fun ρ P=>ua ρ fun p=>ur ρ fun ps=>P (p :: ps)
theorem Bj:AU K C ω [] Ln Akf:=fun B G0 H0 own G σ H ρ P Q S hu k=>k [] [] G H (Grow.refl S.gr.i) trivial hu
theorem Bp {ms:List Bool} {ta:TE} {tr:TA} {ua:UE} {ur:UA} (ha:EU K C ω ta ua) (hr:AU K C ω ms tr ur):AU K C ω (true :: ms) (Fy ta tr) (AcF ua ur) :=
 fun B G0 H0 own G σ H ρ P Q S hu k=>ha B G0 H0 own G σ H ρ _ _ S hu fun v p G1 H1 w1 r1 h1=>hr B G0 H0 own G1 σ H1 ρ _ _ (S.grow w1) h1 fun vs ps G2 H2 w2 r2 h2=>k (v :: vs) (p :: ps) G2 H2 (w1.trans w2) ⟨r1.mono w2.g,r2⟩ h2
theorem Bu {ms:List Bool} {ta:TE} {tr:TA} {ua:UE} {ur:UA} (ha:EB K C ω ta ua) (hr:AU K C ω ms tr ur):AU K C ω (false :: ms) (Fy ta tr) (AcF ua ur) :=
 fun B G0 H0 own G σ H ρ P Q S hu k=>ha B G0 H0 own G σ H ρ _ _ S hu fun v p G1 H1 w1 r1 h1=>hr B G0 H0 own G1 σ H1 ρ _ _ (S.grow w1) h1 fun vs ps G2 H2 w2 r2 h2=>k (v :: vs) (p :: ps) G2 H2 (w1.trans w2) ⟨r1.grow w2,r2⟩ h2
def Akz (u:UA):UE:=fun ρ P=>u ρ fun ps=>P (.lst ps)
def Aj5 (u:UA):UE:=fun ρ P=>u ρ fun ps=>P (.tup ps)
theorem Db (n:Nat) {t:TA} {u:UA} (h:AU K C ω (replicate n true) t u) (hn:n <= 1000:=by decide):EF K C ω (Xl t) (Akz u) :=
 fun B G0 H0 own G σ H ρ P Q S hu k=>h B G0 H0 own G σ H ρ _ _ S hu fun vs ps G1 H1 w1 r1 h1=>by
  have hl:vs.length = n:=by rw[r1.len.1,length_replicate]
  refine⟨Nat.le_of_lt (Nd (by omega)),fun a H2 ha s2 e2=>?_⟩
  have w2:=w1.trans (Grow.own w1.i s2)
  exact k a _ G1 H2 w2 (w1.h.free ha) (w1.i.free ha) (OwnA.ofL e2 r1.reps) h1
theorem Gq (n:Nat) {t:TA} {u:UA} (h:AU K C ω (replicate n true) t u) (hn:n <= 1000:=by decide):EU K C ω (Ab0 t) (Aj5 u) :=
 fun B G0 H0 own G σ H ρ P Q S hu k=>h B G0 H0 own G σ H ρ _ _ S hu fun vs ps G1 H1 w1 r1 h1=>by
  have hl:vs.length = n:=by rw[r1.len.1,length_replicate]
  refine⟨Nat.le_of_lt (Nd (by omega)),fun a H2 ha s2 e2=>?_⟩
  have w2:=Grow.put w1.i ha s2 e2
  exact k _ _ _ H2 (w1.trans w2) (Rep.ofT Bl (r1.reps.mono w2.g)) h1
theorem LAt.get' {β α:Type} {R:Hp->β->α->Prop} {H:Hp} {xs:List β} {ys:List α} (h:LAt R H xs ys) {i:Nat} {y:α} (e:ys[i]? = some y):∃ x,xs[i]? = some x/\R H x y:=by
 have hi:i < ys.length:=(List.getElem?_eq_some_iff.mp e).1
 have hx:i < xs.length:=by rw[h.1]; exact hi
 exact⟨xs[i],getElem?_eq_getElem hx,h.2 i _ y (getElem?_eq_getElem hx) e⟩
theorem LAt.atI {β α:Type} {R:Hp->β->α->Prop} {H:Hp} {xs:List β} {ys:List α} (h:LAt R H xs ys) {i:Int} {y:α} (e:L2.atI ys i = some y):∃ x,L2.atI xs i = some x/\R H x y:=by
 unfold L2.atI at e ⊢
 rw[h.1]
 cases z:ixN ys.length i with
 | none=>rw[z] at e; cases e
 | some j=>rw[z] at e; exact h.get' e
theorem Fs {G:Hp} (ns:List Int):Reps K C G (ns.map V.int) (ns.map PV.int) :=
 ⟨by simp,fun i v p h1 h2=>by
  rw[getElem?_map] at h1 h2
  cases e:ns[i]? with
  | none=>rw[e] at h1; cases h1
  | some n=>rw[e] at h1 h2; cases h1; cases h2; exact .int n⟩
def Wi (p q:PV) (P:PV->Prop):Prop:=∃ i ps x,q = .int i/\(p = .lst ps\/∃ ns,p = .scr ns/\ps = ns.map .int)/\atI ps i = some x/\P x
def AlO (ua ub:UE):UE:=fun ρ P=>ua ρ fun p=>ub ρ fun q=>Wi p q P
theorem Da {ta tb:TE} {ua ub:UE} (ha:EB K C ω ta ua) (hb:EB K C ω tb ub):EU K C ω (tOp (Aar K) ta tb) (AlO ua ub) :=
 fun B G0 H0 own G σ H ρ P Q S hu k=>two ha hb S hu fun v w p q G' H' gr r1 r2 ⟨i,ps,x,e1,e2,e3,h⟩=>by
  subst e1
  rcases e2 with e2 | ⟨ns,e2,e4⟩
  ·subst e2
   obtain⟨a,vs,rfl,ea,l⟩:=r1.lst gr.i
   obtain⟨y,hy,ry⟩:=l.atI e3
   exact⟨a,vs,i,y,rfl,r2.int,SqL.of ea,hy,k y x G' H' gr ry h⟩
  ·subst e2 e4
   obtain⟨a,rfl,ea⟩:=r1.scr gr.i
   obtain⟨y,hy,ry⟩:=(Fs (K:=K) (C:=C) (G:=G') ns).atI e3
   exact⟨a,_,i,y,rfl,r2.int,ea,hy,k y x G' H' gr ry h⟩
def AaK (p q:PV) (P:PV->Prop):Prop:=∃ i ps x,q = .int i/\p = .tup ps/\atI ps i = some x/\P x
def AkO (ua ub:UE):UE:=fun ρ P=>ua ρ fun p=>ub ρ fun q=>AaK p q P
theorem Du {ta tb:TE} {ua ub:UE} (ha:EB K C ω ta ua) (hb:EB K C ω tb ub):EU K C ω (tOp (Vx K) ta tb) (AkO ua ub) :=
 fun B G0 H0 own G σ H ρ P Q S hu k=>two ha hb S hu fun v w p q G' H' gr r1 r2 ⟨i,ps,x,e1,e2,e3,h⟩=>by
  subst e1 e2
  obtain⟨a,vs,rfl,ea,l⟩:=r1.tup gr.i
  obtain⟨y,hy,ry⟩:=l.atI e3
  exact⟨a,vs,i,y,rfl,r2.int,SqT.of ea,hy,k y x G' H' gr ry h⟩
abbrev UO:=Bg->(Option Int->Prop)->Prop
def OU (K:Frag) (C:Addr) (ω:Om) (t:TO) (u:UO):Prop:=∀ (B G0 H0:Hp) (own:Nat->Option Addr) (G:Hp) (σ:St) (H:Hp) (ρ:Bg) (P:Option Int->Prop) (Q:Option Int->Hp->Prop),Sat K C ω B G0 H0 own G σ H ρ->u ρ P->(∀ o G' H',Grow G H G' H'->P o->Q o H')->t σ H Q
def AaW:UO:=fun _ P=>P none
def Ade (p:PV) (P:Option Int->Prop):Prop:=∃ i,p = .int i/\P (some i)
def Ag0 (ua:UE):UO:=fun ρ P=>ua ρ fun p=>Ade p P
theorem Ss:OU K C ω Abs AaW:=fun B G0 H0 own G σ H ρ P Q S hu k=>k none G H (Grow.refl S.gr.i) hu
theorem Gf {ta:TE} {ua:UE} (ha:EB K C ω ta ua):OU K C ω (Ag5 ta) (Ag0 ua) :=
 fun B G0 H0 own G σ H ρ P Q S hu k=>ha B G0 H0 own G σ H ρ _ _ S hu fun v p G' H' w r ⟨i,e,h⟩=>by subst e; exact⟨i,r.int,k _ G' H' w h⟩
def Fe {α:Type} (xs:List α) (lo hi:Option Int):List α:=(xs.drop (HT.sIx xs.length 0 lo)).take (HT.sIx xs.length xs.length hi - HT.sIx xs.length 0 lo)
theorem Oe {α β:Type} (f:α->β) (xs:List α) (lo hi:Option Int):Fe (xs.map f) lo hi = (Fe xs lo hi).map f:=by
 unfold Fe; rw[length_map,map_take,List.map_drop]
theorem Reps.cut {G:Hp} {vs:List V} {ps:List PV} (h:Reps K C G vs ps) (lo hi:Option Int):Reps K C G (Ui vs lo hi) (Fe ps lo hi):=by
 unfold Ui Fe
 rw[h.1]
 exact (LAt.drop h _).take _
def AcQ (p:PV) (lo hi:Option Int) (P:PV->Prop):Prop:=∃ ps,(p = .lst ps\/∃ ns,p = .scr ns/\ps = ns.map .int)/\P (.lst (Fe ps lo hi))
def Ajs (ua:UE) (ul uh:UO):UE:=fun ρ P=>ua ρ fun p=>ul ρ fun lo=>uh ρ fun hi=>AcQ p lo hi P
theorem Nc {ta:TE} {tl th:TO} {ua:UE} {ul uh:UO} (ha:EB K C ω ta ua) (hl:OU K C ω tl ul) (hh:OU K C ω th uh):EF K C ω (tSl (Ahj K) ta tl th) (Ajs ua ul uh) :=
 fun B G0 H0 own G σ H ρ P Q S hu k=>ha B G0 H0 own G σ H ρ _ _ S hu fun v p G1 H1 w1 r1 h1=>hl B G0 H0 own G1 σ H1 ρ _ _ (S.grow w1) h1 fun lo G2 H2 w2 h2=>hh B G0 H0 own G2 σ H2 ρ _ _ ((S.grow w1).grow w2) h2 fun hi G3 H3 w3 h3=>by
  have w:=(w1.trans w2).trans w3
  have r:=(r1.grow w2).grow w3
  obtain⟨ps,e,h⟩:=h3
  rcases e with e | ⟨ns,e,e4⟩
  ·subst e
   obtain⟨a,vs,rfl,ea,l⟩:=r.lst w3.i
   exact⟨a,vs,rfl,SqL.of ea,fun b H4 hb s4 e4=>k b _ G3 H4 (w.trans (Grow.own w3.i s4)) (w.h.free hb) (w3.i.free hb) (OwnA.ofL e4 (l.cut lo hi)) h⟩
  ·subst e e4
   obtain⟨a,rfl,ea⟩:=r.scr w3.i
   exact⟨a,_,rfl,ea,fun b H4 hb s4 e4=>k b _ G3 H4 (w.trans (Grow.own w3.i s4)) (w.h.free hb) (w3.i.free hb) (OwnA.ofL e4 ((Fs ns).cut lo hi)) h⟩
theorem Afo {G:Hp} {vs ws:List V} {ps qs:List PV} (h:Reps K C G vs ps) (h':Reps K C G ws qs):Reps K C G (vs ++ ws) (ps ++ qs):=LAt.append h h'
def Agd (p q:PV) (P:PV->Prop):Prop:=∃ ps qs,p = .lst ps/\q = .lst qs/\ps.length + qs.length <= 100000/\P (.lst (ps ++ qs))
def AlB (ua ub:UE):UE:=fun ρ P=>ua ρ fun p=>ub ρ fun q=>Agd p q P
theorem Rz {n:Nat} (h:n <= 100000):n < sizeLine:=Nat.lt_of_le_of_lt h (by decide)
theorem Gj {ta tb:TE} {ua ub:UE} (ha:EB K C ω ta ua) (hb:EB K C ω tb ub):EF K C ω (tOp Ahc ta tb) (AlB ua ub) :=
 fun B G0 H0 own G σ H ρ P Q S hu k=>two ha hb S hu fun v w p q G' H' gr r1 r2 ⟨ps,qs,e1,e2,hl,h⟩=>by
  subst e1 e2
  obtain⟨a,vs,rfl,ea,l⟩:=r1.lst gr.i
  obtain⟨b,ws,rfl,eb,l2⟩:=r2.lst gr.i
  exact⟨a,b,vs,ws,rfl,rfl,ea,eb,Nat.le_of_lt (Rz (by rw[l.1,l2.1]; exact hl)),fun c H4 hc s4 e4=>k c _ G' H4 (gr.trans (Grow.own gr.i s4)) (gr.h.free hc) (gr.i.free hc) (OwnA.ofL e4 (Afo l l2)) h⟩
def uCB (ur:List PV->(PV->Prop)->Prop) (u:UA):UE:=fun ρ P=>u ρ fun ps=>ur ps P
theorem AcC {ms:List Bool} {r:List V->Hp->VK->Prop} {ur:List PV->(PV->Prop)->Prop} {t:TA} {u:UA}
  (hr:∀ G H vs ps P Q,Same G H->ArgsOk K C G H ms vs ps->ur ps P->(∀ v p,Rep K C G v p->P p->Q v H)->r vs H Q) (ha:AU K C ω ms t u):EU K C ω (tCB r t) (uCB ur u) :=
 fun B G0 H0 own G σ H ρ P Q S hu k=>ha B G0 H0 own G σ H ρ _ _ S hu fun vs ps G1 H1 w1 r1 h1=>hr G1 H1 vs ps P Q w1.i r1 h1 fun v p rv hp=>k v p G1 H1 w1 rv hp
theorem Sq {G H:Hp} {m:Bool} {vs:List V} {ps:List PV} (h:ArgsOk K C G H [m] vs ps):∃ v p,vs = [v]/\ps = [p]/\RepB K C G H v p:=by
 match vs,ps,m,h with
 | [v],[p],true,h=>exact⟨v,p,rfl,rfl,.inl h.1⟩
 | [v],[p],false,h=>exact⟨v,p,rfl,rfl,h.1⟩
 | [],_,true,h=>cases h
 | [],_,false,h=>cases h
 | _ :: _,[],true,h=>cases h
 | _ :: _,[],false,h=>cases h
 | _ :: _ :: _,[_],true,h=>cases h.2
 | _ :: _ :: _,[_],false,h=>cases h.2
 | [_],_ :: _ :: _,true,h=>cases h.2
 | [_],_ :: _ :: _,false,h=>cases h.2
 | _ :: _ :: _,_ :: _ :: _,true,h=>cases h.2
 | _ :: _ :: _,_ :: _ :: _,false,h=>cases h.2
theorem Sr {G H:Hp} {m n:Bool} {vs:List V} {ps:List PV} (h:ArgsOk K C G H [m,n] vs ps):∃ v w p q,vs = [v,w]/\ps = [p,q]/\RepB K C G H v p/\RepB K C G H w q:=by
 match vs,ps,m,h with
 | v :: vs,p :: ps,true,h=>obtain⟨w,q,rfl,rfl,r⟩:=Sq h.2; exact⟨v,w,p,q,rfl,rfl,.inl h.1,r⟩
 | v :: vs,p :: ps,false,h=>obtain⟨w,q,rfl,rfl,r⟩:=Sq h.2; exact⟨v,w,p,q,rfl,rfl,h.1,r⟩
 | [],_,true,h=>cases h
 | [],_,false,h=>cases h
 | _ :: _,[],true,h=>cases h
 | _ :: _,[],false,h=>cases h
def AcL (ps:List PV) (P:PV->Prop):Prop:=∃ n:Nat,(ps = [.scr []]/\n = 0\/(∃ xs,ps = [.lst xs]/\n = xs.length)\/(∃ xs,ps = [.tup xs]/\n = xs.length)\/∃ ns,ps = [.scr ns]/\n = ns.length)/\P (.int n)
theorem Fo {m:Bool} {t:TA} {u:UA} (ha:AU K C ω [m] t u):EU K C ω (tCB (fun xs H Q=>∃ p ys,xs = [.ref p]/\(SqL K H p ys\/SqT K H p ys)/\Q (.int ys.length) H) t) (uCB AcL u) :=
 AcC (fun G H vs ps P Q i ok h k=>by
  obtain⟨v,p,rfl,rfl,r⟩:=Sq ok
  obtain⟨n,h1,h2⟩:=h
  rcases h1 with ⟨e,rfl⟩ | ⟨xs,e,rfl⟩ | ⟨xs,e,rfl⟩ | ⟨ns,e,rfl⟩
  ·cases e
   obtain⟨a,rfl,ea⟩:=r.scr i
   exact⟨a,_,rfl,.inl ea,k _ _ (.int _) h2⟩
  ·cases e
   obtain⟨a,vs,rfl,ea,l⟩:=r.lst i
   exact⟨a,vs,rfl,.inl (SqL.of ea),by rw[l.1]; exact k _ _ (.int _) h2⟩
  ·cases e
   obtain⟨a,vs,rfl,ea,l⟩:=r.tup i
   exact⟨a,vs,rfl,.inr (SqT.of ea),by rw[l.1]; exact k _ _ (.int _) h2⟩
  ·cases e
   obtain⟨a,rfl,ea⟩:=r.scr i
   exact⟨a,_,rfl,.inl ea,by rw[length_map]; exact k _ _ (.int _) h2⟩) ha
def AhM (ps:List PV) (P:PV->Prop):Prop:=∃ i j:Int,ps = [.int i,.int j]/\P (.int (if j < i then j else i))
def AgB (ps:List PV) (P:PV->Prop):Prop:=∃ i j:Int,ps = [.int i,.int j]/\P (.int (if j > i then j else i))
theorem Ali {m n:Bool} {t:TA} {u:UA} (ha:AU K C ω [m,n] t u):EU K C ω (tCB (fun xs H Q=>∃ i j,xs = [.int i,.int j]/\Q (.int (if j < i then j else i)) H) t) (uCB AhM u) :=
 AcC (fun G H vs ps P Q i ok h k=>by
  obtain⟨v,w,p,q,rfl,rfl,r1,r2⟩:=Sr ok
  obtain⟨x,y,e,h⟩:=h
  cases e
  exact⟨x,y,by rw[r1.int,r2.int],k _ _ (.int _) h⟩) ha
theorem AeP {m n:Bool} {t:TA} {u:UA} (ha:AU K C ω [m,n] t u):EU K C ω (tCB (fun xs H Q=>∃ i j,xs = [.int i,.int j]/\Q (.int (if j > i then j else i)) H) t) (uCB AgB u) :=
 AcC (fun G H vs ps P Q i ok h k=>by
  obtain⟨v,w,p,q,rfl,rfl,r1,r2⟩:=Sr ok
  obtain⟨x,y,e,h⟩:=h
  cases e
  exact⟨x,y,by rw[r1.int,r2.int],k _ _ (.int _) h⟩) ha
def Ae4 (ps:List PV) (P:PV->Prop):Prop:=∃ xs,(ps = [.lst xs]\/ps = [.tup xs]\/∃ ns,ps = [.scr ns]/\xs = ns.map .int)/\P (.lst xs)
theorem Tg {m:Bool} {t:TA} {u:UA} (ha:AU K C ω [m] t u):EF K C ω (tCB (fun xs H Q=>∃ p ys,xs = [.ref p]/\(SqL K H p ys\/SqT K H p ys)/\∀ l H',H l = none->Same H H'->H' l = some (.lst ys)->Q (.ref l) H') t) (uCB Ae4 u) :=
 fun B G0 H0 own G σ H ρ P Q S hu k=>ha B G0 H0 own G σ H ρ _ _ S hu fun vs ps G1 H1 w1 r1 h1=>by
  obtain⟨v,p,rfl,rfl,r⟩:=Sq r1
  obtain⟨xs,h1,h2⟩:=h1
  rcases h1 with e | e | ⟨ns,e,rfl⟩
  ·cases e
   obtain⟨a,vs,rfl,ea,l⟩:=r.lst w1.i
   exact⟨a,vs,rfl,.inl (SqL.of ea),fun b H4 hb s4 e4=>k b _ G1 H4 (w1.trans (Grow.own w1.i s4)) (w1.h.free hb) (w1.i.free hb) (OwnA.ofL e4 l) h2⟩
  ·cases e
   obtain⟨a,vs,rfl,ea,l⟩:=r.tup w1.i
   exact⟨a,vs,rfl,.inr (SqT.of ea),fun b H4 hb s4 e4=>k b _ G1 H4 (w1.trans (Grow.own w1.i s4)) (w1.h.free hb) (w1.i.free hb) (OwnA.ofL e4 l) h2⟩
  ·cases e
   obtain⟨a,rfl,ea⟩:=r.scr w1.i
   exact⟨a,_,rfl,.inl ea,fun b H4 hb s4 e4=>k b _ G1 H4 (w1.trans (Grow.own w1.i s4)) (w1.h.free hb) (w1.i.free hb) (OwnA.ofL e4 (Fs ns)) h2⟩
end
section
variable {K:Frag} {C:Addr} {ω:Om} {rm:Rm}
def Ah0:US:=fun d ρ=>d.nx ρ
def Af8 (u w:US):US:=fun d ρ=>u { d with nx:=w d } ρ
theorem Dj:SU K C ω rm Adc Ah0:=fun B G0 H0 own G σ H ρ D d S F h=>F.nx own G σ H ρ S h
theorem Bk {t t':TS} {u u':US} (h:SU K C ω rm t u) (h':SU K C ω rm t' u'):SU K C ω rm (Vw t t') (Af8 u u'):=fun B G0 H0 own G σ H ρ D d S F hu =>
 h B G0 H0 own G σ H ρ { D with nx:=t' D } { d with nx:=u' d } S ⟨fun own' G' σ' H' ρ' S' q=>h' B G0 H0 own' G' σ' H' ρ' D d S' F q,F.rt,F.bk,F.ct⟩ hu
def Zf (i:Nat) (u:US):US:=fun d ρ=>u d (Ju i ρ)
theorem Aad (i:Nat) {t:TS} {u:US} (h:SU K C ω rm t u):SU K C ω rm t (Zf i u):=fun B G0 H0 own G σ H ρ D d S F hu =>
 let ⟨own',G',S'⟩:=S.share i
 h B G0 H0 own' G' σ H _ D d S' F hu
def Agg (ua:UE):US:=fun d ρ=>ua ρ d.rt
theorem Dw {ta:TE} {ua:UE} (ha:EU K C ω ta ua):SU K C ω .sh (Tw ta) (Agg ua):=fun B G0 H0 own G σ H ρ D d S F hu =>
 ha B G0 H0 own G σ H ρ _ _ S hu fun v p G' H' w r h=>F.rt G' H' v p (S.gr.trans w) r h
theorem Nu {ta:TE} {ua:UE} (ha:EF K C ω ta ua):SU K C ω .fr (Tw ta) (Agg ua):=fun B G0 H0 own G σ H ρ D d S F hu =>
 ha B G0 H0 own G σ H ρ _ _ S hu fun a p G' H' w n g r h=>F.rt G' H' _ p (S.gr.trans w) ⟨a,rfl,S.gr.h.free n,g,r⟩ h
def AhN (i:Nat):US:=fun d ρ=>∃ p,ρ[i]? = some (.ow p)/\d.rt p
theorem Gv {i:Nat}:SU K C ω .fr (Tw (Fj i)) (AhN i):=fun B G0 H0 own G σ H ρ D d S F ⟨p,e,h⟩=>by
 obtain⟨a,e1,o,r⟩:=S.sl i _ e
 obtain⟨f0,fg,_⟩:=S.fr i a o
 exact⟨_,e1,F.rt G H _ p S.gr ⟨a,rfl,f0,fg,r⟩ h⟩
def Aks (uc:UT) (u w:US):US:=fun d ρ=>uc ρ fun b=>if b = true then u d ρ else w d ρ
theorem Ds {tc:TT} {t t':TS} {uc:UT} {u u':US} (hc:TU K C ω tc uc) (h:SU K C ω rm t u) (h':SU K C ω rm t' u'):SU K C ω rm (Agt tc t t') (Aks uc u u'):=fun B G0 H0 own G σ H ρ D d S F hu =>
 hc B G0 H0 own G σ H ρ _ _ S hu fun b G' H' w q=>by
  cases b with
  | true=>exact Lh (h B G0 H0 own G' σ H' ρ D d (S.grow w) F (by simpa using q))
  | false=>exact Ni (h' B G0 H0 own G' σ H' ρ D d (S.grow w) F (by simpa using q))
def Alw (i:Nat) (ua:UE):US:=fun d ρ=>ua ρ fun p=>d.nx (ρ.set i (.sh p))
theorem Bw {i:Nat} {ta:TE} {ua:UE} (ha:EU K C ω ta ua):SU K C ω rm (Lq ta (Gn i)) (Alw i ua):=fun B G0 H0 own G σ H ρ D d S F hu =>
 ha B G0 H0 own G σ H ρ _ _ S hu fun v p G' H' w r h=>F.nx _ G' _ H' _ ((S.grow w).setS r) h
def AgC (i:Nat) (ua:UE):US:=fun d ρ=>ua ρ fun p=>d.nx (ρ.set i (.ow p))
theorem Dv {i:Nat} {ta:TE} {ua:UE} (ha:EF K C ω ta ua):SU K C ω rm (Lq ta (Gn i)) (AgC i ua):=fun B G0 H0 own G σ H ρ D d S F hu =>
 ha B G0 H0 own G σ H ρ _ _ S hu fun a p G' H' w n g r h=>F.nx _ G' _ H' _ ((S.grow w).setO r (S.gr.h.free n) g fun j z=>(let ⟨_,_,o,ho,_⟩:=S.fr j a z; by rw[n] at ho; cases ho)) h
def AdD (i:Nat):PV->Bg->(Bg->Prop)->Prop:=fun p ρ P=>P (ρ.set i (.sh p))
theorem Aak {α:Type}:∀ {l:List α} {i top:Nat} {x:α},i < top->(l.set i x).drop top = l.drop top
 | [],_,_,_,_=>rfl
 | _ :: _,_,0,_,h=>by omega
 | _ :: _,0,_ + 1,_,_=>rfl
 | _ :: l,i + 1,t + 1,x,h=>Aak (l:=l) (i:=i) (top:=t) (by omega)
theorem Ca {top i:Nat} (hi:i < top:=by decide):GU K C ω top (Gn i) (AdD i):=fun B G0 H0 own G σ H ρ v p P R S r h k=>k _ _ _ (S.setS r) (Aak hi) h
def AdK:List PV->Bg->(Bg->Prop)->Prop:=fun ps ρ P=>ps = []/\P ρ
def AbI (u:PV->Bg->(Bg->Prop)->Prop) (us:List PV->Bg->(Bg->Prop)->Prop):List PV->Bg->(Bg->Prop)->Prop:=fun ps ρ P=>∃ p r,ps = p :: r/\u p ρ fun ρ'=>us r ρ' P
theorem Gi {top:Nat}:GsU K C ω top AcZ AdK:=fun B G0 H0 own G σ H ρ vs ps P R S r ⟨e,h⟩ k=>by
 subst e
 exact⟨List.eq_nil_of_length_eq_zero r.1,k _ _ _ S rfl h⟩
theorem Dc {top:Nat} {g:TG} {gs:TGs} {u:PV->Bg->(Bg->Prop)->Prop} {us:List PV->Bg->(Bg->Prop)->Prop} (hg:GU K C ω top g u) (hs:GsU K C ω top gs us):GsU K C ω top (Vk g gs) (AbI u us):=fun B G0 H0 own G σ H ρ vs ps P R S r ⟨p,q,e,h⟩ k=>by
 subst e
 match vs,r with
 | [],r=>have:=r.1; simp at this
 | v :: vs,r =>
  obtain⟨r1,r2⟩:=r.uncons
  exact⟨v,vs,rfl,hg B G0 H0 own G σ H ρ v p _ _ S r1 h fun own' σ' ρ' S' dr h'=>hs B G0 H0 own' G σ' H ρ' vs q P R S' r2 h' fun own2 σ2 ρ2 S2 dr2 h2=>k own2 σ2 ρ2 S2 (dr2.trans dr) h2⟩
def Yo (n:Nat) (us:List PV->Bg->(Bg->Prop)->Prop):PV->Bg->(Bg->Prop)->Prop:=fun p ρ P=>∃ ps,p = .tup ps/\ps.length = n/\us ps ρ P
theorem Gx {top n:Nat} {gs:TGs} {us:List PV->Bg->(Bg->Prop)->Prop} (hs:GsU K C ω top gs us):GU K C ω top (Wj K n gs) (Yo n us):=fun B G0 H0 own G σ H ρ v p P R S r ⟨ps,e,hl,h⟩ k=>by
 subst e
 cases r with
 | tup e l q=>exact⟨_,_,rfl,SqT.of (S.gr.i _ _ e),by rw[l]; exact hl,hs B G0 H0 own G σ H ρ _ ps P R S ⟨l,q⟩ h k⟩
theorem Js {G:Hp} {vs:List V} {ps:List PV} {v:V} {p:PV} (h:Reps K C G vs ps) (r:Rep K C G v p):Reps K C G (vs ++ [v]) (ps ++ [p]):=LAt.snoc h r
theorem Sat.list {B G0 H0 G H:Hp} {own:Nat->Option Addr} {σ:St} {ρ:Bg} {i:Nat} {ps:List PV} (S:Sat K C ω B G0 H0 own G σ H ρ) (e:ρ[i]? = some (.ow (.lst ps))):∃ a vs,σ[i]? = some (some (.ref a))/\own i = some a/\H a = some (.lst vs)/\Reps K C G vs ps:=by
 obtain⟨a,e1,o,vs,h1,h2⟩:=S.sl i _ e
 exact⟨a,vs,e1,o,h1,h2⟩
theorem AaY {B G0 H0 G H:Hp} {own:Nat->Option Addr} {σ:St} {ρ:Bg} {i:Nat} {r:V->List V->Hp->VK->Prop} {t:TA} {Q:VK} {ps:List PV} (S:Sat K C ω B G0 H0 own G σ H ρ) (e:ρ[i]? = some (.ow (.lst ps)))
  (k:∀ a vs,σ[i]? = some (some (.ref a))->own i = some a->H a = some (.lst vs)->Reps K C G vs ps->t σ H fun xs H2=>r (.ref a) xs H2 Q):tBM K "list" r (Fj i) t σ H Q:=by
 obtain⟨a,vs,e1,o,h1,h2⟩:=S.list e
 exact⟨_,e1,.inl ⟨rfl,_,SqL.of h1⟩,k a vs e1 o h1 h2⟩
def Af0 (i:Nat) (ρ:Bg) (N:Bg->Prop) (qs:List PV):Prop:=∃ q ps,qs = [q]/\ρ[i]? = some (.ow (.lst ps))/\ps.length < 100000/\N (ρ.set i (.ow (.lst (ps ++ [q]))))
def Ahi (i:Nat) (u:UA):US:=fun d ρ=>(∃ ps,ρ[i]? = some (.ow (.lst ps)))/\u ρ fun qs=>Af0 i ρ d.nx qs
theorem Gc {i:Nat} {t:TA} {u:UA} (ha:AU K C ω [true] t u):SU K C ω rm (Vi (tBM K "list" Og (Fj i) t)) (Ahi i u):=fun B G0 H0 own G σ H ρ D d S F ⟨⟨ps0,e0⟩,hu⟩ =>
 AaY S e0 fun a vs0 e1 o _ _=>ha B G0 H0 own G σ H ρ _ _ S hu fun xs qs G' H' w ok ⟨q,ps,eq,ep,hl,h⟩=>by
  have S':=S.grow w
  obtain⟨a',vs,e1',o',h1,h2⟩:=S'.list ep
  rw[o] at o'; cases o'
  subst eq
  match xs,ok with
  | [x],ok =>
   have rx:Rep K C G' x q:=ok.1
   exact⟨a,vs,x,rfl,rfl,h1,Rz (by rw[h2.1]; omega),fun H2 c e2=>F.nx own G' σ H2 _ (S'.chg o e1 c (OwnA.ofL e2 (Js h2 rx))) h⟩
  | [],ok=>cases ok
  | _ :: _ :: _,ok=>cases ok.2
theorem Aa0:EF K C ω AaE (fun _ P=>P (.dk [])):=fun B G0 H0 own G σ H ρ P Q S hu k p hp =>
 k p _ G _ (Grow.own S.gr.i (Same.new hp)) hp (S.gr.i.free hp) (by first | exact OwnA.ofD Bl LAt.nil | exact OwnA.ofDt Bl LAt.nil) hu
def kP:Key->PV
 | .inl i=>.int i
 | .inr x=>.str x
def Gb {κ:Type} [DecidableEq κ] (kvs:List (κ × PV)) (k:κ):Option PV:=(kvs.find? fun kv=>decide (kv.1 = k)).map (·.2)
def Lr {κ:Type} [DecidableEq κ] (kvs:List (κ × PV)) (k:κ) (v:PV):List (κ × PV) :=
 if kvs.any (fun kv=>decide (kv.1 = k)) then kvs.map (fun kv=>if kv.1 = k then (kv.1,v) else kv) else kvs ++ [(k,v)]
theorem AaF {κ:Type} [DecidableEq κ] {G:Hp}:∀ {kvs:List (κ × V)} {ps:List (κ × PV)} (k:κ),LAt (KRep K C) G kvs ps->(Cs kvs k = none/\Gb ps k = none)\/∃ v p,Cs kvs k = some v/\Gb ps k = some p/\Rep K C G v p
 | [],[],_,_=>.inl ⟨rfl,rfl⟩
 | [],_ :: _,_,h=>by have:=h.1; simp at this
 | _ :: _,[],_,h=>by have:=h.1; simp at this
 | x :: xs,y :: ys,k,h=>by
  obtain⟨⟨e,r⟩,h2⟩:=h.uncons
  unfold Cs Gb
  rw[find?_cons,find?_cons,<- e]
  by_cases z:x.1 = k
  ·rw[decide_eq_true z]; exact .inr ⟨_,_,rfl,rfl,r⟩
  ·rw[decide_eq_false z]; exact AaF k h2
theorem AbW {G H:Hp} {v:V} {k:Key} (h:RepB K C G H v (kP k)):v = kV k:=by
 cases k with
 | inl i=>exact h.int
 | inr x=>exact h.str
end
section
variable {K:Frag} {C:Addr} {ω:Om} {rm:Rm}
theorem AjG {κ:Type} [DecidableEq κ] {G:Hp} {kvs:List (κ × V)} {ps:List (κ × PV)} {k:κ} {v:V} {p:PV} (h:LAt (KRep K C) G kvs ps) (r:Rep K C G v p):LAt (KRep K C) G (Ja kvs k v) (Lr ps k p):=by
 have hany:(kvs.any fun kv=>decide (kv.1 = k)) = (ps.any fun kv=>decide (kv.1 = k)):=by
  clear r
  induction kvs generalizing ps with
  | nil=>cases ps with
   | nil=>rfl
   | cons y ys=>have:=h.1; simp at this
  | cons x xs ih=>cases ps with
   | nil=>have:=h.1; simp at this
   | cons y ys =>
    obtain⟨⟨e,_⟩,h2⟩:=h.uncons
    rw[any_cons,any_cons,e,ih h2]
 unfold Ja Lr
 rw[hany]
 split
 ·refine⟨by rw[length_map,length_map,h.1],fun i x y e1 e2=>?_⟩
  rw[getElem?_map] at e1 e2
  obtain⟨x',hx,rfl⟩:=map_eq_some_iff.mp e1
  obtain⟨y',hy,rfl⟩:=map_eq_some_iff.mp e2
  obtain⟨q1,q2⟩:=h.2 i x' y' hx hy
  by_cases z:x'.1 = k
  ·rw[if_pos z,if_pos (by rw[<- q1]; exact z)]; exact⟨q1,r⟩
  ·rw[if_neg z,if_neg (by rw[<- q1]; exact z)]; exact⟨q1,q2⟩
 ·exact LAt.snoc h ⟨rfl,r⟩
def Agf (neg:Bool) (q p:PV) (P:PV->Prop):Prop:=∃ kvs k,p = .dk kvs/\q = kP k/\P (.bl (if neg then !(Gb kvs k).isSome else (Gb kvs k).isSome))
def AkP (neg:Bool) (ua ub:UE):UE:=fun ρ P=>ua ρ fun q=>ub ρ fun p=>Agf neg q p P
theorem Vt {G H:Hp} {v w:V} {kvs:List (Key × PV)} {k:Key} (i:Same G H) (r1:RepB K C G H w (.dk kvs)) (r2:RepB K C G H v (kP k)):∃ a o,w = .ref a/\IsD H a/\DGet H a v o/\((o = none/\Gb kvs k = none)\/∃ x p,o = some x/\Gb kvs k = some p/\Rep K C G x p):=by
 obtain⟨a,vs,rfl,ea,l⟩:=r1.dk i
 rw[AbW r2]
 refine⟨a,Cs vs k,rfl,.inl ⟨_,.inl ea⟩,DGet.k ea,?_⟩
 rcases AaF k l with ⟨h1,h2⟩ | ⟨x,p,h1,h2,h3⟩
 ·exact .inl ⟨h1,h2⟩
 ·exact .inr ⟨x,p,h1,h2,h3⟩
theorem AlX {ta tb:TE} {ua ub:UE} (ha:EB K C ω ta ua) (hb:EB K C ω tb ub):EU K C ω (Afl ta tb) (AkP false ua ub):=fun B G0 H0 own G σ H ρ P Q S hu k =>
 ha B G0 H0 own G σ H ρ _ _ S hu fun v q G1 H1 w1 r1 h1=>hb B G0 H0 own G1 σ H1 ρ _ _ (S.grow w1) h1 fun w p G2 H2 w2 r2 ⟨kvs,key,e1,e2,h⟩=>by
  subst e1 e2
  obtain⟨a,o,rfl,_,hg,ho⟩:=Vt w2.i r2 (r1.grow w2)
  refine⟨a,o,rfl,hg,?_⟩
  have:o.isSome = (Gb kvs key).isSome:=by
   rcases ho with ⟨h1,h2⟩ | ⟨x,p,h1,h2,h3⟩
   ·rw[h1,h2]; rfl
   ·rw[h1,h2]; rfl
  rw[this]
  exact k _ _ G2 H2 (w1.trans w2) (.bl _) h
def Vd (p q:PV) (P:PV->Prop):Prop:=∃ kvs k x,p = .dk kvs/\q = kP k/\Gb kvs k = some x/\P x
def Ahs (ua ub:UE):UE:=fun ρ P=>ua ρ fun p=>ub ρ fun q=>Vd p q P
theorem AaX {ta tb:TE} {ua ub:UE} (ha:EB K C ω ta ua) (hb:EB K C ω tb ub):EU K C ω (Xt ta tb) (Ahs ua ub):=fun B G0 H0 own G σ H ρ P Q S hu k =>
 ha B G0 H0 own G σ H ρ _ _ S hu fun v q G1 H1 w1 r1 h1=>hb B G0 H0 own G1 σ H1 ρ _ _ (S.grow w1) h1 fun w p G2 H2 w2 r2 ⟨kvs,key,x,e1,e2,e3,h⟩=>by
  subst e1 e2
  obtain⟨a,o,rfl,_,hg,ho⟩:=Vt w2.i (r1.grow w2) r2
  rcases ho with ⟨h1,h2⟩ | ⟨y,p,h1,h2,h3⟩
  ·rw[e3] at h2; cases h2
  ·rw[e3] at h2; cases h2
   subst h1
   exact⟨a,y,rfl,hg,k _ _ G2 H2 (w1.trans w2) h3 h⟩
def Aaq (kvs:List (Key × PV)) (q z:PV) (P:PV->Prop):Prop:=∃ k,q = kP k/\P ((Gb kvs k).getD z)
def Adz (i:Nat) (ub uc:UE):UE:=fun ρ P=>∃ s kvs,ρ[i]? = some s/\s.val = some (.dk kvs)/\ub ρ fun q=>uc ρ fun z=>Aaq kvs q z P
theorem Oc {i:Nat} {tb tc:TE} {ub uc:UE} (hb:EB K C ω tb ub) (hc:EU K C ω tc uc):EU K C ω (AaC (Fj i) tb tc) (Adz i ub uc):=fun B G0 H0 own G σ H ρ P Q S ⟨s,kvs,e,ev,hu⟩ k =>
 Bb B G0 H0 own G σ H ρ (fun p=>p = .dk kvs) _ S ⟨s,_,e,ev,rfl⟩ fun v q G1 H1 w1 r1 e0=>by
  subst e0
  obtain⟨a,vs,rfl,ea,l⟩:=r1.dk w1.i
  refine⟨a,rfl,.inl ⟨_,.inl ea⟩,hb B G0 H0 own G1 σ H1 ρ _ _ (S.grow w1) hu fun w p G2 H2 w2 r2 h2=>hc B G0 H0 own G2 σ H2 ρ _ _ ((S.grow w1).grow w2) h2 fun z pz G3 H3 w3 r3 ⟨key,e2,h⟩=>?_⟩
  subst e2
  obtain⟨a',o,e,_,hg,ho⟩:=Vt w3.i ((r1.grow w2).grow w3) (r2.grow w3)
  cases e
  refine⟨o,hg,?_⟩
  have w:=(w1.trans w2).trans w3
  rcases ho with ⟨h1,h2⟩ | ⟨y,p,h1,h2,h3⟩
  ·rw[h2] at h; subst h1; exact k _ _ G3 H3 w r3 h
  ·rw[h2] at h; subst h1; exact k _ _ G3 H3 w h3 h
def Acu (i:Nat) (ρ:Bg) (N:Bg->Prop) (p q:PV):Prop:=∃ kvs k,ρ[i]? = some (.ow (.dk kvs))/\q = kP k/\kvs.length < 100000/\N (ρ.set i (.ow (.dk (Lr kvs k p))))
def AgS (i:Nat) (ub uv:UE):US:=fun d ρ=>(∃ kvs,ρ[i]? = some (.ow (.dk kvs)))/\uv ρ fun p=>ub ρ fun q=>Acu i ρ d.nx p q
theorem Qp {i:Nat} {tb tv:TE} {ub uv:UE} (hb:EB K C ω tb ub) (hv:EU K C ω tv uv):SU K C ω rm (Ac7 (Fj i) tb tv) (AgS i ub uv):=fun B G0 H0 own G σ H ρ D d S F ⟨⟨kvs0,e0⟩,hu⟩ =>
 hv B G0 H0 own G σ H ρ _ _ S hu fun v p G1 H1 w1 r1 h1=>by
  have S1:=S.grow w1
  obtain⟨a,ea,o,_⟩:=S.sl i _ e0
  refine⟨_,ea,hb B G0 H0 own G1 σ H1 ρ _ _ S1 h1 fun w q G2 H2 w2 r2 ⟨kvs,k,e,e2,hl,h⟩=>?_⟩
  subst e2
  have S2:=S1.grow w2
  obtain⟨a',ea',o',vs,ha,l⟩:=S2.sl i _ e
  rw[o] at o'; cases o'
  rw[AbW r2]
  exact⟨a,_,rfl,DPut.k ha (Rz (by rw[l.1]; omega)),F.nx own G2 σ _ _ (S2.chg o ea Chg.put (OwnA.ofD Bl (AjG l (r1.mono w2.g)))) h⟩
end
section
variable {K:Frag} {C:Addr} {ω:Om} {rm:Rm}
abbrev UI:=Bg->(List PV->Prop)->Prop
def So (ps:List PV) (ug:PV->Bg->(Bg->Prop)->Prop) (ub:US):US:=fun d ρ=>∃ I:Nat->Bg->Prop,I 0 ρ/\(∀ k p ρ,ps[k]? = some p->I k ρ->ug p ρ fun ρ'=>ub { d with nx:=I (k + 1),ct:=I (k + 1),bk:=d.nx } ρ')/\∀ ρ,I ps.length ρ->d.nx ρ
def AfQ (ui:UI) (ug:PV->Bg->(Bg->Prop)->Prop) (ub:US):US:=fun d ρ=>ui ρ fun ps=>So ps ug ub d ρ
def bL (p:PV) (R:List PV->Prop):Prop:=∃ ps,(p = .lst ps\/∃ ns,p = .scr ns/\ps = ns.map .int)/\R ps
def uiL (ua:UE):UI:=fun ρ R=>ua ρ fun p=>bL p R
theorem Jq {B B1 G0 H0:Hp} {D:Ends} {d:Fq} {N:Bg->Prop} {M:St->Hp->Prop} (F:AcU K C ω rm B G0 H0 D d) (hb:Same B B1) (hM:∀ own G σ H ρ,Sat K C ω B1 G0 H0 own G σ H ρ->N ρ->M σ H) :
  AcU K C ω rm B1 G0 H0 { D with nx:=M,ct:=M,bk:=D.nx } { d with nx:=N,ct:=N,bk:=d.nx } :=
 ⟨hM,F.rt,fun own G σ H ρ S h=>F.nx own G σ H ρ (S.base (hb.trans S.kb)) h,hM⟩
theorem Us {top:Nat} {ta:TE} {ua:UE} {g:TG} {ug:PV->Bg->(Bg->Prop)->Prop} {tb:TS} {ub:US} (ha:EU K C ω ta ua) (hg:GU K C ω top g ug) (hb:SU K C ω rm tb ub):SU K C ω rm (Lg (Oo K ta) g tb) (AfQ (uiL ua) ug ub) :=
 fun B G0 H0 own G σ H ρ D d S F hu=>ha B G0 H0 own G σ H ρ _ _ S hu fun v p G1 H1 w1 r1 ⟨ps,e,I,i0,ist,iend⟩=>by
  have S1:=S.grow w1
  obtain⟨a,vs,rfl,sq,rp⟩:∃ a vs,v = .ref a/\SqL K G1 a vs/\Reps K C G1 vs ps:=by
   rcases e with e | ⟨ns,e,e2⟩
   ·subst e
    cases r1 with
    | lst e l q=>exact⟨_,_,rfl,SqL.of e,l,q⟩
   ·subst e e2
    cases r1 with
    | scr e=>exact⟨_,_,rfl,e,Fs ns⟩
  refine⟨a,rfl,⟨vs,w1.i.seq sq⟩,Ri (xs:=vs) (fun k σ' H'=>∃ own' G' ρ',Sat K C ω G1 G0 H0 own' G' σ' H' ρ'/\I k ρ') ⟨own,G1,ρ,S1.base (Same.refl _),i0⟩ (fun k σ' H' _ ⟨own',G',ρ',S',_⟩=>(S'.kb.trans S'.gr.i).seq sq) (fun k x σ' H' hx ⟨own',G',ρ',S',hi⟩=>?_) fun σ' H' ⟨own',G',ρ',S',hi⟩=>?_⟩
  ·obtain⟨q,hq,rq⟩:=rp.get hx
   exact hg G1 G0 H0 own' G' σ' H' ρ' x q _ _ S' (rq.mono S'.kb) (ist k q ρ' hq hi) fun own2 σ2 ρ2 S2 _ h2=>hb G1 G0 H0 own2 G' σ2 H' ρ2 _ _ S2 (Jq F S1.kb fun own3 G3 σ3 H3 ρ3 S3 h3=>⟨own3,G3,ρ3,S3,h3⟩) h2
  ·rw[rp.1] at hi
   exact F.nx own' G' σ' H' ρ' (S'.base (S1.kb.trans S'.kb)) (iend ρ' hi)
def uiB (i:Nat):UI:=fun ρ R=>∃ s p ps,ρ[i]? = some s/\(s = .bo p\/s = .sh p)/\(p = .lst ps\/∃ ns,p = .scr ns/\ps = ns.map .int)/\R ps
theorem Nx {top:Nat} {i:Nat} {g:TG} {ug:PV->Bg->(Bg->Prop)->Prop} {tb:TS} {ub:US} (hg:GU K C ω top g ug) (hb:SU K C ω rm tb ub):SU K C ω rm (Lg (Oo K (Fj i)) g tb) (AfQ (uiB i) ug ub) :=
 fun B G0 H0 own G σ H ρ D d S F ⟨s,p,ps,es,ek,e,I,i0,ist,iend⟩=>by
  have key:∃ a vs,σ[i]? = some (some (.ref a))/\(∀ G' H',Same G G'->Same H0 H'->Same G' H'->SqL K H' a vs)/\Reps K C G vs ps:=by
   rcases ek with ek | ek
   ·subst ek
    obtain⟨v,ev,rb⟩:=S.sl i _ es
    rcases e with e | ⟨ns,e,e2⟩
    ·subst e
     rcases rb with rb | ⟨a,e2,vs,h1,h2⟩
     ·cases rb with
      | lst e l q=>exact⟨_,_,ev,fun G' H' s1 s2 s3=>SqL.of (s3 _ _ (s1 _ _ (S.gr.g _ _ e))),l,fun j x y h1 h2=>(q j x y h1 h2).mono S.gr.g⟩
     ·subst e2
      exact⟨a,vs,ev,fun G' H' s1 s2 s3=>SqL.of (s2 _ _ h1),h2.mono S.gr.g⟩
    ·subst e e2
     rcases rb with rb | ⟨a,e2,h⟩
     ·cases rb with
      | scr e=>exact⟨_,_,ev,fun G' H' s1 s2 s3=>s3.seq (s1.seq (S.gr.g.seq e)),Fs ns⟩
     ·exact h.elim
   ·subst ek
    obtain⟨v,ev,rb⟩:=S.sl i _ es
    rcases e with e | ⟨ns,e,e2⟩
    ·subst e
     cases rb with
     | lst e l q=>exact⟨_,_,ev,fun G' H' s1 s2 s3=>SqL.of (s3 _ _ (s1 _ _ e)),l,q⟩
    ·subst e e2
     cases rb with
     | scr e=>exact⟨_,_,ev,fun G' H' s1 s2 s3=>s3.seq (s1.seq e),Fs ns⟩
  obtain⟨a,vs,ev,sq,rp⟩:=key
  refine⟨_,ev,a,rfl,⟨vs,sq G H (Same.refl _) S.gr.h S.gr.i⟩,Ri (xs:=vs) (fun k σ' H'=>∃ own' G' ρ',Sat K C ω G G0 H0 own' G' σ' H' ρ'/\I k ρ') ⟨own,G,ρ,S.base (Same.refl _),i0⟩ (fun k σ' H' _ ⟨own',G',ρ',S',_⟩=>sq G' H' S'.kb S'.gr.h S'.gr.i) (fun k x σ' H' hx ⟨own',G',ρ',S',hi⟩=>?_) fun σ' H' ⟨own',G',ρ',S',hi⟩=>?_⟩
  ·obtain⟨q,hq,rq⟩:=rp.get hx
   exact hg G G0 H0 own' G' σ' H' ρ' x q _ _ S' (rq.mono S'.kb) (ist k q ρ' hq hi) fun own2 σ2 ρ2 S2 _ h2=>hb G G0 H0 own2 G' σ2 H' ρ2 _ _ S2 (Jq F S.kb fun own3 G3 σ3 H3 ρ3 S3 h3=>⟨own3,G3,ρ3,S3,h3⟩) h2
  ·rw[rp.1] at hi
   exact F.nx own' G' σ' H' ρ' (S'.base (S.kb.trans S'.kb)) (iend ρ' hi)
def Vj (lo:Int) (n:Nat) (ug:PV->Bg->(Bg->Prop)->Prop) (ub:US):US:=fun d ρ=>∃ I:Nat->Bg->Prop,I 0 ρ/\(∀ k ρ,k < n->I k ρ->ug (.int (lo + k)) ρ fun ρ'=>ub { d with nx:=I (k + 1),ct:=I (k + 1),bk:=d.nx } ρ')/\∀ ρ,I n ρ->d.nx ρ
def bR1 (R:Nat->Prop) (ps:List PV):Prop:=∃ j:Int,ps = [.int j]/\-(2 ^ 62) <= j/\j < 2 ^ 62/\R j.toNat
def AgQ (u:UA) (ug:PV->Bg->(Bg->Prop)->Prop) (ub:US):US:=fun d ρ=>u ρ fun ps=>bR1 (fun n=>Vj 0 n ug ub d ρ) ps
def bR2 (R:Int->Nat->Prop) (ps:List PV):Prop:=∃ i j:Int,ps = [.int i,.int j]/\(-(2 ^ 62) <= i/\i < 2 ^ 62/\-(2 ^ 62) <= j/\j < 2 ^ 62)/\R i (j - i).toNat
def AgF (u:UA) (ug:PV->Bg->(Bg->Prop)->Prop) (ub:US):US:=fun d ρ=>u ρ fun ps=>bR2 (fun i n=>Vj i n ug ub d ρ) ps
theorem Ahy {top:Nat} {B G0 H0 G H:Hp} {own:Nat->Option Addr} {σ:St} {ρ:Bg} {D:Ends} {d:Fq} {lo:Int} {n:Nat} {g:TG} {ug:PV->Bg->(Bg->Prop)->Prop} {tb:TS} {ub:US} (hg:GU K C ω top g ug) (hb:SU K C ω rm tb ub) (S:Sat K C ω B G0 H0 own G σ H ρ) (F:AcU K C ω rm B G0 H0 D d) (h:Vj lo n ug ub d ρ) :
  ∃ W:Nat->Nat->St->Hp->Prop,(∃ m,W 0 m σ H)/\∀ i m σ H,W i m σ H->((Itr lo n).stop i H/\D.nx σ H)\/((Itr lo n).go i H/\∃ N:St->Hp->Prop,(∀ σ' H',N σ' H'->∃ m',m' < m/\W (i + 1) m' σ' H')/\∀ x H',(Itr lo n).yld i H x H'->g x σ H' fun σ2 H2=>tb { D with nx:=N,ct:=N,bk:=D.nx } σ2 H2):=by
 obtain⟨I,i0,ist,iend⟩:=h
 refine Xc (fun k σ' H'=>∃ own' G' ρ',Sat K C ω B G0 H0 own' G' σ' H' ρ'/\I k ρ') ⟨own,G,ρ,S,i0⟩ (fun k σ' H' hk ⟨own',G',ρ',S',hi⟩=>?_) fun σ' H' ⟨own',G',ρ',S',hi⟩=>F.nx own' G' σ' H' ρ' S' (iend ρ' hi)
 exact hg B G0 H0 own' G' σ' H' ρ' _ _ _ _ S' (.int _) (ist k ρ' hk hi) fun own2 σ2 ρ2 S2 _ h2=>hb B G0 H0 own2 G' σ2 H' ρ2 _ _ S2 (Jq F (Same.refl _) fun own3 G3 σ3 H3 ρ3 S3 h3=>⟨own3,G3,ρ3,S3,h3⟩) h2
theorem AbG {top:Nat} {m:Bool} {t:TA} {u:UA} {g:TG} {ug:PV->Bg->(Bg->Prop)->Prop} {tb:TS} {ub:US} (ha:AU K C ω [m] t u) (hg:GU K C ω top g ug) (hb:SU K C ω rm tb ub):SU K C ω rm (Lg (Up t) g tb) (AgQ u ug ub) :=
 fun B G0 H0 own G σ H ρ D d S F hu=>ha B G0 H0 own G σ H ρ _ _ S hu fun vs ps G1 H1 w1 ok ⟨j,e,h1,h2,h⟩=>by
  obtain⟨v,p,rfl,e2,r⟩:=Sq ok
  rw[e] at e2; cases e2
  exact⟨j,by rw[r.int],h1,h2,Ahy hg hb (S.grow w1) F h⟩
theorem Aa5 {top:Nat} {m n:Bool} {t:TA} {u:UA} {g:TG} {ug:PV->Bg->(Bg->Prop)->Prop} {tb:TS} {ub:US} (ha:AU K C ω [m,n] t u) (hg:GU K C ω top g ug) (hb:SU K C ω rm tb ub):SU K C ω rm (Lg (Ag8 t) g tb) (AgF u ug ub) :=
 fun B G0 H0 own G σ H ρ D d S F hu=>ha B G0 H0 own G σ H ρ _ _ S hu fun vs ps G1 H1 w1 ok ⟨i,j,e,h1,h⟩=>by
  obtain⟨v,w,p,q,rfl,e2,r1,r2⟩:=Sr ok
  rw[e] at e2; cases e2
  exact⟨i,j,by rw[r1.int,r2.int],h1,Ahy hg hb (S.grow w1) F h⟩
end
section
variable {K:Frag} {C:Addr} {ω:Om}
def boS:Sl->Sl
 | .ow p=>.bo p
 | .fz _ kvs=>.bz kvs
 | .fl _ ps=>.bo (.lst ps)
 | .om _ p=>.bo p
 | s=>s
def compρ (k:Nat) (fr:List Nat) (ρ:Bg):Bg:=replicate k .un ++ fr.map fun i=>boS ((ρ[i]?).getD .un)
theorem Sat.comp {B G0 H0 G1 H1:Hp} {own:Nat->Option Addr} {σ:St} {ρ:Bg} (S:Sat K C ω B G0 H0 own G1 σ H1 ρ) (k:Nat) (fr:List Nat) {G H:Hp} (w:Grow G1 H1 G H):Sat K C Om.no G1 G1 H1 (fun _=>none) G (compσ k fr σ) H (compρ k fr ρ):=by
 refine⟨w.g,w,?_,fun i j a h=>(by cases h),fun i a h=>(by cases h),fun i s h=>?_,fun _ _ _ z=>z.elim⟩
 ·unfold compσ compρ; simp
 ·by_cases hk:i < k
  ·unfold compρ at h
   rw[getElem?_append_left (by rw[length_replicate]; exact hk),getElem?_replicate,if_pos hk] at h
   cases h; trivial
  ·unfold compρ at h
   rw[getElem?_append_right (by rw[length_replicate]; omega),length_replicate,getElem?_map] at h
   obtain⟨j,hj,e⟩:=map_eq_some_iff.mp h
   have hσ:(compσ k fr σ)[i]? = some (σ[j]?).join:=by
    unfold compσ
    rw[getElem?_append_right (by rw[length_replicate]; omega),length_replicate,getElem?_map,hj]; rfl
   cases e2:ρ[j]? with
   | none=>rw[e2] at e; cases e; trivial
   | some s0 =>
    rw[e2] at e
    have q:=S.sl j s0 e2
    cases s0 with
    | un=>cases e; trivial
    | sh p=>cases e; obtain⟨v,ev,r⟩:=q; exact⟨v,by rw[hσ,ev]; rfl,r.mono w.g⟩
    | bo p=>cases e; obtain⟨v,ev,r⟩:=q; exact⟨v,by rw[hσ,ev]; rfl,r.grow S.gr⟩
    | ow p=>cases e; obtain⟨a,ev,_,r⟩:=q; exact⟨_,by rw[hσ,ev]; rfl,.inr ⟨a,rfl,r⟩⟩
    | fz z kvs=>cases e; obtain⟨ev,_,h1,h2⟩:=q; exact⟨z.1,z.2.1,z.2.2,by rw[hσ,ev]; rfl,h1,KReps.mono h2 w.g⟩
    | bz kvs=>cases e; obtain⟨a,o,vs,ev,h1,h2⟩:=q; exact⟨a,o,vs,by rw[hσ,ev]; rfl,S.gr.h _ _ h1,KReps.mono h2 w.g⟩
    | fl z ps=>cases e; obtain⟨ev,_,h1,h2⟩:=q; exact⟨_,by rw[hσ,ev]; rfl,.inr ⟨z.1,rfl,OwnA.ofL h1 h2⟩⟩
    | om a p=>cases e; obtain⟨ev,_,r⟩:=q; exact⟨_,by rw[hσ,ev]; rfl,.inr ⟨a,rfl,r⟩⟩
def Ag9:UT:=fun _ P=>P true
theorem Gr:TU K C ω AcP Ag9:=fun B G0 H0 own G σ H ρ P Q S hu k=>k true G H (Grow.refl S.gr.i) hu
def Jx (ps:List PV) (ug:PV->Bg->(Bg->Prop)->Prop) (uc:UT) (ue:UE) (ρ':Bg) (P:PV->Prop):Prop:=∃ I:Nat->List PV->Prop,I 0 []/\(∀ n p rs,ps[n]? = some p->I n rs->ug p ρ' fun ρ2=>uc ρ2 fun b=>if b = true then ue ρ2 fun q=>I (n + 1) (rs ++ [q]) else I (n + 1) rs)/\∀ rs,I ps.length rs->P (.lst rs)
def CSt (K:Frag) (C:Addr) (G1 H1:Hp) (D:Addr) (I:Nat->List PV->Prop) (n:Nat) (H:Hp):Prop:=∃ G ys rs,Grow G1 H1 G H/\G D = none/\H D = some (.lst ys)/\Reps K C G ys rs/\rs.length <= n/\I n rs
theorem Sc {B G0 H0 G1 H1:Hp} {own:Nat->Option Addr} {σ:St} {ρ:Bg} (S:Sat K C ω B G0 H0 own G1 σ H1 ρ) {k:Nat} {fr:List Nat} {g:TG} {ug:PV->Bg->(Bg->Prop)->Prop} {tc:TT} {uc:UT} {te:TE} {ue:UE} (hg:GU K C Om.no k g ug) (hc:TU K C Om.no tc uc) (he:EU K C Om.no te ue) {D:Addr} (hD:H1 D = none) {I:Nat->List PV->Prop} {n:Nat} (hn:n < 100000) {x:V} {p:PV} {H':Hp} {N:Hp->Prop}
  (rx:∀ G,Same G1 G->Rep K C G x p) (st:CSt K C G1 H1 D I n H') (hN:∀ H'',CSt K C G1 H1 D I (n + 1) H''->N H'') (hs:∀ rs,I n rs->ug p (compρ k fr ρ) fun ρ2=>uc ρ2 fun b=>if b = true then ue ρ2 fun q=>I (n + 1) (rs ++ [q]) else I (n + 1) rs) :
  g x (compσ k fr σ) H' fun σ2 H2=>σ2.drop k = (compσ k fr σ).drop k/\tc σ2 H2 fun b H3=>if b = true then te σ2 H3 (fun y H4=>∃ ys,H4 D = some (.lst ys)/\ys.length < sizeLine/\N (upd H4 D (.lst (ys ++ [y])))) else N H3:=by
 obtain⟨G,ys,rs,w,gD,eD,ry,hl,hi⟩:=st
 refine hg G1 G1 H1 _ G _ H' _ x p _ _ (S.comp k fr w) (rx G w.g) (hs rs hi) fun own' σ' ρ' S' dr h=>⟨dr,hc G1 G1 H1 own' G σ' H' ρ' _ _ S' h fun b G3 H3 w3 h3=>?_⟩
 cases b with
 | false=>exact Ni (hN _ ⟨G3,ys,rs,w.trans w3,w3.n D _ eD (fun _ z=>nomatch z) gD,w3.h _ _ eD,ry.mono w3.g,by omega,by simpa using h3⟩)
 | true =>
  refine Lh (he G1 G1 H1 own' G3 σ' H3 ρ' _ _ (S'.grow w3) (by simpa using h3) fun y q G4 H4 w4 r4 h4=>?_)
  have w34:=w3.trans w4
  have g4:G4 D = none:=w34.n D _ eD (fun _ z=>nomatch z) gD
  have e4:H4 D = some (.lst ys):=w34.h _ _ eD
  refine⟨ys,e4,Rz (by rw[ry.1]; omega),hN _ ⟨G4,_,_,⟨(w.trans w34).g,fun b u h=>?_,fun b u h=>?_,(w.trans w34).n⟩,g4,Bl,Js (ry.mono w34.g) r4,by rw[length_append]; simp; omega,h4⟩⟩
  ·rw[Bh (by intro z; subst z; rw[hD] at h; cases h)]; exact (w.trans w34).h _ _ h
  ·rw[Bh (by intro z; subst z; rw[g4] at h; cases h)]; exact w34.i _ _ h
theorem Nh {G1 H1:Hp} {D:Addr} {I:Nat->List PV->Prop} (i:Same G1 H1) (hD:H1 D = none) (h:I 0 []):CSt K C G1 H1 D I 0 (upd H1 D (.lst [])) :=
 ⟨G1,[],[],Grow.own i (Same.new hD),i.free hD,Bl,LAt.nil,by simp,h⟩
def Ahr (ua:UE) (ug:PV->Bg->(Bg->Prop)->Prop) (uc:UT) (ue:UE) (k:Nat) (fr:List Nat):UE:=fun ρ P=>ua ρ fun p=>bL p fun ps=>ps.length <= 100000/\Jx ps ug uc ue (compρ k fr ρ) P
theorem Fu {ta:TE} {ua:UE} {k:Nat} {fr:List Nat} {g:TG} {ug:PV->Bg->(Bg->Prop)->Prop} {tc:TT} {uc:UT} {te:TE} {ue:UE} (ha:EB K C ω ta ua) (hg:GU K C Om.no k g ug) (hc:TU K C Om.no tc uc) (he:EU K C Om.no te ue):EF K C ω (Jc (Oo K ta) g tc te k fr) (Ahr ua ug uc ue k fr) :=
 fun B G0 H0 own G σ H ρ P Q S hu kk=>Nq (AnR (ha B G0 H0 own G σ H ρ _ _ S hu fun v p G1 H1 w1 r1 ⟨ps,e,hl,I,i0,ist,iend⟩=>by
  have S1:=S.grow w1
  obtain⟨a,vs,rfl,sq,rp⟩:∃ a vs,v = .ref a/\SqL K H1 a vs/\Reps K C G1 vs ps:=by
   rcases e with e | ⟨ns,e,e2⟩
   ·subst e
    obtain⟨a,vs,rfl,ea,l⟩:=r1.lst w1.i
    exact⟨a,vs,rfl,SqL.of ea,l⟩
   ·subst e e2
    obtain⟨a,rfl,ea⟩:=r1.scr w1.i
    exact⟨a,_,rfl,ea,Fs ns⟩
  refine⟨a,rfl,⟨vs,sq⟩,fun D hD=>CP.list vs (CSt K C G1 H1 D I) (Nh w1.i hD i0) (fun n H' _ ⟨G',_,_,w,_⟩=>w.h.seq sq) (fun n x H' N hx st hN=>?_) fun H' st=>?_⟩
  ·obtain⟨q,hq,rq⟩:=rp.get hx
   have hn:n < ps.length:=(List.getElem?_eq_some_iff.mp hq).1
   exact Sc S1 hg hc he hD (by omega) (fun G' s=>rq.mono s) st hN fun rs hi=>ist n q rs hq hi
  ·obtain⟨G',ys,rs,w,gD,eD,ry,_,hi⟩:=st
   rw[rp.1] at hi
   exact kk D _ G' H' (w1.trans w) (w1.h.free hD) gD (OwnA.ofL eD ry) (iend rs hi)))
def Aam (ug:PV->Bg->(Bg->Prop)->Prop) (uc:UT) (ue:UE) (ρ':Bg) (P:PV->Prop) (ps:List PV):Prop:=∃ j:Int,ps = [.int j]/\-(2 ^ 62) <= j/\j < 100000/\∃ I:Nat->List PV->Prop,I 0 []/\(∀ n rs,n < j.toNat->I n rs->ug (.int (0 + n)) ρ' fun ρ2=>uc ρ2 fun b=>if b = true then ue ρ2 fun q=>I (n + 1) (rs ++ [q]) else I (n + 1) rs)/\∀ rs,I j.toNat rs->P (.lst rs)
def AdF (u:UA) (ug:PV->Bg->(Bg->Prop)->Prop) (uc:UT) (ue:UE) (k:Nat) (fr:List Nat):UE:=fun ρ P=>u ρ fun ps=>Aam ug uc ue (compρ k fr ρ) P ps
theorem Zz {m:Bool} {t:TA} {u:UA} {k:Nat} {fr:List Nat} {g:TG} {ug:PV->Bg->(Bg->Prop)->Prop} {tc:TT} {uc:UT} {te:TE} {ue:UE} (ha:AU K C ω [m] t u) (hg:GU K C Om.no k g ug) (hc:TU K C Om.no tc uc) (he:EU K C Om.no te ue):EF K C ω (Jc (Up t) g tc te k fr) (AdF u ug uc ue k fr) :=
 fun B G0 H0 own G σ H ρ P Q S hu kk=>Nq (AnC (ha B G0 H0 own G σ H ρ _ _ S hu fun vs ps G1 H1 w1 ok ⟨j,e,h1,h2,I,i0,ist,iend⟩=>by
  have S1:=S.grow w1
  obtain⟨v,p,rfl,e2,r⟩:=Sq ok
  rw[e] at e2; cases e2
  refine⟨j,by rw[r.int],h1,by omega,fun D hD=>CP.range (CSt K C G1 H1 D I) (Nh w1.i hD i0) (fun n H' N hx st hN=>Sc S1 hg hc he hD (by omega) (fun G' s=>.int _) st hN fun rs hi=>ist n rs hx hi) fun H' st=>?_⟩
  obtain⟨G',ys,rs,w,gD,eD,ry,_,hi⟩:=st
  exact kk D _ G' H' (w1.trans w) (w1.h.free hD) gD (OwnA.ofL eD ry) (iend rs hi)))
end
section
variable {K:Frag} {C:Addr} {ω:Om}
abbrev PSp:=List PV->(PV->Prop)->Prop
def spOf (K:Frag) (C:Addr) (ms:List Bool) (rm:Rm) (psp:PSp):Sp:=fun vs H Q _=>∃ G ps P,Same G H/\ArgsOk K C G H ms vs ps/\psp ps P/\∀ G' H' v p,Grow G H G' H'->ROk K C rm H G' H' v p->P p->Q v H'
def Yc (psp:PSp) (u:UA):UE:=fun ρ P=>u ρ fun ps=>psp ps P
theorem Fp {ms:List Bool} {psp:PSp} {E:XK} {t:TA} {u:UA} (ha:AU K C ω ms t u):EU K C ω (Tk (spOf K C ms .sh psp) [] E t) (Yc psp u) :=
 fun B G0 H0 own G σ H ρ P Q S hu k=>ha B G0 H0 own G σ H ρ _ _ S hu fun vs ps G1 H1 w1 ok h=>by
  rw[append_nil]
  exact⟨G1,ps,P,w1.i,ok,h,fun G' H' v p w r hp=>k v p G' H' (w1.trans w) r hp⟩
theorem Dm {ms:List Bool} {psp:PSp} {E:XK} {t:TA} {u:UA} (ha:AU K C ω ms t u):EF K C ω (Tk (spOf K C ms .fr psp) [] E t) (Yc psp u) :=
 fun B G0 H0 own G σ H ρ P Q S hu k=>ha B G0 H0 own G σ H ρ _ _ S hu fun vs ps G1 H1 w1 ok h=>by
  rw[append_nil]
  exact⟨G1,ps,P,w1.i,ok,h,fun G' H' v p w ⟨a,e,n,g,r⟩ hp=>by subst e; exact k a p G' H' (w1.trans w) (w1.h.free n) g r hp⟩
def Ve (n:Nat) (ms:List Bool) (ps:List PV):Bg:=zipWith (fun m p=>if m = true then Sl.sh p else Sl.bo p) ms ps ++ replicate (n - ps.length) .un
def AfG (rm:Rm) (P:PV->Prop):Bg->Prop:=match rm with
 | .sh=>fun _=>P .non
 | .fr=>fun _=>False
 | .mu _=>fun _=>False
theorem ArgsOk.slots {G H:Hp} {own:Nat->Option Addr}:∀ {ms:List Bool} {vs:List V} {ps:List PV} {i:Nat} {s:Sl} {σ:St} (k:Nat),ArgsOk K C G H ms vs ps->(∀ j v,vs[j]? = some v->σ[k + j]? = some (some v))->(zipWith (fun m p=>if m = true then Sl.sh p else Sl.bo p) ms ps)[i]? = some s->SlOk K C G H own G σ H (k + i) s
 | true :: ms,v :: vs,p :: ps,0,s,σ,k,ok,hσ,h=>by cases h; exact⟨v,hσ 0 v rfl,ok.1⟩
 | false :: ms,v :: vs,p :: ps,0,s,σ,k,ok,hσ,h=>by cases h; exact⟨v,hσ 0 v rfl,ok.1⟩
 | true :: ms,v :: vs,p :: ps,i + 1,s,σ,k,ok,hσ,h=>by
  have:=ArgsOk.slots (i:=i) (s:=s) (σ:=σ) (own:=own) (k + 1) ok.2 (fun j w hj=>by rw[show k + 1 + j = k + (j + 1) by omega]; exact hσ (j + 1) w (by simpa using hj)) (by simpa using h)
  rwa [show k + 1 + i = k + (i + 1) by omega] at this
 | false :: ms,v :: vs,p :: ps,i + 1,s,σ,k,ok,hσ,h=>by
  have:=ArgsOk.slots (i:=i) (s:=s) (σ:=σ) (own:=own) (k + 1) ok.2 (fun j w hj=>by rw[show k + 1 + j = k + (j + 1) by omega]; exact hσ (j + 1) w (by simpa using hj)) (by simpa using h)
  rwa [show k + 1 + i = k + (i + 1) by omega] at this
 | [],_,_,_,_,_,_,_,_,h=>by simp at h
 | _ :: _,_,[],_,_,_,_,_,_,h=>by simp at h
 | true :: _,[],_ :: _,_,_,_,_,ok,_,_=>by cases ok
 | false :: _,[],_ :: _,_,_,_,_,ok,_,_=>by cases ok
theorem Cv {ms:List Bool} {rm:Rm} {psp:PSp} {N:List Str} {vs:List V} {H:Hp} {Q:VK} {E:XK} {t:TS} {u:US} (h:spOf K C ms rm psp vs H Q E) (hn:ms.length <= N.length) (hs:SU K C Om.no rm t u)
  (hp:∀ ps P,psp ps P->u ⟨AfG rm P,P,fun _=>False,fun _=>False⟩ (Ve N.length ms ps)):t { nx:=fun _ H'=>Q .non H',rt:=Q } (L2.Nj N vs) H:=by
 obtain⟨G,ps,P,i,ok,hq,k⟩:=h
 obtain⟨l1,l2⟩:=ok.len
 have hz:(zipWith (fun m p=>if m = true then Sl.sh p else Sl.bo p) ms ps).length = ps.length:=by rw[List.length_zipWith,l2]; omega
 refine hs G G H (fun _=>none) G _ H _ _ ⟨AfG rm P,P,fun _=>False,fun _=>False⟩ ⟨Same.refl _,Grow.refl i,?_,fun i j a z=>(by cases z),fun i a z=>(by cases z),fun j s hj=>?_,fun _ _ _ z=>z.elim⟩ ⟨fun own' G' σ' H' ρ' S' q=>?_,fun G' H' v p w r hp=>k G' H' v p w r hp,fun _ _ _ _ _ _ q=>q.elim,fun _ _ _ _ _ _ q=>q.elim⟩ (hp ps P hq)
 ·unfold L2.Nj Ve
  rw[length_append,length_append,length_map,hz,length_replicate,length_replicate,l1,l2]
 ·unfold Ve at hj
  by_cases z:j < ps.length
  ·rw[getElem?_append_left (by rw[hz]; exact z)] at hj
   have q:=ArgsOk.slots (own:=fun _=>none) (σ:=L2.Nj N vs) 0 ok (fun j v hv=>by
    unfold L2.Nj
    rw[Nat.zero_add,getElem?_append_left (by rw[length_map]; exact (List.getElem?_eq_some_iff.mp hv).1),getElem?_map,hv]; rfl) hj
   rwa [Nat.zero_add] at q
  ·rw[getElem?_append_right (by rw[hz]; omega),getElem?_replicate] at hj
   split at hj
   ·cases hj; trivial
   ·cases hj
 ·cases rm with
  | sh=>exact k G' H' .non .non S'.gr .non q
  | fr=>exact q.elim
  | mu _=>exact q.elim
theorem spOf.len {ms:List Bool} {rm:Rm} {psp:PSp} {vs:List V} {H:Hp} {Q:VK} {E:XK} (h:spOf K C ms rm psp vs H Q E):vs.length = ms.length:=by
 obtain⟨G,ps,P,i,ok,_⟩:=h
 exact ok.len.1
end
section
variable {K:Frag} {C:Addr} {ω:Om}
def Rk:PV->Bool
 | .non=>true
 | .int _=>true
 | .str _=>true
 | _=>false
theorem Su {G:Hp} {v:V} {p:PV} (h:Rep K C G v p) (f:Rk p = true):Lb v = true:=by
 cases h <;> first | rfl | (cases f; done)
theorem Wf {G:Hp} {v w:V} {p q:PV} (h1:Rep K C G v p) (h2:Rep K C G w q) (f1:Rk p = true) (f2:Rk q = true):eqV v w = true ↔ p = q:=by
 cases h1 <;> first | (cases f1; done) | (cases h2 <;> first | (cases f2; done) | (simp [eqV]))
inductive Cmp:Nat->PV->PV->Prop where
 | flat {n:Nat} {p q:PV} (hp:Rk p = true) (hq:Rk q = true):Cmp n p q
 | bl {n:Nat} {x y:Bool}:Cmp n (.bl x) (.bl y)
 | lst {n:Nat} {xs ys:List PV} (h:xs.length = ys.length->∀ (i:Nat) (x y:PV),xs[i]? = some x->ys[i]? = some y->Cmp n x y):Cmp (n + 1) (.lst xs) (.lst ys)
 | tup {n:Nat} {xs ys:List PV} (h:∀ (i:Nat) (x y:PV),xs[i]? = some x->ys[i]? = some y->Cmp n x y):Cmp (n + 1) (.tup xs) (.tup ys)
theorem Ov {α:Type} {xs ys:List α} (hl:xs.length = ys.length) (h:∀ (i:Nat) (x y:α),xs[i]? = some x->ys[i]? = some y->x = y):xs = ys:=by
 refine ext_getElem? fun i=>?_
 cases e1:xs[i]? with
 | none=>rw[getElem?_eq_none (by have:=List.getElem?_eq_none_iff.mp e1; omega)]
 | some x =>
  have hi:i < ys.length:=by have:=(List.getElem?_eq_some_iff.mp e1).1; omega
  rw[getElem?_eq_getElem hi,h i x _ e1 (getElem?_eq_getElem hi)]
theorem Cmp.fn {G:Hp} {n:Nat} {p q:PV} (c:Cmp n p q):∀ {v:V},Rep K C G v p->Rep K C G v q->p = q:=by
 induction c with
 | flat hp hq=>intro v h1 h2; cases h1 <;> first | (cases hp; done) | (cases h2 <;> first | (cases hq; done) | rfl)
 | bl=>intro v h1 h2; cases h1; cases h2; rfl
 | @lst n xs ys h ih =>
  intro v h1 h2
  cases h1 with
  | lst e1 l1 q1=>cases h2 with
   | lst e2 l2 q2 =>
    rw[e1] at e2; cases e2
    have hl:xs.length = ys.length:=l1.symm.trans l2
    refine congrArg _ (Ov hl fun i x y hx hy=>?_)
    have hi:=(List.getElem?_eq_some_iff.mp hx).1
    obtain⟨w,hw⟩:=(⟨_,getElem?_eq_getElem (by rw[l1]; exact hi)⟩:∃ w,_ = some w)
    exact ih hl i x y hx hy (q1 i w x hw hx) (q2 i w y hw hy)
 | @tup n xs ys h ih =>
  intro v h1 h2
  cases h1 with
  | tup e1 l1 q1=>cases h2 with
   | tup e2 l2 q2 =>
    rw[e1] at e2; cases e2
    have hl:xs.length = ys.length:=l1.symm.trans l2
    refine congrArg _ (Ov hl fun i x y hx hy=>?_)
    have hi:=(List.getElem?_eq_some_iff.mp hx).1
    obtain⟨w,hw⟩:=(⟨_,getElem?_eq_getElem (by rw[l1]; exact hi)⟩:∃ w,_ = some w)
    exact ih i x y hx hy (q1 i w x hw hx) (q2 i w y hw hy)
noncomputable def pd (a:Prop):Bool:=@decide a (Classical.propDecidable a)
theorem pd_iff {a:Prop}:pd a = true ↔ a:=by unfold pd; exact @decide_eq_true_iff a (Classical.propDecidable a)
theorem Ot {n:Nat} {e:Nat->Bool}:(range n).all e = true ↔ ∀ i,i < n->e i = true:=by
 rw[List.all_eq_true]
 exact⟨fun h i hi=>h i (mem_range.mpr hi),fun h i hi=>h i (mem_range.mp hi)⟩
theorem Gp {a b:Bool} (h:a = true ↔ b = true):a = b:=by
 cases a <;> cases b <;> simp_all
theorem Cmp.eqD {G H:Hp} (s:Same G H) {n:Nat} {p q:PV} (c:Cmp n p q):∀ {v w:V} {b:Bool},Rep K C G v p->Rep K C G w q->(b = true ↔ p = q)->EqD K H n v w b:=by
 induction c with
 | flat hp hq =>
  intro v w b h1 h2 hb
  have e:b = eqV v w:=Gp (hb.trans (Wf h1 h2 hp hq).symm)
  rw[e]
  exact EqD.flat (Su h1 hp) (Su h2 hq)
 | @bl n x y =>
  intro v w b h1 h2 hb
  cases h1
  cases h2
  have e:b = eqV (.bl x) (.bl y):=Gp (by rw[hb]; cases x <;> cases y <;> simp [eqV])
  rw[e]
  exact EqD.flat rfl rfl
 | @lst n xs ys h ih =>
  intro v w b h1 h2 hb
  have cc:Cmp (n + 1) (.lst xs) (.lst ys):=.lst h
  have h1':=h1
  have h2':=h2
  cases h1 with
  | @lst a1 vs1 _ e1 l1 q1=>cases h2 with
   | @lst a2 vs2 _ e2 l2 q2 =>
    by_cases z:a1 = a2
    ·subst z
     rw[show b = true from hb.mpr (cc.fn h1' h2')]
     exact EqD.same _
    ·by_cases hl:xs.length = ys.length
     ·have e:b = (range vs1.length).all (fun i=>pd (xs[i]? = ys[i]?)):=Gp (by
       rw[hb,Ot]
       constructor
       ·intro e i _; rw[pd_iff,PV.lst.inj e]
       ·intro e
        refine congrArg _ (ext_getElem? fun i=>?_)
        by_cases hi:i < vs1.length
        ·exact pd_iff.mp (e i hi)
        ·rw[getElem?_eq_none (by omega),getElem?_eq_none (by omega)])
      rw[e]
      refine EqD.lst _ z (SqL.of (s _ _ e1)) (SqL.of (s _ _ e2)) (by omega) fun i x y hx hy=>?_
      have hi:=(List.getElem?_eq_some_iff.mp hx).1
      have hx':xs[i]? = some xs[i]:=getElem?_eq_getElem (by omega)
      have hy':ys[i]? = some ys[i]:=getElem?_eq_getElem (by omega)
      refine ih hl i _ _ hx' hy' (q1 i x _ hx hx') (q2 i y _ hy hy') ?_
      rw[pd_iff,hx',hy']
      exact⟨fun z=>Option.some.inj z,fun z=>congrArg some z⟩
     ·have e:b = false:=by
       cases b with
       | false=>rfl
       | true=>exact absurd (congrArg length (PV.lst.inj (hb.mp rfl))) hl
      rw[e]
      exact EqD.lstN z (SqL.of (s _ _ e1)) (SqL.of (s _ _ e2)) (by omega)
 | @tup n xs ys h ih =>
  intro v w b h1 h2 hb
  have cc:Cmp (n + 1) (.tup xs) (.tup ys):=.tup h
  have h1':=h1
  have h2':=h2
  cases h1 with
  | @tup a1 vs1 _ e1 l1 q1=>cases h2 with
   | @tup a2 vs2 _ e2 l2 q2 =>
    by_cases z:a1 = a2
    ·subst z
     rw[show b = true from hb.mpr (cc.fn h1' h2')]
     exact EqD.same _
    ·have e:b = ((range (min vs1.length vs2.length)).all (fun i=>pd (xs[i]? = ys[i]?)) && vs1.length == vs2.length):=Gp (by
      rw[hb,and_eq_true,Ot]
      constructor
      ·intro e
       have e':=PV.tup.inj e
       exact⟨fun i _=>by rw[pd_iff,e'],by rw[l1,l2,e']; exact beq_self_eq_true _⟩
      ·rintro ⟨e,el⟩
       have el':vs1.length = vs2.length:=by simpa using el
       refine congrArg _ (ext_getElem? fun i=>?_)
       by_cases hi:i < vs1.length
       ·exact pd_iff.mp (e i (by omega))
       ·rw[getElem?_eq_none (by omega),getElem?_eq_none (by omega)])
     rw[e]
     refine EqD.tup _ z (SqT.of (s _ _ e1)) (SqT.of (s _ _ e2)) fun i x y hx hy=>?_
     have hi:=(List.getElem?_eq_some_iff.mp hx).1
     have hj:=(List.getElem?_eq_some_iff.mp hy).1
     have hx':xs[i]? = some xs[i]:=getElem?_eq_getElem (by omega)
     have hy':ys[i]? = some ys[i]:=getElem?_eq_getElem (by omega)
     refine ih i _ _ hx' hy' (q1 i x _ hx hx') (q2 i y _ hy hy') ?_
     rw[pd_iff,hx',hy']
     exact⟨fun z=>Option.some.inj z,fun z=>congrArg some z⟩
def CmpL (xs ys:List PV):Prop:=xs.length = ys.length->∀ (i:Nat) (x y:PV),xs[i]? = some x->ys[i]? = some y->Cmp 40 x y
theorem CmpL.leq {G H:Hp} (s:Same G H) {vs ws:List V} {xs ys:List PV} (c:CmpL xs ys) (h1:Reps K C G vs xs) (h2:Reps K C G ws ys) {b:Bool} (hb:b = true ↔ xs = ys):LEq K H vs ws b:=by
 by_cases hl:xs.length = ys.length
 ·refine .inr ⟨by rw[h1.1,h2.1,hl],fun i=>pd (xs[i]? = ys[i]?),fun i x y hx hy=>?_,Gp ?_⟩
  ·obtain⟨p,hp,rp⟩:=h1.get hx
   obtain⟨q,hq,rq⟩:=h2.get hy
   refine (c hl i p q hp hq).eqD s rp rq ?_
   rw[pd_iff,hp,hq]
   exact⟨fun z=>Option.some.inj z,fun z=>congrArg some z⟩
  ·rw[hb,Ot,h1.1]
   constructor
   ·intro e i _; rw[pd_iff,e]
   ·intro e
    refine ext_getElem? fun i=>?_
    by_cases hi:i < xs.length
    ·exact pd_iff.mp (e i hi)
    ·rw[getElem?_eq_none (by omega),getElem?_eq_none (by omega)]
 ·refine .inl ⟨by rw[h1.1,h2.1]; exact hl,?_⟩
  cases b with
  | false=>rfl
  | true=>exact absurd (congrArg length (hb.mp rfl)) hl
def AcE (neg:Bool) (p q:PV) (P:PV->Prop):Prop:=∃ xs ys,p = .lst xs/\q = .lst ys/\CmpL xs ys/\∀ b:Bool,(b = true ↔ xs = ys)->P (.bl (if neg then !b else b))
def AkH (neg:Bool) (ua ub:UE):UE:=fun ρ P=>ua ρ fun p=>ub ρ fun q=>AcE neg p q P
theorem Sa {neg:Bool} {ta tb:TE} {ua ub:UE} (ha:EB K C ω ta ua) (hb:EB K C ω tb ub):EU K C ω (tOp (AaG K neg) ta tb) (AkH neg ua ub) :=
 fun B G0 H0 own G σ H ρ P Q S hu k=>two ha hb S hu fun v w p q G' H' gr r1 r2 ⟨xs,ys,e1,e2,c,h⟩=>by
  subst e1 e2
  obtain⟨a,vs,rfl,ea,l⟩:=r1.lst gr.i
  obtain⟨b,ws,rfl,eb,l2⟩:=r2.lst gr.i
  exact⟨a,b,vs,ws,pd (xs = ys),rfl,rfl,SqL.of ea,SqL.of eb,c.leq gr.i l l2 pd_iff,k _ _ G' H' gr (.bl _) (h _ pd_iff)⟩
def Aj6:PV->Option (List PV)
 | .lst xs=>some xs
 | .tup xs=>some xs
 | .ctp xs=>some xs
 | _=>none
def bIn (neg:Bool) (p q:PV) (P:PV->Prop):Prop:=∃ xs,Aj6 q = some xs/\Rk p = true/\(∀ x ∈ xs,Rk x = true)/\∀ b:Bool,(b = true ↔ p ∈ xs)->P (.bl (if neg then !b else b))
def uIn (neg:Bool) (ua ub:UE):UE:=fun ρ P=>ua ρ fun p=>ub ρ fun q=>bIn neg p q P
theorem RepB.seq {G H:Hp} {v:V} {q:PV} {xs:List PV} (i:Same G H) (h:RepB K C G H v q) (e:Aj6 q = some xs):∃ a vs,v = .ref a/\(SqL K H a vs\/SqT K H a vs)/\Reps K C G vs xs:=by
 cases q <;> first | cases e | skip
 ·obtain⟨a,vs,e,ea,l⟩:=h.lst i; exact⟨a,vs,e,.inl (SqL.of ea),l⟩
 ·obtain⟨a,vs,e,ea,l⟩:=h.tup i; exact⟨a,vs,e,.inr (SqT.of ea),l⟩
 ·rcases h with h | ⟨a,_,h⟩
  ·cases h with
   | ctp e l q=>exact⟨_,_,rfl,.inr (e H),l,q⟩
  ·exact h.elim
theorem Td {neg:Bool} {ta tb:TE} {ua ub:UE} (ha:EU K C ω ta ua) (hb:EB K C ω tb ub):EU K C ω (tOp (rIn K neg) ta tb) (uIn neg ua ub) :=
 fun B G0 H0 own G σ H ρ P Q S hu k=>ha B G0 H0 own G σ H ρ _ _ S hu fun v p G1 H1 w1 r1 h1=>hb B G0 H0 own G1 σ H1 ρ _ _ (S.grow w1) h1 fun w q G2 H2 w2 r2 ⟨xs,e,f1,f2,h⟩=>by
  obtain⟨a,vs,rfl,sq,l⟩:=r2.seq w2.i e
  have r1':=r1.mono w2.g
  have hb:inV v vs = pd (p ∈ xs):=Gp (by
   rw[pd_iff]
   unfold inV
   rw[any_eq_true]
   constructor
   ·rintro ⟨y,hy,e⟩
    obtain⟨i,hi⟩:=getElem?_of_mem hy
    obtain⟨x,hx,rx⟩:=l.get hi
    rw[<- (Wf rx r1' (f2 x (mem_of_getElem? hx)) f1).mp e]
    exact mem_of_getElem? hx
   ·intro m
    obtain⟨i,hi⟩:=getElem?_of_mem m
    obtain⟨y,hy,ry⟩:=l.get' hi
    exact⟨y,mem_of_getElem? hy,(Wf ry r1' f1 f1).mpr rfl⟩)
  refine⟨a,vs,rfl,sq,Su r1' f1,?_,?_⟩
  ·rw[List.all_eq_true]
   intro y hy
   obtain⟨i,hi⟩:=getElem?_of_mem hy
   obtain⟨x,hx,rx⟩:=l.get hi
   exact Su rx (f2 x (mem_of_getElem? hx))
  ·rw[hb]; exact k _ _ G2 H2 (w1.trans w2) (.bl _) (h _ pd_iff)
def tyP:PV->Option String
 | .non=>some "NoneType"
 | .bl _=>some "bool"
 | .int _=>some "int"
 | .str _=>some "str"
 | .lst _=>some "list"
 | .tup _=>some "tuple"
 | .dk _=>some "dict"
 | .dt _=>some "dict"
 | _=>none
def kit (T n:String):Bool:=T == n || (T == "bool" && n == "int")
def AgO:List String:=["NoneType","bool","int","str","list","tuple","dict"]
def Agz:List String:=["bool","int","str","list","tuple","dict"]
theorem AiM:∀ T ∈ AgO,∀ n ∈ Agz,(if (Value.type T == Value.type n) = true then some true else if kitMeta n = true then (fastBuiltinMro T).map (·.contains (Value.type n)) else none) = some (kit T n):=by decide +kernel
theorem Anl {G H:Hp} (i:Same G H) {v:V} {p:PV} {T:String} (h:RepB K C G H v p) (e:tyP p = some T):Gk K H v (.type T)/\T ∈ AgO:=by
 cases p <;> first | cases e | skip
 ·rcases h with h | ⟨_,_,h⟩
  ·cases h; exact⟨.non,by decide⟩
  ·exact h.elim
 ·rw[h.bl]; exact⟨.bl _,by decide⟩
 ·rw[h.int]; exact⟨.int _,by decide⟩
 ·rw[h.str]; exact⟨.str _,by decide⟩
 ·obtain⟨a,vs,rfl,ea,l⟩:=h.lst i; exact⟨.lst ea,by decide⟩
 ·obtain⟨a,vs,rfl,ea,l⟩:=h.tup i; exact⟨.tup ea,by decide⟩
 ·obtain⟨a,vs,rfl,ea,l⟩:=h.dk i; exact⟨.dK ea,by decide⟩
 ·obtain⟨a,vs,rfl,ea,l⟩:=h.dt i; exact⟨.dT ea,by decide⟩
def AfE (n:String) (p:PV) (P:PV->Prop):Prop:=∃ T,tyP p = some T/\P (.bl (kit T n))
def Ak9 (n:String) (ua:UE):UE:=fun ρ P=>ua ρ fun p=>AfE n p P
theorem AlJ {n:String} {ta:TE} {ua:UE} (ha:EB K C ω ta ua) (hn:n ∈ Agz:=by decide):EU K C ω (tCB (fun vs H Q=>∃ x n t b,vs = [x,.ty n]/\Gk K H x t/\kitOne K t (.type n) = some b/\Q (.bl b) H) (Fy ta (Fy (tC (.ty n)) Ln))) (Ak9 n ua) :=
 fun B G0 H0 own G σ H ρ P Q S hu k=>ha B G0 H0 own G σ H ρ _ _ S hu fun v p G1 H1 w1 r1 ⟨T,e,h⟩=>by
  obtain⟨ty,hT⟩:=Anl w1.i r1 e
  exact⟨v,n,_,_,rfl,ty,Qh (AiM T hT n hn),k _ _ G1 H1 w1 (.bl _) h⟩
end
section
variable {K:Frag} {C:Addr} {ω:Om}
def vP:V->PV
 | .int i=>.int i
 | .str x=>.str x
 | .bl b=>.bl b
 | _=>.non
def scV:V->Bool
 | .int _=>true
 | .str _=>true
 | .bl _=>true
 | .non=>true
 | _=>false
theorem AjX {G:Hp} {v w:V} (hs:scV w = true) (h:Rep K C G v (vP w)):v = w:=by
 cases w <;> first | (cases hs; done) | (cases h; rfl)
theorem AeK {G:Hp} {w:V} (hs:scV w = true):Rep K C G w (vP w):=by
 cases w <;> first | (cases hs; done) | constructor
theorem AeF {G:Hp} {vs ws:List V} (hs:∀ w ∈ ws,scV w = true) (h:Reps K C G vs (ws.map vP)):vs = ws:=by
 refine Ov (by rw[h.1,length_map]) fun i x y hx hy=>?_
 exact AjX (hs y (mem_of_getElem? hy)) (h.2 i x (vP y) hx (by rw[getElem?_map,hy]; rfl))
theorem AeN {G:Hp} {ws:List V} (hs:∀ w ∈ ws,scV w = true):Reps K C G ws (ws.map vP) :=
 ⟨by rw[length_map],fun i v p h1 h2=>by
  rw[getElem?_map,h1] at h2
  cases h2
  exact AeK (hs v (mem_of_getElem? h1))⟩
theorem Uk {G:Hp} {v:V} {ws:List V} (hs:∀ w ∈ ws,scV w = true) (h:Rep K C G v (.tup (ws.map vP))):∃ p,v = .ref p/\G p = some (.tup ws):=by
 cases h with
 | tup e l q=>rw[AeF hs ⟨l,q⟩] at e; exact⟨_,rfl,e⟩
theorem Ul {G:Hp} {p:Addr} {ws:List V} (hs:∀ w ∈ ws,scV w = true) (e:G p = some (.tup ws)):Rep K C G (.ref p) (.tup (ws.map vP)):=Rep.ofT e (AeN hs)
def sgW (s:Sg):List V:=[.int s.1,.str s.2.1,.int s.2.2]
def prW (m:Int × Int):List V:=[.int m.1,.int m.2]
def jnW (j:Jn):List V:=[.int j.1,.int j.2.1,.int j.2.2]
def sgP (s:Sg):PV:=.tup [.int s.1,.str s.2.1,.int s.2.2]
def prP (m:Int × Int):PV:=.tup [.int m.1,.int m.2]
def jnP (j:Jn):PV:=.tup [.int j.1,.int j.2.1,.int j.2.2]
theorem Ad3 (s:Sg):∀ w ∈ sgW s,scV w = true:=by intro w hw; simp [sgW] at hw; rcases hw with rfl | rfl | rfl <;> rfl
theorem Ad4 (s:Int × Int):∀ w ∈ prW s,scV w = true:=by intro w hw; simp [prW] at hw; rcases hw with rfl | rfl <;> rfl
theorem Ae8 (s:Jn):∀ w ∈ jnW s,scV w = true:=by intro w hw; simp [jnW] at hw; rcases hw with rfl | rfl | rfl <;> rfl
theorem AfY {G:Hp} {v:V} {s:Sg}:Rep K C G v (sgP s) ↔ TripAt G v s:=⟨fun h=>let ⟨p,e,hp⟩:=Uk (Ad3 s) h; ⟨p,e,hp⟩,fun⟨p,e,hp⟩=>by subst e; exact Ul (Ad3 s) hp⟩
theorem AfX {G:Hp} {v:V} {s:Int × Int}:Rep K C G v (prP s) ↔ PairAt G v s:=⟨fun h=>let ⟨p,e,hp⟩:=Uk (Ad4 s) h; ⟨p,e,hp⟩,fun⟨p,e,hp⟩=>by subst e; exact Ul (Ad4 s) hp⟩
theorem AiR {G:Hp} {v:V} {s:Jn}:Rep K C G v (jnP s) ↔ TrjAt G v s:=⟨fun h=>let ⟨p,e,hp⟩:=Uk (Ae8 s) h; ⟨p,e,hp⟩,fun⟨p,e,hp⟩=>by subst e; exact Ul (Ae8 s) hp⟩
theorem Ts {α:Type} {R:Hp->V->α->Prop} {f:α->PV} (hf:∀ {G:Hp} {v:V} {s:α},Rep K C G v (f s) ↔ R G v s) {G:Hp} {vs:List V} {S:List α}:Reps K C G vs (S.map f) ↔ LAt R G vs S:=by
 constructor
 ·intro h
  refine⟨by rw[h.1,length_map],fun i x y hx hy=>hf.mp (h.2 i x (f y) hx (by rw[getElem?_map,hy]; rfl))⟩
 ·intro h
  refine⟨by rw[h.1,length_map],fun i x y hx hy=>?_⟩
  rw[getElem?_map] at hy
  obtain⟨s,hs,e⟩:=map_eq_some_iff.mp hy
  rw[<- e]
  exact hf.mpr (h.2 i x s hx hs)
def Nl (G H H':Hp):Hp:=fun a=>match H' a with
 | some (.tup xs)=>some (.tup xs)
 | o=>match H a with
  | none=>o
  | some _=>G a
theorem Oz {G H H':Hp} {a:Addr} {xs:List V} (e:H' a = some (.tup xs)):Nl G H H' a = some (.tup xs):=by unfold Nl; rw[e]
theorem Ft {G H H':Hp} {a:Addr} {o:HO} (n:H a = none) (e:H' a = some o):Nl G H H' a = some o:=by
 unfold Nl; rw[e,n]; cases o <;> rfl
theorem Sh {G H H':Hp} {a:Addr} {o:HO} (h:H a = some o) (s:Same H H') (t:Rh o):Nl G H H' a = G a:=by
 unfold Nl; rw[s _ _ h,h]
 cases o <;> first | rfl | exact absurd rfl (t _)
theorem Ro {G H H':Hp} (i:Same G H) (s:Same H H'):Grow G H (Nl G H H') H':=by
 refine⟨fun a o h=>?_,s,fun a o h=>?_,fun a o h t hg=>by rw[Sh h s t]; exact hg⟩
 ·have h1:=i _ _ h
  by_cases t:Rh o
  ·rw[Sh h1 s t]; exact h
  ·have:∃ xs,o = .tup xs:=Classical.byContradiction fun z=>t fun xs w=>z ⟨xs,w⟩
   obtain⟨xs,rfl⟩:=this
   exact Oz (s _ _ h1)
 ·cases e:H' a with
  | none =>
   unfold Nl at h; rw[e] at h
   cases e2:H a with
   | none=>rw[e2] at h; cases h
   | some u=>rw[s _ _ e2] at e; cases e
  | some u =>
   by_cases t:Rh u
   ·cases e2:H a with
    | none=>rw[Ft e2 e] at h; exact h
    | some w =>
     have:=s _ _ e2
     rw[e] at this; cases this
     rw[Sh e2 s t] at h
     rw[i _ _ h] at e2; cases e2; rfl
   ·have:∃ xs,u = .tup xs:=Classical.byContradiction fun z=>t fun xs w=>z ⟨xs,w⟩
    obtain⟨xs,rfl⟩:=this
    rw[Oz e] at h; exact h
theorem AmA {G H:Hp} {l m n:Bool} {vs:List V} {ps:List PV} (h:ArgsOk K C G H [l,m,n] vs ps):∃ v w x p q r,vs = [v,w,x]/\ps = [p,q,r]/\RepB K C G H v p/\RepB K C G H w q/\RepB K C G H x r:=by
 match vs,ps,l,h with
 | v :: vs,p :: ps,true,h=>obtain⟨w,x,q,r,rfl,rfl,h1,h2⟩:=Sr h.2; exact⟨v,w,x,p,q,r,rfl,rfl,.inl h.1,h1,h2⟩
 | v :: vs,p :: ps,false,h=>obtain⟨w,x,q,r,rfl,rfl,h1,h2⟩:=Sr h.2; exact⟨v,w,x,p,q,r,rfl,rfl,h.1,h1,h2⟩
 | [],_,true,h=>cases h
 | [],_,false,h=>cases h
 | _ :: _,[],true,h=>cases h
 | _ :: _,[],false,h=>cases h
def bMk (P:PV->Prop) (ps:List PV):Prop:=∃ S M J,ps = [.lst (S.map sgP),.lst (M.map prP),.lst (J.map jnP)]/\(∀ s ∈ S,Yq s)/\(∀ m ∈ M,0 <= m.1/\0 <= m.2)/\(S.map (·.1) ++ Fr M).Nodup/\Ac6 (kK S ++ kM M) J/\S.length + 2 * M.length <= 400/\P (.bk S M J)
def uMk (u:UA):UE:=fun ρ P=>u ρ fun ps=>bMk P ps
theorem AmL {E:XK} {t:TA} {u:UA} (ha:AU K C ω [false,false,false] t u):EU K C ω (Aho C (Aa1 C) [] E t) (uMk u) :=
 fun B G0 H0 own G σ H ρ P Q St hu k=>ha B G0 H0 own G σ H ρ _ _ St hu fun vs ps G1 H1 w1 ok ⟨S,M,J,e,so,mo,nd,jo,hl,h⟩=>by
  obtain⟨v,w,y,p,q,r,rfl,e2,r1,r2,r3⟩:=AmA ok
  rw[e] at e2; cases e2
  obtain⟨a1,xs,rfl,ea1,l1⟩:=r1.lst w1.i
  obtain⟨a2,ys,rfl,ea2,l2⟩:=r2.lst w1.i
  obtain⟨a3,zs,rfl,ea3,l3⟩:=r3.lst w1.i
  intro x dx hx hdx ndx
  have sB:Same H1 (upd (upd H1 dx (.own x)) x (.ins C dx [])):=fun q' o e=>by rw[Bh (By e hx),Bh (By e hdx)]; exact e
  have sG:=w1.i.trans sB
  refine⟨x,dx,a1,a2,a3,xs,ys,zs,S,M,J,rfl,Bl,sB _ _ ea1,sB _ _ ea2,sB _ _ ea3,((Ts AfY).mp l1).tripS sG,((Ts AfX).mp l2).pairS sG,((Ts AiR).mp l3).trjS sG,so,mo,nd,jo,hl,fun H2 kvs dx' dk dr dm dp dw kp fk fr fm fp fw e1 e2 e3 e4 e5 e6 lkv=>⟨rfl,?_⟩⟩
  have s2:Same H1 H2:=fun q' o e=>kp q' o (sB q' o e) (By e hx)
  have g:=Ro w1.i s2
  refine k _ _ _ H2 (w1.trans g) (.bk (kvs:=kvs) ⟨dx',dk,dr,dm,dp,dw,Ft hx e1,Ft (sB.free fk) e2,Ft (sB.free fr) e3,Ft (sB.free fm) e4,Ft (sB.free fp) e5,Ft (sB.free fw) e6⟩ ?_) h
  exact lkv.mono fun _ _ ⟨z1,p,z2,z3⟩=>⟨z1,p,z2,Oz z3⟩
def An8:V->Str
 | .str x=>x
 | _=>"plain"
def Ch (S:List Sg) (M:List (Int × Int)) (n:Int):Str:=An8 ((Cs (kK S ++ kM M) (Sum.inl n)).getD (.str "plain"))
def Ry (M:List (Int × Int)) (n:Int):PV:=vP ((Cs (kB M) (Sum.inl n)).getD .non)
theorem Aa8 {κ:Type} [DecidableEq κ] {kvs:List (κ × V)} {k:κ} {v:V} (h:Cs kvs k = some v):∃ x,(x,v) ∈ kvs:=by
 unfold Cs at h
 obtain⟨kv,h1,h2⟩:=map_eq_some_iff.mp h
 exact⟨kv.1,by rw[<- h2]; exact List.mem_of_find?_eq_some h1⟩
theorem Aig {M:List (Int × Int)} {x:Key} {v:V} (h:(x,v) ∈ kM M):∃ s,v = .str s:=by
 induction M with
 | nil=>cases h
 | cons m r ih =>
  rcases mem_cons.mp h with e | h
  ·cases e; exact⟨_,rfl⟩
  ·rcases mem_cons.mp h with e | h
   ·cases e; exact⟨_,rfl⟩
   ·exact ih h
theorem AiT {M:List (Int × Int)} {x:Key} {v:V} (h:(x,v) ∈ kB M):∃ s,v = .int s:=by
 induction M with
 | nil=>cases h
 | cons m r ih =>
  rcases mem_cons.mp h with e | h
  ·cases e; exact⟨_,rfl⟩
  ·rcases mem_cons.mp h with e | h
   ·cases e; exact⟨_,rfl⟩
   ·exact ih h
theorem Alx (S:List Sg) (M:List (Int × Int)) (n:Int):(Cs (kK S ++ kM M) (Sum.inl n)).getD (.str "plain") = .str (Ch S M n):=by
 unfold Ch
 cases e:Cs (kK S ++ kM M) (Sum.inl n) with
 | none=>rfl
 | some v =>
  obtain⟨x,hx⟩:=Aa8 e
  rcases mem_append.mp hx with h | h
  ·obtain⟨s,_,e2⟩:=mem_map.mp h; cases e2; rfl
  ·obtain⟨s,rfl⟩:=Aig h; rfl
theorem AkA {G:Hp} (M:List (Int × Int)) (n:Int):Rep K C G ((Cs (kB M) (Sum.inl n)).getD .non) (Ry M n):=by
 unfold Ry
 refine AeK ?_
 cases e:Cs (kB M) (Sum.inl n) with
 | none=>rfl
 | some v=>obtain⟨x,hx⟩:=Aa8 e; obtain⟨s,rfl⟩:=AiT hx; rfl
def bBk (p:PV) (R:List Sg->List (Int × Int)->List Jn->Prop):Prop:=∃ S M J,p = .bk S M J/\R S M J
def uM1 (f:List Sg->List (Int × Int)->List Jn->Int->PV) (ua ub:UE):UE:=fun ρ P=>ua ρ fun p=>bBk p fun S M J=>ub ρ fun q=>bU (fun n=>f S M J n) q P
theorem RepB.bk {G H:Hp} {v:V} {S:List Sg} {M:List (Int × Int)} {J:List Jn} (h:RepB K C G H v (.bk S M J)):∃ b kvs,v = .ref b/\BookAt C G b (kK S ++ kM M) (kR S) (kB M) kvs (kW J)/\LAt KvAt G kvs J:=by
 rcases h with h | ⟨a,_,h⟩
 ·cases h with
  | bk h l=>exact⟨_,_,rfl,h,l⟩
 ·exact h.elim
theorem AhY {nm:Str} {E:XK} {sp:Sp} {f:List Sg->List (Int × Int)->List Jn->Int->PV} {ta tb:TE} {ua ub:UE} (hm:∀ {dk dr dm dp dw:Addr},(bkF dk dr dm dp dw).lookup nm = none)
  (hs:∀ G H b S M J kvs n Q,Same G H->BookAt C G b (kK S ++ kM M) (kR S) (kB M) kvs (kW J)->LAt KvAt G kvs J->(∀ v,Rep K C G v (f S M J n)->Q v H)->sp [.ref b,.int n] H Q E)
  (ha:EB K C ω ta ua) (hb:EB K C ω tb ub):EU K C ω (Va C nm sp [] E ta (Fy tb Ln)) (uM1 f ua ub) :=
 fun B G0 H0 own G σ H ρ P Q St hu k=>ha B G0 H0 own G σ H ρ _ _ St hu fun v p G1 H1 w1 r1 ⟨S,M,J,e,h1⟩=>by
  subst e
  obtain⟨b,kvs,rfl,bk,l⟩:=r1.bk
  refine Aao (bk.mono fun _ _ e _=>w1.i _ _ e) hm (hb B G0 H0 own G1 σ H1 ρ _ _ (St.grow w1) h1 fun w q G2 H2 w2 r2 ⟨n,e,h⟩=>?_)
  subst e
  rw[r2.int]
  exact hs G2 H2 b S M J kvs n Q w2.i (bk.mono fun _ _ e _=>w2.g _ _ e) (l.kvS w2.g) fun v rv=>k v _ G2 H2 (w1.trans w2) rv h
theorem AiH {E:XK} {ta tb:TE} {ua ub:UE} (ha:EB K C ω ta ua) (hb:EB K C ω tb ub):EU K C ω (Va C "kind" (Wg C) [] E ta (Fy tb Ln)) (uM1 (fun S M _ n=>.str (Ch S M n)) ua ub) :=
 AhY Zp (fun G H b S M J kvs n Q i bk l k=>⟨b,n,_,_,_,_,_,rfl,bk.mono fun _ _ e _=>i _ _ e,by rw[Alx]; exact k _ (.str _)⟩) ha hb
theorem Ai6 {E:XK} {ta tb:TE} {ua ub:UE} (ha:EB K C ω ta ua) (hb:EB K C ω tb ub):EU K C ω (Va C "mate" (Abx C) [] E ta (Fy tb Ln)) (uM1 (fun _ M _ n=>Ry M n) ua ub) :=
 AhY Zb (fun G H b S M J kvs n Q i bk l k=>⟨b,n,_,_,_,_,_,rfl,bk.mono fun _ _ e _=>i _ _ e,k _ (AkA M n)⟩) ha hb
end
section
variable {ρ:Bg} {P:PV->Prop} {B:Bool->Prop} {R:Bg->Prop} {d:Fq} {ua ub uc:UE} {ta tb:UT} {u w:US} {x y:PV}
theorem Jd (q:u { d with nx:=w d } ρ):Af8 u w d ρ:=q
theorem AeU (q:d.nx ρ):Ah0 d ρ:=q
theorem Abp {i:Nat} {s:Sl} (h:ρ[i]? = some s) (q:u d (ρ.set i (Qr s))):Zf i u d ρ:=by unfold Zf Ju; rw[h]; exact q
theorem Ag2 (q:ua ρ d.rt):Agg ua d ρ:=q
theorem Adk {i:Nat} (h:ρ[i]? = some (.ow x)) (q:d.rt x):AhN i d ρ:=⟨x,h,q⟩
theorem AjF (q:ta ρ fun b=>if b = true then u d ρ else w d ρ):Aks ta u w d ρ:=q
theorem Ah4 {i:Nat} (q:ua ρ fun p=>d.nx (ρ.set i (.sh p))):Alw i ua d ρ:=q
theorem Afa {i:Nat} (q:ua ρ fun p=>d.nx (ρ.set i (.ow p))):AgC i ua d ρ:=q
theorem Abb {i:Nat} (q:R (ρ.set i (.sh x))):AdD i x ρ R:=q
theorem AdH {n:Nat} {ps:List PV} {us:List PV->Bg->(Bg->Prop)->Prop} (hl:ps.length = n) (q:us ps ρ R):Yo n us (.tup ps) ρ R:=⟨ps,rfl,hl,q⟩
theorem AbB {r:List PV} {ug:PV->Bg->(Bg->Prop)->Prop} {us:List PV->Bg->(Bg->Prop)->Prop} (q:ug x ρ fun ρ'=>us r ρ' R):AbI ug us (x :: r) ρ R:=⟨x,r,rfl,q⟩
theorem Aef (q:R ρ):AdK [] ρ R:=⟨rfl,q⟩
theorem Abv {us:List PV->Bg->(Bg->Prop)->Prop} {s:Sg} (q:us [.int s.1,.str s.2.1,.int s.2.2] ρ R):Yo 3 us (sgP s) ρ R:=⟨_,rfl,rfl,q⟩
theorem AbN {us:List PV->Bg->(Bg->Prop)->Prop} {s:Int × Int} (q:us [.int s.1,.int s.2] ρ R):Yo 2 us (prP s) ρ R:=⟨_,rfl,rfl,q⟩
theorem AhR {i:Nat} {s:Sl} (h1:ρ[i]? = some s) (h2:s.val = some x) (q:P x):AkG i ρ P:=⟨s,x,h1,h2,q⟩
theorem AeG {i:Nat} (h1:ρ[i]? = some (.sh x)) (q:P x):Ah6 i ρ P:=⟨x,h1,q⟩
theorem p_c (q:P x):uC x ρ P:=q
theorem Al9 {g:Int->Int->PV} (q:ua ρ fun p=>ub ρ fun q=>bI0 g p q P):uI0 g ua ub ρ P:=q
theorem Aky {g:Int->Int->PV} {i j:Int} (q:P (g i j)):bI0 g (.int i) (.int j) P:=⟨i,j,rfl,rfl,q⟩
theorem p_i {c:Int->Int->Prop} {g:Int->Int->PV} (q:ua ρ fun p=>ub ρ fun q=>bI c g p q P):uI c g ua ub ρ P:=q
theorem AgJ {g:Int->Int->PV} {i j:Int} (q:P (g i j)) (hc:0 < j):bI (fun _ j=>0 < j) g (.int i) (.int j) P:=⟨i,j,rfl,rfl,hc,q⟩
theorem AgZ {g:Int->Int->PV} {i j:Int} (q:P (g i j)) (hc:Tr i j):bI Tr g (.int i) (.int j) P:=⟨i,j,rfl,rfl,hc,q⟩
theorem AgA {g:Int->Int->PV} {i j:Int} (q:P (g i j)) (hc:CMul i j):bI CMul g (.int i) (.int j) P:=⟨i,j,rfl,rfl,hc,q⟩
theorem AhA {g:Int->Int->PV} {i j:Int} (q:P (g i j)) (hc:Ab3 i j):bI Ab3 g (.int i) (.int j) P:=⟨i,j,rfl,rfl,hc,q⟩
theorem p_u {g:Int->PV} (q:ua ρ fun p=>bU g p P):uU g ua ρ P:=q
theorem b_u {g:Int->PV} {i:Int} (q:P (g i)):bU g (.int i) P:=⟨i,rfl,q⟩
theorem AhB {neg:Bool} (q:ua ρ fun p=>ub ρ fun q=>Wh neg p q P):Ago neg ua ub ρ P:=q
theorem Ag6 {i j:Int} (q:P (.bl (decide (i = j)))):Wh false (.int i) (.int j) P:=.inl ⟨i,j,rfl,rfl,q⟩
theorem AhX {i j:Int} (q:P (.bl (!decide (i = j)))):Wh true (.int i) (.int j) P:=.inl ⟨i,j,rfl,rfl,q⟩
theorem AgM {i j:Str} (q:P (.bl (decide (i = j)))):Wh false (.str i) (.str j) P:=.inr ⟨i,j,rfl,rfl,q⟩
theorem AgR {i j:Str} (q:P (.bl (!decide (i = j)))):Wh true (.str i) (.str j) P:=.inr ⟨i,j,rfl,rfl,q⟩
theorem Ag7 (q:ua ρ fun p=>P (.bl (isN p))):AcN false ua ρ P:=q
theorem Ad5 (q:ua ρ fun p=>P (.bl (!isN p))):AcN true ua ρ P:=q
theorem p_b (q:ua ρ fun p=>bB p B):uB ua ρ B:=q
theorem b_b {b:Bool} (q:B b):bB (.bl b) B:=⟨b,rfl,q⟩
theorem AgK (q:ta ρ fun b=>if b = true then tb ρ B else B false):Alu ta tb ρ B:=q
theorem AlH (q:ta ρ fun b=>if b = true then B true else tb ρ B):uOr ta tb ρ B:=q
theorem AhK (q:ta ρ fun b=>B (!b)):Al6 ta ρ B:=q
theorem AhU (q:ta ρ fun b=>if b = true then ua ρ P else ub ρ P):uIf ta ua ub ρ P:=q
theorem AgE {L:List PV->Prop} (q:L []):Akf ρ L:=q
theorem Ad6 {L:List PV->Prop} {ur:UA} (q:ua ρ fun p=>ur ρ fun ps=>L (p :: ps)):AcF ua ur ρ L:=q
theorem AhG {ur:UA} (q:ur ρ fun ps=>P (.lst ps)):Akz ur ρ P:=q
theorem AhS {ur:UA} (q:ur ρ fun ps=>P (.tup ps)):Aj5 ur ρ P:=q
theorem AgT (q:ua ρ fun p=>ub ρ fun q=>Wi p q P):AlO ua ub ρ P:=q
theorem Nk {ps:List PV} {i:Int} (h:atI ps i = some x) (q:P x):Wi (.lst ps) (.int i) P:=⟨i,ps,x,rfl,.inl rfl,h,q⟩
theorem Ang {ns:List Int} {i n:Int} (h:atI ns i = some n) (q:P (.int n)):Wi (.scr ns) (.int i) P:=⟨i,_,_,rfl,.inr ⟨ns,rfl,rfl⟩,by
 unfold L2.atI at h ⊢
 rw[length_map]
 cases e:ixN ns.length i with
 | none=>rw[e] at h; cases h
 | some j=>rw[e] at h; show (ns.map PV.int)[j]? = _; rw[getElem?_map,show ns[j]? = some n from h]; rfl,q⟩
theorem AgL (q:ua ρ fun p=>ub ρ fun q=>AaK p q P):AkO ua ub ρ P:=q
theorem Adi {a:PV} {r:List PV} (q:P a):AaK (.tup (a :: r)) (.int 0) P:=⟨0,_,_,rfl,rfl,Gd (j:=0) rfl,q⟩
theorem Afg {a b:PV} {r:List PV} (q:P b):AaK (.tup (a :: b :: r)) (.int 1) P:=⟨1,_,_,rfl,rfl,Gd (j:=1) rfl,q⟩
theorem Ae6 {a b c:PV} {r:List PV} (q:P c):AaK (.tup (a :: b :: c :: r)) (.int 2) P:=⟨2,_,_,rfl,rfl,Gd (j:=2) rfl,q⟩
theorem Aal {O:Option Int->Prop} (q:O none):AaW ρ O:=q
theorem Aez {O:Option Int->Prop} (q:ua ρ fun p=>Ade p O):Ag0 ua ρ O:=q
theorem Aet {O:Option Int->Prop} {i:Int} (q:O (some i)):Ade (.int i) O:=⟨i,rfl,q⟩
theorem Ahh {ul uh:UO} (q:ua ρ fun p=>ul ρ fun lo=>uh ρ fun hi=>AcQ p lo hi P):Ajs ua ul uh ρ P:=q
theorem AhD {ps:List PV} {lo hi:Option Int} (q:P (.lst (Fe ps lo hi))):AcQ (.lst ps) lo hi P:=⟨ps,.inl rfl,q⟩
theorem Ahl {ns:List Int} {lo hi:Option Int} (q:P (.lst ((Fe ns lo hi).map .int))):AcQ (.scr ns) lo hi P:=⟨_,.inr ⟨ns,rfl,rfl⟩,by rw[Oe]; exact q⟩
theorem Ahg (q:ua ρ fun p=>ub ρ fun q=>Agd p q P):AlB ua ub ρ P:=q
theorem Ahq {xs ys:List PV} (q:P (.lst (xs ++ ys))) (hl:xs.length + ys.length <= 100000):Agd (.lst xs) (.lst ys) P:=⟨xs,ys,rfl,rfl,hl,q⟩
theorem AlF {ur:List PV->(PV->Prop)->Prop} {us:UA} (q:us ρ fun ps=>ur ps P):uCB ur us ρ P:=q
theorem AdY {xs:List PV} (q:P (.int (xs.length:Nat))):AcL [.lst xs] P:=⟨_,.inr (.inl ⟨xs,rfl,rfl⟩),q⟩
theorem Ad7 {ns:List Int} (q:P (.int (ns.length:Nat))):AcL [.scr ns] P:=⟨_,.inr (.inr (.inr ⟨ns,rfl,rfl⟩)),q⟩
theorem AgI {i j:Int} (q:P (.int (if j < i then j else i))):AhM [.int i,.int j] P:=⟨i,j,rfl,q⟩
theorem AhV {i j:Int} (q:P (.int (if j > i then j else i))):AgB [.int i,.int j] P:=⟨i,j,rfl,q⟩
theorem Abh {xs:List PV} (q:P (.lst xs)):Ae4 [.lst xs] P:=⟨xs,.inl rfl,q⟩
theorem Ahm {i:Nat} {us:UA} {ps:List PV} (h:ρ[i]? = some (.ow (.lst ps))) (q:us ρ fun qs=>Af0 i ρ d.nx qs):Ahi i us d ρ:=⟨⟨ps,h⟩,q⟩
theorem Ah1 {i:Nat} {N:Bg->Prop} {ps:List PV} (h:ρ[i]? = some (.ow (.lst ps))) (q:N (ρ.set i (.ow (.lst (ps ++ [x]))))) (hl:ps.length < 100000):Af0 i ρ N [x]:=⟨x,ps,rfl,h,hl,q⟩
theorem AhF {neg:Bool} (q:ua ρ fun p=>ub ρ fun q=>Agf neg p q P):AkP neg ua ub ρ P:=q
theorem Ahx {kvs:List (Key × PV)} {n:Int} (q:P (.bl (Gb kvs (.inl n)).isSome)):Agf false (.int n) (.dk kvs) P:=⟨kvs,.inl n,rfl,rfl,q⟩
theorem Ae7 (q:ua ρ fun p=>ub ρ fun q=>Vd p q P):Ahs ua ub ρ P:=q
theorem Uz {kvs:List (Key × PV)} {n:Int} (h:Gb kvs (.inl n) = some x) (q:P x):Vd (.dk kvs) (.int n) P:=⟨kvs,.inl n,x,rfl,rfl,h,q⟩
theorem Abt {i:Nat} {s:Sl} {kvs:List (Key × PV)} (h1:ρ[i]? = some s) (h2:s.val = some (.dk kvs)) (q:ub ρ fun q=>uc ρ fun z=>Aaq kvs q z P):Adz i ub uc ρ P:=⟨s,kvs,h1,h2,q⟩
theorem Abf {kvs:List (Key × PV)} {n:Int} (q:P ((Gb kvs (.inl n)).getD x)):Aaq kvs (.int n) x P:=⟨.inl n,rfl,q⟩
theorem Adq {i:Nat} {kvs:List (Key × PV)} (h:ρ[i]? = some (.ow (.dk kvs))) (q:ub ρ fun p=>ua ρ fun q=>Acu i ρ d.nx p q):AgS i ua ub d ρ:=⟨⟨kvs,h⟩,q⟩
theorem AdW {i:Nat} {kvs:List (Key × PV)} {n:Int} {N:Bg->Prop} (h:ρ[i]? = some (.ow (.dk kvs))) (q:N (ρ.set i (.ow (.dk (Lr kvs (.inl n) x))))) (hl:kvs.length < 100000):Acu i ρ N x (.int n):=⟨kvs,.inl n,h,rfl,hl,q⟩
theorem Ag3 {ui:UI} {ug:PV->Bg->(Bg->Prop)->Prop} (q:ui ρ fun ps=>So ps ug u d ρ):AfQ ui ug u d ρ:=q
theorem Agw {L:List PV->Prop} (q:ua ρ fun p=>bL p L):uiL ua ρ L:=q
theorem b_L {L:List PV->Prop} {ps:List PV} (q:L ps):bL (.lst ps) L:=⟨ps,.inl rfl,q⟩
theorem AeM {L:List PV->Prop} {i:Nat} (h:ρ[i]? = some (.bo x)) (q:bL x L):uiB i ρ L:=let ⟨ps,e,q⟩:=q; ⟨_,x,ps,h,.inl rfl,e,q⟩
theorem Aen {L:List PV->Prop} {i:Nat} (h:ρ[i]? = some (.sh x)) (q:bL x L):uiB i ρ L:=let ⟨ps,e,q⟩:=q; ⟨_,x,ps,h,.inr rfl,e,q⟩
theorem AdV {us:UA} {ug:PV->Bg->(Bg->Prop)->Prop} (q:us ρ fun ps=>bR1 (fun n=>Vj 0 n ug u d ρ) ps):AgQ us ug u d ρ:=q
theorem Aex {us:UA} {ug:PV->Bg->(Bg->Prop)->Prop} (q:us ρ fun ps=>bR2 (fun i n=>Vj i n ug u d ρ) ps):AgF us ug u d ρ:=q
theorem AdE {ug:PV->Bg->(Bg->Prop)->Prop} {k:Nat} {fr:List Nat} (q:ua ρ fun p=>bL p fun ps=>ps.length <= 100000/\Jx ps ug ta ue (compρ k fr ρ) P):Ahr ua ug ta ue k fr ρ P:=q
theorem Abd {us:UA} {ug:PV->Bg->(Bg->Prop)->Prop} {ue:UE} {k:Nat} {fr:List Nat} (q:us ρ fun ps=>Aam ug ta ue (compρ k fr ρ) P ps):AdF us ug ta ue k fr ρ P:=q
theorem Adw (q:B true):Ag9 ρ B:=q
theorem Aew {psp:PSp} {us:UA} (q:us ρ fun ps=>psp ps P):Yc psp us ρ P:=q
theorem Ahe {neg:Bool} (q:ua ρ fun p=>ub ρ fun q=>AcE neg p q P):AkH neg ua ub ρ P:=q
theorem Aly {neg:Bool} (q:ua ρ fun p=>ub ρ fun q=>bIn neg p q P):uIn neg ua ub ρ P:=q
theorem Aha {n:String} (q:ua ρ fun p=>AfE n p P):Ak9 n ua ρ P:=q
theorem AdB {xs:List PV} (q:P (.bl true)):AfE "list" (.lst xs) P:=⟨_,rfl,q⟩
theorem AlZ {L:Nat->Prop} {j:Int} (q:L j.toNat) (h:-(2 ^ 62) <= j/\j < 2 ^ 62):bR1 L [.int j]:=⟨j,rfl,h.1,h.2,q⟩
theorem Al0 {L:Int->Nat->Prop} {i j:Int} (q:L i (j - i).toNat) (h:-(2 ^ 62) <= i/\i < 2 ^ 62/\-(2 ^ 62) <= j/\j < 2 ^ 62):bR2 L [.int i,.int j]:=⟨i,j,rfl,h,q⟩
theorem Ff {α:Type} {f:α->PV} {l:List α} {j:Nat} {a:α} {i:Int} (h:l[j]? = some a) (e:i = (j:Int)) (q:P (f a)):Wi (.lst (l.map f)) (.int i) P:=by
 subst e
 exact⟨_,_,_,rfl,.inl rfl,Gd (by rw[getElem?_map,h]; rfl),q⟩
theorem Ajv {us:UA} (q:us ρ fun ps=>bMk P ps):uMk us ρ P:=q
theorem Aju {f:List Sg->List (Int × Int)->List Jn->Int->PV} (q:ua ρ fun p=>bBk p fun S M J=>ub ρ fun q=>bU (fun n=>f S M J n) q P):uM1 f ua ub ρ P:=q
theorem Amg {S:List Sg} {M:List (Int × Int)} {J:List Jn} {L:List Sg->List (Int × Int)->List Jn->Prop} (q:L S M J):bBk (.bk S M J) L:=⟨S,M,J,rfl,q⟩
theorem Al1 {xs:List PV} (c:CmpL xs xs) (q:P (.bl true)):AcE false (.lst xs) (.lst xs) P:=⟨xs,xs,rfl,rfl,c,fun b hb=>by rw[hb.mpr rfl]; exact q⟩
theorem Ut {xs:List PV} (c:CmpL xs xs) (q:P (.bl false)):AcE true (.lst xs) (.lst xs) P:=⟨xs,xs,rfl,rfl,c,fun b hb=>by rw[hb.mpr rfl]; exact q⟩
theorem Od {xs ys:List Int}:CmpL (xs.map .int) (ys.map .int):=fun _ i x y hx hy=>by
 rw[getElem?_map] at hx hy
 obtain⟨a,_,rfl⟩:=map_eq_some_iff.mp hx
 obtain⟨b,_,rfl⟩:=map_eq_some_iff.mp hy
 exact .flat rfl rfl
theorem Fb {α:Type} {S:List α} {enc:α->PV} {f:α->Option PV} {ug:PV->Bg->(Bg->Prop)->Prop} {ue:UE} {ρ':Bg} (q:P (.lst (S.filterMap f))) (h:∀ s ∈ S,∀ Z:Option PV->Prop,Z (f s)->ug (enc s) ρ' fun ρ2=>ta ρ2 fun b=>if b = true then ue ρ2 fun q=>Z (some q) else Z none):Jx (S.map enc) ug ta ue ρ' P:=by
 refine⟨fun n rs=>rs = (S.take n).filterMap f,rfl,fun n p rs hp hr=>?_,fun rs hr=>?_⟩
 ·rw[getElem?_map] at hp
  obtain⟨s,hs,rfl⟩:=map_eq_some_iff.mp hp
  subst hr
  refine h s (mem_of_getElem? hs) (fun o=>(match o with | some q=>(S.take n).filterMap f ++ [q] | none=>(S.take n).filterMap f) = (S.take (n + 1)).filterMap f) ?_
  rw[Dt hs,List.filterMap_append]
  cases e:f s with
  | none=>simp [filterMap_cons,e]
  | some x=>simp [filterMap_cons,e]
 ·rw[length_map,take_length] at hr
  rw[hr]; exact q
end
section
variable {K:Frag} {C:Addr} {ω:Om} {rm:Rm}
theorem Wk {G:Hp} {vs:List V} {ns:List Int} (h:Reps K C G vs (ns.map .int)):vs = ns.map V.int:=by
 refine Ov (by rw[h.1,length_map,length_map]) fun i x y hx hy=>?_
 rw[getElem?_map] at hy
 obtain⟨n,hn,rfl⟩:=map_eq_some_iff.mp hy
 have r:=h.2 i x (.int n) hx (by rw[getElem?_map,hn]; rfl)
 cases r; rfl
end
def Abu:PSp:=fun ps P=>∃ ns,ps = [.scr ns]/\ns.length <= 63/\P (.bl true)
def Ur (K:Frag):Sp:=fun vs H Q _=>∃ (a:Addr) (ns:List Int),vs = [.ref a]/\SqL K H a (ns.map V.int)/\ns.length <= 63/\∀ H',Q (.bl true) H'
theorem Ais {K:Frag} {C:Addr}:∀ vs H Q E,Ur K vs H Q E->spOf K C [false] .sh Abu vs H Q E:=fun vs H Q E ⟨a,ns,e,hS,hl,q⟩=>by
 subst e
 refine⟨H,[.scr ns],fun p=>p = .bl true,Same.refl _,⟨.inl (.scr hS),trivial⟩,⟨ns,rfl,hl,rfl⟩,fun G' H' v p w r hp=>?_⟩
 subst hp
 have r':Rep K C G' v (.bl true):=r
 cases r'
 exact q H'
section
variable {K:Frag} {C:Addr}
end
section
variable {K:Frag} {C:Addr} {ω:Om}
end
section
variable {K:Frag} {C:Addr} {ω:Om} {rm:Rm}
end
section
variable {K:Frag} {C:Addr} {ω:Om} {rm:Rm}
end
section
variable {K:Frag} {C:Addr} {ω:Om} {rm:Rm}
end
section
variable {K:Frag} {C:Addr} {ω:Om} {rm:Rm}
def enP (ps:List PV):List PV:=ps.mapIdx fun i p=>.tup [.int (i:Int),p]
theorem Ny {ps:List PV} {k:Nat}:(enP ps)[k]? = ps[k]?.map fun p=>.tup [.int (k:Int),p]:=by unfold enP; rw[getElem?_mapIdx]
theorem Qq (ps:List PV):(enP ps).length = ps.length:=by unfold enP; rw[length_mapIdx]
def AhH (ua:UE) (ug:PV->Bg->(Bg->Prop)->Prop) (ub:US):US:=fun d ρ=>ua ρ fun p=>bL p fun ps=>So (enP ps) ug ub d ρ
theorem Vu {top:Nat} {ta:TE} {ua:UE} {g:TG} {ug:PV->Bg->(Bg->Prop)->Prop} {tb:TS} {ub:US} (ha:EU K C ω ta ua) (hg:GU K C ω top g ug) (hb:SU K C ω rm tb ub):SU K C ω rm (Lg (Xn K ta) g tb) (AhH ua ug ub) :=
 fun B G0 H0 own G σ H ρ D d S F hu=>ha B G0 H0 own G σ H ρ _ _ S hu fun v p G1 H1 w1 r1 ⟨ps,e,I,i0,ist,iend⟩=>by
  have S1:=S.grow w1
  obtain⟨a,vs,rfl,sq,rp⟩:∃ a vs,v = .ref a/\SqL K G1 a vs/\Reps K C G1 vs ps:=by
   rcases e with e | ⟨ns,e,e2⟩
   ·subst e
    cases r1 with
    | lst e l q=>exact⟨_,_,rfl,SqL.of e,l,q⟩
   ·subst e e2
    cases r1 with
    | scr e=>exact⟨_,_,rfl,e,Fs ns⟩
  refine⟨a,rfl,⟨vs,w1.i.seq sq⟩,AaL (xs:=vs) (fun k σ' H'=>∃ own' G' ρ',Sat K C ω G1 G0 H0 own' G' σ' H' ρ'/\I k ρ') ⟨own,G1,ρ,S1.base (Same.refl _),i0⟩ (fun k σ' H' _ ⟨own',G',ρ',S',_⟩=>(S'.kb.trans S'.gr.i).seq sq) (fun k x t σ' H' hx ht ⟨own',G',ρ',S',hi⟩=>?_) fun σ' H' ⟨own',G',ρ',S',hi⟩=>?_⟩
  ·obtain⟨q,hq,rq⟩:=rp.get hx
   have w2:Grow G' H' (upd G' t (.tup [.int (k:Int),x])) (upd H' t (.tup [.int (k:Int),x])):=Grow.put S'.gr.i ht (Same.new ht) Bl
   have S2:=S'.grow w2
   have rt:Rep K C (upd G' t (.tup [.int (k:Int),x])) (.ref t) (.tup [.int (k:Int),q]):=Rep.ofT Bl (LAt.snoc (LAt.snoc LAt.nil (.int _)) ((rq.mono S'.kb).mono w2.g))
   exact hg G1 G0 H0 own' _ σ' _ ρ' (.ref t) _ _ _ S2 rt (ist k _ ρ' (by rw[Ny,hq]; rfl) hi) fun own2 σ2 ρ2 S3 _ h2=>hb G1 G0 H0 own2 _ σ2 _ ρ2 _ _ S3 (Jq F S1.kb fun own3 G3 σ3 H3 ρ3 S4 h3=>⟨own3,G3,ρ3,S4,h3⟩) h2
  ·rw[rp.1,<- Qq] at hi
   exact F.nx own' G' σ' H' ρ' (S'.base (S1.kb.trans S'.kb)) (iend ρ' hi)
def AeE (ua:UE) (ug:PV->Bg->(Bg->Prop)->Prop) (uc:UT) (ue:UE) (k:Nat) (fr:List Nat):UE:=fun ρ P=>ua ρ fun p=>bL p fun ps=>ps.length <= 100000/\Jx (enP ps) ug uc ue (compρ k fr ρ) P
theorem AbV {B G0 H0 G1 H1:Hp} {own:Nat->Option Addr} {σ:St} {ρ:Bg} (S:Sat K C ω B G0 H0 own G1 σ H1 ρ) {k:Nat} {fr:List Nat} {g:TG} {ug:PV->Bg->(Bg->Prop)->Prop} {tc:TT} {uc:UT} {te:TE} {ue:UE} (hg:GU K C Om.no k g ug) (hc:TU K C Om.no tc uc) (he:EU K C Om.no te ue) {D t:Addr} (hD:H1 D = none) {I:Nat->List PV->Prop} {n:Nat} (hn:n < 100000) {x:V} {q:PV} {H':Hp} {N:Hp->Prop}
  (rq:Rep K C G1 x q) (ht:H' t = none) (st:CSt K C G1 H1 D I n H') (hN:∀ H'',CSt K C G1 H1 D I (n + 1) H''->N H'') (hs:∀ rs,I n rs->ug (.tup [.int (n:Int),q]) (compρ k fr ρ) fun ρ2=>uc ρ2 fun b=>if b = true then ue ρ2 fun q=>I (n + 1) (rs ++ [q]) else I (n + 1) rs) :
  g (.ref t) (compσ k fr σ) (upd H' t (.tup [.int (n:Int),x])) fun σ2 H2=>σ2.drop k = (compσ k fr σ).drop k/\tc σ2 H2 fun b H3=>if b = true then te σ2 H3 (fun y H4=>∃ ys,H4 D = some (.lst ys)/\ys.length < sizeLine/\N (upd H4 D (.lst (ys ++ [y])))) else N H3:=by
 obtain⟨G,ys,rs,w,gD,eD,ry,hl,hi⟩:=st
 have w2:Grow G H' (upd G t (.tup [.int (n:Int),x])) (upd H' t (.tup [.int (n:Int),x])):=Grow.put w.i ht (Same.new ht) Bl
 have nD:D ≠ t:=fun z=>by rw[z,ht] at eD; cases eD
 have gD2:upd G t (.tup [.int (n:Int),x]) D = none:=by rw[Bh nD]; exact gD
 have eD2:upd H' t (.tup [.int (n:Int),x]) D = some (.lst ys):=by rw[Bh nD]; exact eD
 have w':=w.trans w2
 have ry2:=ry.mono w2.g
 have rt:Rep K C (upd G t (.tup [.int (n:Int),x])) (.ref t) (.tup [.int (n:Int),q]):=Rep.ofT Bl (LAt.snoc (LAt.snoc LAt.nil (.int _)) (rq.mono w'.g))
 refine hg G1 G1 H1 _ _ _ _ _ (.ref t) _ _ _ (S.comp k fr w') rt (hs rs hi) fun own' σ' ρ' S' dr h=>⟨dr,hc G1 G1 H1 own' _ σ' _ ρ' _ _ S' h fun b G3 H3 w3 h3=>?_⟩
 cases b with
 | false=>exact Ni (hN _ ⟨G3,ys,rs,w'.trans w3,w3.n D _ eD2 (fun _ z=>nomatch z) gD2,w3.h _ _ eD2,ry2.mono w3.g,by omega,by simpa using h3⟩)
 | true =>
  refine Lh (he G1 G1 H1 own' G3 σ' H3 ρ' _ _ (S'.grow w3) (by simpa using h3) fun y q G4 H4 w4 r4 h4=>?_)
  have w34:=w3.trans w4
  have g4:G4 D = none:=w34.n D _ eD2 (fun _ z=>nomatch z) gD2
  have e4:H4 D = some (.lst ys):=w34.h _ _ eD2
  refine⟨ys,e4,Rz (by rw[ry.1]; omega),hN _ ⟨G4,_,_,⟨(w'.trans w34).g,fun b u h=>?_,fun b u h=>?_,(w'.trans w34).n⟩,g4,Bl,Js (ry2.mono w34.g) r4,by rw[length_append]; simp; omega,h4⟩⟩
  ·rw[Bh (by intro z; subst z; rw[hD] at h; cases h)]; exact (w'.trans w34).h _ _ h
  ·rw[Bh (by intro z; subst z; rw[g4] at h; cases h)]; exact w34.i _ _ h
theorem Agn {ta:TE} {ua:UE} {k:Nat} {fr:List Nat} {g:TG} {ug:PV->Bg->(Bg->Prop)->Prop} {tc:TT} {uc:UT} {te:TE} {ue:UE} (ha:EB K C ω ta ua) (hg:GU K C Om.no k g ug) (hc:TU K C Om.no tc uc) (he:EU K C Om.no te ue):EF K C ω (Jc (Xn K ta) g tc te k fr) (AeE ua ug uc ue k fr) :=
 fun B G0 H0 own G σ H ρ P Q S hu kk=>Nq (ha B G0 H0 own G σ H ρ _ _ S hu fun v p G1 H1 w1 r1 ⟨ps,e,hl,I,i0,ist,iend⟩=>by
  have S1:=S.grow w1
  obtain⟨a,vs,rfl,sq,rp⟩:∃ a vs,v = .ref a/\SqL K H1 a vs/\Reps K C G1 vs ps:=by
   rcases e with e | ⟨ns,e,e2⟩
   ·subst e
    obtain⟨a,vs,rfl,ea,l⟩:=r1.lst w1.i
    exact⟨a,vs,rfl,SqL.of ea,l⟩
   ·subst e e2
    obtain⟨a,rfl,ea⟩:=r1.scr w1.i
    exact⟨a,_,rfl,ea,Fs ns⟩
  refine⟨a,rfl,⟨vs,sq⟩,fun D hD=>CP.enum vs (CSt K C G1 H1 D I) (Nh w1.i hD i0) (fun n H' _ ⟨G',_,_,w,_⟩=>w.h.seq sq) (fun n x t H' N hx ht st hN=>?_) fun H' st=>?_⟩
  ·obtain⟨q,hq,rq⟩:=rp.get hx
   have hn:n < ps.length:=(List.getElem?_eq_some_iff.mp hq).1
   exact AbV S1 hg hc he hD (by omega) rq ht st hN fun rs hi=>ist n _ rs (by rw[Ny,hq]; rfl) hi
  ·obtain⟨G',ys,rs,w,gD,eD,ry,_,hi⟩:=st
   rw[rp.1,<- Qq] at hi
   exact kk D _ G' H' (w1.trans w) (w1.h.free hD) gD (OwnA.ofL eD ry) (iend rs hi))
theorem Al4 {ρ:Bg} {d:Fq} {ua:UE} {ug:PV->Bg->(Bg->Prop)->Prop} {ub:US} (q:ua ρ fun p=>bL p fun ps=>So (enP ps) ug ub d ρ):AhH ua ug ub d ρ:=q
theorem Aic {ρ:Bg} {P:PV->Prop} {ua:UE} {ug:PV->Bg->(Bg->Prop)->Prop} {uc:UT} {ue:UE} {k:Nat} {fr:List Nat} (q:ua ρ fun p=>bL p fun ps=>ps.length <= 100000/\Jx (enP ps) ug uc ue (compρ k fr ρ) P):AeE ua ug uc ue k fr ρ P:=q
end
section
variable {K:Frag} {C:Addr} {ω:Om}
end
theorem Nr {u w:US} {d:Fq} {ρ:Bg} (N:Bg->Prop) (h1:∀ ρ',N ρ'->w d ρ') (h2:u { d with nx:=fun ρ'=>N ρ'\/w d ρ' } ρ):Af8 u w d ρ:=by
 have e:(fun ρ'=>N ρ'\/w d ρ') = w d:=funext fun ρ'=>propext ⟨fun z=>z.elim (h1 ρ') id,.inr⟩
 rw[e] at h2
 exact h2
section
variable {K:Frag} {C:Addr} {ω:Om} {rm:Rm}
theorem AfS {G:Hp} {vs:List V} {ps:List PV} (h:Reps K C G vs ps):Reps K C G vs.reverse ps.reverse:=by
 refine⟨by rw[length_reverse,length_reverse,h.1],fun i v p h1 h2=>?_⟩
 have hi:i < vs.length:=by simpa using (List.getElem?_eq_some_iff.mp h1).1
 have hj:i < ps.length:=by simpa using (List.getElem?_eq_some_iff.mp h2).1
 rw[List.getElem?_reverse hi] at h1
 rw[List.getElem?_reverse hj] at h2
 exact h.2 _ v p h1 (by rw[h.1]; exact h2)
def AfW (p:PV) (P:PV->Prop):Prop:=∃ ps,p = .lst ps/\P (.lst ps.reverse)
def AkI (ua:UE):UE:=fun ρ P=>ua ρ fun p=>AfW p P
theorem AmK {ρ:Bg} {ua:UE} {P:PV->Prop} (q:ua ρ fun p=>AfW p P):AkI ua ρ P:=q
theorem AmR {ps:List PV} {P:PV->Prop} (q:P (.lst ps.reverse)):AfW (.lst ps) P:=⟨ps,rfl,q⟩
theorem Ae1 {ta:TE} {ua:UE} (ha:EB K C ω ta ua):EF K C ω (Aj7 K ta) (AkI ua) :=
 fun B G0 H0 own G σ H ρ P Q S hu k=>ha B G0 H0 own G σ H ρ _ _ S hu fun v p G1 H1 w1 r1 ⟨ps,e,h⟩=>by
  subst e
  obtain⟨a,vs,rfl,ea,l⟩:=r1.lst w1.i
  exact⟨a,vs,rfl,SqL.of ea,fun b H2 hb s2 e2=>k b _ G1 H2 (w1.trans (Grow.own w1.i s2)) (w1.h.free hb) (w1.i.free hb) (OwnA.ofL e2 (AfS l)) h⟩
def Agm (i:Nat) (ρ:Bg) (N:Bg->Prop) (p q:PV):Prop:=∃ ps n j,ρ[i]? = some (.ow (.lst ps))/\q = .int n/\ixN ps.length n = some j/\N (ρ.set i (.ow (.lst (ps.set j p))))
def AjI (i:Nat) (ub uv:UE):US:=fun d ρ=>(∃ ps,ρ[i]? = some (.ow (.lst ps)))/\uv ρ fun p=>ub ρ fun q=>Agm i ρ d.nx p q
theorem Amz {i:Nat} {ρ:Bg} {ub uv:UE} {d:Fq} {ps:List PV} (h:ρ[i]? = some (.ow (.lst ps))) (q:uv ρ fun p=>ub ρ fun q=>Agm i ρ d.nx p q):AjI i ub uv d ρ:=⟨⟨ps,h⟩,q⟩
theorem Ux {i:Nat} {ρ:Bg} {N:Bg->Prop} {p:PV} {n:Int} {j:Nat} {ps:List PV} (h:ρ[i]? = some (.ow (.lst ps))) (hj:ixN ps.length n = some j) (q:N (ρ.set i (.ow (.lst (ps.set j p))))):Agm i ρ N p (.int n):=⟨ps,n,j,h,rfl,hj,q⟩
theorem Aga {G:Hp} {vs:List V} {ps:List PV} {j:Nat} {v:V} {p:PV} (h:Reps K C G vs ps) (r:Rep K C G v p):Reps K C G (vs.set j v) (ps.set j p):=by
 refine⟨by rw[length_set,length_set,h.1],fun i x y h1 h2=>?_⟩
 by_cases z:i = j
 ·subst z
  have hi:i < vs.length:=by simpa using (List.getElem?_eq_some_iff.mp h1).1
  rw[getElem?_set_self hi] at h1
  rw[getElem?_set_self (by rw[<- h.1]; exact hi)] at h2
  cases h1; cases h2; exact r
 ·rw[getElem?_set_ne (Ne.symm z)] at h1 h2
  exact h.2 i x y h1 h2
theorem Sb {i:Nat} {tb tv:TE} {ub uv:UE} (hb:EB K C ω tb ub) (hv:EU K C ω tv uv):SU K C ω rm (Lq tv (AlG (Fj i) tb Aej)) (AjI i ub uv):=fun B G0 H0 own G σ H ρ D d S F ⟨⟨ps0,e0⟩,hu⟩ =>
 hv B G0 H0 own G σ H ρ _ _ S hu fun v p G1 H1 w1 r1 h1=>by
  have S1:=S.grow w1
  obtain⟨a,ea,o,_⟩:=S.sl i _ e0
  refine⟨_,ea,hb B G0 H0 own G1 σ H1 ρ _ _ S1 h1 fun w q G2 H2 w2 r2 ⟨ps,n,j,e,e2,hj,h⟩=>?_⟩
  subst e2
  have S2:=S1.grow w2
  obtain⟨a',ea',o',vs,ha,l⟩:=S2.sl i _ e
  rw[o] at o'; cases o'
  exact⟨a,vs,n,j,rfl,r2.int,ha,by rw[l.1]; exact hj,fun H3 c e3=>F.nx own G2 σ H3 _ (S2.chg o ea c (OwnA.ofL e3 (Aga l (r1.mono w2.g)))) h⟩
def AfK (p q:PV) (P:PV->Prop):Prop:=∃ x n,p = .lst [x]/\q = .int n/\n <= 100000/\-(2 ^ 63) <= n/\P (.lst (replicate n.toNat x))
def Aj8 (ua ub:UE):UE:=fun ρ P=>ua ρ fun p=>ub ρ fun q=>AfK p q P
theorem AmZ {ρ:Bg} {ua ub:UE} {P:PV->Prop} (q:ua ρ fun p=>ub ρ fun q=>AfK p q P):Aj8 ua ub ρ P:=q
theorem Anx {x:PV} {n:Int} {P:PV->Prop} (q:P (.lst (replicate n.toNat x))) (h:n <= 100000/\-(2 ^ 63) <= n):AfK (.lst [x]) (.int n) P:=⟨x,n,rfl,rfl,h.1,h.2,q⟩
theorem Ad8 {ta tb:TE} {ua ub:UE} (ha:EB K C ω ta ua) (hb:EB K C ω tb ub):EF K C ω (tOp AhQ ta tb) (Aj8 ua ub) :=
 fun B G0 H0 own G σ H ρ P Q S hu k=>two ha hb S hu fun v w p q G' H' gr r1 r2 ⟨x,n,e1,e2,hl,hm,h⟩=>by
  subst e1 e2
  obtain⟨a,vs,rfl,ea,l⟩:=r1.lst gr.i
  rw[r2.int]
  obtain⟨y,rfl⟩:∃ y,vs = [y]:=by
   have hlen:vs.length = 1:=l.1
   match vs,hlen with
   | [y],_=>exact⟨y,rfl⟩
  refine⟨a,n,[y],rfl,rfl,ea,hm,by omega,Nat.le_of_lt (Rz (by simp; omega)),fun c H4 hc s4 e4=>k c _ G' H4 (gr.trans (Grow.own gr.i s4)) (gr.h.free hc) (gr.i.free hc) (OwnA.ofL e4 ?_) h⟩
  have hf:∀ m:Nat,(replicate m [y]).flatten = replicate m y:=fun m=>by
   induction m with
   | zero=>rfl
   | succ m ih=>rw[replicate_succ,flatten_cons,ih,replicate_succ]; rfl
  rw[hf]
  refine⟨by simp,fun i v p h1 h2=>?_⟩
  have hi:i < n.toNat:=by simpa using (List.getElem?_eq_some_iff.mp h1).1
  rw[getElem?_replicate,if_pos hi] at h1 h2
  cases h1; cases h2
  exact l.2 0 _ _ rfl rfl
inductive EqO:PV->PV->Bool->Prop where
 | nn:EqO .non .non true
 | ns {z:Str}:EqO .non (.str z) false
 | ni {z:Int}:EqO .non (.int z) false
 | ii {x y:Int}:EqO (.int x) (.int y) (decide (x = y))
 | nt {ys:List PV}:EqO .non (.tup ys) false
 | tn {xs:List PV}:EqO (.tup xs) .non false
 | ts {xs:List PV} {z:Str}:EqO (.tup xs) (.str z) false
 | ss {x y:Str}:EqO (.str x) (.str y) (decide (x = y))
 | tt {xs ys:List PV} {b:Bool} (c:∀ (i:Nat) (x y:PV),xs[i]? = some x->ys[i]? = some y->Cmp 40 x y) (h:b = true ↔ xs = ys):EqO (.tup xs) (.tup ys) b
def AfD (neg:Bool) (p q:PV) (P:PV->Prop):Prop:=∃ b,EqO p q b/\P (.bl (if neg then !b else b))
def AlN (neg:Bool) (ua ub:UE):UE:=fun ρ P=>ua ρ fun p=>ub ρ fun q=>AfD neg p q P
theorem Amn {neg:Bool} {ρ:Bg} {ua ub:UE} {P:PV->Prop} (q:ua ρ fun p=>ub ρ fun q=>AfD neg p q P):AlN neg ua ub ρ P:=q
theorem Alp {neg bb:Bool} {G' H':Hp} {a b:Addr} {vs ws:List V} {xs ys:List PV} {Q:VK} (i0:Same G' H') (c:∀ (i:Nat) (x y:PV),xs[i]? = some x->ys[i]? = some y->Cmp 40 x y) (ea:H' a = some (.tup vs)) (eb:H' b = some (.tup ws)) (l1:Reps K C G' vs xs) (l2:Reps K C G' ws ys) (hbb:bb = true ↔ xs = ys) (fin:Q (.bl (if neg then !bb else bb)) H'):Agi K neg (.ref a) (.ref b) H' Q:=by
 have key:((range (min vs.length ws.length)).all (fun i=>pd (xs[i]? = ys[i]?)) && vs.length == ws.length) = pd (xs = ys):=Gp (by
  rw[pd_iff,and_eq_true,Ot]
  constructor
  ·rintro ⟨e,el⟩
   have el':vs.length = ws.length:=by simpa using el
   refine ext_getElem? fun i=>?_
   by_cases hi:i < vs.length
   ·exact pd_iff.mp (e i (by omega))
   ·rw[getElem?_eq_none (by rw[<- l1.1]; omega),getElem?_eq_none (by rw[<- l2.1]; omega)]
  ·intro e
   exact⟨fun i _=>by rw[pd_iff,e],by rw[l1.1,l2.1,e]; exact beq_self_eq_true _⟩)
 refine⟨a,b,vs,ws,fun i=>pd (xs[i]? = ys[i]?),rfl,rfl,SqT.of ea,SqT.of eb,fun i x y hx hy=>?_,?_⟩
 ·obtain⟨p,hp,rp⟩:=l1.get hx
  obtain⟨q,hq,rq⟩:=l2.get hy
  refine (c i p q hp hq).eqD i0 rp rq ?_
  rw[pd_iff,hp,hq]
  exact⟨fun z=>Option.some.inj z,fun z=>congrArg some z⟩
 ·rw[key,show pd (xs = ys) = bb from Gp (by rw[pd_iff,hbb])]; exact fin
theorem AkS {neg:Bool} {ta tb:TE} {ua ub:UE} (ha:EB K C ω ta ua) (hb:EB K C ω tb ub):EU K C ω (tOp (Alk K neg) ta tb) (AlN neg ua ub) :=
 fun B G0 H0 own G σ H ρ P Q S hu k=>two ha hb S hu fun v w p q G' H' gr r1 r2 ⟨b,e,h⟩=>by
  have fin:Q (.bl (if neg then !b else b)) H':=k _ _ G' H' gr (.bl _) h
  cases e with
  | nn =>
   rw[show v = .non by rcases r1 with r1 | ⟨_,_,z⟩; cases r1; rfl; exact z.elim,show w = .non by rcases r2 with r2 | ⟨_,_,z⟩; cases r2; rfl; exact z.elim]
   exact .inr (.inl ⟨rfl,by simpa using fin⟩)
  | ns =>
   rw[show v = .non by rcases r1 with r1 | ⟨_,_,z⟩; cases r1; rfl; exact z.elim,r2.str]
   exact .inr (.inl ⟨rfl,by simpa using fin⟩)
  | ni =>
   rw[show v = .non by rcases r1 with r1 | ⟨_,_,z⟩; cases r1; rfl; exact z.elim,r2.int]
   exact .inr (.inl ⟨rfl,by simpa using fin⟩)
  | @ii x y =>
   rw[r1.int,r2.int]
   refine .inr (.inl ⟨rfl,?_⟩)
   have e:decide (V.int x = V.int y) = decide (x = y):=decide_eq_decide.mpr ⟨fun z=>by injection z,fun z=>by rw[z]⟩
   rw[e]; exact fin
  | nt =>
   obtain⟨a,vs,rfl,ea,l⟩:=r2.tup gr.i
   rw[show v = .non by rcases r1 with r1 | ⟨_,_,z⟩; cases r1; rfl; exact z.elim]
   exact .inr (.inr ⟨a,vs,SqT.of ea,.inr ⟨rfl,rfl⟩,by cases neg <;> exact fin⟩)
  | tn =>
   obtain⟨a,vs,rfl,ea,l⟩:=r1.tup gr.i
   rw[show w = .non by rcases r2 with r2 | ⟨_,_,z⟩; cases r2; rfl; exact z.elim]
   exact .inr (.inr ⟨a,vs,SqT.of ea,.inl ⟨rfl,.inl rfl⟩,by cases neg <;> exact fin⟩)
  | ts =>
   obtain⟨a,vs,rfl,ea,l⟩:=r1.tup gr.i
   rw[r2.str]
   exact .inr (.inr ⟨a,vs,SqT.of ea,.inl ⟨rfl,.inr ⟨_,rfl⟩⟩,by cases neg <;> exact fin⟩)
  | @ss x y =>
   rw[r1.str,r2.str]
   refine .inr (.inl ⟨rfl,?_⟩)
   have e:decide (V.str x = V.str y) = decide (x = y):=decide_eq_decide.mpr ⟨fun z=>by injection z,fun z=>by rw[z]⟩
   rw[e]; exact fin
  | tt c hb' =>
   left
   obtain⟨a,vs,rfl,ea,l⟩:=r1.tup gr.i
   obtain⟨b2,ws,rfl,eb,l2⟩:=r2.tup gr.i
   exact Alp gr.i c ea eb l l2 hb' fin
end
section
variable {K:Frag} {C:Addr} {ω:Om} {rm:Rm}
def zpP (ps qs:List PV):List PV:=zipWith (fun p q=>PV.tup [p,q]) ps qs
theorem Aa9 {ps qs:List PV} {k:Nat} {p q:PV} (h1:ps[k]? = some p) (h2:qs[k]? = some q):(zpP ps qs)[k]? = some (.tup [p,q]):=by
 unfold zpP; rw[List.getElem?_zipWith,h1,h2]
theorem Abq (ps qs:List PV):(zpP ps qs).length = min ps.length qs.length:=by unfold zpP; exact List.length_zipWith
theorem Sz {α β:Type} (f:α->PV) (g:β->PV) (xs:List α) (ys:List β):zpP (xs.map f) (ys.map g) = (xs.zip ys).map fun z=>PV.tup [f z.1,g z.2]:=by
 unfold zpP
 rw[List.zipWith_map,zip,List.map_zipWith]
def bLL (p q:PV) (R:List PV->List PV->Prop):Prop:=∃ ps qs,p = .lst ps/\q = .lst qs/\R ps qs
theorem AnP {ps qs:List PV} {R:List PV->List PV->Prop} (h:R ps qs):bLL (.lst ps) (.lst qs) R:=⟨ps,qs,rfl,rfl,h⟩
def Ahd (ua ub:UE) (ug:PV->Bg->(Bg->Prop)->Prop) (u:US):US:=fun d ρ=>ua ρ fun p=>ub ρ fun q=>bLL p q fun ps qs=>So (zpP ps qs) ug u d ρ
theorem Ajw {ρ:Bg} {d:Fq} {ua ub:UE} {ug:PV->Bg->(Bg->Prop)->Prop} {u:US} (q:ua ρ fun p=>ub ρ fun q=>bLL p q fun ps qs=>So (zpP ps qs) ug u d ρ):Ahd ua ub ug u d ρ:=q
theorem Rep.lstE {G:Hp} {v:V} {ps:List PV} (h:Rep K C G v (.lst ps)):∃ a vs,v = .ref a/\SqL K G a vs/\Reps K C G vs ps:=by
 cases h with
 | lst e l q=>exact⟨_,_,rfl,SqL.of e,l,q⟩
theorem AbS {top:Nat} {ta tb:TE} {ua ub:UE} {g:TG} {ug:PV->Bg->(Bg->Prop)->Prop} {ts:TS} {us:US} (ha:EU K C ω ta ua) (ha2:EU K C ω tb ub) (hg:GU K C ω top g ug) (hb:SU K C ω rm ts us):SU K C ω rm (Lg (Ab2 K ta tb) g ts) (Ahd ua ub ug us) :=
 fun B G0 H0 own G σ H ρ D d S F hu=>ha B G0 H0 own G σ H ρ _ _ S hu fun v p G1 H1 w1 r1 h1=>ha2 B G0 H0 own G1 σ H1 ρ _ _ (S.grow w1) h1 fun v2 q G2 H2 w2 r2 ⟨ps,qs,e1,e2,I,i0,ist,iend⟩=>by
  subst e1 e2
  have S2:=(S.grow w1).grow w2
  obtain⟨a,vs,rfl,sq,rp⟩:=(r1.mono w2.g).lstE
  obtain⟨b,ws,rfl,sq2,rp2⟩:=r2.lstE
  refine⟨a,b,rfl,rfl,⟨vs,w2.i.seq sq⟩,⟨ws,w2.i.seq sq2⟩,AiD (xs:=vs) (ys:=ws) (fun k σ' H'=>∃ own' G' ρ',Sat K C ω G2 G0 H0 own' G' σ' H' ρ'/\I k ρ') ⟨own,G2,ρ,S2.base (Same.refl _),i0⟩ (fun k σ' H' ⟨own',G',ρ',S',_⟩=>⟨(S'.kb.trans S'.gr.i).seq sq,(S'.kb.trans S'.gr.i).seq sq2⟩) (fun k x y t σ' H' hx hy ht ⟨own',G',ρ',S',hi⟩=>?_) fun σ' H' ⟨own',G',ρ',S',hi⟩=>?_⟩
  ·obtain⟨q1,hq1,rq1⟩:=rp.get hx
   obtain⟨q2,hq2,rq2⟩:=rp2.get hy
   have w3:Grow G' H' (upd G' t (.tup [x,y])) (upd H' t (.tup [x,y])):=Grow.put S'.gr.i ht (Same.new ht) Bl
   have S3:=S'.grow w3
   have rt:Rep K C (upd G' t (.tup [x,y])) (.ref t) (.tup [q1,q2]):=Rep.ofT Bl (LAt.snoc (LAt.snoc LAt.nil ((rq1.mono S'.kb).mono w3.g)) ((rq2.mono S'.kb).mono w3.g))
   exact hg G2 G0 H0 own' _ σ' _ ρ' (.ref t) _ _ _ S3 rt (ist k _ ρ' (Aa9 hq1 hq2) hi) fun own2 σ2 ρ2 S4 _ h2=>hb G2 G0 H0 own2 _ σ2 _ ρ2 _ _ S4 (Jq F S2.kb fun own3 G3 σ3 H3 ρ3 S5 h3=>⟨own3,G3,ρ3,S5,h3⟩) h2
  ·rw[rp.1,rp2.1,<- Abq] at hi
   exact F.nx own' G' σ' H' ρ' (S'.base (S2.kb.trans S'.kb)) (iend ρ' hi)
theorem Acv {B G0 H0 G1 H1:Hp} {own:Nat->Option Addr} {σ:St} {ρ:Bg} (S:Sat K C ω B G0 H0 own G1 σ H1 ρ) {k:Nat} {fr:List Nat} {g:TG} {ug:PV->Bg->(Bg->Prop)->Prop} {tc:TT} {uc:UT} {te:TE} {ue:UE} (hg:GU K C Om.no k g ug) (hc:TU K C Om.no tc uc) (he:EU K C Om.no te ue) {D t:Addr} (hD:H1 D = none) {I:Nat->List PV->Prop} {n:Nat} (hn:n < 100000) {x y:V} {q1 q2:PV} {H':Hp} {N:Hp->Prop}
  (rq1:Rep K C G1 x q1) (rq2:Rep K C G1 y q2) (ht:H' t = none) (st:CSt K C G1 H1 D I n H') (hN:∀ H'',CSt K C G1 H1 D I (n + 1) H''->N H'') (hs:∀ rs,I n rs->ug (.tup [q1,q2]) (compρ k fr ρ) fun ρ2=>uc ρ2 fun b=>if b = true then ue ρ2 fun q=>I (n + 1) (rs ++ [q]) else I (n + 1) rs) :
  g (.ref t) (compσ k fr σ) (upd H' t (.tup [x,y])) fun σ2 H2=>σ2.drop k = (compσ k fr σ).drop k/\tc σ2 H2 fun b H3=>if b = true then te σ2 H3 (fun y H4=>∃ ys,H4 D = some (.lst ys)/\ys.length < sizeLine/\N (upd H4 D (.lst (ys ++ [y])))) else N H3:=by
 obtain⟨G,ys,rs,w,gD,eD,ry,hl,hi⟩:=st
 have w2:Grow G H' (upd G t (.tup [x,y])) (upd H' t (.tup [x,y])):=Grow.put w.i ht (Same.new ht) Bl
 have nD:D ≠ t:=fun z=>by rw[z,ht] at eD; cases eD
 have gD2:upd G t (.tup [x,y]) D = none:=by rw[Bh nD]; exact gD
 have eD2:upd H' t (.tup [x,y]) D = some (.lst ys):=by rw[Bh nD]; exact eD
 have w':=w.trans w2
 have ry2:=ry.mono w2.g
 have rt:Rep K C (upd G t (.tup [x,y])) (.ref t) (.tup [q1,q2]):=Rep.ofT Bl (LAt.snoc (LAt.snoc LAt.nil (rq1.mono w'.g)) (rq2.mono w'.g))
 refine hg G1 G1 H1 _ _ _ _ _ (.ref t) _ _ _ (S.comp k fr w') rt (hs rs hi) fun own' σ' ρ' S' dr h=>⟨dr,hc G1 G1 H1 own' _ σ' _ ρ' _ _ S' h fun b G3 H3 w3 h3=>?_⟩
 cases b with
 | false=>exact Ni (hN _ ⟨G3,ys,rs,w'.trans w3,w3.n D _ eD2 (fun _ z=>nomatch z) gD2,w3.h _ _ eD2,ry2.mono w3.g,by omega,by simpa using h3⟩)
 | true =>
  refine Lh (he G1 G1 H1 own' G3 σ' H3 ρ' _ _ (S'.grow w3) (by simpa using h3) fun y q G4 H4 w4 r4 h4=>?_)
  have w34:=w3.trans w4
  have g4:G4 D = none:=w34.n D _ eD2 (fun _ z=>nomatch z) gD2
  have e4:H4 D = some (.lst ys):=w34.h _ _ eD2
  refine⟨ys,e4,Rz (by rw[ry.1]; omega),hN _ ⟨G4,_,_,⟨(w'.trans w34).g,fun b u h=>?_,fun b u h=>?_,(w'.trans w34).n⟩,g4,Bl,Js (ry2.mono w34.g) r4,by rw[length_append]; simp; omega,h4⟩⟩
  ·rw[Bh (by intro z; subst z; rw[hD] at h; cases h)]; exact (w'.trans w34).h _ _ h
  ·rw[Bh (by intro z; subst z; rw[g4] at h; cases h)]; exact w34.i _ _ h
def AeJ (ua ub:UE) (ug:PV->Bg->(Bg->Prop)->Prop) (uc:UT) (ue:UE) (k:Nat) (fr:List Nat):UE:=fun ρ P=>ua ρ fun p=>ub ρ fun q=>bLL p q fun ps qs=>ps.length <= 100000/\Jx (zpP ps qs) ug uc ue (compρ k fr ρ) P
theorem AiZ {ρ:Bg} {P:PV->Prop} {ua ub:UE} {ug:PV->Bg->(Bg->Prop)->Prop} {uc:UT} {ue:UE} {k:Nat} {fr:List Nat} (q:ua ρ fun p=>ub ρ fun q=>bLL p q fun ps qs=>ps.length <= 100000/\Jx (zpP ps qs) ug uc ue (compρ k fr ρ) P):AeJ ua ub ug uc ue k fr ρ P:=q
theorem AaJ {ta tb:TE} {ua ub:UE} {k:Nat} {fr:List Nat} {g:TG} {ug:PV->Bg->(Bg->Prop)->Prop} {tc:TT} {uc:UT} {te:TE} {ue:UE} (ha:EB K C ω ta ua) (ha2:EB K C ω tb ub) (hg:GU K C Om.no k g ug) (hc:TU K C Om.no tc uc) (he:EU K C Om.no te ue):EF K C ω (Jc (Ab2 K ta tb) g tc te k fr) (AeJ ua ub ug uc ue k fr) :=
 fun B G0 H0 own G σ H ρ P Q S hu kk=>Nq (ha B G0 H0 own G σ H ρ _ _ S hu fun v p G1 H1 w1 r1 h1=>ha2 B G0 H0 own G1 σ H1 ρ _ _ (S.grow w1) h1 fun v2 q G2 H2 w2 r2 ⟨ps,qs,e1,e2,hl,I,i0,ist,iend⟩=>by
  subst e1 e2
  have S2:=(S.grow w1).grow w2
  obtain⟨a,vs,rfl,ea,rp⟩:=(r1.grow w2).lst w2.i
  obtain⟨b,ws,rfl,eb,rp2⟩:=r2.lst w2.i
  refine⟨a,b,rfl,rfl,⟨vs,SqL.of ea⟩,⟨ws,SqL.of eb⟩,fun D hD=>CP.zip vs ws (CSt K C G2 H2 D I) (Nh w2.i hD i0) (fun n H' ⟨G',_,_,w,_⟩=>⟨w.h.seq (SqL.of ea),w.h.seq (SqL.of eb)⟩) (fun n x y t H' N hx hy ht st hN=>?_) fun H' st=>?_⟩
  ·obtain⟨q1,hq1,rq1⟩:=rp.get hx
   obtain⟨q2,hq2,rq2⟩:=rp2.get hy
   have hn:n < ps.length:=(List.getElem?_eq_some_iff.mp hq1).1
   exact Acv S2 hg hc he hD (by omega) rq1 rq2 ht st hN fun rs hi=>ist n _ rs (Aa9 hq1 hq2) hi
  ·obtain⟨G',ys,rs,w,gD,eD,ry,_,hi⟩:=st
   rw[rp.1,rp2.1,<- Abq] at hi
   exact kk D _ G' H' ((w1.trans w2).trans w) ((w1.trans w2).h.free hD) gD (OwnA.ofL eD ry) (iend rs hi))
def AfI (f:Int->Int->Int) (i:Nat) (ρ:Bg) (N:Bg->Prop) (p q:PV):Prop:=∃ a b,p = .int a/\q = .int b/\N (ρ.set i (.sh (.int (f a b))))
def Ak2 (f:Int->Int->Int) (i:Nat) (ue:UE):US:=fun d ρ=>∃ s p,ρ[i]? = some s/\s.val = some p/\ue ρ fun q=>AfI f i ρ d.nx p q
theorem Anq {f:Int->Int->Int} {i:Nat} {ue:UE} {d:Fq} {ρ:Bg} {s:Sl} {p:PV} (h1:ρ[i]? = some s) (h2:s.val = some p) (q:ue ρ fun q=>AfI f i ρ d.nx p q):Ak2 f i ue d ρ:=⟨s,p,h1,h2,q⟩
theorem AmY {f:Int->Int->Int} {i:Nat} {ρ:Bg} {N:Bg->Prop} {a b:Int} (q:N (ρ.set i (.sh (.int (f a b))))):AfI f i ρ N (.int a) (.int b):=⟨a,b,rfl,rfl,q⟩
theorem AeT {f:Int->Int->Int} {i:Nat} {te:TE} {ue:UE} (he:EB K C ω te ue):SU K C ω rm (AjY i te (ipI f)) (Ak2 f i ue):=fun B G0 H0 own G σ H ρ D d S F ⟨s,p,h1,h2,hu⟩=>by
 have q:=S.sl i s h1
 have key:∃ v,σ[i]? = some (some v)/\∀ a,p = .int a->v = .int a:=by
  cases s with
  | un=>cases h2
  | sh p'=>cases h2; obtain⟨v,e,r⟩:=q; exact⟨v,e,fun a ea=>by subst ea; cases r; rfl⟩
  | bo p'=>cases h2; obtain⟨v,e,r⟩:=q; exact⟨v,e,fun a ea=>by subst ea; exact r.int⟩
  | ow p'=>cases h2; obtain⟨a,e,_,r⟩:=q; exact⟨_,e,fun a ea=>by subst ea; exact r.elim⟩
  | fz _ _=>cases h2
  | bz _=>cases h2
  | fl z ps=>cases h2; obtain⟨e,_,_,_⟩:=q; exact⟨_,e,fun a ea=>nomatch ea⟩
  | om b p'=>cases h2; obtain⟨e,_,r⟩:=q; exact⟨_,e,fun a ea=>by subst ea; exact r.elim⟩
 obtain⟨v,ev,hv⟩:=key
 refine⟨v,ev,he B G0 H0 own G σ H ρ _ _ S hu fun y qv G1 H1 w1 r1 ⟨a,b,e1,e2,h⟩=>?_⟩
 subst e2
 exact⟨a,b,hv a e1,r1.int,F.nx _ G1 _ H1 _ ((S.grow w1).setS (.int _)) h⟩
def Afv (p q:PV) (P:PV->Prop):Prop:=∃ xs,q = .lst xs/\(∀ x ∈ xs,∃ ys,x = .tup ys)/\(∀ x ∈ xs,Cmp 40 x p)/\∀ b:Bool,(b = true ↔ p ∈ xs)->P (.bl (!b))
def Ak0 (ua ub:UE):UE:=fun ρ P=>ua ρ fun p=>ub ρ fun q=>Afv p q P
theorem AmH {ρ:Bg} {P:PV->Prop} {ua ub:UE} (q:ua ρ fun p=>ub ρ fun q=>Afv p q P):Ak0 ua ub ρ P:=q
theorem AdI {ta tb:TE} {ua ub:UE} (ha:EU K C ω ta ua) (hb:EB K C ω tb ub):EU K C ω (tOp (Al2 K true) ta tb) (Ak0 ua ub) :=
 fun B G0 H0 own G σ H ρ P Q S hu k=>ha B G0 H0 own G σ H ρ _ _ S hu fun v p G1 H1 w1 r1 h1=>hb B G0 H0 own G1 σ H1 ρ _ _ (S.grow w1) h1 fun w q G2 H2 w2 r2 ⟨xs,e,ht,hc,h⟩=>by
  subst e
  obtain⟨a,vs,rfl,ea,l⟩:=r2.lst w2.i
  have r1':=r1.mono w2.g
  have hr:∀ u ∈ vs,∃ r x,u = V.ref r/\x ∈ xs/\Rep K C G2 (.ref r) x:=fun u hu=>by
   obtain⟨i,hi⟩:=getElem?_of_mem hu
   obtain⟨x,hx,rx⟩:=LAt.get l hi
   obtain⟨ys,rfl⟩:=ht x (mem_of_getElem? hx)
   cases rx with
   | tup e l' q'=>exact⟨_,_,rfl,mem_of_getElem? hx,.tup e l' q'⟩
  refine⟨a,vs,fun r=>pd (Rep K C G2 (.ref r) p),rfl,SqL.of ea,fun u hu=>let ⟨r,_,e,_⟩:=hr u hu; ⟨r,e⟩,fun r hm=>?_,?_⟩
  ·obtain⟨r',x,e,hx,rx⟩:=hr _ hm
   cases e
   refine (hc x hx).eqD w2.i rx r1' ?_
   rw[pd_iff]
   exact⟨fun z=>(hc x hx).fn rx z,fun z=>by rw[<- z]; exact rx⟩
  ·have key:vs.any (Yy fun r=>pd (Rep K C G2 (.ref r) p)) = pd (p ∈ xs):=Gp (by
    rw[pd_iff,any_eq_true]
    constructor
    ·rintro ⟨u,hu,hb⟩
     obtain⟨r,x,rfl,hx,rx⟩:=hr u hu
     have:Rep K C G2 (.ref r) p:=pd_iff.mp hb
     rw[<- (hc x hx).fn rx this]; exact hx
    ·intro hp
     obtain⟨i,hi⟩:=getElem?_of_mem hp
     obtain⟨u,hu,ru⟩:=LAt.get' l hi
     obtain⟨ys,rfl⟩:=ht p hp
     refine⟨u,mem_of_getElem? hu,?_⟩
     cases ru with
     | tup e l' q'=>exact pd_iff.mpr (.tup e l' q'))
   show Q (.bl (!(vs.any (Yy fun r=>pd (Rep K C G2 (.ref r) p))))) H2
   rw[key]
   exact k _ _ G2 H2 (w1.trans w2) (.bl _) (h _ pd_iff)
abbrev Fz:=Addr × Obj × List (Key × V)
def fzE (i:Nat) (z:Fz) (kvs:List (Key × PV)) (N:Bg->Prop) (ρ:Bg):Prop:=ρ[i]? = some (.fz z kvs)/\N (ρ.set i (.ow (.dk kvs)))
def Aan (i:Nat) (z:Fz) (kvs:List (Key × PV)) (d:Fq):Fq:=⟨fzE i z kvs d.nx,fun _=>False,fzE i z kvs d.bk,fzE i z kvs d.ct⟩
def Ak5 (i:Nat) (u:US):US:=fun d ρ=>∃ kvs,ρ[i]? = some (.ow (.dk kvs))/\∀ z,u (Aan i z kvs d) (ρ.set i (.fz z kvs))
theorem Qv {H:Hp} {a b:Addr} {o u:HO} (n:b ≠ a) (h:H b = some u):upd H a o b = some u:=by rw[Bh n]; exact h
theorem Sat.turn {B G0 H0 G H:Hp} {own:Nat->Option Addr} {σ:St} {ρ:Bg} (S:Sat K C ω B G0 H0 own G σ H ρ) {i:Nat} {a:Addr} {o:HO} {s':Sl} (e:own i = some a) (ht:Rh o) (hs:SlOk K C G0 H0 own G σ (upd H a o) i s'):Sat K C ω B G0 H0 own G σ (upd H a o) (ρ.set i s'):=by
 obtain⟨f0,fg,_⟩:=S.fr i a e
 have ng:∀ b u,G b = some u->b ≠ a:=fun b u h w=>by subst w; rw[fg] at h; cases h
 have n0:∀ b u,H0 b = some u->b ≠ a:=fun b u h w=>by subst w; rw[f0] at h; cases h
 refine⟨S.kb,⟨S.gr.g,fun b u h=>Qv (n0 b u h) (S.gr.h _ _ h),fun b u h=>Qv (ng b u h) (S.gr.i _ _ h),S.gr.n⟩,by rw[length_set,S.len],S.inj,fun j b h=>?_,fun j s h=>?_,S.ex⟩
 ·obtain⟨q0,qg,u,qh,qt⟩:=S.fr j b h
  by_cases w:b = a
  ·subst w; exact⟨q0,qg,o,Bl,ht⟩
  ·exact⟨q0,qg,u,Qv w qh,qt⟩
 ·rcases Lv h with ⟨rfl,rfl,hl⟩ | ⟨z,h⟩
  ·exact hs
  ·have q:=S.sl j s h
   cases s with
   | un=>trivial
   | sh p=>exact q
   | bo p=>exact q
   | bz kvs=>exact q
   | fz y kvs =>
    obtain⟨e1,o1,h1,h2⟩:=q
    exact⟨e1,o1,Qv (fun w=>z (S.inj j i a (by rw[<- w]; exact o1) e)) h1,h2⟩
   | fl y ps =>
    obtain⟨e1,o1,h1,h2⟩:=q
    exact⟨e1,o1,Qv (fun w=>z (S.inj j i a (by rw[<- w]; exact o1) e)) h1,h2⟩
   | om b p' =>
    obtain⟨e1,o1,r1⟩:=q
    exact⟨e1,o1,r1.mono (Same.refl _) (Bh fun w=>z (S.inj j i a (by rw[<- w]; exact o1) e))⟩
   | ow p' =>
    obtain⟨b,e1,o1,r1⟩:=q
    exact⟨b,e1,o1,r1.mono (Same.refl _) (Bh fun w=>z (S.inj j i a (by rw[<- w]; exact o1) e))⟩
theorem Aeo {i:Nat} {t:TS} {u:US} (h:SU K C ω rm t u):SU K C ω rm (AcM t) (Ak5 i u):=fun B G0 H0 own G σ H ρ D d S F ⟨kvs,e,hu⟩=>by
 obtain⟨a,ea,eo,vs,ha,l⟩:=S.sl i _ e
 refine⟨a,.dK vs,trivial,ha,fun o=>?_⟩
 have S1:=S.turn (o:=.frz o (.dK vs)) (s':=.fz (a,o,vs) kvs) eo (fun _ z=>nomatch z) ⟨ea,eo,Bl,l⟩
 have key:∀ (N:Bg->Prop) (M:St->Hp->Prop),(∀ own G σ H ρ,Sat K C ω B G0 H0 own G σ H ρ->N ρ->M σ H)->∀ own' G' σ' H' ρ',Sat K C ω B G0 H0 own' G' σ' H' ρ'->fzE i (a,o,vs) kvs N ρ'->∃ o',H' a = some (.frz o' (.dK vs))/\M σ' (upd H' a (.dK vs)):=fun N M hM own' G' σ' H' ρ' S' ⟨e',h'⟩=>by
  obtain⟨h1,h2,h3,h4⟩:=S'.sl i _ e'
  exact⟨o,h3,hM own' G' σ' _ _ (S'.turn (o:=.dK vs) (s':=.ow (.dk kvs)) h2 (fun _ z=>nomatch z) ⟨a,h1,h2,OwnA.ofD Bl h4⟩) h'⟩
 exact h B G0 H0 own G σ _ _ _ (Aan i (a,o,vs) kvs d) S1 ⟨key d.nx D.nx F.nx,fun _ _ _ _ _ _ z=>z.elim,key d.bk D.bk F.bk,key d.ct D.ct F.ct⟩ (hu (a,o,vs))
theorem Ajm {G:Hp} (k:Key):Rep K C G (kV k) (kP k):=by
 cases k with
 | inl i=>exact .int _
 | inr x=>exact .str _
def Sl.fzv:Sl->Option (List (Key × PV))
 | .fz _ kvs=>some kvs
 | .bz kvs=>some kvs
 | _=>none
def Ads (i:Nat) (ub:UE):UE:=fun ρ P=>∃ s kvs,ρ[i]? = some s/\s.fzv = some kvs/\ub ρ fun q=>Vd (.dk kvs) q P
theorem Zr {i:Nat} {tb:TE} {ub:UE} (hb:EB K C ω tb ub):EU K C ω (Xt (Fj i) tb) (Ads i ub):=fun B G0 H0 own G σ H ρ P Q S ⟨s,kvs,e,ev,hu⟩ k=>by
 have key:∃ a o vs,σ[i]? = some (some (.ref a))/\H a = some (.frz o (.dK vs))/\LAt (KRep K C) G vs kvs:=by
  have q:=S.sl i s e
  cases s with
  | fz z kvs'=>cases ev; obtain⟨h1,_,h2,h3⟩:=q; exact⟨_,_,_,h1,h2,h3⟩
  | bz kvs'=>cases ev; obtain⟨a,o,vs,h1,h2,h3⟩:=q; exact⟨a,o,vs,h1,S.gr.h _ _ h2,h3⟩
  | _=>cases ev
 obtain⟨a,o,vs,ea,ha,l⟩:=key
 refine⟨_,ea,hb B G0 H0 own G σ H ρ _ _ S hu fun w p G1 H1 w1 r1 ⟨kvs',k',x,e1,e2,e3,h⟩=>?_⟩
 cases e1
 subst e2
 rw[AbW r1]
 rcases AaF k' (KReps.mono l w1.g) with ⟨h1,h2⟩ | ⟨y,p,h1,h2,h3⟩
 ·rw[e3] at h2; cases h2
 ·rw[e3] at h2; cases h2
  exact⟨a,y,rfl,.inl ⟨vs,k',.inr ⟨o,w1.h _ _ ha⟩,rfl,h1.symm⟩,k _ _ G1 H1 w1 h3 h⟩
theorem Sat.slot {B G0 H0 G H:Hp} {own:Nat->Option Addr} {σ:St} {ρ:Bg} (S:Sat K C ω B G0 H0 own G σ H ρ) {i:Nat} {s':Sl} (hs:SlOk K C G0 H0 own G σ H i s'):Sat K C ω B G0 H0 own G σ H (ρ.set i s') :=
 ⟨S.kb,S.gr,by rw[length_set,S.len],S.inj,S.fr,fun j s h=>by
  rcases Lv h with ⟨rfl,rfl,hl⟩ | ⟨z,h⟩
  ·exact hs
  ·exact S.sl j s h,S.ex⟩
abbrev Fl:=Addr × List V
def AdZ (i:Nat) (z:Fl) (ps:List PV) (ug:PV->Bg->(Bg->Prop)->Prop) (ub:US) (d:Fq) (ρ:Bg):Prop:=∃ I:Nat->Bg->Prop,I 0 ρ/\(∀ k ρ,I k ρ->ρ[i]? = some (.fl z ps))/\(∀ k p ρ,ps[k]? = some p->I k ρ->ug p ρ fun ρ'=>ub { d with nx:=I (k + 1),ct:=I (k + 1),bk:=d.nx } ρ')/\∀ ρ,I ps.length ρ->d.nx ρ
def AhT (i:Nat) (ug:PV->Bg->(Bg->Prop)->Prop) (ub:US):US:=fun d ρ=>∃ z ps,ρ[i]? = some (.fl z ps)/\AdZ i z ps ug ub d ρ
theorem Ah8 {top:Nat} {i:Nat} {g:TG} {ug:PV->Bg->(Bg->Prop)->Prop} {tb:TS} {ub:US} (hg:GU K C ω top g ug) (hb:SU K C ω rm tb ub):SU K C ω rm (Lg (Oo K (Fj i)) g tb) (AhT i ug ub) :=
 fun B G0 H0 own G σ H ρ D d S F ⟨z,ps,e,I,i0,iz,ist,iend⟩=>by
  obtain⟨e1,e2,e3,e4⟩:=S.sl i _ e
  refine⟨_,e1,z.1,rfl,⟨z.2,SqL.of e3⟩,Ri (xs:=z.2) (fun k σ' H'=>∃ own' G' ρ',Sat K C ω G G0 H0 own' G' σ' H' ρ'/\I k ρ') ⟨own,G,ρ,S.base (Same.refl _),i0⟩ (fun k σ' H' _ ⟨own',G',ρ',S',hi⟩=>SqL.of (S'.sl i _ (iz k ρ' hi)).2.2.1) (fun k x σ' H' hx ⟨own',G',ρ',S',hi⟩=>?_) fun σ' H' ⟨own',G',ρ',S',hi⟩=>?_⟩
  ·obtain⟨q,hq,rq⟩:=LAt.get e4 hx
   exact hg G G0 H0 own' G' σ' H' ρ' x q _ _ S' (rq.mono S'.kb) (ist k q ρ' hq hi) fun own2 σ2 ρ2 S2 _ h2=>hb G G0 H0 own2 G' σ2 H' ρ2 _ _ S2 (Jq F S.kb fun own3 G3 σ3 H3 ρ3 S3 h3=>⟨own3,G3,ρ3,S3,h3⟩) h2
  ·rw[e4.1] at hi
   exact F.nx own' G' σ' H' ρ' (S'.base (S.kb.trans S'.kb)) (iend ρ' hi)
theorem AjP {i:Nat} {z:Fl} {ps:List PV} {ug:PV->Bg->(Bg->Prop)->Prop} {ub:US} {d:Fq} {ρ:Bg} (h1:ρ[i]? = some (.fl z ps)) (q:AdZ i z ps ug ub d ρ):AhT i ug ub d ρ:=⟨z,ps,h1,q⟩
def Abw (i:Nat) (ug:PV->Bg->(Bg->Prop)->Prop) (uc:UT) (ue:UE) (k:Nat) (fr:List Nat):UE:=fun ρ P=>∃ s kvs,ρ[i]? = some s/\s.fzv = some kvs/\kvs.length <= 100000/\Jx (kvs.map fun kv=>kP kv.1) ug uc ue (compρ k fr ρ) P
theorem Wz {i:Nat} {k:Nat} {fr:List Nat} {g:TG} {ug:PV->Bg->(Bg->Prop)->Prop} {tc:TT} {uc:UT} {te:TE} {ue:UE} (hg:GU K C Om.no k g ug) (hc:TU K C Om.no tc uc) (he:EU K C Om.no te ue):EF K C ω (Jc (iDk (Fj i)) g tc te k fr) (Abw i ug uc ue k fr) :=
 fun B G0 H0 own G σ H ρ P Q S ⟨s,kvs,e,ev,hl,I,i0,ist,iend⟩ kk=>by
  have key:∃ a o vs,σ[i]? = some (some (.ref a))/\H a = some (.frz o (.dK vs))/\LAt (KRep K C) G vs kvs:=by
   have q:=S.sl i s e
   cases s with
   | fz z kvs'=>cases ev; obtain⟨h1,_,h2,h3⟩:=q; exact⟨_,_,_,h1,h2,h3⟩
   | bz kvs'=>cases ev; obtain⟨a,o,vs,h1,h2,h3⟩:=q; exact⟨a,o,vs,h1,S.gr.h _ _ h2,h3⟩
   | _=>cases ev
  obtain⟨a,o,vs,ea,ha,l⟩:=key
  refine Nq (show iDk (Fj i) σ H _ from ⟨_,ea,a,o,vs,rfl,ha,fun D hD=>CP.dkeys (CSt K C G H D I) (Nh S.gr.i hD i0) (fun n H' ⟨G',_,_,w,_⟩=>w.h _ _ ha) (fun n kv H' N hx st hN=>?_) fun H' st=>?_⟩)
  ·have hn:n < kvs.length:=by rw[<- l.1]; exact (List.getElem?_eq_some_iff.mp hx).1
   have rq:=l.2 n kv kvs[n] hx (getElem?_eq_getElem hn)
   rw[show kv.1 = kvs[n].1 from rq.1]
   exact Sc S hg hc he hD (by omega) (fun G' s=>Ajm _) st hN fun rs hi=>ist n _ rs (by rw[getElem?_map,getElem?_eq_getElem hn]; rfl) hi
  ·obtain⟨G',ys,rs,w,gD,eD,ry,_,hi⟩:=st
   rw[l.1] at hi
   exact kk D _ G' H' w hD gD (OwnA.ofL eD ry) (iend rs (by rw[length_map]; exact hi))
theorem Agq {i:Nat} {ug:PV->Bg->(Bg->Prop)->Prop} {uc:UT} {ue:UE} {k:Nat} {fr:List Nat} {ρ:Bg} {P:PV->Prop} {s:Sl} {kvs:List (Key × PV)} (h1:ρ[i]? = some s) (h2:s.fzv = some kvs) (q:kvs.length <= 100000/\Jx (kvs.map fun kv=>kP kv.1) ug uc ue (compρ k fr ρ) P):Abw i ug uc ue k fr ρ P:=⟨s,kvs,h1,h2,q.1,q.2⟩
theorem Ams {i:Nat} {u:US} {d:Fq} {ρ:Bg} {kvs:List (Key × PV)} (h1:ρ[i]? = some (.ow (.dk kvs))) (q:∀ z,u (Aan i z kvs d) (ρ.set i (.fz z kvs))):Ak5 i u d ρ:=⟨kvs,h1,q⟩
theorem AiX {i:Nat} {ub:UE} {ρ:Bg} {P:PV->Prop} {s:Sl} {kvs:List (Key × PV)} (h1:ρ[i]? = some s) (h2:s.fzv = some kvs) (q:ub ρ fun q=>Vd (.dk kvs) q P):Ads i ub ρ P:=⟨s,kvs,h1,h2,q⟩
def era (H:Hp) (a:Addr):Hp:=fun b=>if b = a then none else H b
theorem AaB {H:Hp} {a:Addr}:era H a a = none:=by unfold era; rw[if_pos rfl]
theorem Ld {H:Hp} {a b:Addr} (n:b ≠ a):era H a b = H b:=by unfold era; rw[if_neg n]
theorem Af6 {H:Hp} {a:Addr}:Same (era H a) H:=fun b o h=>by
 by_cases z:b = a
 ·subst z; rw[AaB] at h; cases h
 ·rw[Ld z] at h; exact h
abbrev Um:=PV->PV->PV->(PV->PV->Prop)->Prop
def spM (K:Frag) (C:Addr) (psp:Um):Sp:=fun vs H Q _=>∃ G x a y p q r P,vs = [x,.ref a,y]/\Same G H/\G a = none/\OwnA K C G H a q/\Rep K C G x p/\Rep K C G y r/\psp p q r P /\
 ∀ G' H' c p1 q',Grow G (era H a) G' H'->H c = none->G' c = none->OwnA K C G' H' c p1->G' a = none->OwnA K C G' H' a q'->P p1 q'->Q (.ref c) H'
theorem spM.len {psp:Um} {vs:List V} {H:Hp} {Q:VK} {E:XK} (h:spM K C psp vs H Q E):vs.length = 3:=by
 obtain⟨G,x,a,y,p,q,r,P,rfl,_⟩:=h; rfl
theorem Ady {psp:Um} {N:List Str} {vs:List V} {H:Hp} {Q:VK} {E:XK} {t:TS} {u:Addr->US} (h:spM K C psp vs H Q E) (hn:3 <= N.length) (hs:∀ a,SU K C Om.no (.mu a) t (u a))
  (hp:∀ a p q r P,psp p q r P->u a ⟨fun _=>False,fun x=>∃ p1 p2,x = .tup [p1,p2]/\P p1 p2,fun _=>False,fun _=>False⟩ ([.sh p,.om a q,.sh r] ++ replicate (N.length - 3) .un)):t { nx:=fun _ H'=>Q .non H',rt:=Q } (L2.Nj N vs) H:=by
 obtain⟨G,x,a,y,p,q,r,P,rfl,i,ga,oa,rx,ry,hq,k⟩:=h
 have hσ:∀ j v,([x,.ref a,y]:List V)[j]? = some v->(L2.Nj N [x,.ref a,y])[j]? = some (some v):=fun j v hv=>by
  unfold L2.Nj
  rw[getElem?_append_left (by rw[length_map]; exact (List.getElem?_eq_some_iff.mp hv).1),getElem?_map,hv]; rfl
 refine hs a G G (era H a) (fun j=>if j = 1 then some a else none) G _ H _ _ ⟨fun _=>False,fun x=>∃ p1 p2,x = .tup [p1,p2]/\P p1 p2,fun _=>False,fun _=>False⟩ ⟨Same.refl _,⟨Same.refl _,Af6,i,fun _ _ _ _ h=>h⟩,?_,fun i j b h1 h2=>?_,fun j b h=>?_,fun j s hj=>?_,fun _ _ _ z=>z.elim⟩ ⟨fun _ _ _ _ _ _ z=>z.elim,fun G' H' v pv w ro hd=>?_,fun _ _ _ _ _ _ z=>z.elim,fun _ _ _ _ _ _ z=>z.elim⟩ (hp a p q r P hq)
 ·unfold L2.Nj
  rw[length_append,length_append,length_map,length_replicate,length_replicate]; rfl
 ·split at h1 <;> split at h2
  ·rename_i z1 z2; rw[z1,z2]
  ·cases h2
  ·cases h1
  ·cases h1
 ·split at h
  ·cases h; exact⟨AaB,ga,oa.thing⟩
  ·cases h
 ·match j,hj with
  | 0,hj=>cases hj; exact⟨x,hσ 0 x rfl,rx⟩
  | 1,hj=>cases hj; exact⟨hσ 1 _ rfl,rfl,oa⟩
  | 2,hj=>cases hj; exact⟨y,hσ 2 y rfl,ry⟩
  | j + 3,hj =>
   have hj':(replicate (N.length - 3) Sl.un)[j]? = some s:=hj
   rw[getElem?_replicate] at hj'
   split at hj'
   ·cases hj'; trivial
   ·cases hj'
 ·obtain⟨p1,p2,c,e1,e2,c0,ca,gc,o1,gb,o2⟩:=ro
  subst e1 e2
  obtain⟨q1,q2,e,hP⟩:=hd
  cases e
  rw[Ld ca] at c0
  exact k G' H' c p1 p2 w c0 gc o1 gb o2 hP
def AgP (i:Nat) (a:Addr) (j:Nat):US:=fun d ρ=>∃ p1 p2,ρ[j]? = some (.ow p1)/\ρ[i]? = some (.om a p2)/\i ≠ j/\d.rt (.tup [p1,p2])
theorem Ai5 {i j:Nat} {a:Addr}:SU K C ω (.mu a) (Tw (Fj j)) (AgP i a j):=fun B G0 H0 own G σ H ρ D d S F ⟨p1,p2,e1,e2,ne,h⟩=>by
 obtain⟨c,h1,o1,r1⟩:=S.sl j _ e1
 obtain⟨h2,o2,r2⟩:=S.sl i _ e2
 obtain⟨f0,fg,_⟩:=S.fr j c o1
 obtain⟨_,fa,_⟩:=S.fr i a o2
 exact⟨_,h1,F.rt G H _ _ S.gr ⟨p1,p2,c,rfl,rfl,f0,fun z=>ne (S.inj i j a o2 (by rw[<- z]; exact o1)),fg,r1,fa,r2⟩ h⟩
def AcB (i:Nat) (a:Addr) (ρ:Bg) (N:Bg->Prop) (qs:List PV):Prop:=∃ q ps,qs = [q]/\ρ[i]? = some (.om a (.lst ps))/\ps.length < 100000/\N (ρ.set i (.om a (.lst (ps ++ [q]))))
def Ahf (i:Nat) (a:Addr) (u:UA):US:=fun d ρ=>(∃ ps,ρ[i]? = some (.om a (.lst ps)))/\u ρ fun qs=>AcB i a ρ d.nx qs
theorem Sat.own {B G0 H0 G H:Hp} {own:Nat->Option Addr} {σ:St} {ρ:Bg} (S:Sat K C ω B G0 H0 own G σ H ρ) {i:Nat} {a:Addr} {p:PV} (e:ρ[i]? = some (.om a p)):Sat K C ω B G0 H0 own G σ H (ρ.set i (.ow p)):=by
 obtain⟨h1,h2,h3⟩:=S.sl i _ e
 exact S.slot ⟨a,h1,h2,h3⟩
theorem Aiq {i:Nat} {a:Addr} {t:TA} {u:UA} (ha:AU K C ω [true] t u):SU K C ω rm (Vi (tBM K "list" Og (Fj i) t)) (Ahf i a u):=fun B G0 H0 own G σ H ρ D d S F ⟨⟨ps0,e0⟩,hu⟩=>by
 have hl:i < ρ.length:=(List.getElem?_eq_some_iff.mp e0).1
 refine AaY (S.own e0) (Jt hl) fun a' vs0 e1 o _ _=>ha B G0 H0 own G σ H ρ _ _ S hu fun xs qs G' H' w ok ⟨q,ps,eq,ep,hl2,h⟩=>?_
 have S':=S.grow w
 obtain⟨b1,b2,vs,b3,b4⟩:=S'.sl i _ ep
 rw[o] at b2; cases b2
 subst eq
 match xs,ok with
 | [x],ok =>
  have rx:Rep K C G' x q:=ok.1
  refine⟨a,vs,x,rfl,rfl,b3,Rz (by rw[b4.1]; omega),fun H2 c e2=>F.nx own G' σ H2 _ ?_ h⟩
  have S2:=S'.chg o e1 c (OwnA.ofL e2 (Js b4 rx))
  have S3:=S2.slot (i:=i) (s':=.om a (.lst (ps ++ [q]))) ⟨e1,o,OwnA.ofL e2 (Js b4 rx)⟩
  rwa [set_set] at S3
 | [],ok=>cases ok
 | _ :: _ :: _,ok=>cases ok.2
def flM (i:Nat) (a:Addr) (z:Fl) (ps:List PV) (N:Bg->Prop) (ρ:Bg):Prop:=ρ[i]? = some (.fl z ps)/\N (ρ.set i (.om a (.lst ps)))
def AhZ (i:Nat) (a:Addr) (u:US):US:=fun d ρ=>∃ ps,ρ[i]? = some (.om a (.lst ps))/\∀ z,u ⟨flM i a z ps d.nx,d.rt,flM i a z ps d.bk,flM i a z ps d.ct⟩ (ρ.set i (.fl z ps))
theorem Aja {i:Nat} {a:Addr} {t:TS} {u:US} (h:SU K C ω rm t u):SU K C ω rm t (AhZ i a u):=fun B G0 H0 own G σ H ρ D d S F ⟨ps,e,hu⟩=>by
 obtain⟨ea,eo,vs,ha,l⟩:=S.sl i _ e
 have S1:=S.slot (s':=.fl (a,vs) ps) ⟨ea,eo,ha,l⟩
 have key:∀ (N:Bg->Prop) (M:St->Hp->Prop),(∀ own G σ H ρ,Sat K C ω B G0 H0 own G σ H ρ->N ρ->M σ H)->∀ own' G' σ' H' ρ',Sat K C ω B G0 H0 own' G' σ' H' ρ'->flM i a (a,vs) ps N ρ'->M σ' H':=fun N M hM own' G' σ' H' ρ' S' ⟨e',h'⟩=>by
  obtain⟨h1,h2,h3,h4⟩:=S'.sl i _ e'
  exact hM own' G' σ' _ _ (S'.slot (s':=.om a (.lst ps)) ⟨h1,h2,OwnA.ofL h3 h4⟩) h'
 exact h B G0 H0 own G σ _ _ _ ⟨flM i a (a,vs) ps d.nx,d.rt,flM i a (a,vs) ps d.bk,flM i a (a,vs) ps d.ct⟩ S1 ⟨key d.nx D.nx F.nx,F.rt,key d.bk D.bk F.bk,key d.ct D.ct F.ct⟩ (hu (a,vs))
def AhP (psp:Um) (i j:Nat) (u0 u2:UE):US:=fun d ρ=>i ≠ j/\∃ q,ρ[i]? = some (.ow q)/\u0 ρ fun p=>u2 ρ fun r=>psp p q r fun p1 p2=>d.nx ((ρ.set i (.ow p2)).set j (.ow p1))
theorem Ah9 {psp:Um} {i j:Nat} {E:XK} {t0 t2:TE} {u0 u2:UE} (h0:EU K C ω t0 u0) (h2:EU K C ω t2 u2):SU K C ω rm (Lq (Tk (spM K C psp) [] E (Fy t0 (Fy (Fj i) (Fy t2 Ln)))) (Gn j)) (AhP psp i j u0 u2) :=
 fun B G0 H0 own G σ H ρ D d S F ⟨ne,q,e,hu⟩=>h0 B G0 H0 own G σ H ρ _ _ S hu fun x p G1 H1 w1 r1 hu2=>by
  have S1:=S.grow w1
  obtain⟨a,ea,eo,_⟩:=S.sl i _ e
  refine⟨_,ea,h2 B G0 H0 own G1 σ H1 ρ _ _ S1 hu2 fun y r G2 H2 w2 r2 hp=>?_⟩
  have S2:=S1.grow w2
  obtain⟨a',ea',eo',oa⟩:=S2.sl i _ e
  rw[eo] at eo'; cases eo'
  obtain⟨f0,fg,o,ho,ht⟩:=S2.fr i a eo
  show spM K C psp ([x,.ref a,y] ++ []) H2 (fun v H1=>D.nx (σ.set j (some v)) H1) E
  refine⟨G2,x,a,y,p,q,r,_,rfl,w2.i,fg,oa,r1.mono w2.g,r2,hp,fun G' H' c p1 q' w hc gc oc gb ob hd=>?_⟩
  have n0:∀ b u,H0 b = some u->b ≠ a:=fun b u h z=>by subst z; rw[f0] at h; cases h
  have ng:∀ b u,G2 b = some u->b ≠ a:=fun b u h z=>by subst z; rw[fg] at h; cases h
  have hl:i < ρ.length:=(List.getElem?_eq_some_iff.mp e).1
  have Se:Sat K C ω B G0 H0 (Jp own i) G2 σ (era H2 a) (ρ.set i .un):=by
   refine⟨S2.kb,⟨S2.gr.g,fun b u h=>by rw[Ld (n0 b u h)]; exact S2.gr.h _ _ h,fun b u h=>by rw[Ld (ng b u h)]; exact S2.gr.i _ _ h,S2.gr.n⟩,by rw[length_set,S2.len],fun j k b h1 h2=>S2.inj j k b (Fg h1).2 (Fg h2).2,fun j b h=>?_,fun j s h=>?_,S2.ex⟩
   ·obtain⟨nj,h⟩:=Fg h
    obtain⟨q0,qg,o,qh,qt⟩:=S2.fr j b h
    exact⟨q0,qg,o,by rw[Ld (fun z=>nj (S2.inj j i b h (by rw[z]; exact eo)))]; exact qh,qt⟩
   ·rcases Lv h with ⟨rfl,rfl,hl⟩ | ⟨z,h⟩
    ·trivial
    ·have k:=S2.sl j s h
     have un:Jp own i j = own j:=by unfold Jp; rw[if_neg z]
     cases s with
     | un=>trivial
     | sh p=>exact k
     | bo p=>exact k
     | bz kvs=>exact k
     | fz y kvs =>
      obtain⟨e1,o1,h1,h2⟩:=k
      exact⟨e1,un.trans o1,by rw[Ld (fun w=>z (S2.inj j i a (by rw[<- w]; exact o1) eo))]; exact h1,h2⟩
     | fl y ps =>
      obtain⟨e1,o1,h1,h2⟩:=k
      exact⟨e1,un.trans o1,by rw[Ld (fun w=>z (S2.inj j i a (by rw[<- w]; exact o1) eo))]; exact h1,h2⟩
     | om b p' =>
      obtain⟨e1,o1,r1⟩:=k
      exact⟨e1,un.trans o1,r1.mono (Same.refl _) (Ld fun w=>z (S2.inj j i a (by rw[<- w]; exact o1) eo))⟩
     | ow p' =>
      obtain⟨b,e1,o1,r1⟩:=k
      exact⟨b,e1,un.trans o1,r1.mono (Same.refl _) (Ld fun w=>z (S2.inj j i a (by rw[<- w]; exact o1) eo))⟩
  have S3:=Se.grow w
  have S4:=S3.setO (i:=i) ob f0 gb (fun j z=>(Fg z).1 (S2.inj j i a (Fg z).2 eo))
  have es:σ.set i (some (V.ref a)) = σ:=by
   refine ext_getElem? fun k=>?_
   by_cases z:k = i
   ·subst z; rw[Jt (by rw[S.len]; exact hl),ea]
   ·rw[Th z]
  rw[es,set_set] at S4
  have nc:c ≠ a:=fun z=>by subst z; rw[hc] at ho; cases ho
  refine F.nx _ G' _ H' _ (S4.setO (i:=j) oc (S2.gr.h.free hc) gc fun k z=>?_) hd
  unfold Qx at z
  split at z
  ·cases z; exact nc rfl
  ·obtain⟨_,_,o',ho',_⟩:=S2.fr k c (Fg z).2
   rw[hc] at ho'; cases ho'
theorem Ak3 {i j:Nat} {a:Addr} {d:Fq} {ρ:Bg} {p1 p2:PV} (h1:ρ[j]? = some (.ow p1)) (h2:ρ[i]? = some (.om a p2)) (ne:i ≠ j) (q:d.rt (.tup [p1,p2])):AgP i a j d ρ:=⟨p1,p2,h1,h2,ne,q⟩
theorem Akj {i:Nat} {a:Addr} {u:UA} {d:Fq} {ρ:Bg} {ps:List PV} (h:ρ[i]? = some (.om a (.lst ps))) (q:u ρ fun qs=>AcB i a ρ d.nx qs):Ahf i a u d ρ:=⟨⟨ps,h⟩,q⟩
theorem Aj2 {i:Nat} {a:Addr} {ρ:Bg} {N:Bg->Prop} {q:PV} {ps:List PV} (h:ρ[i]? = some (.om a (.lst ps))) (k:N (ρ.set i (.om a (.lst (ps ++ [q]))))) (hl:ps.length < 100000):AcB i a ρ N [q]:=⟨q,ps,rfl,h,hl,k⟩
theorem Ako {psp:Um} {i j:Nat} {u0 u2:UE} {d:Fq} {ρ:Bg} {q:PV} (ne:i ≠ j) (h:ρ[i]? = some (.ow q)) (k:u0 ρ fun p=>u2 ρ fun r=>psp p q r fun p1 p2=>d.nx ((ρ.set i (.ow p2)).set j (.ow p1))):AhP psp i j u0 u2 d ρ:=⟨ne,q,h,k⟩
theorem Aku {i:Nat} {a:Addr} {u:US} {d:Fq} {ρ:Bg} {ps:List PV} (h1:ρ[i]? = some (.om a (.lst ps))) (q:∀ z,u ⟨flM i a z ps d.nx,d.rt,flM i a z ps d.bk,flM i a z ps d.ct⟩ (ρ.set i (.fl z ps))):AhZ i a u d ρ:=⟨ps,h1,q⟩
def AlQ (i j:Nat):US:=fun d ρ=>∃ ps q,ρ[j]? = some (.ow (.lst ps))/\ps[ps.length - 1]? = some q/\d.nx ((ρ.set j (.ow (.lst ps.dropLast))).set i (.sh q))
theorem AnF {i j:Nat} {d:Fq} {ρ:Bg} {ps:List PV} {q:PV} (h:ρ[j]? = some (.ow (.lst (ps ++ [q])))) (k:d.nx ((ρ.set j (.ow (.lst ps))).set i (.sh q))):AlQ i j d ρ:=⟨ps ++ [q],q,h,by rw[length_append,length_singleton,Nat.add_sub_cancel,getElem?_append_right (Nat.le_refl _),Nat.sub_self]; rfl,by rw[List.dropLast_concat]; exact k⟩
theorem AlA {i j:Nat}:SU K C ω rm (Lq (AlU K "list" Ahv (Fj j)) (Gn i)) (AlQ i j):=fun B G0 H0 own G σ H ρ D d S F ⟨ps,q,e,hq,h⟩=>by
 obtain⟨a,vs,e1,o,h1,h2⟩:=S.list e
 obtain⟨y,hy⟩:∃ y,vs[vs.length - 1]? = some y:=by
  have:=(List.getElem?_eq_some_iff.mp hq).1
  rw[<- h2.1] at this
  exact⟨_,getElem?_eq_getElem this⟩
 have ry:Rep K C G y q:=h2.2 _ _ _ hy (by rw[h2.1]; exact hq)
 refine⟨_,e1,.inl ⟨rfl,_,SqL.of h1⟩,a,vs,y,rfl,rfl,h1,hy,fun H2 c e2=>F.nx _ G _ H2 _ ((S.chg o e1 c (OwnA.ofL e2 ⟨by rw[List.length_dropLast,List.length_dropLast,h2.1],fun k x z hx hz=>?_⟩)).setS ry) h⟩
 rw[List.dropLast_eq_take] at hx hz
 rw[getElem?_take] at hx hz
 split at hx
 ·rw[if_pos (by rw[<- h2.1]; assumption)] at hz
  exact h2.2 k x z hx hz
 ·cases hx
end
theorem Jv {α:Type} {R:List α} {x s:α} {i:Nat} (h:(R ++ [x])[i]? = some s):R[i]? = some s\/(i = R.length/\s = x):=by
 by_cases hi:i < R.length
 ·rw[getElem?_append_left hi] at h; exact .inl h
 ·rw[getElem?_append_right (by omega)] at h
  have hz:i - R.length = 0:=by
   have:=(List.getElem?_eq_some_iff.mp h).1
   simp at this; omega
  rw[hz] at h
  simp at h
  exact .inr ⟨by omega,h.symm⟩
inductive JB (S:Nat->Int) (R0 Mk:List Sg):Nat->List Sg->List Jn->Prop
 | nil:JB S R0 Mk 0 R0 []
 | skip {k:Nat} {R:List Sg} {J:List Jn} (h:JB S R0 Mk k R J):JB S R0 Mk (k + 1) R J
 | add {k:Nat} {R:List Sg} {J:List Jn} {s m:Sg} (h:JB S R0 Mk k R J) (hs:s ∈ R) (hm:m ∈ Mk) (hn:¬ (s.1,m.1) ∈ J.map (·.2)):JB S R0 Mk (k + 1) (R ++ [(S (10 + k),s.2.1,0)]) (J ++ [(S (10 + k),s.1,m.1)])
section
variable {S:Nat->Int} {R0 Mk R:List Sg} {J:List Jn} {k:Nat}
theorem JB.len (h:JB S R0 Mk k R J):J.length <= k/\R.length = R0.length + J.length:=by
 induction h with
 | nil=>exact⟨Nat.le_refl _,rfl⟩
 | skip h ih=>exact⟨by omega,ih.2⟩
 | add h hs hm hn ih=>refine⟨by simp; omega,by simp; omega⟩
theorem JB.whole (h:JB S R0 Mk k R J):∀ j ∈ J,∃ i,i < k/\j.1 = S (10 + i):=by
 induction h with
 | nil=>intro j hj; cases hj
 | skip h ih=>intro j hj; obtain⟨i,a,b⟩:=ih j hj; exact⟨i,by omega,b⟩
 | add h hs hm hn ih =>
  rename_i k R J s m
  intro j hj
  rcases mem_append.mp hj with hj | hj
  ·obtain⟨i,a,b⟩:=ih j hj; exact⟨i,by omega,b⟩
  ·rw[mem_singleton.mp hj]; exact⟨k,by omega,rfl⟩
theorem JB.join (h:JB S R0 Mk k R J):∀ j ∈ J,(∃ s ∈ R,∃ u ∈ R,s.1 = j.1/\u.1 = j.2.1/\s.2.1 = u.2.1)/\∃ m ∈ Mk,m.1 = j.2.2:=by
 induction h with
 | nil=>intro j hj; cases hj
 | skip h ih=>exact ih
 | add h hs hm hn ih =>
  rename_i k R J s m
  intro j hj
  rcases mem_append.mp hj with hj | hj
  ·obtain⟨⟨a,ha,b,hb,e⟩,d⟩:=ih j hj
   exact⟨⟨a,mem_append_left _ ha,b,mem_append_left _ hb,e⟩,d⟩
  ·rw[mem_singleton.mp hj]
   exact⟨⟨_,mem_append_right _ mem_cons_self,s,mem_append_left _ hs,rfl,rfl,rfl⟩,m,hm,rfl⟩
theorem Xd {J:List Jn} {w:Jn} {n:Int} (h:¬ w.1 = n):Fm (J ++ [w]) n = Fm J n:=by
 induction J with
 | nil=>show (if w.1 = n then some w.2 else none) = none; rw[if_neg h]
 | cons x r ih =>
  show (if x.1 = n then some x.2 else Fm (r ++ [w]) n) = if x.1 = n then some x.2 else Fm r n
  rw[ih]
theorem Zg (J:List Jn) (n:Int):∀ k,jGo J (k + 1) n = jGo J k (Fn J n)
 | 0=>rfl
 | k + 1=>by
  show Fn J (jGo J (k + 1) n) = Fn J (jGo J k (Fn J n))
  rw[Zg J n k]
theorem Aa3 {J:List Jn} {w:Jn} (hb:∀ j ∈ J,¬ j.2.1 = w.1):∀ (k:Nat) (n:Int),¬ n = w.1->jGo (J ++ [w]) k n = jGo J k n/\¬ jGo J k n = w.1
 | 0,n,h=>⟨rfl,h⟩
 | k + 1,n,h=>by
  obtain⟨e,ne⟩:=Aa3 hb k n h
  show Fn (J ++ [w]) (jGo (J ++ [w]) k n) = Fn J (jGo J k n)/\¬ Fn J (jGo J k n) = w.1
  rw[e]
  unfold Fn
  rw[Xd fun z=>ne z.symm]
  refine⟨rfl,?_⟩
  cases z:Fm J (jGo J k n) with
  | none=>exact ne
  | some m=>exact hb _ (Uv z)
theorem Zt {J:List Jn} {n:Int} {k:Nat} (h:Fm J (jGo J k n) = none):∀ d,jGo J (k + d) n = jGo J k n
 | 0=>rfl
 | d + 1=>by
  show Fn J (jGo J (k + d) n) = _
  rw[Zt h d]
  unfold Fn
  rw[h]
end
structure AnX (S:List Sg) (M:List (Int × Int)) (J:List Jn):Prop where
 so:∀ s ∈ S,Yq s
 mo:∀ m ∈ M,0 <= m.1/\0 <= m.2
 nd:(S.map (·.1) ++ Fr M).Nodup
 jo:Ac6 (kK S ++ kM M) J
 ln:S.length + 2 * M.length <= 60
 jl:J.length <= 7
 mr:∃ s ∈ S,s.2.1 = "mark"
section
variable {S:Nat->Int} {R0 Mk R:List Sg} {J:List Jn} {k x y t:Nat}
end
theorem Adf {kvs:List (Key × V)} {k:Key} {v:V} (h:Cs kvs k = some v):(k,v) ∈ kvs:=by
 unfold Cs at h
 obtain⟨p,h1,h2⟩:=map_eq_some_iff.mp h
 have e0:=List.find?_some h1
 have e:p.1 = k:=of_decide_eq_true e0
 have:p = (k,v):=Prod.ext e h2
 rw[<- this]
 exact List.mem_of_find?_eq_some h1
theorem AjT {M:List (Int × Int)} {p:Key × V} (h:p ∈ kM M):p.2 = .str "open"\/p.2 = .str "shut":=by
 induction M with
 | nil=>cases h
 | cons x r ih =>
  rcases mem_cons.mp h with e | h
  ·rw[e]; exact .inl rfl
  ·rcases mem_cons.mp h with e | h
   ·rw[e]; exact .inr rfl
   ·exact ih h
theorem Ac0 (U:List Sg) (M:List (Int × Int)) (n:Int):(Cs (kK U ++ kM M) (Sum.inl n)).getD (.str "plain") = .str (Ch U M n):=by
 unfold Ch
 cases e:Cs (kK U ++ kM M) (Sum.inl n) with
 | none=>rfl
 | some v =>
  rcases mem_append.mp (Adf e) with h | h
  ·obtain⟨s,_,z⟩:=mem_map.mp h
   have:V.str s.2.1 = v:=(Prod.mk.inj z).2
   rw[<- this]; rfl
  ·rcases AjT h with z | z
   ·have z:v = .str "open":=z
    rw[z]; rfl
   ·have z:v = .str "shut":=z
    rw[z]; rfl
theorem Qo {U:List Sg} {M:List (Int × Int)} {n:Int} {k:Str} (h:(Cs (kK U ++ kM M) (Sum.inl n)).getD (.str "plain") = .str k):Ch U M n = k:=by
 rw[Ac0] at h
 exact V.str.inj h
def Dd (U:List Sg) (M:List (Int × Int)) (n:Int):Bool:=decide (Ch U M n = "mark")
def Qa (mk:Int->Bool) (gs:List (List Int)) (n:Int):List (List Int):=if gs = []\/mk n = false then gs ++ [[n]] else gs.dropLast ++ [gs.getLast?.getD [] ++ [n]]
def grp (mk:Int->Bool) (ts:List Int):List (List Int):=ts.foldl (Qa mk) []
theorem Afz (mk:Int->Bool) (ts:List Int) (n:Int):grp mk (ts ++ [n]) = Qa mk (grp mk ts) n:=by simp [grp]
theorem Uh {mk:Int->Bool} {gs:List (List Int)} {n:Int} (h:gs = []\/mk n = false):Qa mk gs n = gs ++ [[n]]:=if_pos h
theorem Aah {mk:Int->Bool} {gs:List (List Int)} {g:List Int} {n:Int} (h:mk n = true):Qa mk (gs ++ [g]) n = gs ++ [g ++ [n]]:=by
 unfold Qa
 rw[if_neg (by rintro (z | z); (simp at z); (rw[h] at z; cases z))]
 simp
theorem Abg {mk:Int->Bool} (P:List (List Int)->List Int->Prop) (h0:P [] []) (hs:∀ gs ts n,P gs ts->P (Qa mk gs n) (ts ++ [n])) (ts:List Int):P (grp mk ts) ts:=by
 have key:∀ (ts:List Int) (acc:List (List Int)) (pre:List Int),P acc pre->P (ts.foldl (Qa mk) acc) (pre ++ ts):=by
  intro ts
  induction ts with
  | nil=>intro acc pre h; rw[append_nil]; exact h
  | cons n r ih =>
   intro acc pre h
   have:=ih (Qa mk acc n) (pre ++ [n]) (hs acc pre n h)
   rw[append_assoc] at this
   exact this
 exact key ts [] [] h0
structure Ah7 (mk:Int->Bool) (gs:List (List Int)) (ts:List Int):Prop where
 fl:gs.flatten = ts
 ln:gs.length <= ts.length
 ne:∀ g ∈ gs,∃ n r,g = n :: r/\∀ m ∈ r,mk m = true
 hd:∀ (i:Nat) (g:List Int),gs[i]? = some g->0 < i->∃ n r,g = n :: r/\mk n = false
theorem Ly (mk:Int->Bool) (ts:List Int):Ah7 mk (grp mk ts) ts:=by
 refine Abg (Ah7 mk) ⟨rfl,Nat.le_refl _,(fun g h=>by cases h),(fun i g h=>by simp at h)⟩ (fun gs ts n h=>?_) ts
 by_cases z:gs = []\/mk n = false
 ·rw[Uh z]
  refine⟨by rw[List.flatten_append,h.fl]; rfl,by have:=h.ln; simp; omega,fun g hg=>?_,fun i g e hi=>?_⟩
  ·rcases mem_append.mp hg with hg | hg
   ·exact h.ne g hg
   ·rw[mem_singleton.mp hg]; exact⟨n,[],rfl,(fun m hm=>by cases hm)⟩
  ·rcases Jv e with e | ⟨e1,e2⟩
   ·exact h.hd i g e hi
   ·rcases z with z | z
    ·rw[z] at e1; rw[e1] at hi; exact absurd hi (Nat.lt_irrefl _)
    ·exact⟨n,[],e2,z⟩
 ·rcases eq_nil_or_concat gs with e | ⟨gs',g',rfl⟩
  ·exact absurd (.inl e) z
  ·have hm:mk n = true:=by
    cases w:mk n with
    | true=>rfl
    | false=>exact absurd (.inr w) z
   rw[concat_eq_append] at h z ⊢
   rw[Aah hm]
   obtain⟨a,r,eg,hr⟩:=h.ne g' (mem_append_right _ mem_cons_self)
   refine⟨by rw[<- h.fl]; simp,by have:=h.ln; simp at this ⊢; omega,fun g hg=>?_,fun i g e hi=>?_⟩
   ·rcases mem_append.mp hg with hg | hg
    ·exact h.ne g (mem_append_left _ hg)
    ·rw[mem_singleton.mp hg,eg]
     refine⟨a,r ++ [n],rfl,fun m hm'=>?_⟩
     rcases mem_append.mp hm' with w | w
     ·exact hr m w
     ·rw[mem_singleton.mp w]; exact hm
   ·rcases Jv e with e | ⟨e1,e2⟩
    ·have hlt:=(List.getElem?_eq_some_iff.mp e).1
     exact h.hd i g (by rw[getElem?_append_left hlt]; exact e) hi
    ·obtain⟨n',r',q1,q2⟩:=h.hd i g' (by rw[e1]; simp) hi
     exact⟨n',r' ++ [n],by rw[e2,q1]; rfl,q2⟩
def Qz (H:Hp) (x:V) (g:List Int):Prop:=∃ p,x = .ref p/\H p = some (.lst (g.map V.int))
theorem LAt.monoM {β α:Type} {R R':Hp->β->α->Prop} {H H':Hp} {xs:List β} {ys:List α} (h:LAt R H xs ys) (m:∀ x ∈ xs,∀ y,R H x y->R' H' x y):LAt R' H' xs ys:=⟨h.1,fun i x y e1 e2=>m x (mem_of_getElem? e1) y (h.2 i x y e1 e2)⟩
theorem LAt.lstS {H H':Hp} {xs:List V} {gs:List (List Int)} (h:LAt Qz H xs gs) (s:Same H H'):LAt Qz H' xs gs:=h.mono fun _ _ ⟨p,e,z⟩=>⟨p,e,s _ _ z⟩
theorem LAt.lstC {H H':Hp} {a:Addr} {xs:List V} {gs:List (List Int)} (h:LAt Qz H xs gs) (c:Chg a H H') (n:¬ V.ref a ∈ xs):LAt Qz H' xs gs :=
 h.monoM fun x hx y ⟨p,e,z⟩=>⟨p,e,c _ _ z (by intro w; subst w; rw[e] at hx; exact n hx)⟩
structure LLat (H:Hp) (l:Addr) (xs:List V) (gs:List (List Int)):Prop where
 li:H l = some (.lst xs)
 at':LAt Qz H xs gs
 nd:xs.Nodup
 no:¬ V.ref l ∈ xs
theorem LAt.lstF {H:Hp} {a:Addr} {xs:List V} {gs:List (List Int)} (h:LAt Qz H xs gs) (ha:H a = none):¬ V.ref a ∈ xs:=fun z=>by
 obtain⟨i,hi⟩:=getElem?_of_mem z
 obtain⟨g,_,p,e,hp⟩:=h.get hi
 cases e
 rw[ha] at hp; cases hp
theorem LLat.push {H H2 H3 H4:Hp} {l p:Addr} {xs:List V} {gs:List (List Int)} {n:Int} (h:LLat H l xs gs) (hp:H p = none) (s:Same H H2) (c3:Chg l H2 H3) (e3:H3 l = some (.lst (xs ++ [.ref p]))) (c4:Chg p H3 H4) (e4:H4 p = some (.lst ([] ++ [.int n]))) :
  LLat H4 l (xs ++ [.ref p]) (gs ++ [[n]]):=by
 have nlp:l ≠ p:=By h.li hp
 have nf:=h.at'.lstF hp
 refine⟨c4 _ _ e3 nlp,LAt.snoc (((h.at'.lstS s).lstC c3 h.no).lstC c4 nf) ⟨p,rfl,e4⟩,?_,?_⟩
 ·refine nodup_append.mpr ⟨h.nd,by simp,fun x hx y hy e=>?_⟩
  rw[e,mem_singleton.mp hy] at hx
  exact nf hx
 ·intro z
  rcases mem_append.mp z with z | z
  ·exact h.no z
  ·exact nlp (V.ref.inj (mem_singleton.mp z))
theorem LLat.add {H H':Hp} {l p:Addr} {xs:List V} {gs:List (List Int)} {g:List Int} {n:Int} (h:LLat H l (xs ++ [.ref p]) (gs ++ [g])) (c:Chg p H H') (e:H' p = some (.lst (g.map V.int ++ [.int n]))):LLat H' l (xs ++ [.ref p]) (gs ++ [g ++ [n]]):=by
 have nlp:l ≠ p:=fun z=>h.no (by rw[z]; exact mem_append_right _ mem_cons_self)
 obtain⟨n1,_,n3⟩:=nodup_append.mp h.nd
 have np:¬ V.ref p ∈ xs:=fun z=>n3 _ z _ mem_cons_self rfl
 have hl:xs.length = gs.length:=by have:=h.at'.1; simpa using this
 have h':LAt Qz H xs gs:=⟨hl,fun i x y e1 e2=>h.at'.2 i x y (by rw[getElem?_append_left (List.getElem?_eq_some_iff.mp e1).1]; exact e1) (by rw[getElem?_append_left (List.getElem?_eq_some_iff.mp e2).1]; exact e2)⟩
 exact⟨c _ _ h.li nlp,LAt.snoc (h'.lstC c np) ⟨p,rfl,by rw[map_append]; exact e⟩,h.nd,h.no⟩
theorem LLat.last {H:Hp} {l:Addr} {xs:List V} {gs:List (List Int)} (h:LLat H l xs gs) (ne:¬ gs = []):∃ xs' p gs' g,xs = xs' ++ [V.ref p]/\gs = gs' ++ [g]/\H p = some (.lst (g.map V.int)):=by
 rcases eq_nil_or_concat gs with e | ⟨gs',g,rfl⟩
 ·exact absurd e ne
 ·rcases eq_nil_or_concat xs with e | ⟨xs',x,rfl⟩
  ·have:=h.at'.1; rw[e] at this; simp at this
  ·rw[concat_eq_append,concat_eq_append] at h
   have hl:xs'.length = gs'.length:=by have:=h.at'.1; simpa using this
   obtain⟨p,e,hp⟩:=h.at'.2 xs'.length x g (by simp) (by rw[hl]; simp)
   exact⟨xs',p,gs',g,by rw[concat_eq_append,e],concat_eq_append,hp⟩
theorem Agk {ts:List Int} {i:Nat} {x:V} (h:(ts.map V.int)[i]? = some x):∃ n,ts[i]? = some n/\x = .int n:=by
 rw[getElem?_map] at h
 obtain⟨n,h1,h2⟩:=map_eq_some_iff.mp h
 exact⟨n,h1,h2.symm⟩
theorem Aat {κ:Type} [DecidableEq κ] {kvs:List (κ × PV)} {k:κ} {v:PV} (h:¬ k ∈ kvs.map (·.1)):Lr kvs k v = kvs ++ [(k,v)]:=by
 unfold Lr
 rw[if_neg]
 intro z
 obtain⟨kv,h1,h2⟩:=any_eq_true.mp z
 exact h (mem_map.mpr ⟨kv,h1,of_decide_eq_true h2⟩)
theorem Ru {κ:Type} [DecidableEq κ] (x:κ × PV) (r:List (κ × PV)) (k:κ):Gb (x :: r) k = if x.1 = k then some x.2 else Gb r k:=by
 unfold Gb
 rw[find?_cons]
 by_cases z:x.1 = k
 ·rw[if_pos z,decide_eq_true z]; rfl
 ·rw[if_neg z,decide_eq_false z]
theorem AaN {α:Type} {f:α->Int} {l:List α} {n:Int} {g:α->PV} (h:(Sum.inl n:Key) ∈ (l.map fun s=>((Sum.inl (f s),g s):Key × PV)).map (·.1)):n ∈ l.map f:=by
 rw[map_map] at h
 obtain⟨s,hs,e⟩:=mem_map.mp h
 exact mem_map.mpr ⟨s,hs,Sum.inl.inj e⟩
section
variable {U:List Sg} {M:List (Int × Int)} {J:List Jn}
end
theorem Lp {α:Type} (l:List α) (x:α):L2.atI (l ++ [x]) (-1) = some x:=by
 unfold L2.atI ixN
 rw[if_neg (by omega),if_pos (by simp; omega)]
 show (l ++ [x])[_]? = _
 rw[show (-1 + ((l ++ [x]).length:Int)).toNat = l.length by simp; omega]
 simp
section
variable {U:List Sg} {M:List (Int × Int)} {J:List Jn}
def knW (U:List Sg) (M:List (Int × Int)):List Int->Str
 | []=>"plain"
 | n :: _=>if Dd U M n = true then "plain" else Ch U M n
end
theorem Rg {α:Type} (xs:List α) (lo hi:Option Int):(Fe xs lo hi).length <= xs.length:=by
 unfold Fe; rw[length_take,length_drop]; omega
section
variable {U:List Sg} {M:List (Int × Int)} {J:List Jn}
end
section
variable {U:List Sg} {M:List (Int × Int)} {J:List Jn}
end
section
variable {U:List Sg} {M:List (Int × Int)} {J:List Jn}
end
theorem Ahn {α:Type} (xs:List α) (p:Nat):Fe xs none (some (p:Int)) = xs.take p:=by
 unfold Fe
 rw[HT.sIx_nat,HT.sIx_none]
 simp
section
variable {U:List Sg} {M:List (Int × Int)} {J:List Jn}
end
structure T2 (sg:List Int) (U:List Sg):Prop where
 at':∀ (k:Nat) (s:Sg),U[k]? = some s->sg[k]? = some s.1/\s.2.1 ∈ toldK/\Nb s.2.1 s.2.2
 wd:∀ (k:Nat) (s:Sg),U[k]? = some s->k < 8->toldK[k]? = some s.2.1
structure K2 (S:Nat->Int) (R0:List Sg):Prop where
 inj:∀ i j,i < 6->j < 6->S (10 + i) = S (10 + j)->i = j
 ne:∀ s ∈ R0,∀ i,i < 6->¬ s.1 = S (10 + i)
 nd:(R0.map (·.1)).Nodup
 ok:∀ s ∈ R0,s.2.1 ∈ joinedK/\s.2.2 = 0
section
variable {S:Nat->Int} {R0 Mk R:List Sg} {J:List Jn} {k:Nat}
theorem JB.row2 (h:JB S R0 Mk k R J):∀ s ∈ R,s ∈ R0\/∃ i,i < k/\s.1 = S (10 + i):=by
 induction h with
 | nil=>intro s hs; exact .inl hs
 | skip h ih =>
  intro s hs
  rcases ih s hs with z | ⟨i,a,b⟩
  ·exact .inl z
  ·exact .inr ⟨i,by omega,b⟩
 | add h hs hm hn ih =>
  rename_i k R J s m
  intro u hu
  rcases mem_append.mp hu with hu | hu
  ·rcases ih u hu with z | ⟨i,a,b⟩
   ·exact .inl z
   ·exact .inr ⟨i,by omega,b⟩
  ·rw[mem_singleton.mp hu]; exact .inr ⟨k,by omega,rfl⟩
theorem JB.kind2 (h:JB S R0 Mk k R J) (hB:K2 S R0):∀ s ∈ R,s.2.1 ∈ joinedK/\s.2.2 = 0:=by
 induction h with
 | nil=>exact hB.ok
 | skip h ih=>exact ih
 | add h hs hm hn ih =>
  intro u hu
  rcases mem_append.mp hu with hu | hu
  ·exact ih u hu
  ·rw[mem_singleton.mp hu]; exact⟨(ih _ hs).1,rfl⟩
theorem JB.old2 (h:JB S R0 Mk k R J) (hk:k < 6) (hB:K2 S R0):∀ u ∈ R,¬ u.1 = S (10 + k):=fun u hu e=>by
 rcases h.row2 u hu with z | ⟨i,a,b⟩
 ·exact hB.ne u z k hk e
 ·rw[b] at e
  have:=hB.inj i k (by omega) hk e
  omega
theorem JB.nodup2 (h:JB S R0 Mk k R J) (hk:k <= 6) (hB:K2 S R0):(R.map (·.1)).Nodup/\(J.map (·.1)).Nodup/\(J.map (·.2)).Nodup:=by
 induction h with
 | nil=>exact⟨hB.nd,nodup_nil,nodup_nil⟩
 | skip h ih=>exact ih (by omega)
 | add h hs hm hn ih =>
  rename_i k R J s m
  obtain⟨a,b,c⟩:=ih (by omega)
  refine⟨?_,?_,?_⟩
  ·rw[map_append]
   refine nodup_append.mpr ⟨a,by simp,fun x hx y hy e=>?_⟩
   obtain⟨u,hu,rfl⟩:=mem_map.mp hx
   have e2:y = S (10 + k):=by simpa using hy
   exact h.old2 (by omega) hB u hu (e.trans e2)
  ·rw[map_append]
   refine nodup_append.mpr ⟨b,by simp,fun x hx y hy e=>?_⟩
   obtain⟨u,hu,rfl⟩:=mem_map.mp hx
   obtain⟨i,h1,h3⟩:=h.whole u hu
   have e2:y = S (10 + k):=by simpa using hy
   rw[h3,e2] at e
   have:=hB.inj i k (by omega) (by omega) e
   omega
  ·rw[map_append]
   refine nodup_append.mpr ⟨c,by simp,fun x hx y hy e=>?_⟩
   have e2:y = (s.1,m.1):=by simpa using hy
   rw[<- e2,<- e] at hn
   exact hn hx
theorem JB.ends2 (h:JB S R0 Mk k R J) (hk:k <= 6) (hB:K2 S R0):∀ s ∈ R,Fm J (jGo J k s.1) = none:=by
 induction h with
 | nil=>intro s hs; rfl
 | skip h ih =>
  intro s hs
  have z:=ih (by omega) s hs
  rename_i k R J
  show Fm J (Fn J (jGo J k s.1)) = none
  unfold Fn
  rw[z]; exact z
 | add h hs hm hn ih =>
  rename_i k R J s m
  have ih:=ih (by omega)
  have old:=h.old2 (by omega) hB
  have hb:∀ j ∈ J,¬ j.2.1 = ((S (10 + k),s.1,m.1):Jn).1:=fun j hj=>by
   obtain⟨⟨_,_,u,hu,_,e,_⟩,_⟩:=h.join j hj
   rw[<- e]; exact old u hu
  have one:∀ u ∈ R,Fm (J ++ [(S (10 + k),s.1,m.1)]) (jGo (J ++ [(S (10 + k),s.1,m.1)]) k u.1) = none:=fun u hu=>by
   obtain⟨e,ne⟩:=Aa3 hb k u.1 (old u hu)
   rw[e,Xd fun z=>ne z.symm]
   exact ih u hu
  intro u hu
  rcases mem_append.mp hu with hu | hu
  ·show Fm _ (Fn _ (jGo _ k u.1)) = none
   unfold Fn
   rw[one u hu]; exact one u hu
  ·rw[mem_singleton.mp hu]
   rw[Zg]
   have hw:¬ S (10 + k) ∈ J.map (·.1):=fun z=>by
    obtain⟨j,hj,e⟩:=mem_map.mp z
    obtain⟨⟨v,hv,_,_,e2,_,_⟩,_⟩:=h.join j hj
    exact old v hv (e2.trans e)
   have st:Fn (J ++ [(S (10 + k),s.1,m.1)]) (S (10 + k)) = s.1:=by
    unfold Fn
    have:∀ J':List Jn,¬ S (10 + k) ∈ J'.map (·.1)->Fm (J' ++ [(S (10 + k),s.1,m.1)]) (S (10 + k)) = some (s.1,m.1):=by
     intro J'
     induction J' with
     | nil=>intro _; show (if S (10 + k) = S (10 + k) then _ else _) = _; rw[if_pos rfl]
     | cons x r ih2 =>
      intro hx
      show (if x.1 = S (10 + k) then some x.2 else Fm (r ++ _) _) = _
      rw[if_neg fun z=>hx (by rw[<- z]; exact mem_cons_self)]
      exact ih2 fun z=>hx (mem_cons_of_mem _ z)
    rw[this J hw]
   show Fm _ (jGo _ k (Fn _ (S (10 + k)))) = none
   rw[st]
   exact one s hs
theorem JB.ends27 (h:JB S R0 Mk k R J) (hk:k <= 6) (hB:K2 S R0):∀ j ∈ J,Fm J (jGo J 7 j.1) = none:=by
 intro j hj
 obtain⟨⟨s,hs,_,_,e,_,_⟩,_⟩:=h.join j hj
 have z:=h.ends2 hk hB s hs
 rw[e] at z
 have e7:jGo J 7 j.1 = jGo J k j.1:=by
  have e:=Zt z (7 - k)
  rw[show k + (7 - k) = 7 by omega] at e
  exact e
 rw[e7]; exact z
end
structure S28 (f:Nat->Int):Prop where
 nn:∀ i,0 <= f i
 inj:∀ i j,i < 28->j < 28->f i = f j->i = j
def bs4:List Str:=["fore","back","num","blank"]
theorem Zw:∀ k ∈ bs4,k ∈ joinedK/\k ∈ toldK/\¬ k = "mark"/\¬ k = "plain":=by decide +kernel
theorem Ach:∀ k ∈ joinedK,¬ k = "plain"->k ∈ bs4:=by decide +kernel
def r0G (f:Nat->Int) (U:List Sg):List Sg:=(U.filter fun (s:Sg)=>decide (s.2.1 ∈ bs4)).map (fun (s:Sg)=>((s.1,s.2.1,0):Sg)) ++ ([(f 24,"plain",0),(f 25,"plain",0)]:List Sg)
def Ll (U:List Sg):List Sg:=U.filter fun (s:Sg)=>decide (s.2.1 = "mark")
def upG (U R:List Sg) (n:Nat):List Sg:=U ++ (R.drop n).filter fun (s:Sg)=>decide (¬ s.2.1 = "plain")
def mtG (f:Nat->Int) (y:Nat):List (Int × Int):=[(f 14,f 15),(f 16,f 17)].take y
section
variable {f:Nat->Int} {U R:List Sg} {J:List Jn} {k y:Nat}
theorem T2.ix (h:T2 ((range 28).map f) U) (ul:U.length = 14):∀ s ∈ U,(∃ i,i < 14/\s.1 = f i)/\s.2.1 ∈ toldK/\Nb s.2.1 s.2.2:=fun s hs=>by
 obtain⟨i,hi⟩:=getElem?_of_mem hs
 have li:=(List.getElem?_eq_some_iff.mp hi).1
 obtain⟨a,b,c⟩:=h.at' i s hi
 rw[getElem?_map,getElem?_range (by omega)] at a
 exact⟨⟨i,by omega,(Option.some.inj a).symm⟩,b,c⟩
theorem T2.nd (h:T2 ((range 28).map f) U) (ul:U.length = 14) (hf:S28 f):(U.map (·.1)).Nodup:=by
 refine Lf fun i j x h1 h2=>?_
 rw[getElem?_map] at h1 h2
 obtain⟨s1,e1,z1⟩:=map_eq_some_iff.mp h1
 obtain⟨s2,e2,z2⟩:=map_eq_some_iff.mp h2
 have l1:=(List.getElem?_eq_some_iff.mp e1).1
 have l2:=(List.getElem?_eq_some_iff.mp e2).1
 have a1:=(h.at' i s1 e1).1
 have a2:=(h.at' j s2 e2).1
 rw[getElem?_map,getElem?_range (by omega)] at a1 a2
 exact hf.inj i j (by omega) (by omega) (by rw[Option.some.inj a1,Option.some.inj a2,z1,z2])
theorem Rr (h:T2 ((range 28).map f) U) (ul:U.length = 14) (hf:S28 f):K2 (fun i=>f (i + 8)) (r0G f U) where
 inj:=fun i j hi hj e=>by have:=hf.inj (10 + i + 8) (10 + j + 8) (by omega) (by omega) e; omega
 ne:=fun s hs i hi e=>by
  have e':s.1 = f (10 + i + 8):=e
  rcases mem_append.mp hs with hs | hs
  ·obtain⟨u,hu,rfl⟩:=mem_map.mp hs
   obtain⟨⟨a,h1,h2⟩,_⟩:=h.ix ul u (mem_filter.mp hu).1
   have:=hf.inj a (10 + i + 8) (by omega) (by omega) (by rw[<- h2]; exact e')
   omega
  ·simp only [mem_cons,not_mem_nil,or_false] at hs
   rcases hs with rfl | rfl
   ·have:=hf.inj 24 (10 + i + 8) (by omega) (by omega) e'; omega
   ·have:=hf.inj 25 (10 + i + 8) (by omega) (by omega) e'; omega
 nd:=by
  unfold r0G
  rw[map_append,map_map]
  refine nodup_append.mpr ⟨?_,?_,fun x hx z hz e=>?_⟩
  ·exact Nodup.sublist (Sublist.map (fun s:Sg=>s.1) List.filter_sublist) (h.nd ul hf)
  ·refine nodup_cons.mpr ⟨fun z=>?_,nodup_cons.mpr ⟨(fun z=>by cases z),nodup_nil⟩⟩
   have:=hf.inj 24 25 (by omega) (by omega) (mem_singleton.mp z)
   omega
  ·obtain⟨u,hu,rfl⟩:=mem_map.mp hx
   obtain⟨⟨a,h1,h2⟩,_⟩:=h.ix ul u (mem_filter.mp hu).1
   have hz':z = f 24\/z = f 25:=by simpa using hz
   have e':f a = z:=by rw[<- h2]; exact e
   rcases hz' with rfl | rfl
   ·have:=hf.inj a 24 (by omega) (by omega) e'; omega
   ·have:=hf.inj a 25 (by omega) (by omega) e'; omega
 ok:=fun s hs=>by
  rcases mem_append.mp hs with hs | hs
  ·obtain⟨u,hu,rfl⟩:=mem_map.mp hs
   exact⟨(Zw _ (of_decide_eq_true (mem_filter.mp hu).2)).1,rfl⟩
  ·simp only [mem_cons,not_mem_nil,or_false] at hs
   have:("plain" : Str) ∈ joinedK:=by decide +kernel
   rcases hs with rfl | rfl <;> exact⟨this,rfl⟩
abbrev JG (f:Nat->Int) (U:List Sg) (k:Nat) (R:List Sg) (J:List Jn):Prop:=JB (fun i=>f (i + 8)) (r0G f U) (Ll U) k R J
theorem Vy (h:JG f U k R J):∃ X,R = r0G f U ++ X/\∀ s ∈ X,∃ i,i < k/\s.1 = f (18 + i):=by
 induction h with
 | nil=>exact⟨[],by simp,fun s h=>by cases h⟩
 | skip h ih=>obtain⟨X,e,hx⟩:=ih; exact⟨X,e,fun s hs=>let ⟨i,a,b⟩:=hx s hs; ⟨i,by omega,b⟩⟩
 | add h hs hm hn ih =>
  rename_i k R J s m
  obtain⟨X,e,hx⟩:=ih
  refine⟨X ++ [(f (10 + k + 8),s.2.1,0)],by rw[e,append_assoc],fun u hu=>?_⟩
  rcases mem_append.mp hu with hu | hu
  ·obtain⟨i,a,b⟩:=hx u hu; exact⟨i,by omega,b⟩
  ·rw[mem_singleton.mp hu]; exact⟨k,by omega,by show f (10 + k + 8) = f (18 + k); congr 1; omega⟩
theorem Acj {X:List Sg} (e:R = r0G f U ++ X):upG U R (r0G f U).length = U ++ X.filter fun (s:Sg)=>decide (¬ s.2.1 = "plain"):=by
 unfold upG; rw[e,List.drop_append,drop_of_length_le (Nat.le_refl _),Nat.sub_self]; rfl
theorem Aev (h:JG f U k R J) (hk:k <= 6) (ht:T2 ((range 28).map f) U) (ul:U.length = 14) (hf:S28 f):∀ s ∈ R,(¬ s.2.1 = "plain"/\∃ r,(s.1,s.2.1,r) ∈ upG U R (r0G f U).length)\/(s.2.1 = "plain"/\∀ u ∈ upG U R (r0G f U).length,¬ u.1 = s.1):=by
 intro s hs
 obtain⟨X,e,hx⟩:=Vy h
 have nd:=(h.nodup2 hk (Rr ht ul hf)).1
 rw[Acj e]
 by_cases z:s.2.1 = "plain"
 ·refine .inr ⟨z,fun u hu e2=>?_⟩
  rcases mem_append.mp hu with hu | hu
  ·obtain⟨⟨a,h1,h2⟩,h3,_⟩:=ht.ix ul u hu
   rw[e] at hs
   rcases mem_append.mp hs with hs | hs
   ·rcases mem_append.mp hs with hs | hs
    ·obtain⟨v,hv,rfl⟩:=mem_map.mp hs
     exact (Zw _ (of_decide_eq_true (mem_filter.mp hv).2)).2.2.2 z
    ·have hs':s.1 = f 24\/s.1 = f 25:=by
      simp only [mem_cons,not_mem_nil,or_false] at hs
      rcases hs with rfl | rfl
      ·exact .inl rfl
      ·exact .inr rfl
     rcases hs' with q | q
     ·have:=hf.inj a 24 (by omega) (by omega) (by rw[<- h2,e2,q]); omega
     ·have:=hf.inj a 25 (by omega) (by omega) (by rw[<- h2,e2,q]); omega
   ·obtain⟨i,a1,a2⟩:=hx s hs
    have:=hf.inj a (18 + i) (by omega) (by omega) (by rw[<- h2,e2,a2]); omega
  ·obtain⟨hu1,hu2⟩:=mem_filter.mp hu
   have hu3:u ∈ R:=by rw[e]; exact mem_append_right _ hu1
   have:u = s:=by
    obtain⟨i,hi⟩:=getElem?_of_mem hu3
    obtain⟨j,hj⟩:=getElem?_of_mem hs
    have q1:(R.map (·.1))[i]? = some s.1:=by rw[getElem?_map,hi]; exact congrArg some e2
    have q2:(R.map (·.1))[j]? = some s.1:=by rw[getElem?_map,hj]; rfl
    have:i = j:=by
     rcases Nat.lt_trichotomy i j with c | c | c
     ·exact absurd (mem_of_getElem? (by rw[getElem?_take,if_pos c]; exact q1)) (Rl nd q2)
     ·exact c
     ·exact absurd (mem_of_getElem? (by rw[getElem?_take,if_pos c]; exact q2)) (Rl nd q1)
    subst this
    rw[hi] at hj
    exact Option.some.inj hj
   subst this
   exact of_decide_eq_true hu2 z
 ·refine .inl ⟨z,?_⟩
  rw[e] at hs
  rcases mem_append.mp hs with hs | hs
  ·rcases mem_append.mp hs with hs | hs
   ·obtain⟨v,hv,rfl⟩:=mem_map.mp hs
    exact⟨v.2.2,mem_append_left _ (mem_filter.mp hv).1⟩
   ·simp only [mem_cons,not_mem_nil,or_false] at hs
    rcases hs with rfl | rfl <;> exact absurd rfl z
  ·exact⟨s.2.2,mem_append_right _ (mem_filter.mpr ⟨hs,decide_eq_true z⟩)⟩
theorem Vf (h:JG f U k R J) (hk:k <= 6) (ht:T2 ((range 28).map f) U) (ul:U.length = 14) (hf:S28 f):((upG U R (r0G f U).length).map (·.1)).Nodup/\∀ s ∈ upG U R (r0G f U).length,(∃ i,(i < 14\/(18 <= i/\i < 24))/\s.1 = f i)/\s.2.1 ∈ toldK/\Nb s.2.1 s.2.2:=by
 obtain⟨X,e,hx⟩:=Vy h
 have nd:=(h.nodup2 hk (Rr ht ul hf)).1
 have kd:=h.kind2 (Rr ht ul hf)
 rw[Acj e]
 refine⟨?_,fun s hs=>?_⟩
 ·rw[map_append]
  refine nodup_append.mpr ⟨ht.nd ul hf,?_,fun x hx' z hz e2=>?_⟩
  ·rw[e,map_append] at nd
   exact Nodup.sublist (Sublist.map (fun s:Sg=>s.1) List.filter_sublist) (nodup_append.mp nd).2.1
  ·obtain⟨u,hu,rfl⟩:=mem_map.mp hx'
   obtain⟨v,hv,rfl⟩:=mem_map.mp hz
   obtain⟨⟨a,h1,h2⟩,_⟩:=ht.ix ul u hu
   obtain⟨i,a1,a2⟩:=hx v (mem_filter.mp hv).1
   have:=hf.inj a (18 + i) (by omega) (by omega) (by rw[<- h2,e2,a2])
   omega
 ·rcases mem_append.mp hs with hs | hs
  ·obtain⟨⟨a,h1,h2⟩,h3⟩:=ht.ix ul s hs
   exact⟨⟨a,.inl h1,h2⟩,h3⟩
  ·obtain⟨hs1,hs2⟩:=mem_filter.mp hs
   obtain⟨i,a1,a2⟩:=hx s hs1
   have k1:=kd s (by rw[e]; exact mem_append_right _ hs1)
   have k2:=Ach _ k1.1 (of_decide_eq_true hs2)
   have k3:=Zw _ k2
   exact⟨⟨18 + i,.inr ⟨by omega,by omega⟩,a2⟩,k3.2.1,.inr ⟨k3.2.2.1,k1.2⟩⟩
theorem Yt (f:Nat->Int) (y:Nat):∀ n ∈ Fr (mtG f y),∃ j,14 <= j/\j < 18/\n = f j:=fun n hn=>by
 have:n ∈ Fr [(f 14,f 15),(f 16,f 17)]:=by
  unfold mtG at hn
  have e:=To ([(f 14,f 15),(f 16,f 17)].take y) ([(f 14,f 15),(f 16,f 17)].drop y)
  rw[take_append_drop] at e
  rw[e]; exact mem_append_left _ hn
 simp only [Fr,mem_cons,not_mem_nil,or_false] at this
 rcases this with rfl | rfl | rfl | rfl
 ·exact⟨14,by omega,by omega,rfl⟩
 ·exact⟨15,by omega,by omega,rfl⟩
 ·exact⟨16,by omega,by omega,rfl⟩
 ·exact⟨17,by omega,by omega,rfl⟩
theorem Ano (hf:S28 f) (y:Nat):(Fr (mtG f y)).Nodup:=by
 have e:=To ([(f 14,f 15),(f 16,f 17)].take y) ([(f 14,f 15),(f 16,f 17)].drop y)
 rw[take_append_drop] at e
 have nd:(Fr [(f 14,f 15),(f 16,f 17)]).Nodup:=by
  show ([14,15,16,17].map f).Nodup
  refine Lf fun i j x h1 h2=>?_
  rw[getElem?_map] at h1 h2
  obtain⟨a,e1,z1⟩:=map_eq_some_iff.mp h1
  obtain⟨b,e2,z2⟩:=map_eq_some_iff.mp h2
  have l1:=(List.getElem?_eq_some_iff.mp e1).1
  have l2:=(List.getElem?_eq_some_iff.mp e2).1
  have key:∀ i:Nat,i < 4->([14,15,16,17]:List Nat)[i]? = some (14 + i):=by decide
  rw[key i l1] at e1; rw[key j l2] at e2
  cases e1; cases e2
  have:=hf.inj (14 + i) (14 + j) (by simp at l1; omega) (by simp at l2; omega) (by rw[z1,z2])
  omega
 rw[e] at nd
 exact (nodup_append.mp nd).1
theorem Xz (h:JG f U k R J) (hk:k <= 6) (ht:T2 ((range 28).map f) U) (ul:U.length = 14) (hf:S28 f) (y:Nat):AnX (upG U R (r0G f U).length) (mtG f y) J:=by
 obtain⟨und,uix⟩:=Vf h hk ht ul hf
 have nd:((upG U R (r0G f U).length).map (·.1) ++ Fr (mtG f y)).Nodup:=by
  refine nodup_append.mpr ⟨und,Ano hf y,fun a ha b hb e=>?_⟩
  obtain⟨s,hs,rfl⟩:=mem_map.mp ha
  obtain⟨⟨i,h1,h2⟩,_⟩:=uix s hs
  obtain⟨j,h3,h4,h5⟩:=Yt f y b hb
  have:=hf.inj i j (by omega) (by omega) (by rw[<- h2,e,h5])
  omega
 have kn:∀ s ∈ R,knd (kK (upG U R (r0G f U).length) ++ kM (mtG f y)) s.1 = .str s.2.1:=fun s hs=>by
  unfold knd
  rcases Aev h hk ht ul hf s hs with ⟨z,r,hr⟩ | ⟨z,hr⟩
  ·exact Wb (s:=(s.1,s.2.1,r)) nd hr
  ·rw[z]
   refine Zk fun w=>?_
   rcases mem_append.mp w with w | w
   ·obtain⟨u,hu,e⟩:=mem_map.mp w
    exact hr u hu e
   ·obtain⟨j,h3,h4,h5⟩:=Yt f y _ w
    rcases h.row2 s hs with q | ⟨i,a,b⟩
    ·rcases mem_append.mp q with q | q
     ·obtain⟨v,hv,rfl⟩:=mem_map.mp q
      obtain⟨⟨i,h1,h2⟩,_⟩:=ht.ix ul v (mem_filter.mp hv).1
      have:=hf.inj i j (by omega) (by omega) (by rw[<- h2]; exact h5)
      omega
     ·simp only [mem_cons,not_mem_nil,or_false] at q
      rcases q with rfl | rfl
      ·have:=hf.inj 24 j (by omega) (by omega) h5; omega
      ·have:=hf.inj 25 j (by omega) (by omega) h5; omega
    ·have:=hf.inj (10 + i + 8) j (by omega) (by omega) (by rw[<- h5]; exact b.symm)
     omega
 have mkk:∀ m ∈ Ll U,m ∈ upG U R (r0G f U).length/\m.2.1 = "mark":=fun m hm=>by
  obtain⟨h1,h2⟩:=mem_filter.mp hm
  exact⟨mem_append_left _ h1,of_decide_eq_true h2⟩
 obtain⟨_,n1,n2⟩:=h.nodup2 hk (Rr ht ul hf)
 have ln:=h.len.1
 exact {
  so:=fun s hs=>by
   obtain⟨⟨i,h1,h2⟩,h3,h4⟩:=uix s hs
   exact⟨by rw[h2]; exact hf.nn i,h3,h4⟩
  mo:=fun m hm=>by
   have:m ∈ [(f 14,f 15),(f 16,f 17)]:=List.mem_of_mem_take hm
   simp only [mem_cons,not_mem_nil,or_false] at this
   rcases this with rfl | rfl <;> exact⟨hf.nn _,hf.nn _⟩
  nd:=nd
  jo:={
   nn:=fun j hj=>by
    obtain⟨⟨s,hs,u,hu,e1,e2,_⟩,m,hm,e3⟩:=h.join j hj
    have q:∀ s ∈ R,0 <= s.1:=fun s hs=>by
     rcases h.row2 s hs with q | ⟨i,a,b⟩
     ·rcases mem_append.mp q with q | q
      ·obtain⟨v,hv,rfl⟩:=mem_map.mp q
       obtain⟨⟨i,h1,h2⟩,_⟩:=ht.ix ul v (mem_filter.mp hv).1
       show 0 <= v.1
       rw[h2]; exact hf.nn i
      ·simp only [mem_cons,not_mem_nil,or_false] at q
       rcases q with rfl | rfl <;> exact hf.nn _
     ·rw[b]; exact hf.nn _
    obtain⟨⟨i,h1,h2⟩,_⟩:=ht.ix ul m (mem_filter.mp hm).1
    exact⟨by rw[<- e1]; exact q s hs,by rw[<- e2]; exact q u hu,by rw[<- e3,h2]; exact hf.nn i⟩
   mr:=fun j hj=>by
    obtain⟨_,m,hm,e3⟩:=h.join j hj
    unfold knd
    rw[<- e3,Wb nd (mkk m hm).1,(mkk m hm).2]
   kd:=fun j hj=>by
    obtain⟨⟨s,hs,u,hu,e1,e2,e3⟩,_⟩:=h.join j hj
    exact⟨s.2.1,(h.kind2 (Rr ht ul hf) s hs).1,by rw[<- e1]; exact kn s hs,by rw[<- e2,kn u hu,e3]⟩
   nw:=n1
   np:=n2
   en:=h.ends27 hk (Rr ht ul hf)
   ln:=by omega }
  ln:=by
   obtain⟨X,e,_⟩:=Vy h
   have l1:=h.len.2
   rw[Acj e,length_append]
   have l2:=length_filter_le (fun (s:Sg)=>decide (¬ s.2.1 = "plain")) X
   have l3:R.length = (r0G f U).length + X.length:=by rw[e,length_append]
   have l4:(mtG f y).length <= 2:=by unfold mtG; rw[length_take]; exact Nat.min_le_right _ _
   omega
  jl:=by omega
  mr:=by
   have h4:4 < U.length:=by omega
   have:=ht.wd 4 _ (getElem?_eq_getElem h4) (by omega)
   exact⟨_,mem_append_left _ (getElem_mem h4),(Option.some.inj this).symm⟩ }
end
theorem Np {c:Prop} [Decidable c] {A B:Prop} (h:¬ c) (q:B):if c then A else B:=by rw[if_neg h]; exact q
theorem No {c:Prop} [Decidable c] {A B:Prop} (h:c) (q:A):if c then A else B:=by rw[if_pos h]; exact q
def knL (U:List Sg) (M:List (Int × Int)) (ts:List Int):List Str:=(grp (Dd U M) ts).map (knW U M)
theorem Zd {L:List Str} {x:Str} {P:PV->Prop} (q:P (.bl (decide (x ∈ L)))):bIn false (.str x) (.ctp (L.map .str)) P:=by
 refine⟨L.map .str,rfl,rfl,fun y hy=>by obtain⟨z,_,rfl⟩:=mem_map.mp hy; rfl,fun b hb=>?_⟩
 have:b = decide (x ∈ L):=Gp (by
  rw[hb,decide_eq_true_iff]
  constructor
  ·intro h
   obtain⟨z,hz,e⟩:=mem_map.mp h
   injection e with e'
   rwa [<- e']
  ·intro h
   exact mem_map.mpr ⟨x,h,rfl⟩)
 rw[this]; exact q
def bgK:List Str:=["forein","backin"]
theorem Oa {k:Str} (h:k ∈ bgK):¬ k = "out":=fun e=>by rw[e] at h; revert h; decide +kernel
def stD (d:Int) (k:Str):Int:=(if k ∈ bgK then d + 1 else d) - (if k = "out" then 1 else 0)
def enS:Int->List Str->Nat
 | _,[]=>0
 | d,k :: r=>if stD d k = 0 then 0 else enS (stD d k) r + 1
theorem AbA:∀ (d:Int) (l:List Str),enS d l <= l.length
 | _,[]=>Nat.le_refl _
 | d,k :: r=>by
  rw[enS,length_cons]
  split
  ·omega
  ·have:=AbA (stD d k) r; omega
theorem Nv {d:Nat} {k:Str} {r:List Str} (h:k ∈ bgK):enS (d:Int) (k :: r) = enS ((d + 1:Nat):Int) r + 1:=by
 have e:stD (d:Int) k = ((d + 1:Nat):Int):=by unfold stD; rw[if_pos h,if_neg (Oa h)]; omega
 rw[enS,e,if_neg (by omega)]
theorem Vz {d:Nat} {r:List Str} (h:2 <= d):enS (d:Int) ("out" :: r) = enS ((d - 1:Nat):Int) r + 1:=by
 have e:stD (d:Int) "out" = ((d - 1:Nat):Int):=by unfold stD; rw[if_neg (by decide +kernel),if_pos rfl]; omega
 rw[enS,e,if_neg (by omega)]
theorem Abo {r:List Str}:enS ((1:Nat):Int) ("out" :: r) = 0:=by
 have e:stD ((1:Nat):Int) "out" = 0:=by unfold stD; rw[if_neg (by decide +kernel),if_pos rfl]; rfl
 rw[enS,e,if_pos rfl]
theorem Sx {d:Nat} {k:Str} {r:List Str} (h1:1 <= d) (h2:¬ k ∈ bgK) (h3:¬ k = "out"):enS (d:Int) (k :: r) = enS (d:Int) r + 1:=by
 have e:stD (d:Int) k = (d:Int):=by unfold stD; rw[if_neg h2,if_neg h3]; omega
 rw[enS,e,if_neg (by omega)]
abbrev Nst:=Nat × Nat × Option Int
def lvF (k:Str) (a m:Int):Option Int:=if (if (a + 1) % 2 = (if k = "forein" then 0 else 1) then a + 1 else a + 2) <= m then some (if (a + 1) % 2 = (if k = "forein" then 0 else 1) then a + 1 else a + 2) else none
theorem Aep {k:Str} {a m l:Int} (h:lvF k a m = some l):a <= l:=by
 unfold lvF at h
 generalize (if k = "forein" then (0:Int) else 1) = r at h
 by_cases h1:(a + 1) % 2 = r
 ·rw[if_pos h1] at h
  by_cases h2:a + 1 <= m
  ·rw[if_pos h2] at h; injection h with h; omega
  ·rw[if_neg h2] at h; cases h
 ·rw[if_neg h1] at h
  by_cases h2:a + 2 <= m
  ·rw[if_pos h2] at h; injection h with h; omega
  ·rw[if_neg h2] at h; cases h
def arF (b:Int) (D:List Nst):Int:=D.foldl (fun a x=>match x.2.2 with | some l=>max a l | none=>a) b
def Bt (kn:List Str) (a:Nat):Nat:=a + enS 0 (kn.drop a)
def dF (kn:List Str) (b m:Int):Nat->List Nst
 | 0=>[]
 | n + 1=>match kn[n]? with
  | some k=>if k ∈ bgK then dF kn b m n ++ [(n,Bt kn n,lvF k (arF b ((dF kn b m n).filter fun x=>decide (n <= x.2.1))) m)] else dF kn b m n
  | none=>dF kn b m n
theorem Jf {kn:List Str} {b m:Int} {n:Nat} {k:Str} (h:kn[n]? = some k) (hb:k ∈ bgK):dF kn b m (n + 1) = dF kn b m n ++ [(n,Bt kn n,lvF k (arF b ((dF kn b m n).filter fun x=>decide (n <= x.2.1))) m)]:=by
 rw[dF,h]; exact if_pos hb
theorem Je {kn:List Str} {b m:Int} {n:Nat} {k:Str} (h:kn[n]? = some k) (hb:¬ k ∈ bgK):dF kn b m (n + 1) = dF kn b m n:=by
 rw[dF,h]; exact if_neg hb
theorem Yv {kn:List Str} {b m:Int}:∀ n,(∀ x ∈ dF kn b m n,x.1 < n)/\(dF kn b m n).Pairwise (fun x y=>x.1 < y.1)
 | 0=>⟨fun x h=>(by cases h),Pairwise.nil⟩
 | n + 1=>by
  obtain⟨h1,h2⟩:=Yv (kn:=kn) (b:=b) (m:=m) n
  cases e:kn[n]? with
  | none=>rw[dF,e]; exact⟨fun x h=>lt_succ_of_lt (h1 x h),h2⟩
  | some k =>
   by_cases hb:k ∈ bgK
   ·rw[Jf e hb]
    refine⟨fun x h=>?_,List.pairwise_append.mpr ⟨h2,List.pairwise_singleton _ _,fun x hx y hy=>?_⟩⟩
    ·rcases mem_append.mp h with h | h
     ·exact lt_succ_of_lt (h1 x h)
     ·rw[mem_singleton.mp h]; exact lt_succ_self _
    ·rw[mem_singleton.mp hy]; exact h1 x hx
   ·rw[Je e hb]; exact⟨fun x h=>lt_succ_of_lt (h1 x h),h2⟩
theorem Aau {kn:List Str} {b m:Int}:∀ n,(dF kn b m n).length <= n
 | 0=>Nat.le_refl _
 | n + 1=>by
  have h:=Aau (kn:=kn) (b:=b) (m:=m) n
  cases e:kn[n]? with
  | none=>rw[dF,e]; exact Nat.le_succ_of_le h
  | some k =>
   by_cases hb:k ∈ bgK
   ·rw[Jf e hb,length_append]; exact succ_le_succ h
   ·rw[Je e hb]; exact Nat.le_succ_of_le h
theorem AkZ {kn:List Str} {b m:Int} {n i j:Nat} {x y:Nst} (h1:(dF kn b m n)[i]? = some x) (h2:(dF kn b m n)[j]? = some y) (e:x.1 = y.1):i = j:=by
 have p:=(Yv (kn:=kn) (b:=b) (m:=m) n).2
 obtain⟨hi,rfl⟩:=List.getElem?_eq_some_iff.mp h1
 obtain⟨hj,rfl⟩:=List.getElem?_eq_some_iff.mp h2
 rcases Nat.lt_trichotomy i j with z | z | z
 ·have:=List.pairwise_iff_getElem.mp p i j hi hj z; omega
 ·exact z
 ·have:=List.pairwise_iff_getElem.mp p j i hj hi z; omega
abbrev Stk:=List (Nat × Nst)
def chF:Int->Stk->Int
 | a,[]=>a
 | a,s :: r=>chF (s.2.2.2.getD a) r
def wtF:Int->Stk->List (Nat × Int)
 | _,[]=>[]
 | a,s :: r=>(s.1,a) :: wtF (s.2.2.2.getD a) r
def upF:Int->Stk->Prop
 | _,[]=>True
 | a,s :: r=>(∀ l,s.2.2.2 = some l->a <= l)/\upF (s.2.2.2.getD a) r
theorem Tt:∀ (a:Int) (S:Stk) (s:Nat × Nst),chF a (S ++ [s]) = s.2.2.2.getD (chF a S)
 | _,[],_=>rfl
 | a,x :: S,s=>Tt (x.2.2.2.getD a) S s
theorem Tx:∀ (a:Int) (S:Stk) (s:Nat × Nst),wtF a (S ++ [s]) = wtF a S ++ [(s.1,chF a S)]
 | _,[],_=>rfl
 | a,x :: S,s=>by
  show (x.1,a) :: wtF (x.2.2.2.getD a) (S ++ [s]) = _
  rw[Tx]; rfl
theorem Wd:∀ (a:Int) (S:Stk),(wtF a S).length = S.length
 | _,[]=>rfl
 | a,x :: S=>by show (wtF _ S).length + 1 = _; rw[Wd]; rfl
theorem Ug:∀ (a:Int) (S:Stk) (s:Nat × Nst),upF a (S ++ [s]) ↔ upF a S/\∀ l,s.2.2.2 = some l->chF a S <= l
 | _,[],s=>⟨fun h=>⟨trivial,h.1⟩,fun h=>⟨h.2,trivial⟩⟩
 | a,x :: S,s=>by
  have:=Ug (x.2.2.2.getD a) S s
  constructor
  ·intro h; exact⟨⟨h.1,(this.mp h.2).1⟩,(this.mp h.2).2⟩
  ·intro h; exact⟨h.1.1,this.mpr ⟨h.1.2,h.2⟩⟩
theorem Adl:∀ (a:Int) (S:Stk),upF a S->arF a (S.map (·.2)) = chF a S
 | _,[],_=>rfl
 | a,s :: r,h=>by
  have ih:=Adl (s.2.2.2.getD a) r h.2
  unfold arF at ih ⊢
  rw[map_cons,foldl_cons,chF,<- ih]
  congr 1
  cases e:s.2.2.2 with
  | none=>rfl
  | some l=>have:=h.1 l e; show max a l = l; omega
structure NI (kn:List Str) (b m:Int) (n:Nat) (S:Stk):Prop where
 fil:(dF kn b m n).filter (fun x=>decide (n <= x.2.1)) = S.map (·.2)
 ix:∀ s ∈ S,(dF kn b m n)[s.1]? = some s.2
 dp:∀ j s,S[j]? = some s->s.2.2.1 = n + enS ((S.length - j:Nat):Int) (kn.drop n)
 up:upF b S
section
variable {kn:List Str} {b m:Int} {n:Nat} {S:Stk} {k:Str}
theorem Jr {l:List Str} (h:l[n]? = some k):l.drop n = k :: l.drop (n + 1):=by
 obtain⟨hi,rfl⟩:=List.getElem?_eq_some_iff.mp h
 exact drop_eq_getElem_cons hi
theorem NI.zero:NI kn b m 0 []:=⟨rfl,fun s h=>(by cases h),fun j s h=>(by cases h),trivial⟩
theorem AeC (D:List Nst) (h:∀ x ∈ D.filter (fun x=>decide (n <= x.2.1)),n + 1 <= x.2.1):D.filter (fun x=>decide (n + 1 <= x.2.1)) = D.filter (fun x=>decide (n <= x.2.1)):=by
 refine List.filter_congr fun x hx=>?_
 by_cases z:n <= x.2.1
 ·have:=h x (mem_filter.mpr ⟨hx,decide_eq_true z⟩)
  rw[decide_eq_true z,decide_eq_true this]
 ·rw[decide_eq_false z,decide_eq_false (by omega)]
theorem NI.lev (h:NI kn b m n S):arF b ((dF kn b m n).filter fun x=>decide (n <= x.2.1)) = chF b S:=by rw[h.fil,Adl _ _ h.up]
theorem NI.later (h:NI kn b m n S) (hk:kn[n]? = some k) (ho:¬ k = "out"):∀ x ∈ (dF kn b m n).filter (fun x=>decide (n <= x.2.1)),n + 1 <= x.2.1:=fun x hx=>by
 rw[h.fil] at hx
 obtain⟨s,hs,rfl⟩:=mem_map.mp hx
 obtain⟨j,hj⟩:=getElem?_of_mem hs
 have hl:=(List.getElem?_eq_some_iff.mp hj).1
 have e:=h.dp j s hj
 rw[Jr hk] at e
 by_cases hb:k ∈ bgK
 ·rw[Nv hb] at e; omega
 ·rw[Sx (by omega) hb ho] at e; omega
theorem NI.beg (h:NI kn b m n S) (hk:kn[n]? = some k) (hb:k ∈ bgK):dF kn b m (n + 1) = dF kn b m n ++ [(n,Bt kn n,lvF k (chF b S) m)]/\NI kn b m (n + 1) (S ++ [((dF kn b m n).length,(n,Bt kn n,lvF k (chF b S) m))]):=by
 have e1:=Jf (b:=b) (m:=m) hk hb
 rw[h.lev] at e1
 have en:Bt kn n = n + 1 + enS ((1:Nat):Int) (kn.drop (n + 1)):=by
  unfold Bt
  rw[Jr hk,show (0:Int) = ((0:Nat):Int) from rfl,Nv hb,Nat.zero_add]; omega
 refine⟨e1,?_,fun s hs=>?_,fun j s hj=>?_,?_⟩
 ·rw[e1,filter_append,AeC _ (h.later hk (Oa hb)),h.fil,map_append,filter_cons_of_pos (p:=fun x:Nst=>decide (n + 1 <= x.2.1)) (decide_eq_true (show n + 1 <= Bt kn n by omega))]
  rfl
 ·rw[e1]
  rcases mem_append.mp hs with hs | hs
  ·have:=h.ix s hs
   rw[getElem?_append_left (List.getElem?_eq_some_iff.mp this).1]; exact this
  ·rw[mem_singleton.mp hs,getElem?_append_right (Nat.le_refl _),Nat.sub_self]; rfl
 ·rw[length_append,length_singleton]
  rcases Nat.lt_or_ge j S.length with z | z
  ·rw[getElem?_append_left z] at hj
   have:=h.dp j s hj
   rw[Jr hk,Nv hb] at this
   rw[this,show S.length + 1 - j = S.length - j + 1 by omega]; omega
  ·rw[getElem?_append_right z] at hj
   have z2:j - S.length = 0:=by
    have:=(List.getElem?_eq_some_iff.mp hj).1
    rw[length_singleton] at this; omega
   rw[z2] at hj
   cases hj
   rw[show S.length + 1 - j = 1 by omega]
   exact en
 ·exact (Ug _ _ _).mpr ⟨h.up,fun l hl=>Aep hl⟩
theorem NI.oth (h:NI kn b m n S) (hk:kn[n]? = some k) (hb:¬ k ∈ bgK) (ho:k = "out"->S = []):dF kn b m (n + 1) = dF kn b m n/\NI kn b m (n + 1) S:=by
 have e1:=Je (b:=b) (m:=m) hk hb
 refine⟨e1,?_⟩
 by_cases hk2:k = "out"
 ·have hS:=ho hk2
  subst hS
  refine⟨?_,fun s hs=>(by cases hs),fun j s hj=>(by cases hj),trivial⟩
  have hf:=h.fil
  rw[e1]
  refine List.filter_eq_nil_iff.mpr fun x hx=>?_
  have:=List.filter_eq_nil_iff.mp hf x hx
  intro z
  exact this (decide_eq_true (by have:=of_decide_eq_true z; omega))
 ·refine⟨by rw[e1,AeC _ (h.later hk hk2),h.fil],fun s hs=>by rw[e1]; exact h.ix s hs,fun j s hj=>?_,h.up⟩
  have:=h.dp j s hj
  have hl:=(List.getElem?_eq_some_iff.mp hj).1
  rw[Jr hk,Sx (by omega) hb hk2] at this
  omega
theorem NI.out {s:Nat × Nst} (h:NI kn b m n (S ++ [s])) (hk:kn[n]? = some "out"):dF kn b m (n + 1) = dF kn b m n/\NI kn b m (n + 1) S/\s.2.2.1 = n/\∀ x ∈ dF kn b m n,x.2.1 = n->x = s.2:=by
 have e1:=Je (b:=b) (m:=m) hk (by decide +kernel)
 have ls:s.2.2.1 = n:=by
  have:=h.dp S.length s (by rw[getElem?_append_right (Nat.le_refl _),Nat.sub_self]; rfl)
  rw[length_append,length_singleton,show S.length + 1 - S.length = 1 by omega,Jr hk,Abo] at this
  exact this
 have others:∀ j y,S[j]? = some y->y.2.2.1 = n + 1 + enS ((S.length - j:Nat):Int) (kn.drop (n + 1)):=fun j y hy=>by
  have hj:=(List.getElem?_eq_some_iff.mp hy).1
  have:=h.dp j y (by rw[getElem?_append_left hj]; exact hy)
  rw[length_append,length_singleton,Jr hk,Vz (by omega),show S.length + 1 - j - 1 = S.length - j by omega] at this
  omega
 have hf:=h.fil
 refine⟨e1,⟨?_,fun y hy=>by rw[e1]; exact h.ix y (mem_append_left _ hy),others,((Ug _ _ _).mp h.up).1⟩,ls,fun x hx e=>?_⟩
 ·rw[e1]
  have e2:(dF kn b m n).filter (fun x=>decide (n + 1 <= x.2.1)) = ((dF kn b m n).filter (fun x=>decide (n <= x.2.1))).filter (fun x=>decide (n + 1 <= x.2.1)):=by
   rw[List.filter_filter]
   refine List.filter_congr fun x _=>?_
   by_cases z:n + 1 <= x.2.1
   ·rw[decide_eq_true z,decide_eq_true (by omega)]; rfl
   ·rw[decide_eq_false z]; rfl
  rw[e2,hf,map_append,filter_append,map_cons,map_nil,filter_cons_of_neg (by rw[ls]; simp),List.filter_nil,append_nil]
  refine List.filter_eq_self.mpr fun x hx=>?_
  obtain⟨y,hy,rfl⟩:=mem_map.mp hx
  obtain⟨j,hj⟩:=getElem?_of_mem hy
  have:=others j y hj
  exact decide_eq_true (by omega)
 ·have hm:x ∈ (S ++ [s]).map (·.2):=by rw[<- hf]; exact mem_filter.mpr ⟨hx,decide_eq_true (by omega)⟩
  obtain⟨y,hy,rfl⟩:=mem_map.mp hm
  rcases mem_append.mp hy with hy | hy
  ·obtain⟨j,hj⟩:=getElem?_of_mem hy
   have:=others j y hj
   omega
  ·rw[mem_singleton.mp hy]
theorem NI.end (h:NI kn b m kn.length S):∀ x ∈ dF kn b m kn.length,x.2.1 <= kn.length:=fun x hx=>by
 by_cases z:kn.length <= x.2.1
 ·have hm:x ∈ S.map (·.2):=by rw[<- h.fil]; exact mem_filter.mpr ⟨hx,decide_eq_true z⟩
  obtain⟨y,hy,rfl⟩:=mem_map.mp hm
  obtain⟨j,hj⟩:=getElem?_of_mem hy
  have:=h.dp j y hj
  rw[drop_length,enS] at this
  omega
 ·omega
theorem NI.all (h:∀ k ∈ kn,True):∀ n,n <= kn.length->∃ S,NI kn b m n S
 | 0,_=>⟨[],.zero⟩
 | n + 1,hn=>by
  obtain⟨S,hS⟩:=NI.all h n (by omega)
  obtain⟨k,hk⟩:∃ k,kn[n]? = some k:=⟨_,getElem?_eq_getElem (by omega)⟩
  by_cases hb:k ∈ bgK
  ·exact⟨_,(hS.beg hk hb).2⟩
  ·by_cases ho:k = "out"
   ·rcases eq_nil_or_concat S with e | ⟨S',s,e⟩
    ·exact⟨_,(hS.oth hk hb fun _=>e).2⟩
    ·rw[concat_eq_append] at e
     subst e; subst ho
     exact⟨_,(hS.out hk).2.1⟩
   ·exact⟨_,(hS.oth hk hb fun z=>absurd z ho).2⟩
end
def obF:Nat->List Str->Int
 | _,[]=>0
 | d,k :: r=>if k ∈ bgK then obF (d + 1) r else if k = "out" then obF (d - 1) r else if d = 0/\k = "back" then 1 else if d = 0/\k = "fore" then 0 else obF d r
def AkQ:PSp:=fun ps P=>∃ U M J ts,ps = [.bk U M J,.lst (map .int ts)]/\ts.length <= 300/\P (.int (obF 0 (knL U M ts)))
theorem Aab {L:List Str} {x:Str} {P:PV->Prop} (q:P (.bl (decide (x ∈ L)))):bIn false (.str x) (.lst (L.map .str)) P:=by
 refine⟨L.map .str,rfl,rfl,fun y hy=>by obtain⟨z,_,rfl⟩:=mem_map.mp hy; rfl,fun b hb=>?_⟩
 have:b = decide (x ∈ L):=Gp (by
  rw[hb,decide_eq_true_iff]
  constructor
  ·intro h
   obtain⟨z,hz,e⟩:=mem_map.mp h
   injection e with e'
   rwa [<- e']
  ·intro h
   exact mem_map.mpr ⟨x,h,rfl⟩)
 rw[this]; exact q
def gpF (f:Nat->Int) (W:List Sg) (M:List (Int × Int)) (w:Str):List Int:=((range 28).map f).filter fun n=>decide (Ch W M n = w)
def hdF (g:List Int):Int:=g.headD 0
def bsL (U:List Sg) (M:List (Int × Int)) (ts:List Int):List Int:=(grp (Dd U M) ts).map hdF
def wyF (v:Int):Str:=if v % 2 = 0 then "fore" else "back"
def ldK:List Str:=["fore","back","num"]
def osP:Option Str->PV
 | none=>.non
 | some s=>.str s
def ldF:Str->List Str->List (Option Str)
 | _,[]=>[]
 | l,k :: r=>(if k ∈ ldK then some (if k = "fore"\/k = "back" then k else l) else none) :: ldF (if k = "fore"\/k = "back" then k else l) r
def Qe (mt:Int->Option Int) (bs:List Int) (w:List Nat) (b:Int):List Nat:=(w.mapIdx fun j a=>(j,a)).filterMap fun q=>if (bs[q.2]?).bind mt = some b then some q.1 else none
def prF (mt:Int->Option Int) (ks:List Str) (bs:List Int):Nat->List (Nat × Nat) × List Nat
 | 0=>([],[])
 | n + 1 =>
  if ks[n]? = some ("open" : Str) then ((prF mt ks bs n).1,(prF mt ks bs n).2 ++ [n])
  else if ks[n]? = some ("shut" : Str) then
   match (Qe mt bs (prF mt ks bs n).2 ((bs[n]?).getD 0)).getLast? with
   | none=>prF mt ks bs n
   | some j=>((prF mt ks bs n).1 ++ [(((prF mt ks bs n).2[j]?).getD 0,n)],(prF mt ks bs n).2.take j)
  else prF mt ks bs n
theorem Rn (mt:Int->Option Int) (ks:List Str) (bs:List Int) (n:Nat):prF mt ks bs (n + 1) =
  if ks[n]? = some ("open" : Str) then ((prF mt ks bs n).1,(prF mt ks bs n).2 ++ [n])
  else if ks[n]? = some ("shut" : Str) then
   match (Qe mt bs (prF mt ks bs n).2 ((bs[n]?).getD 0)).getLast? with
   | none=>prF mt ks bs n
   | some j=>((prF mt ks bs n).1 ++ [(((prF mt ks bs n).2[j]?).getD 0,n)],(prF mt ks bs n).2.take j)
  else prF mt ks bs n:=rfl
def wpF (ws:List (Option Str)) (p:Nat × Nat) (own:Str):Option Str :=
 if ((ws.take p.2).drop (p.1 + 1)).filterMap id = [] then none
 else if own ∈ ((ws.take p.2).drop (p.1 + 1)).filterMap id then some own
 else some ((((ws.take p.1).filterMap id).getLast?).getD own)
def wwF (ws:List (Option Str)) (ps:List (Nat × Nat)) (own:Str):List (Option Str):=ps.foldl (fun f p=>(f.set p.1 (wpF ws p own)).set p.2 (wpF ws p own)) ws
def laF:Str->List (Option Str)->List Str
 | _,[]=>[]
 | l,w :: r=>w.getD l :: laF (w.getD l) r
def flF (own:Str) (ws:List (Option Str)):List Str:=((laF own ws).zip (laF own ws.reverse).reverse).map fun z=>if z.1 = z.2 then z.1 else own
def lwF (k w:Str) (v:Int):Int:=if k = "num" then (if v % 2 = 1 then v + 1 else if w = "fore" then v else v + 2) else if w = wyF v then v else v + 1
def wrF (mt:Int->Option Int) (ks:List Str) (bs:List Int) (own:Str):List Str:=flF own (wwF (ldF own ks) (prF mt ks bs ks.length).1 own)
def rwF (mt:Int->Option Int) (ks:List Str) (bs:List Int) (v:Int):List Int:=(ks.zip (wrF mt ks bs (wyF v))).map fun z=>lwF z.1 z.2 v
abbrev Stc:=Int × Int × Int
def stP (s:Stc):PV:=.tup [.int s.1,.int s.2.1,.int s.2.2]
def stF (N:List Nst) (n:Nat) (b:Int):List Stc:=(-1,(n:Int),b) :: N.filterMap fun x=>x.2.2.map fun l=>((x.1:Int),(x.2.1:Int),l)
def hmS (hs:List Nat) (h:Nat) (a e:Int):List Nat:=hs.mapIdx fun k x=>if a < (k:Int)/\(k:Int) < e then h else x
def hmF (St:List Stc) (n:Nat):Nat->List Nat
 | 0=>replicate n 0
 | j + 1=>match St[j]? with
  | some s=>hmS (hmF St n j) j s.1 s.2.1
  | none=>hmF St n j
def rsF (St:List Stc) (hs:List Nat):List (Int × List Nat):=St.mapIdx fun h s=>(s.2.2,(range hs.length).filter fun k=>decide (hs[k]? = some h))
def rsP (r:Int × List Nat):PV:=.tup [.int r.1,.lst (r.2.map fun k:Nat=>.int k)]
def lpF (acc:List Int) (ks:List Nat) (vs:List Int):List Int:=(ks.zip vs).foldl (fun l p=>l.set p.1 p.2) acc
def pkF {α:Type} [Inhabited α] (l:List α) (ks:List Nat):List α:=ks.map fun k=>(l[k]?).getD default
def lvA (mt:Int->Option Int) (ks:List Str) (bs:List Int) (rows:List (Int × List Nat)) (acc:List Int):List Int:=rows.foldl (fun l r=>lpF l r.2 (rwF mt (pkF ks r.2) (pkF bs r.2) r.1)) acc
def Jb (ks:List Str) (b m:Int):List (Int × List Nat):=rsF (stF (dF ks b m ks.length) ks.length b) (hmF (stF (dF ks b m ks.length) ks.length b) ks.length (stF (dF ks b m ks.length) ks.length b).length)
def Do (mt:Int->Option Int) (ks:List Str) (bs:List Int) (b m:Int):List Int:=lvA mt ks bs (Jb ks b m) (replicate ks.length b)
theorem Qw:∀ (l:Str) (ks:List Str),(ldF l ks).length = ks.length
 | _,[]=>rfl
 | l,k :: r=>by rw[ldF,length_cons,Qw,length_cons]
theorem Ta:∀ (l:Str) (ws:List (Option Str)),(laF l ws).length = ws.length
 | _,[]=>rfl
 | l,k :: r=>by rw[laF,length_cons,Ta,length_cons]
theorem Abz (ws:List (Option Str)) (ps:List (Nat × Nat)) (own:Str):(wwF ws ps own).length = ws.length:=by
 unfold wwF
 suffices h:∀ (ps:List (Nat × Nat)) (f:List (Option Str)),(ps.foldl (fun f p=>(f.set p.1 (wpF ws p own)).set p.2 (wpF ws p own)) f).length = f.length from h ps ws
 intro ps
 induction ps with
 | nil=>intro f; rfl
 | cons p r ih=>intro f; rw[foldl_cons,ih,length_set,length_set]
theorem Ajc (own:Str) (ws:List (Option Str)):(flF own ws).length = ws.length:=by
 unfold flF
 rw[length_map,length_zip,length_reverse,Ta,Ta,length_reverse,Nat.min_self]
theorem AiY (mt:Int->Option Int) (ks:List Str) (bs:List Int) (own:Str):(wrF mt ks bs own).length = ks.length:=by
 unfold wrF; rw[Ajc,Abz,Qw]
theorem AbP (mt:Int->Option Int) (ks:List Str) (bs:List Int) (v:Int):(rwF mt ks bs v).length = ks.length:=by
 unfold rwF; rw[length_map,length_zip,AiY,Nat.min_self]
theorem Ajh (hs:List Nat) (h:Nat) (a e:Int):(hmS hs h a e).length = hs.length:=length_mapIdx
theorem Nw (St:List Stc) (n:Nat):∀ j,(hmF St n j).length = n
 | 0=>length_replicate
 | j + 1=>by
  rw[hmF]
  cases St[j]? with
  | none=>exact Nw St n j
  | some s=>exact (Ajh _ _ _ _).trans (Nw St n j)
theorem Yx (St:List Stc) (n:Nat) (h0:0 < St.length):∀ j,∀ x ∈ hmF St n j,x < St.length
 | 0,x,h=>by rw[List.eq_of_mem_replicate h]; exact h0
 | j + 1,x,h=>by
  rw[hmF] at h
  cases e:St[j]? with
  | none=>rw[e] at h; exact Yx St n h0 j x h
  | some s =>
   rw[e] at h
   have hj:=(List.getElem?_eq_some_iff.mp e).1
   unfold hmS at h
   obtain⟨k,hk⟩:=getElem?_of_mem h
   rw[getElem?_mapIdx] at hk
   obtain⟨y,hy,rfl⟩:=map_eq_some_iff.mp hk
   split
   ·exact hj
   ·exact Yx St n h0 j y (mem_of_getElem? hy)
theorem AbC (ks:List Nat) (vs acc:List Int):(lpF acc ks vs).length = acc.length:=by
 unfold lpF
 generalize ks.zip vs = z
 induction z generalizing acc with
 | nil=>rfl
 | cons p r ih=>rw[foldl_cons,ih,length_set]
theorem Ai7 {hs:List Nat} {h i:Nat} {a:Int} (h0:-1 <= a) (hi:a + 1 + i < hs.length):(hs.mapIdx fun k x=>if a < (k:Int)/\(k:Int) < a + 1 + i then h else x).set (a + 1 + i).toNat h = hs.mapIdx fun k x=>if a < (k:Int)/\(k:Int) < a + 1 + ((i + 1:Nat):Int) then h else x:=by
 refine ext_getElem? fun k=>?_
 rw[getElem?_set,length_mapIdx,getElem?_mapIdx,getElem?_mapIdx]
 by_cases e:(a + 1 + i).toNat = k
 ·rw[if_pos e,if_pos (by omega),getElem?_eq_getElem (show k < hs.length by omega)]
  show some h = some (if a < (k:Int)/\(k:Int) < a + 1 + ((i + 1:Nat):Int) then h else _)
  rw[if_pos (by omega)]
 ·rw[if_neg e]
  cases hs[k]? with
  | none=>rfl
  | some x =>
   show some (if a < (k:Int)/\(k:Int) < a + 1 + i then h else x) = some (if a < (k:Int)/\(k:Int) < a + 1 + ((i + 1:Nat):Int) then h else x)
   by_cases z:a < (k:Int)/\(k:Int) < a + 1 + i
   ·rw[if_pos z,if_pos (by omega)]
   ·rw[if_neg z,if_neg (by omega)]
theorem Qb {α:Type} (l:List α) (f:Nat->α->α) (h:∀ k x,l[k]? = some x->f k x = x):l.mapIdx f = l:=by
 refine ext_getElem? fun k=>?_
 rw[getElem?_mapIdx]
 cases e:l[k]? with
 | none=>rfl
 | some x=>show some (f k x) = some x; rw[h k x e]
theorem Aj3 {St:List Stc} {hs:List Nat}:(rsF St hs).length = St.length/\∀ r ∈ rsF St hs,r.2.length <= hs.length/\∀ k ∈ r.2,k < hs.length:=by
 refine⟨length_mapIdx,fun r hr=>?_⟩
 unfold rsF at hr
 obtain⟨i,hi⟩:=getElem?_of_mem hr
 rw[getElem?_mapIdx] at hi
 obtain⟨s,_,rfl⟩:=map_eq_some_iff.mp hi
 refine⟨?_,fun k hk=>mem_range.mp (mem_filter.mp hk).1⟩
 have:=length_filter_le (fun k=>decide (hs[k]? = some i)) (range hs.length)
 rw[length_range] at this
 exact this
theorem Ad9 {α β:Type} [Inhabited α] [Inhabited β] (g:α->β) (l:List α):∀ ks:List Nat,(∀ k ∈ ks,k < l.length)->pkF (l.map g) ks = (pkF l ks).map g:=fun ks h=>by
 unfold pkF
 rw[map_map]
 refine List.map_congr_left fun k hk=>?_
 have:=h k hk
 show ((l.map g)[k]?).getD default = g ((l[k]?).getD default)
 rw[getElem?_map,getElem?_eq_getElem this]; rfl
theorem Ai3 (N:List Nst) (n:Nat) (b:Int):(stF N n b).length <= N.length + 1:=by
 unfold stF
 have:=List.length_filterMap_le (fun x:Nst=>x.2.2.map fun l=>((x.1:Int),(x.2.1:Int),l)) N
 rw[length_cons]; omega
structure RL (H0:Hp) (D:Addr) (lv:List Int) (R:List (List Nat)) (tl:List (Addr × Addr)) (H:Hp):Prop where
 s:Same H0 H
 nD:H0 D = none
 eD:H D = some (.lst (tl.map fun z=>V.ref z.1))
 l1:tl.length = lv.length
 l2:R.length = lv.length
 at':∀ (i:Nat) (z:Addr × Addr) (v:Int) (r:List Nat),tl[i]? = some z->lv[i]? = some v->R[i]? = some r->H z.1 = some (.tup [.int v,.ref z.2])/\H z.2 = some (.lst (r.map fun k:Nat=>V.int k))/\H0 z.1 = none/\H0 z.2 = none/\z.2 ≠ D/\z.1 ≠ D
 ap:∀ (i j:Nat) (z y:Addr × Addr),tl[i]? = some z->tl[j]? = some y->i ≠ j->z.2 ≠ y.2
theorem RL.mono {H0:Hp} {D:Addr} {lv:List Int} {R:List (List Nat)} {tl:List (Addr × Addr)} {H H':Hp} (h:RL H0 D lv R tl H) (s:Same H H'):RL H0 D lv R tl H' :=
 ⟨h.s.trans s,h.nD,s _ _ h.eD,h.l1,h.l2,fun i z v r h1 h2 h3=>by
  obtain⟨a,b,c⟩:=h.at' i z v r h1 h2 h3
  exact⟨s _ _ a,s _ _ b,c⟩,h.ap⟩
theorem RL.snoc {H0:Hp} {D:Addr} {lv:List Int} {R:List (List Nat)} {tl:List (Addr × Addr)} {H H1 H2:Hp} {l p:Addr} {v:Int} (h:RL H0 D lv R tl H) (hl:H l = none) (s1:Same H H1) (e1:H1 l = some (.lst [])) (hp:H1 p = none) (s2:Same H1 H2) (e2:H2 p = some (.tup [.int v,.ref l])) :
  RL H0 D (lv ++ [v]) (R ++ [[]]) (tl ++ [(p,l)]) (upd H2 D (.lst (tl.map (fun z=>V.ref z.1) ++ [.ref p]))):=by
 have nlD:l ≠ D:=fun z=>by subst z; rw[h.eD] at hl; cases hl
 have npD:p ≠ D:=fun z=>by subst z; rw[s1 _ _ h.eD] at hp; cases hp
 have s12:=s1.trans s2
 refine⟨fun b o hb=>?_,h.nD,by rw[Bl,map_append]; rfl,by rw[length_append,length_append,h.l1]; rfl,by rw[length_append,length_append,h.l2]; rfl,fun i z w r h1 h2 h3=>?_,fun i j z y h1 h2 ne=>?_⟩
 ·rw[Bh (by intro z; subst z; rw[h.nD] at hb; cases hb)]
  exact s12 _ _ (h.s _ _ hb)
 ·rcases Jv h1 with h1 | ⟨rfl,rfl⟩
  ·have hi:=(List.getElem?_eq_some_iff.mp h1).1
   rw[getElem?_append_left (by have:=h.l1; omega)] at h2
   rw[getElem?_append_left (by have:=h.l1; have:=h.l2; omega)] at h3
   obtain⟨a,b,c,d,e,f⟩:=h.at' i z w r h1 h2 h3
   exact⟨by rw[Bh f]; exact s12 _ _ a,by rw[Bh e]; exact s12 _ _ b,c,d,e,f⟩
  ·rw[getElem?_append_right (by rw[h.l1]; exact Nat.le_refl _),h.l1,Nat.sub_self] at h2
   rw[getElem?_append_right (by rw[h.l1,h.l2]; exact Nat.le_refl _),h.l1,h.l2,Nat.sub_self] at h3
   cases h2; cases h3
   exact⟨by rw[Bh npD]; exact e2,by rw[Bh nlD]; exact s2 _ _ e1,h.s.free (s1.free hp),h.s.free hl,nlD,npD⟩
 ·have old:∀ (k:Nat) (w:Addr × Addr),tl[k]? = some w->w.2 ≠ l:=fun k w hk e=>by
   have hk2:=(List.getElem?_eq_some_iff.mp hk).1
   obtain⟨u,hu⟩:∃ u,lv[k]? = some u:=⟨_,getElem?_eq_getElem (by have:=h.l1; omega)⟩
   obtain⟨r,hr⟩:∃ r,R[k]? = some r:=⟨_,getElem?_eq_getElem (by have:=h.l1; have:=h.l2; omega)⟩
   obtain⟨_,b,_⟩:=h.at' k w u r hk hu hr
   rw[e,hl] at b; cases b
  rcases Jv h1 with h1 | ⟨rfl,rfl⟩
  ·rcases Jv h2 with h2 | ⟨rfl,rfl⟩
   ·exact h.ap i j z y h1 h2 ne
   ·exact old i z h1
  ·rcases Jv h2 with h2 | ⟨rfl,rfl⟩
   ·exact fun e=>old j y h2 e.symm
   ·exact absurd rfl ne
theorem RL.app {H0:Hp} {D:Addr} {lv:List Int} {R:List (List Nat)} {tl:List (Addr × Addr)} {H H1:Hp} {i k:Nat} {z:Addr × Addr} {r:List Nat} (h:RL H0 D lv R tl H) (hz:tl[i]? = some z) (hr:R[i]? = some r) (c:Chg z.2 H H1) (e:H1 z.2 = some (.lst (r.map (fun k:Nat=>V.int k) ++ [.int (k:Int)]))) :
  RL H0 D lv (R.set i (r ++ [k])) tl H1:=by
 have hi:=(List.getElem?_eq_some_iff.mp hz).1
 obtain⟨v,hv⟩:∃ v,lv[i]? = some v:=⟨_,getElem?_eq_getElem (by have:=h.l1; omega)⟩
 obtain⟨a,b,c0,d,e0,f⟩:=h.at' i z v r hz hv hr
 refine⟨h.s.chg c d,h.nD,c _ _ h.eD (Ne.symm e0),h.l1,by rw[length_set,h.l2],fun j y w q h1 h2 h3=>?_,h.ap⟩
 by_cases ij:i = j
 ·subst ij
  rw[hz] at h1; cases h1
  rw[hv] at h2; cases h2
  rw[getElem?_set,if_pos rfl,if_pos (by have:=h.l1; have:=h.l2; omega)] at h3
  cases h3
  refine⟨c _ _ a (fun w=>?_),by rw[e,map_append]; rfl,c0,d,e0,f⟩
  rw[w,b] at a; cases a
 ·rw[getElem?_set,if_neg ij] at h3
  obtain⟨a',b',c',d',e',f'⟩:=h.at' j y w q h1 h2 h3
  refine⟨c _ _ a' (fun w=>?_),c _ _ b' (Ne.symm (h.ap i j z y hz h1 ij)),c',d',e',f'⟩
  rw[w,b] at a'; cases a'
def Agv (K:Frag):TS:=Vw (Lq (Jc (Oo K (Fj 3)) (Gn 0) AcP (Ab0 (Fy (tOp (Vx K) (Fj 0) (tC (V.int 2))) (Fy (Xl Ln) Ln))) 1 []) (Gn 8))
 (Vw (Lg (Xn K (Fj 4)) (Wj K 2 (Vk (Gn 7) (Vk (Gn 5) AcZ))) (Vi (tBM K "list" Og (tOp (Vx K) (tOp (Aar K) (Fj 8) (Fj 5)) (tC (V.int 1))) (Fy (Fj 7) Ln)))) (Tw (Fj 8)))
def Anv:US:=fun d ρ=>∃ (St:List Stc) (hs:List Nat),ρ[3]? = some (.sh (.lst (St.map stP)))/\ρ[4]? = some (.ow (.lst (hs.map fun k:Nat=>.int k)))/\ρ.length = 9/\St.length <= 1000/\hs.length <= 1000/\(∀ x ∈ hs,x < St.length)/\d.rt (.lst ((rsF St hs).map rsP))
def rnF (m n:Nat) (hs:List Nat):List (List Nat):=(range m).map fun h=>(range n).filter fun k=>decide (hs[k]? = some h)
theorem Agh {m n x:Nat} {hs:List Nat} (hx:hs[n]? = some x) (hm:x < m):(rnF m n hs)[x]? = some ((range n).filter fun k=>decide (hs[k]? = some x))/\(rnF m n hs).set x (((range n).filter fun k=>decide (hs[k]? = some x)) ++ [n]) = rnF m (n + 1) hs:=by
 unfold rnF
 refine⟨by rw[getElem?_map,getElem?_range hm]; rfl,ext_getElem? fun i=>?_⟩
 rw[getElem?_set,length_map,length_range,getElem?_map,getElem?_map,List.range_succ]
 by_cases e:x = i
 ·subst e
  rw[if_pos rfl,if_pos hm,getElem?_range hm]
  show some _ = some ((range n ++ [n]).filter fun k=>decide (hs[k]? = some x))
  rw[filter_append,filter_cons_of_pos (p:=fun k=>decide (hs[k]? = some x)) (decide_eq_true hx)]; rfl
 ·rw[if_neg e]
  by_cases hi:i < m
  ·rw[getElem?_range hi]
   show some ((range n).filter fun k=>decide (hs[k]? = some i)) = some ((range n ++ [n]).filter fun k=>decide (hs[k]? = some i))
   rw[filter_append,filter_cons_of_neg (p:=fun k=>decide (hs[k]? = some i)) (fun z=>e (by have:=of_decide_eq_true z; rw[hx] at this; exact Option.some.inj this)),List.filter_nil,append_nil]
  ·rw[getElem?_eq_none (by rw[length_range]; omega)]; rfl
section
variable {K:Frag} {C:Addr} {ω:Om}
theorem Aia:SU K C ω .sh (Agv K) Anv:=fun B G0 H0 own G σ H ρ D d S F ⟨St,hs,e3,e4,rl,sl,hl,hx,hq⟩=>by
 obtain⟨v3,g3,r3⟩:=S.sl 3 _ e3
 obtain⟨b,xs,g4,_,h4,rp4⟩:=S.list e4
 have sL:σ.length = 9:=by rw[S.len,rl]
 have ex:xs = hs.map fun k:Nat=>V.int k:=by
  have:=Wk (ns:=hs.map fun k:Nat=>(k:Int)) (by rw[map_map]; exact rp4)
  rw[this,map_map]; rfl
 subst ex
 obtain⟨a,vs,rfl,ea,rp⟩:∃ a vs,v3 = .ref a/\G a = some (.lst vs)/\Reps K C G vs (St.map stP):=by
  cases r3 with
  | lst e l q=>exact⟨_,_,rfl,e,l,q⟩
 have ha:H a = some (.lst vs):=S.gr.i _ _ ea
 have vl:vs.length = St.length:=by rw[rp.1,length_map]
 delta Agv Vw Lq
 dsimp only
 refine Nq ?_
 refine⟨_,g3,a,rfl,⟨vs,SqL.of ha⟩,fun A hA=>CP.list vs (fun n H'=>∃ tl,RL H A ((St.take n).map fun s=>s.2.2) (replicate n []) tl H') ?_ ?_ ?_ ?_⟩
 ·exact⟨[],fun b' o hb=>by rw[Bh (by intro z; subst z; rw[hA] at hb; cases hb)]; exact hb,hA,Bl,rfl,rfl,fun i z v r h=>by simp at h,fun i j z y h=>by simp at h⟩
 ·rintro n H' _ ⟨tl,h⟩
  exact SqL.of (h.s _ _ ha)
 ·rintro n x H' N hxn ⟨tl,h⟩ hN
  obtain⟨q,hq',rq⟩:=rp.get hxn
  rw[getElem?_map] at hq'
  obtain⟨s,hs',rfl⟩:=map_eq_some_iff.mp hq'
  obtain⟨p,ys,rfl,ep,ry⟩:∃ p ys,x = .ref p/\G p = some (.tup ys)/\Reps K C G ys [.int s.1,.int s.2.1,.int s.2.2]:=by
   cases rq with
   | tup e l q=>exact⟨_,_,rfl,e,l,q⟩
  have hp:H' p = some (.tup ys):=h.s _ _ (S.gr.i _ _ ep)
  have y2:ys[2]? = some (.int s.2.2):=by
   have l3:ys.length = 3:=ry.1
   obtain⟨y,hy⟩:∃ y,ys[2]? = some y:=⟨_,getElem?_eq_getElem (by omega)⟩
   have:=ry.2 2 y _ hy rfl
   cases this; exact hy
  refine⟨rfl,_,rfl,p,ys,2,_,rfl,rfl,SqT.of hp,Gd (j:=2) y2,⟨zero_le _,fun l H1 hl1 s1 e1=>⟨(by decide:2 <= sizeLine),fun t H2 ht s2 e2=>⟨_,s2 _ _ (s1 _ _ h.eD),?_,hN _ ⟨tl ++ [(t,l)],?_⟩⟩⟩⟩⟩
  ·have:=h.l1
   rw[length_map,length_take] at this
   rw[length_map]
   exact Nd (by omega)
  ·rw[Dt hs',map_append,List.replicate_succ']
   exact h.snoc hl1 s1 e1 ht s2 e2
 ·rintro H' ⟨tl,h⟩
  rw[vl,take_length] at h
  refine⟨.ref b,by rw[getElem?_set_ne (by decide)]; exact g4,b,rfl,⟨_,SqL.of (h.s _ _ h4)⟩,AaL (xs:=hs.map fun k:Nat=>V.int k) (fun n σ' H'=>σ'.length = 9/\σ'[8]? = some (some (.ref A))/\RL H A (St.map fun s=>s.2.2) (rnF St.length n hs) tl H') ⟨by rw[length_set,sL],Jt (by omega),?_⟩ ?_ ?_ ?_⟩
  ·rw[show rnF St.length 0 hs = replicate St.length [] by unfold rnF; rw[List.eq_replicate_iff]; exact⟨by rw[length_map,length_range],fun b' hb=>by obtain⟨_,_,rfl⟩:=mem_map.mp hb; rfl⟩]
   exact h
  ·rintro n σ' H' _ ⟨_,_,h'⟩
   exact SqL.of (h'.s _ _ h4)
  ·rintro n x t σ' H' hxn ht ⟨l9,g8,h'⟩
   rw[getElem?_map] at hxn
   obtain⟨k,hk,rfl⟩:=map_eq_some_iff.mp hxn
   have hk1:=hx k (mem_of_getElem? hk)
   obtain⟨r1,r2⟩:=Agh hk hk1
   have h2:=h'.mono (Same.new (o:=.tup [.int (n:Int),.int (k:Int)]) ht)
   obtain⟨z,hz⟩:∃ z,tl[k]? = some z:=⟨_,getElem?_eq_getElem (by have:=h'.l1; rw[length_map] at this; omega)⟩
   obtain⟨v,hv⟩:∃ v,(St.map fun s:Stc=>s.2.2)[k]? = some v:=⟨_,getElem?_eq_getElem (by rw[length_map]; exact hk1)⟩
   obtain⟨a1,a2,_⟩:=h2.at' k z v _ hz hv r1
   refine⟨t,_,rfl,SqT.of Bl,rfl,_,_,rfl,_,_,rfl,rfl,?_⟩
   refine⟨.ref A,by rw[getElem?_set_ne (by decide),getElem?_set_ne (by decide)]; exact g8,.int (k:Nat),Jt (by rw[length_set]; omega),A,_,k,.ref z.1,rfl,rfl,SqL.of h2.eD,Gd (by rw[getElem?_map,hz]; rfl),z.1,_,1,.ref z.2,rfl,rfl,SqT.of a1,Gd (j:=1) rfl,.inl ⟨rfl,_,SqL.of a2⟩,.int (n:Nat),by rw[getElem?_set_ne (by decide)]; exact Jt (by omega),z.2,_,_,rfl,rfl,a2,?_,fun H1 c e=>?_⟩
   ·rw[length_map]
    refine Nd (Nat.le_trans (length_filter_le _ _) ?_)
    rw[length_range]
    have:=(List.getElem?_eq_some_iff.mp hk).1
    omega
   ·refine⟨by rw[length_set,length_set,l9],by rw[getElem?_set_ne (by decide),getElem?_set_ne (by decide)]; exact g8,?_⟩
    rw[<- r2]
    exact h2.app hz r1 c e
  ·rintro σ' H' ⟨_,g8,h'⟩
   rw[length_map] at h'
   refine⟨.ref A,g8,F.rt _ H' _ _ (S.gr.trans (Ro S.gr.i h'.s)) ?_ hq⟩
   refine Rep.ofL (Ft h'.nD h'.eD) ⟨by rw[length_map,length_map,h'.l1,length_map]; unfold rsF; rw[length_mapIdx],fun i x y hxi hyi=>?_⟩
   rw[getElem?_map] at hxi hyi
   obtain⟨z,hz,rfl⟩:=map_eq_some_iff.mp hxi
   obtain⟨w,hw,rfl⟩:=map_eq_some_iff.mp hyi
   unfold rsF at hw
   rw[getElem?_mapIdx] at hw
   obtain⟨s,hs',rfl⟩:=map_eq_some_iff.mp hw
   have hi:=(List.getElem?_eq_some_iff.mp hs').1
   obtain⟨a1,a2,a3,a4,_⟩:=h'.at' i z s.2.2 ((range hs.length).filter fun k=>decide (hs[k]? = some i)) hz (by rw[getElem?_map,hs']; rfl) (by unfold rnF; rw[getElem?_map,getElem?_range hi]; rfl)
   refine Rep.ofT (Oz a1) (LAt.snoc (LAt.snoc LAt.nil (.int _)) (Rep.ofL (Ft a4 a2) ?_))
   have:=Fs (K:=K) (C:=C) (G:=Nl G H H') (((range hs.length).filter fun k=>decide (hs[k]? = some i)).map fun k:Nat=>(k:Int))
   rw[map_map,map_map] at this
   exact this
end
theorem AcO {α:Type} (p:α->Bool) (l:List α) (h:∀ x ∈ l,p x = true):l.filter p = l:=List.filter_eq_self.mpr h
theorem Af3 (n:Nat) (b:Int):rsF [(-1,(n:Int),b)] (hmF [(-1,(n:Int),b)] n 1) = [(b,range n)]:=by
 have e:hmF [(-1,(n:Int),b)] n 1 = replicate n 0:=by
  show hmS (replicate n 0) 0 (-1) (n:Int) = _
  unfold hmS
  refine Qb _ _ fun k x hx=>?_
  rw[List.eq_of_mem_replicate (mem_of_getElem? hx)]
  split <;> rfl
 rw[e]
 unfold rsF
 rw[length_replicate]
 show [(b,(range n).filter fun k=>decide ((replicate n 0)[k]? = some 0))] = _
 rw[AcO]
 intro k hk
 rw[getElem?_replicate,if_pos (mem_range.mp hk)]
 exact decide_eq_true rfl
theorem AaH {α:Type} [Inhabited α] (l:List α):pkF l (range l.length) = l:=by
 unfold pkF
 refine ext_getElem? fun i=>?_
 rw[getElem?_map]
 by_cases h:i < l.length
 ·rw[getElem?_range h]
  show some ((l[i]?).getD default) = _
  rw[getElem?_eq_getElem h]; rfl
 ·rw[getElem?_eq_none (by rw[length_range]; omega),getElem?_eq_none (by omega)]; rfl
theorem AgN:∀ (vals rest pre:List Int),rest.length = vals.length->((range' pre.length vals.length).zip vals).foldl (fun l p=>l.set p.1 p.2) (pre ++ rest) = pre ++ vals
 | [],rest,pre,h=>by
  have:rest = []:=List.eq_nil_of_length_eq_zero h
  subst this; rfl
 | v :: r,[],pre,h=>by cases h
 | v :: r,x :: rest,pre,h=>by
  rw[length_cons,List.range'_succ,List.zip_cons_cons,foldl_cons]
  show ((range' (pre.length + 1) r.length).zip r).foldl _ ((pre ++ x :: rest).set pre.length v) = _
  rw[List.set_append_right _ _ (Nat.le_refl _),Nat.sub_self,List.set_cons_zero]
  have:=AgN r rest (pre ++ [v]) (by simpa using h)
  rw[length_append,length_singleton,append_assoc,append_assoc] at this
  exact this
theorem AfR (vals acc:List Int) (h:acc.length = vals.length):lpF acc (range vals.length) vals = vals:=by
 unfold lpF
 rw[List.range_eq_range']
 exact AgN vals acc [] h
theorem Zi (W:List Sg) (M:List (Int × Int)) (ts:List Int):(knL W M ts).length = (bsL W M ts).length/\(knL W M ts).length <= ts.length:=by
 have:=(Ly (Dd W M) ts).ln
 unfold knL bsL
 rw[length_map,length_map]; exact⟨rfl,this⟩
local macro_rules | `(tactic| walk_at "rd")=>`(tactic| repeat (first
 | (with_reducible first | refine AcS ?_ | refine AmP rfl ?_ | refine i_c ?_ | refine AnM ?_ | refine Aof ?_ | refine AnO ?_ | refine Anp ?_ | refine Ag4 ?_ | refine Aht ?_ | refine AhC ?_ | refine Ag1 ?_ | refine Aoc ?_ | refine AlL ?_ | refine Amx ?_ | refine An7 ?_ | refine Ann ?_ | refine Alz ?_ | refine AkR ?_ | refine i_notN ?_ | refine An3 ?_ | refine Ala ?_ | refine Am9 ?_ | refine Aol ?_ | refine Amm ?_ | refine AiF ?_ | refine AjV (SqT.of (by assumption)) rfl ?_ | refine Ajg ?_ | refine AkV ?_ | refine AjU ?_ | refine AjN ?_ | refine i_make ?_ | refine Amq ?_ | refine Al8 ?_ | refine Ans ?_ | refine AmT ?_ | refine AnS ?_ | refine Anw ?_ | refine Af9 ?_ | refine AlC ?_ | refine AiE ?_ | refine AiC ?_ | refine AkE ?_ | refine Alc ?_ | refine An0 ?_ | refine AjL ?_ | refine i_int1 ?_ | refine AjZ ?_ | refine Akv ?_ | refine Lh ?_ | refine Ni ?_ | refine AbZ ?_ | refine AcW ?_ | refine Af4 ?_ | refine AeW ?_ | refine Afx ?_ | refine AkT (by assumption) ?_ | refine AmU (by assumption) ?_ | refine Adp (by assumption) ?_ | refine Adp (SqL.of (by assumption)) ?_ | refine AkW (by assumption) ?_ | refine j_min ?_ | refine AmB (by assumption) ?_ | refine Aeh (by assumption) ?_ ?_ | refine Ane (by assumption) ?_ | refine Akp (by assumption) ?_ | refine Anj (by assumption) ?_ | refine j_clear (by assumption) ?_)
 | walk_at "u" | dsimp only [List.set,cons_append,nil_append,append_nil]))
local macro_rules | `(tactic| walk_at "cs")=>`(tactic| dsimp only [compσ,replicate,map_cons,map_nil,List.getElem?_cons_succ,List.getElem?_cons_zero,Option.join_some,cons_append,nil_append])
local macro_rules | `(tactic| walk_at "ma")=>`(tactic| (all_goals try (first | decide | (simp only [length_append,length_map,length_cons,length_nil]; omega))))
local macro_rules | `(tactic| walk_at "mb")=>`(tactic| (all_goals try (first | decide | exact⟨by decide,by decide⟩)))
local macro_rules | `(tactic| walk_at "mc")=>`(tactic| (all_goals try (first | decide | exact⟨by decide,by decide,by decide⟩)))
local macro_rules | `(tactic| walk_at "md")=>`(tactic| (all_goals try (first | decide | exact⟨by decide,by decide⟩ | exact⟨by decide,by decide,by decide⟩)))
local macro_rules | `(tactic| walk_at "me")=>`(tactic| (refine⟨by rw[length_map]; omega,?_⟩))
local macro_rules | `(tactic| walk_at "mf")=>`(tactic| (rw[length_map,take_length]))
local macro_rules | `(tactic| walk_at "s")=>`(tactic| simp only [Ve,List.zipWith_cons_cons,List.zipWith_nil_left,List.zipWith_nil_right,length_cons,length_nil,Nat.zero_add,Nat.reduceAdd,Nat.reduceSub,replicate_succ,List.replicate_zero,Bool.false_eq_true,if_false,if_true,cons_append,nil_append,AfG])
local macro_rules | `(tactic| walk_at "p")=>`(tactic| repeat (first
 | (with_reducible first | refine Jd ?_ | refine AhR rfl rfl ?_ | refine AeG rfl ?_ | refine p_c ?_ | refine Al9 ?_ | refine Aky ?_ | refine p_i ?_ | refine p_u ?_ | refine b_u ?_ | refine AhB ?_ | refine Ag6 ?_ | refine AhX ?_ | refine AgM ?_ | refine AgR ?_ | refine Ag7 ?_ | refine Ad5 ?_ | refine p_b ?_ | refine b_b ?_ | refine AgK ?_ | refine AlH ?_ | refine AhK ?_ | refine AhU ?_ | refine AeU ?_ | refine Ag2 ?_ | refine Adk rfl ?_ | refine AjF ?_ | refine Ah4 ?_ | refine Afa ?_ | refine p_asg ?_ | refine Abb ?_ | refine Abv ?_ | refine AbN ?_ | refine AdH rfl ?_ | refine AbB ?_ | refine Aef ?_ | refine AgE ?_ | refine Ad6 ?_ | refine AhG ?_ | refine AhS ?_ | refine AgT ?_ | refine AgL ?_ | refine Adi ?_ | refine Afg ?_ | refine Ae6 ?_ | refine Aal ?_ | refine Aez ?_ | refine Aet ?_ | refine Ahh ?_ | refine AhD ?_ | refine Ahl ?_ | refine Ahg ?_ | refine Ahq ?_ ?_ | refine AgJ ?_ ?_ | refine AgZ ?_ ?_ | refine AgA ?_ ?_ | refine AhA ?_ ?_ | refine AlF ?_ | refine AdY ?_ | refine Ad7 ?_ | refine AgI ?_ | refine AhV ?_ | refine Abh ?_ | refine b_listS ?_ | refine Ahm rfl ?_ | refine Ah1 rfl ?_ ?_ | refine AhF ?_ | refine Ahx ?_ | refine Ae7 ?_ | refine Abt rfl rfl ?_ | refine Abf ?_ | refine Adq rfl ?_ | refine AdW rfl ?_ ?_ | refine Ag3 ?_ | refine Agw ?_ | refine b_L ?_ | refine AeM rfl ?_ | refine Aen rfl ?_ | refine AdV ?_ | refine Aex ?_ | refine AdE ?_ | refine Abd ?_ | refine Adw ?_ | refine Aew ?_ | refine Ahe ?_ | refine Aly ?_ | refine Aha ?_ | refine AdB ?_ | refine AlZ ?_ ?_ | refine Al0 ?_ ?_ | refine Ajv ?_ | refine Aju ?_ | refine Amg ?_ | refine pf_dnew ?_ | refine b_abs ?_ | refine Abp rfl ?_ | refine Lh ?_ | refine Ni ?_ | refine AbZ ?_ | refine AcW ?_)
 | walk_at "u" | dsimp only [List.set,cons_append,nil_append,append_nil,Qr]))
local macro_rules | `(tactic| walk_at "u")=>`(tactic| first | with_reducible refine b_ins0 rfl ?_ ?_)
local macro_rules | `(tactic| walk_at "u")=>`(tactic| first | (with_reducible first | refine Al4 ?_ | refine Aic ?_) | with_reducible refine b_dputT rfl ?_ ?_)
local macro_rules | `(tactic| walk_at "c")=>`(tactic| dsimp only [compρ,replicate,map_cons,map_nil,List.getElem?_cons_succ,List.getElem?_cons_zero,Option.getD_some,boS,cons_append,nil_append])
local macro_rules | `(tactic| walk_at "u")=>`(tactic| first | (with_reducible first | refine AmK ?_ | refine AmR ?_ | refine Amz rfl ?_ | refine AmZ ?_ | refine Anx ?_ ?_ | refine Amn ?_) | with_reducible refine b_neB ?_)
local macro_rules | `(tactic| walk_at "d")=>`(tactic| all_goals try first
 | ((with_reducible show (_:Int) < _); first | decide | omega | (simp only [length_map,length_replicate,length_range,length_append,length_reverse]; omega))
 | ((with_reducible show Tr _ _); exact⟨by omega,by omega⟩)
 | ((with_reducible show Ab3 _ _); exact⟨by decide,by decide,by decide⟩)
 | ((with_reducible show CMul _ _); first | exact .inr ⟨by omega,by omega⟩ | exact .inl ⟨by omega,by omega⟩)
 | ((with_reducible show (_:Nat) < _); first | omega | (simp only [length_map,length_replicate,length_range,length_append,length_reverse]; omega))
 | ((with_reducible show (_:Nat) <= _); first | omega | (simp only [length_map,length_replicate,length_range,length_append,length_reverse]; omega))
 | ((with_reducible show (_:Int) <= _/\_); first | omega | (simp only [length_map,length_replicate,length_range,length_append,length_reverse]; omega)))
local macro_rules | `(tactic| walk_at "u")=>`(tactic| first | (with_reducible first | refine Ajw ?_ | refine AnP ?_ | refine AiZ ?_ | refine Anq rfl rfl ?_ | refine AmH ?_ | refine Agq rfl rfl ?_ | refine Ak3 rfl rfl (by decide) ?_ | refine Akj rfl ?_ | refine Aj2 rfl ?_ ?_ | refine Ako (by decide) rfl ?_ | refine Ams rfl (fun z=>?_) | refine AiX rfl rfl ?_) | with_reducible refine AmY ?_)
local macro_rules | `(tactic| walk_at "x")=>`(tactic| repeat (first
 | (with_reducible first | refine AhR rfl rfl ?_ | refine AeG rfl ?_ | refine p_c ?_ | refine Al9 ?_ | refine Aky ?_ | refine p_i ?_ | refine p_u ?_ | refine b_u ?_ | refine AhB ?_ | refine Ag6 ?_ | refine AhX ?_ | refine AgM ?_ | refine AgR ?_ | refine Ag7 ?_ | refine Ad5 ?_ | refine p_b ?_ | refine b_b ?_ | refine AgK ?_ | refine AlH ?_ | refine AhK ?_ | refine AhU ?_ | refine AeU ?_ | refine Ag2 ?_ | refine Adk rfl ?_ | refine AjF ?_ | refine Ah4 ?_ | refine Afa ?_ | refine p_asg ?_ | refine Abb ?_ | refine Abv ?_ | refine AbN ?_ | refine AdH rfl ?_ | refine AbB ?_ | refine Aef ?_ | refine AgE ?_ | refine Ad6 ?_ | refine AhG ?_ | refine AhS ?_ | refine AgT ?_ | refine AgL ?_ | refine Adi ?_ | refine Afg ?_ | refine Ae6 ?_ | refine Aal ?_ | refine Aez ?_ | refine Aet ?_ | refine Ahh ?_ | refine AhD ?_ | refine Ahl ?_ | refine Ahg ?_ | refine Ahq ?_ ?_ | refine AgJ ?_ ?_ | refine AgZ ?_ ?_ | refine AgA ?_ ?_ | refine AhA ?_ ?_ | refine AlF ?_ | refine AdY ?_ | refine Ad7 ?_ | refine AgI ?_ | refine AhV ?_ | refine Abh ?_ | refine b_listS ?_ | refine Ahm rfl ?_ | refine Ah1 rfl ?_ ?_ | refine AhF ?_ | refine Ahx ?_ | refine Ae7 ?_ | refine Abt rfl rfl ?_ | refine Abf ?_ | refine Adq rfl ?_ | refine AdW rfl ?_ ?_ | refine Ag3 ?_ | refine Agw ?_ | refine b_L ?_ | refine AeM rfl ?_ | refine Aen rfl ?_ | refine AdV ?_ | refine Aex ?_ | refine AdE ?_ | refine Abd ?_ | refine Adw ?_ | refine Aew ?_ | refine Ahe ?_ | refine Aly ?_ | refine Aha ?_ | refine AdB ?_ | refine AlZ ?_ ?_ | refine Al0 ?_ ?_ | refine Ajv ?_ | refine Aju ?_ | refine Amg ?_ | refine pf_dnew ?_ | refine b_abs ?_ | refine Abp rfl ?_ | refine Lh ?_ | refine Ni ?_ | refine AbZ ?_ | refine AcW ?_)
 | walk_at "u" | dsimp only [List.set,cons_append,nil_append,append_nil,Qr]))
section
variable {P:Program} {w:World} {K:Frag} {mg:Str->Option Value} {base:Heap} {t:Adr}
def Rw:Sp:=fun vs H Q _=>∃ b,vs = [.bl true,b]/\Q .non H
theorem AfC {b:Bool} {z:V} {H:Hp} {Q:VK} {E:XK} (q:Q .non H) (h:b = true):Rw [.bl b,z] H Q E:=⟨z,by rw[h],q⟩
theorem Adx {z:V} {H:Hp} {Q:VK} {E:XK} (q:Q .non H):Rw [.bl true,z] H Q E:=⟨z,rfl,q⟩
local macro_rules | `(tactic| walk_at "u")=>`(tactic| with_reducible refine AfC ?_ ?_)
local macro_rules | `(tactic| walk_at "u")=>`(tactic| with_reducible refine Adx ?_)
theorem Li (T:Txt K mg t):Binds K t.d_qe ["held","words"] []:=T.F_qe.binds fun _ _ _ _ _ _ us hl=>match us,hl with | [_,_],_=>rfl
theorem Jj (T:Txt K mg t):FnOk P w K mg base CX0 1 t.f_qe t.d_qe ["held","words"] (Rw):=by
 refine T.F_qe.ok AmC (fun vs H Q E h=>?_) (fun cdv A outer s H vs Q E hr h=>?_)
 ·obtain⟨b,rfl,q⟩:=h
  rfl
 ·obtain⟨b,rfl,q⟩:=h
  have hu:=Cr hr
  have hu64:=hr.units
  refine⟨_,(Bi (Dl (Aaw (Aaf (pv 0)))
    AeB
    Cw)),?_⟩
  try dsimp only [Cl,Cb]
  walk_at "rd"
  exact q
def Zy:Sp:=fun vs H Q _=>∃ n,vs = [.int n]/\Q (.bl true) H
theorem Aij {n:Int} {H:Hp} {Q:VK} {E:XK} (q:Q (.bl true) H):Zy [.int n] H Q E:=⟨n,rfl,q⟩
local macro_rules | `(tactic| walk_at "u")=>`(tactic| with_reducible refine Aij ?_)
theorem AjS (T:Txt K mg t):Binds K t.d_qa ["thing"] []:=T.F_qa.binds fun _ _ _ _ _ _ us hl=>match us,hl with | [_],_=>rfl
theorem AgW (T:Txt K mg t):FnOk P w K mg base CX0 1 t.f_qa t.d_qa ["thing"] (Zy):=by
 refine T.F_qa.ok Ani (fun vs H Q E h=>?_) (fun cdv A outer s H vs Q E hr h=>?_)
 ·obtain⟨n,rfl,q⟩:=h
  rfl
 ·obtain⟨n,rfl,q⟩:=h
  have hu:=Cr hr
  have hu64:=hr.units
  refine⟨_,(Bi (Ce (Qj (Ct (Gy) rfl T.z_isinstance boot_isinstance (Ba (pv 0) (Ba (Nt (v:=.ty "int") rfl T.z_int boot_int rfl) Bd))) (Rt (AlI (Ct (Gy) rfl T.z_isinstance boot_isinstance (Ba (pv 0) (Ba (Nt (v:=.ty "bool") rfl T.z_bool boot_bool rfl) Bd)))))))),?_⟩
  try dsimp only [Cl,Cb]
  walk_at "rd"
  exact q
def Abe:Sp:=fun vs H Q _=>∃ n,vs = [.int n]/\Q (.bl (decide (0 <= n))) H
theorem AkB {n:Int} {H:Hp} {Q:VK} {E:XK} (q:Q (.bl (decide (0 <= n))) H):Abe [.int n] H Q E:=⟨n,rfl,q⟩
local macro_rules | `(tactic| walk_at "u")=>`(tactic| with_reducible refine AkB ?_)
theorem Ym (T:Txt K mg t):Binds K t.d_qbz ["thing"] []:=T.F_qbz.binds fun _ _ _ _ _ _ us hl=>match us,hl with | [_],_=>rfl
theorem Uy (T:Txt K mg t):FnOk P w K mg base CX0 2 t.f_qbz t.d_qbz ["thing"] (Abe):=by
 refine T.F_qbz.ok Aj9 (fun vs H Q E h=>?_) (fun cdv A outer s H vs Q E hr h=>?_)
 ·obtain⟨n,rfl,q⟩:=h
  rfl
 ·obtain⟨n,rfl,q⟩:=h
  have hu:=Cr hr
  have hu64:=hr.units
  refine⟨_,(Bi (Ce (Qj (Bo (AgW T) (hr.mono (by decide)) rfl T.m_qa T.F_qa.kp (AjS T) .nil Bx (Ba (pv 0) Bd)) (Rt (Jk AhW (pv 0) Be (Cj _)))))),?_⟩
  try dsimp only [Cl,Cb]
  walk_at "rd"
  exact q
def AfO:Sp:=fun vs H Q _=>∃ a xs n,vs = [.ref a,.int n]/\H a = some (.lst xs)/\(∀ x ∈ xs,∃ b ys,x = .ref b/\H b = some (.tup ys)/\((ys.length:Nat):Int) = n)/\Q .non H
theorem AfF (T:Txt K mg t):Binds K t.d_qf ["rows","length"] []:=T.F_qf.binds fun _ _ _ _ _ _ us hl=>match us,hl with | [_,_],_=>rfl
theorem Ack (T:Txt K mg t):FnOk P w K mg base CX0 2 t.f_qf t.d_qf ["rows","length"] (AfO):=by
 refine T.F_qf.ok sc_qf (fun vs H Q E h=>?_) (fun cdv A outer s H vs Q E hr h=>?_)
 ·obtain⟨a,xs,n,rfl,hx,hr',q⟩:=h
  rfl
 ·obtain⟨a,xs,n,rfl,hx,hr',q⟩:=h
  have hu:=Cr hr
  have hu64:=hr.units
  refine⟨_,(Bc (Cn (Bo (Jj T) (hr.mono (by decide)) rfl T.m_qe T.F_qe.kp (Li T) .nil Bx (Ba (Ct (Gy) rfl T.z_isinstance boot_isinstance (Ba (pv 0) (Ba (Nt (v:=.ty "list") rfl T.z_list PyProof.Rows.boot_list rfl) Bd))) (Ba Bv Bd))))
   (Bi (Dk PassesOwn.never rfl (Cu (pv 0)) (Bq (i:=2) sc_qf.nd rfl (Or.inl rfl))
    (Bi (Cn (Bo (Jj T) (hr.mono (by decide)) rfl T.m_qe T.F_qe.kp (Li T) .nil Bx (Ba (Qj (Ct (Gy) rfl T.z_isinstance boot_isinstance (Ba (pv 2) (Ba (Nt (v:=.ty "tuple") rfl T.z_tuple boot_tuple rfl) Bd))) (Rt (Jk Dp (Ct (Oh) rfl T.z_len PySem.boot_len (Ba (pv 2) Bd)) (pv 1) (Cj _)))) (Ba Bv Bd)))))))),?_⟩
  try dsimp only [Cl,Cb]
  walk_at "rd"
  refine Ob rfl (SqL.of hx) (fun i σ H'=>∃ v,σ = [some (.ref a),some (.int n),v]/\H' = H) ⟨none,rfl,rfl⟩ (fun i σ H' _ ⟨_,_,e⟩=>by subst e; exact SqL.of hx) ?_ ?_
  ·rintro i x σ H' hi ⟨v,rfl,rfl⟩
   obtain⟨b,ys,rfl,hy,hl⟩:=hr' x (mem_of_getElem? hi)
   walk_at "rd"
   ·exact⟨_,rfl,rfl⟩
   ·exact decide_eq_true hl
  ·rintro σ H' ⟨v,rfl,rfl⟩
   exact q
theorem Aih {k:Str} (h:k ∈ toldK):inV (V.str k) [V.str "fore",V.str "back",V.str "num",V.str "blank",V.str "mark",V.str "forein",V.str "backin",V.str "out"] = true:=by
 have e:inV (V.str k) (toldK.map V.str) = true:=by
  unfold inV
  rw[any_map]
  exact any_eq_true.mpr ⟨k,h,by show (k == k) = true; exact beq_self_eq_true k⟩
 exact e
def AbE:Sp:=fun vs H Q _=>∃ k,vs = [.str k]/\k ∈ toldK/\Q (.bl true) H
theorem AjA {k:Str} {H:Hp} {Q:VK} {E:XK} (q:Q (.bl true) H) (h:k ∈ toldK):AbE [.str k] H Q E:=⟨k,rfl,h,q⟩
local macro_rules | `(tactic| walk_at "u")=>`(tactic| with_reducible refine AjA ?_ ?_)
theorem AnU (T:Txt K mg t):Binds K t.d_qh ["thing"] []:=T.F_qh.binds fun _ _ _ _ _ _ us hl=>match us,hl with | [_],_=>rfl
theorem Ana (T:Txt K mg t):FnOk P w K mg base CX0 1 t.f_qh t.d_qh ["thing"] (AbE):=by
 refine T.F_qh.ok Anm (fun vs H Q E h=>?_) (fun cdv A outer s H vs Q E hr h=>?_)
 ·obtain⟨k,rfl,hk,q⟩:=h
  rfl
 ·obtain⟨k,rfl,hk,q⟩:=h
  have hu:=Cr hr
  have hu64:=hr.units
  refine⟨_,(Bi (Ce (Qj (Ct (Gy) rfl T.z_isinstance boot_isinstance (Ba (pv 0) (Ba (Nt (v:=.ty "str") rfl T.z_str boot_str rfl) Bd))) (Rt (Jk (Rx) (pv 0) (Nz (v:=.ref t.a_TOLD_KINDS) rfl T.g_TOLD_KINDS rfl) rfl))))),?_⟩
  try dsimp only [Cl,Cb]
  walk_at "rd"
  refine⟨_,_,rfl,.inr (T.q_TOLD_KINDS _),rfl,rfl,?_⟩
  rw[show (if false = true then !inV (V.str k) _ else inV (V.str k) [V.str "fore",V.str "back",V.str "num",V.str "blank",V.str "mark",V.str "forein",V.str "backin",V.str "out"]) = true from Aih hk]
  exact q
def Ws:Sp:=fun vs H Q _=>∃ k r,vs = [.str k,.int r]/\Nb k r/\Q (.bl true) H
theorem Afq {k:Str} {r:Int} {H:Hp} {Q:VK} {E:XK} (q:Q (.bl true) H) (h:Nb k r):Ws [.str k,.int r] H Q E:=⟨k,r,rfl,h,q⟩
local macro_rules | `(tactic| walk_at "u")=>`(tactic| with_reducible refine Afq ?_ ?_)
theorem Aog (T:Txt K mg t):Binds K t.d_qw ["kind","thing"] []:=T.F_qw.binds fun _ _ _ _ _ _ us hl=>match us,hl with | [_,_],_=>rfl
theorem AmQ (T:Txt K mg t):FnOk P w K mg base CX0 2 t.f_qw t.d_qw ["kind","thing"] (Ws):=by
 refine T.F_qw.ok AmG (fun vs H Q E h=>?_) (fun cdv A outer s H vs Q E hr h=>?_)
 ·obtain⟨k,r,rfl,hk,q⟩:=h
  rfl
 ·obtain⟨k,r,rfl,hk,q⟩:=h
  have hu:=Cr hr
  have hu64:=hr.units
  refine⟨_,(Bc (Dl (Aaw (Aaf (Bo (AgW T) (hr.mono (by decide)) rfl T.m_qa T.F_qa.kp (AjS T) .nil Bx (Ba (pv 1) Bd))))
    (Bi (Ce Tb))
    Cw)
   (Bc (Dl (Cd Dp (pv 0) Bv (Cj _))
    (Bi (Ce (Jk AhW (pv 1) Be (Cj _))))
    Cw)
   (Bi (Ce (Jk Dp (pv 1) Be (Cj _)))))),?_⟩
  try dsimp only [Cl,Cb]
  walk_at "rd"
  refine Ze (fun h=>?_) (fun h=>?_)
  ·have h':k = "mark":=of_decide_eq_true h
   walk_at "rd"
   rcases hk with ⟨_,hr1⟩ | ⟨hn,_⟩
   ·rw[decide_eq_true hr1]; exact q
   ·exact absurd h' hn
  ·have h':¬ k = "mark":=fun z=>h (decide_eq_true z)
   walk_at "rd"
   rcases hk with ⟨hm,_⟩ | ⟨_,hr0⟩
   ·exact absurd hm h'
   ·rw[decide_eq_true hr0]; exact q
def Zj:Sp:=fun vs H Q _=>∃ d kvs n,vs = [.ref d,.int n]/\H d = some (.dK kvs)/\Q ((Cs kvs (.inl n)).getD (.str "plain")) H
theorem Ait {d:Addr} {kvs:List (Key × V)} {n:Int} {H:Hp} {Q:VK} {E:XK} (h:H d = some (.dK kvs)) (q:Q ((Cs kvs (.inl n)).getD (.str "plain")) H):Zj [.ref d,.int n] H Q E:=⟨d,kvs,n,rfl,h,q⟩
local macro_rules | `(tactic| walk_at "u")=>`(tactic| with_reducible refine Ait (by assumption) ?_)
theorem Aco (T:Txt K mg t):Binds K t.d_qx ["kinds","sign"] []:=T.F_qx.binds fun _ _ _ _ _ _ us hl=>match us,hl with | [_,_],_=>rfl
theorem Xp (T:Txt K mg t):FnOk P w K mg base CX0 1 t.f_qx t.d_qx ["kinds","sign"] (Zj):=by
 refine T.F_qx.ok Amy (fun vs H Q E h=>?_) (fun cdv A outer s H vs Q E hr h=>?_)
 ·obtain⟨d,kvs,n,rfl,hd,q⟩:=h
  rfl
 ·obtain⟨d,kvs,n,rfl,hd,q⟩:=h
  have hu:=Cr hr
  have hu64:=hr.units
  refine⟨_,(Bi (Ce (Lu hu (pv 0) (pv 1) Bv ⟨rfl,rfl,rfl,rfl⟩))),?_⟩
  try dsimp only [Cl,Cb]
  walk_at "rd"
  exact q
def Aek:Sp:=fun vs H Q _=>∃ d kvs n k,vs = [.ref d,.int n,.str k]/\H d = some (.dK kvs)/\0 <= n/\Cs kvs (Sum.inl n) = none/\kvs.length <= 1000/\Q .non (upd H d (.dK (Ja kvs (Sum.inl n) (.str k))))
theorem Aml {d:Addr} {kvs:List (Key × V)} {n:Int} {k:Str} {H:Hp} {Q:VK} {E:XK} (h:H d = some (.dK kvs)) (q:Q .non (upd H d (.dK (kvs ++ [(Sum.inl n,.str k)])))) (hn:0 <= n) (hv:Cs kvs (Sum.inl n) = none) (hl:kvs.length <= 1000) :
  Aek [.ref d,.int n,.str k] H Q E:=⟨d,kvs,n,k,rfl,h,hn,hv,hl,by rw[Ls _ hv]; exact q⟩
local macro_rules | `(tactic| walk_at "u")=>`(tactic| with_reducible refine Aml (by assumption) ?_ ?_ ?_ ?_)
theorem Ac9 (T:Txt K mg t):Binds K t.d_qbs ["kinds","sign","kind"] []:=T.F_qbs.binds fun _ _ _ _ _ _ us hl=>match us,hl with | [_,_,_],_=>rfl
theorem AaM (T:Txt K mg t):FnOk P w K mg base CX0 3 t.f_qbs t.d_qbs ["kinds","sign","kind"] (Aek):=by
 refine T.F_qbs.ok AkD (fun vs H Q E h=>?_) (fun cdv A outer s H vs Q E hr h=>?_)
 ·obtain⟨d,kvs,n,k,rfl,hd,hn,hv,hl,q⟩:=h
  rfl
 ·obtain⟨d,kvs,n,k,rfl,hd,hn,hv,hl,q⟩:=h
  have hu:=Cr hr
  have hu64:=hr.units
  refine⟨_,(Bc (Cn (Bo (Jj T) (hr.mono (by decide)) rfl T.m_qe T.F_qe.kp (Li T) .nil Bx (Ba (Bo (Uy T) (hr.mono (by decide)) rfl T.m_qbz T.F_qbz.kp (Ym T) .nil Bx (Ba (pv 1) Bd)) (Ba Bv Bd))))
   (Bc (Cn (Bo (Jj T) (hr.mono (by decide)) rfl T.m_qe T.F_qe.kp (Li T) .nil Bx (Ba (Vm (Ou hu (pv 1) (pv 0))) (Ba Bv Bd))))
   (Bi (Gs hu (pv 0) (pv 1) (pv 2) rfl)))),?_⟩
  try dsimp only [Cl,Cb]
  walk_at "rd"
  ·exact q
  ·exact Jy hl
  ·rw[hv]; rfl
  ·exact decide_eq_true hn
def Agj:Sp:=fun vs H Q _=>∃ a b xs ys signs mates,vs = [.ref a,.ref b]/\H a = some (.lst xs)/\H b = some (.lst ys)/\LAt TripAt H xs signs/\LAt PairAt H ys mates/\(∀ s ∈ signs,Yq s)/\(∀ m ∈ mates,0 <= m.1/\0 <= m.2) /\
 (signs.map (·.1) ++ Fr mates).Nodup/\signs.length + 2 * mates.length <= 900/\∀ d,H d = none->Q (.ref d) (upd H d (.dK (kK signs ++ kM mates)))
theorem AnQ (T:Txt K mg t):Binds K t.d_qy ["signs","mates"] []:=T.F_qy.binds fun _ _ _ _ _ _ us hl=>match us,hl with | [_,_],_=>rfl
theorem AnI (T:Txt K mg t):FnOk P w K mg base CX0 4 t.f_qy t.d_qy ["signs","mates"] (Agj):=by
 refine T.F_qy.ok sc_qy (fun vs H Q E h=>?_) (fun cdv A outer s H vs Q E hr h=>?_)
 ·obtain⟨a,b,xs,ys,signs,mates,rfl,ha,hb,ls,lm,so,mo,nd,hl,q⟩:=h
  rfl
 ·obtain⟨a,b,xs,ys,signs,mates,rfl,ha,hb,ls,lm,so,mo,nd,hl,q⟩:=h
  have hu:=Cr hr
  have hu64:=hr.units
  refine⟨_,(Bc (Bm (i:=2) sc_qy.nd rfl (Or.inl rfl) Lo)
   (Bc (Dk PassesOwn.never rfl (Cu (pv 0)) (Oj rfl (Cf (Bq (i:=3) sc_qy.nd rfl (Or.inl rfl)) (Cf (Bq (i:=4) sc_qy.nd rfl (Or.inl rfl)) (Cf (Bq (i:=5) sc_qy.nd rfl (Or.inl rfl)) Fa))))
    (Bc (Cn (Bo (Jj T) (hr.mono (by decide)) rfl T.m_qe T.F_qe.kp (Li T) .nil Bx (Ba (Bo (Ana T) (hr.mono (by decide)) rfl T.m_qh T.F_qh.kp (AnU T) .nil Bx (Ba (pv 4) Bd)) (Ba Bv Bd))))
   (Bc (Cn (Bo (Jj T) (hr.mono (by decide)) rfl T.m_qe T.F_qe.kp (Li T) .nil Bx (Ba (Bo (AmQ T) (hr.mono (by decide)) rfl T.m_qw T.F_qw.kp (Aog T) .nil Bx (Ba (pv 4) (Ba (pv 5) Bd))) (Ba Bv Bd))))
   (Bi (Cn (Bo (AaM T) (hr.mono (by decide)) rfl T.m_qbs T.F_qbs.kp (Ac9 T) .nil Bx (Ba (pv 2) (Ba (pv 3) (Ba (pv 4) Bd)))))))))
   (Bc (Dk PassesOwn.never rfl (Cu (pv 1)) (Oj rfl (Cf (Bq (i:=6) sc_qy.nd rfl (Or.inl rfl)) (Cf (Bq (i:=7) sc_qy.nd rfl (Or.inl rfl)) Fa)))
    (Bc (Cn (Bo (AaM T) (hr.mono (by decide)) rfl T.m_qbs T.F_qbs.kp (Ac9 T) .nil Bx (Ba (pv 2) (Ba (pv 6) (Ba Bv Bd)))))
   (Bi (Cn (Bo (AaM T) (hr.mono (by decide)) rfl T.m_qbs T.F_qbs.kp (Ac9 T) .nil Bx (Ba (pv 2) (Ba (pv 7) (Ba Bv Bd))))))))
   (Bi (Ce (pv 2)))))),?_⟩
  try dsimp only [Cl,Cb]
  walk_at "rd"
  intro d hd
  walk_at "rd"
  have nda:a ≠ d:=By ha hd
  have ndb:b ≠ d:=By hb hd
  have ndk:((kK signs ++ kM mates).map (·.1)).Nodup:=by rw[map_append,Abr,show (kK signs).map (·.1) = (signs.map (·.1)).map Sum.inl by simp [kK],<- map_append]; exact Oq nd
  refine Ob rfl (SqL.of (xs:=xs) (by rw[Bh nda]; exact ha)) (fun i σ H'=>∃ v3 v4 v5,σ = [some (.ref a),some (.ref b),some (.ref d),v3,v4,v5,none,none]/\H' = upd H d (.dK (kK (signs.take i)))) ⟨none,none,none,rfl,rfl⟩ (fun i σ H' _ ⟨_,_,_,_,e⟩=>by subst e; exact SqL.of (by rw[Bh nda]; exact ha)) ?_ ?_
  ·rintro i x σ H' hi ⟨v3,v4,v5,rfl,rfl⟩
   obtain⟨s,es,p,rfl,hp⟩:=ls.get hi
   have hp':(upd H d (.dK (kK (signs.take i)))) p = some (.tup [.int s.1,.str s.2.1,.int s.2.2]):=by rw[Bh (By hp hd)]; exact hp
   have hd':(upd H d (.dK (kK (signs.take i)))) d = some (.dK (kK (signs.take i))):=Bl
   have ok:=so s (mem_of_getElem? es)
   have et:=Dt es
   have hlt:i < signs.length:=(List.getElem?_eq_some_iff.mp es).1
   walk_at "rd"
   ·refine⟨_,_,_,rfl,?_⟩
    rw[Go,et]
    simp [kK]
   ·exact ok.nn
   ·refine Lj fun m=>?_
    have q1:(kK signs ++ kM mates) = kK (signs.take i) ++ ((Sum.inl s.1,V.str s.2.1) :: (kK (signs.drop (i + 1)) ++ kM mates)):=by
     rw[<- cons_append,<- append_assoc]
     congr 1
     rw[show ((Sum.inl s.1,V.str s.2.1) :: kK (signs.drop (i + 1)):List (Key × V)) = kK (s :: signs.drop (i + 1)) from rfl,kK,kK,kK,<- map_append]
     congr 1
     rw[<- take_append_drop i signs]
     congr 1
     ·simp
     ·rw[take_append_drop,drop_eq_getElem_cons hlt]
      have:=getElem?_eq_getElem hlt
      rw[es] at this
      rw[Option.some.inj this]
    rw[q1,map_append,map_cons] at ndk
    exact (nodup_append.mp ndk).2.2 _ m _ mem_cons_self rfl
   ·have:(kK (signs.take i)).length <= signs.length:=by simp [kK]; omega
    omega
   ·exact ok.rk
   ·exact ok.kd
  ·rintro σ H' ⟨v3,v4,v5,rfl,rfl⟩
   rw[ls.1,take_length]
   refine AcS ?_
   refine Ob rfl (SqL.of (xs:=ys) (by rw[Bh ndb]; exact hb)) (fun i σ H'=>∃ v3 v4 v5 v6 v7,σ = [some (.ref a),some (.ref b),some (.ref d),v3,v4,v5,v6,v7]/\H' = upd H d (.dK (kK signs ++ kM (mates.take i)))) ⟨_,_,_,_,_,rfl,by simp [kM]⟩ (fun i σ H' _ ⟨_,_,_,_,_,_,e⟩=>by subst e; exact SqL.of (by rw[Bh ndb]; exact hb)) ?_ ?_
   ·rintro i x σ H' hi ⟨v3,v4,v5,v6,v7,rfl,rfl⟩
    obtain⟨m,em,p,rfl,hp⟩:=lm.get hi
    have hp':(upd H d (.dK (kK signs ++ kM (mates.take i)))) p = some (.tup [.int m.1,.int m.2]):=by rw[Bh (By hp hd)]; exact hp
    have hd':(upd H d (.dK (kK signs ++ kM (mates.take i)))) d = some (.dK (kK signs ++ kM (mates.take i))):=Bl
    have ok:=mo m (mem_of_getElem? em)
    have et:=Dt em
    have hlt:i < mates.length:=(List.getElem?_eq_some_iff.mp em).1
    have q1:kK signs ++ kM mates = kK signs ++ kM (mates.take i) ++ ((Sum.inl m.1,V.str "open") :: (Sum.inl m.2,V.str "shut") :: kM (mates.drop (i + 1))):=by
     rw[append_assoc]
     congr 1
     rw[show ((Sum.inl m.1,V.str "open") :: (Sum.inl m.2,V.str "shut") :: kM (mates.drop (i + 1)):List (Key × V)) = kM (m :: mates.drop (i + 1)) from rfl,<- Oy]
     congr 1
     have:=getElem?_eq_getElem hlt
     rw[em] at this
     rw[Option.some.inj this,<- drop_eq_getElem_cons hlt,take_append_drop]
    rw[q1,map_append,map_cons,map_cons] at ndk
    have nd1:=(nodup_append.mp ndk).2.2
    have nd2:=(nodup_append.mp ndk).2.1
    have hlen:(kK signs ++ kM (mates.take i)).length + 1 <= 1000:=by
     rw[length_append,Alf,length_take]; simp only [kK,length_map]; omega
    walk_at "rd"
    have hd2:(upd (upd H d (.dK (kK signs ++ kM (mates.take i)))) d (.dK (kK signs ++ kM (mates.take i) ++ [(Sum.inl m.1,.str "open")]))) d = some (.dK (kK signs ++ kM (mates.take i) ++ [(Sum.inl m.1,.str "open")])):=Bl
    walk_at "rd"
    ·refine⟨_,_,_,_,_,rfl,?_⟩
     rw[Go,Go,et,Oy]
     simp [kM]
    ·exact ok.2
    ·refine Lj fun z=>?_
     rw[map_append,mem_append] at z
     rcases z with z | z
     ·exact nd1 _ z _ (mem_cons_of_mem _ mem_cons_self) rfl
     ·have e:(Sum.inl m.2:Key) = Sum.inl m.1:=mem_singleton.mp z
      have nd3:=(nodup_cons.mp nd2).1
      exact nd3 (mem_cons.mpr (.inl e.symm))
    ·rw[length_append]; exact hlen
    ·exact ok.1
    ·exact Lj fun z=>nd1 _ z _ mem_cons_self rfl
    ·omega
   ·rintro σ H' ⟨v3,v4,v5,v6,v7,rfl,rfl⟩
    rw[lm.1,take_length]
    walk_at "rd"
    exact q d hd
def AfA:Sp:=fun vs H Q _=>∃ a xs signs,vs = [.ref a]/\H a = some (.lst xs)/\LAt TripAt H xs signs/\(signs.map (·.1)).Nodup/\signs.length <= 900/\∀ d,H d = none->Q (.ref d) (upd H d (.dK (kR signs)))
theorem AmD (T:Txt K mg t):Binds K t.d_qbd ["signs"] []:=T.F_qbd.binds fun _ _ _ _ _ _ us hl=>match us,hl with | [_],_=>rfl
theorem Aln (T:Txt K mg t):FnOk P w K mg base CX0 1 t.f_qbd t.d_qbd ["signs"] (AfA):=by
 refine T.F_qbd.ok sc_qbd (fun vs H Q E h=>?_) (fun cdv A outer s H vs Q E hr h=>?_)
 ·obtain⟨a,xs,signs,rfl,ha,ls,nd,hl,q⟩:=h
  rfl
 ·obtain⟨a,xs,signs,rfl,ha,ls,nd,hl,q⟩:=h
  have hu:=Cr hr
  have hu64:=hr.units
  refine⟨_,(Bc (Bm (i:=1) sc_qbd.nd rfl (Or.inl rfl) Lo)
   (Bc (Dk PassesOwn.never rfl (Cu (pv 0)) (Oj rfl (Cf (Bq (i:=2) sc_qbd.nd rfl (Or.inl rfl)) (Cf (Bq (i:=3) sc_qbd.nd rfl (Or.inl rfl)) (Cf (Bq (i:=4) sc_qbd.nd rfl (Or.inl rfl)) Fa))))
    (Bi (Gs hu (pv 1) (pv 2) (pv 4) rfl)))
   (Bi (Ce (pv 1))))),?_⟩
  try dsimp only [Cl,Cb]
  walk_at "rd"
  intro d hd
  walk_at "rd"
  have nda:a ≠ d:=By ha hd
  have ndk:((kR signs).map (·.1)).Nodup:=by rw[show (kR signs).map (·.1) = (signs.map (·.1)).map Sum.inl by simp [kR]]; exact Oq nd
  refine Ob rfl (SqL.of (xs:=xs) (by rw[Bh nda]; exact ha)) (fun i σ H'=>∃ v3 v4 v5,σ = [some (.ref a),some (.ref d),v3,v4,v5]/\H' = upd H d (.dK (kR (signs.take i)))) ⟨none,none,none,rfl,rfl⟩ (fun i σ H' _ ⟨_,_,_,_,e⟩=>by subst e; exact SqL.of (by rw[Bh nda]; exact ha)) ?_ ?_
  ·rintro i x σ H' hi ⟨v3,v4,v5,rfl,rfl⟩
   obtain⟨s,es,p,rfl,hp⟩:=ls.get hi
   have hp':(upd H d (.dK (kR (signs.take i)))) p = some (.tup [.int s.1,.str s.2.1,.int s.2.2]):=by rw[Bh (By hp hd)]; exact hp
   have hd':(upd H d (.dK (kR (signs.take i)))) d = some (.dK (kR (signs.take i))):=Bl
   have et:=Dt es
   have hlt:i < signs.length:=(List.getElem?_eq_some_iff.mp es).1
   have hno:Cs (kR (signs.take i)) (Sum.inl s.1) = none:=by
    refine Lj fun m=>?_
    have q1:kR signs = kR (signs.take i) ++ ((Sum.inl s.1,V.int s.2.2) :: kR (signs.drop (i + 1))):=by
     rw[show ((Sum.inl s.1,V.int s.2.2) :: kR (signs.drop (i + 1)):List (Key × V)) = kR (s :: signs.drop (i + 1)) from rfl,kR,kR,kR,<- map_append]
     congr 1
     have:=getElem?_eq_getElem hlt
     rw[es] at this
     rw[Option.some.inj this,<- drop_eq_getElem_cons hlt,take_append_drop]
    rw[q1,map_append,map_cons] at ndk
    exact (nodup_append.mp ndk).2.2 _ m _ mem_cons_self rfl
   walk_at "rd"
   ·refine⟨_,_,_,rfl,?_⟩
    rw[Go,et,Ls _ hno]
    simp [kR]
   ·have:(kR (signs.take i)).length <= signs.length:=by simp [kR]; omega
    exact Jy (by omega)
  ·rintro σ H' ⟨v3,v4,v5,rfl,rfl⟩
   rw[ls.1,take_length]
   walk_at "rd"
   exact q d hd
def Aip:Sp:=fun vs H Q _=>∃ b ys mates,vs = [.ref b]/\H b = some (.lst ys)/\LAt PairAt H ys mates/\(Fr mates).Nodup/\mates.length <= 400/\∀ d,H d = none->Q (.ref d) (upd H d (.dK (kB mates)))
theorem AnD (T:Txt K mg t):Binds K t.d_qbi ["mates"] []:=T.F_qbi.binds fun _ _ _ _ _ _ us hl=>match us,hl with | [_],_=>rfl
theorem Alq (T:Txt K mg t):FnOk P w K mg base CX0 1 t.f_qbi t.d_qbi ["mates"] (Aip):=by
 refine T.F_qbi.ok sc_qbi (fun vs H Q E h=>?_) (fun cdv A outer s H vs Q E hr h=>?_)
 ·obtain⟨b,ys,mates,rfl,hb,lm,nd,hl,q⟩:=h
  rfl
 ·obtain⟨b,ys,mates,rfl,hb,lm,nd,hl,q⟩:=h
  have hu:=Cr hr
  have hu64:=hr.units
  refine⟨_,(Bc (Bm (i:=1) sc_qbi.nd rfl (Or.inl rfl) Lo)
   (Bc (Dk PassesOwn.never rfl (Cu (pv 0)) (Oj rfl (Cf (Bq (i:=2) sc_qbi.nd rfl (Or.inl rfl)) (Cf (Bq (i:=3) sc_qbi.nd rfl (Or.inl rfl)) Fa)))
    (Bc (Gs hu (pv 1) (pv 2) (pv 3) rfl)
   (Bi (Gs hu (pv 1) (pv 3) (pv 2) rfl))))
   (Bi (Ce (pv 1))))),?_⟩
  try dsimp only [Cl,Cb]
  walk_at "rd"
  intro d hd
  walk_at "rd"
  have ndb:b ≠ d:=By hb hd
  have ndk:((kB mates).map (·.1)).Nodup:=by rw[Ajl]; exact Oq nd
  refine Ob rfl (SqL.of (xs:=ys) (by rw[Bh ndb]; exact hb)) (fun i σ H'=>∃ v3 v4,σ = [some (.ref b),some (.ref d),v3,v4]/\H' = upd H d (.dK (kB (mates.take i)))) ⟨none,none,rfl,rfl⟩ (fun i σ H' _ ⟨_,_,_,e⟩=>by subst e; exact SqL.of (by rw[Bh ndb]; exact hb)) ?_ ?_
  ·rintro i x σ H' hi ⟨v3,v4,rfl,rfl⟩
   obtain⟨m,em,p,rfl,hp⟩:=lm.get hi
   have hp':(upd H d (.dK (kB (mates.take i)))) p = some (.tup [.int m.1,.int m.2]):=by rw[Bh (By hp hd)]; exact hp
   have hd':(upd H d (.dK (kB (mates.take i)))) d = some (.dK (kB (mates.take i))):=Bl
   have et:=Dt em
   have hlt:i < mates.length:=(List.getElem?_eq_some_iff.mp em).1
   have q1:kB mates = kB (mates.take i) ++ ((Sum.inl m.1,V.int m.2) :: (Sum.inl m.2,V.int m.1) :: kB (mates.drop (i + 1))):=by
    rw[show ((Sum.inl m.1,V.int m.2) :: (Sum.inl m.2,V.int m.1) :: kB (mates.drop (i + 1)):List (Key × V)) = kB (m :: mates.drop (i + 1)) from rfl,<- Wy]
    congr 1
    have:=getElem?_eq_getElem hlt
    rw[em] at this
    rw[Option.some.inj this,<- drop_eq_getElem_cons hlt,take_append_drop]
   rw[q1,map_append,map_cons,map_cons] at ndk
   have nd1:=(nodup_append.mp ndk).2.2
   have nd2:=(nodup_append.mp ndk).2.1
   have hlen:(kB (mates.take i)).length + 1 <= 1000:=by
    rw[Als,length_take]; omega
   have n1:Cs (kB (mates.take i)) (Sum.inl m.1) = none:=Lj fun z=>nd1 _ z _ mem_cons_self rfl
   have n2:Cs (kB (mates.take i) ++ [(Sum.inl m.1,V.int m.2)]) (Sum.inl m.2) = none:=by
    refine Lj fun z=>?_
    rw[map_append,mem_append] at z
    rcases z with z | z
    ·exact nd1 _ z _ (mem_cons_of_mem _ mem_cons_self) rfl
    ·have e:(Sum.inl m.2:Key) = Sum.inl m.1:=mem_singleton.mp z
     have nd3:=(nodup_cons.mp nd2).1
     exact nd3 (mem_cons.mpr (.inl e.symm))
   walk_at "rd"
   ·rw[Ls _ n1]
    have hd2:(upd (upd H d (.dK (kB (mates.take i)))) d (.dK (kB (mates.take i) ++ [(Sum.inl m.1,.int m.2)]))) d = some (.dK (kB (mates.take i) ++ [(Sum.inl m.1,.int m.2)])):=Bl
    walk_at "rd"
    ·refine⟨_,_,rfl,?_⟩
     rw[Go,Go,et,Wy,Ls _ n2]
     simp [kB]
    ·rw[length_append]; exact Jy hlen
   ·exact Jy (by omega)
  ·rintro σ H' ⟨v3,v4,rfl,rfl⟩
   rw[lm.1,take_length]
   walk_at "rd"
   exact q d hd
theorem AdU {k:Str} (h:k ∈ joinedK):inV (V.str k) [V.str "fore",V.str "back",V.str "num",V.str "blank",V.str "plain"] = true:=by
 have e:inV (V.str k) (joinedK.map V.str) = true:=by
  unfold inV
  rw[any_map]
  exact any_eq_true.mpr ⟨k,h,by show (k == k) = true; exact beq_self_eq_true k⟩
 exact e
def AiJ:Sp:=fun vs H Q _=>∃ d kk w b m k,vs = [.ref d,.int w,.int b,.int m]/\H d = some (.dK kk)/\0 <= w/\0 <= b/\0 <= m/\knd kk m = .str "mark"/\k ∈ joinedK/\knd kk w = .str k/\knd kk b = .str k/\Q .non H
theorem Aoh (T:Txt K mg t):Binds K t.d_qv ["kinds","whole","base","mark"] []:=T.F_qv.binds fun _ _ _ _ _ _ us hl=>match us,hl with | [_,_,_,_],_=>rfl
theorem AnJ (T:Txt K mg t):FnOk P w K mg base CX0 3 t.f_qv t.d_qv ["kinds","whole","base","mark"] (AiJ):=by
 refine T.F_qv.ok sc_qv (fun vs H Q E h=>?_) (fun cdv A outer s H vs Q E hr h=>?_)
 ·obtain⟨d,kk,w,b,m,k,rfl,hd,w0,b0,m0,hm,hk,hw,hb,q⟩:=h
  rfl
 ·obtain⟨d,kk,w,b,m,k,rfl,hd,w0,b0,m0,hm,hk,hw,hb,q⟩:=h
  have hu:=Cr hr
  have hu64:=hr.units
  refine⟨_,(Bc (Cn (Bo (Jj T) (hr.mono (by decide)) rfl T.m_qe T.F_qe.kp (Li T) .nil Bx (Ba (Qj (Bo (Uy T) (hr.mono (by decide)) rfl T.m_qbz T.F_qbz.kp (Ym T) .nil Bx (Ba (pv 1) Bd)) (Qj (Bo (Uy T) (hr.mono (by decide)) rfl T.m_qbz T.F_qbz.kp (Ym T) .nil Bx (Ba (pv 2) Bd)) (Rt (Bo (Uy T) (hr.mono (by decide)) rfl T.m_qbz T.F_qbz.kp (Ym T) .nil Bx (Ba (pv 3) Bd))))) (Ba Bv Bd))))
   (Bc (Cn (Bo (Jj T) (hr.mono (by decide)) rfl T.m_qe T.F_qe.kp (Li T) .nil Bx (Ba (Jk Dp (Bo (Xp T) (hr.mono (by decide)) rfl T.m_qx T.F_qx.kp (Aco T) .nil Bx (Ba (pv 0) (Ba (pv 3) Bd))) Bv (Cj _)) (Ba Bv Bd))))
   (Bc (Bm (i:=4) sc_qv.nd rfl (Or.inl rfl) (Bo (Xp T) (hr.mono (by decide)) rfl T.m_qx T.F_qx.kp (Aco T) .nil Bx (Ba (pv 0) (Ba (pv 1) Bd))))
   (Bc (Cn (Bo (Jj T) (hr.mono (by decide)) rfl T.m_qe T.F_qe.kp (Li T) .nil Bx (Ba (Jk (Rx) (pv 4) (Nz (v:=.ref t.a_JOINED_KINDS) rfl T.g_JOINED_KINDS rfl) rfl) (Ba Bv Bd))))
   (Bi (Cn (Bo (Jj T) (hr.mono (by decide)) rfl T.m_qe T.F_qe.kp (Li T) .nil Bx (Ba (Jk Dp (Bo (Xp T) (hr.mono (by decide)) rfl T.m_qx T.F_qx.kp (Aco T) .nil Bx (Ba (pv 0) (Ba (pv 2) Bd))) (pv 4) (Cj _)) (Ba Bv Bd))))))))),?_⟩
  try dsimp only [Cl,Cb]
  unfold knd at hm hw hb
  walk_at "rd"
  refine Ake w0 ?_
  walk_at "rd"
  refine Ake b0 ?_
  walk_at "rd"
  ·rw[hm]
   walk_at "rd"
   ·rw[hw]
    walk_at "rd"
    refine⟨_,_,rfl,.inr (T.q_JOINED_KINDS _),rfl,rfl,?_⟩
    rw[show (if false = true then !inV (V.str k) _ else inV (V.str k) [V.str "fore",V.str "back",V.str "num",V.str "blank",V.str "plain"]) = true from AdU hk]
    walk_at "rd"
    rw[hb]
    walk_at "rd"
    ·exact q
    ·exact decide_eq_true rfl
   ·exact decide_eq_true rfl
  ·exact decide_eq_true m0
def AiL:Sp:=fun vs H Q _=>∃ d kvs J n,vs = [.ref d,.int n]/\Rd H d (.dK kvs)/\LAt KvAt H kvs J/\Q (.bl (!(Fm J (jGo J 7 n)).isSome)) H
theorem An6 (T:Txt K mg t):Binds K t.d_qg ["pairs","whole"] []:=T.F_qg.binds fun _ _ _ _ _ _ us hl=>match us,hl with | [_,_],_=>rfl
theorem Am5 (T:Txt K mg t):FnOk P w K mg base CX0 1 t.f_qg t.d_qg ["pairs","whole"] (AiL):=by
 refine T.F_qg.ok sc_qg (fun vs H Q E h=>?_) (fun cdv A outer s H vs Q E hr h=>?_)
 ·obtain⟨d,kvs,J,n,rfl,hd,lj,q⟩:=h
  rfl
 ·obtain⟨d,kvs,J,n,rfl,hd,lj,q⟩:=h
  have hu:=Cr hr
  have hu64:=hr.units
  refine⟨_,(Bc (Bm (i:=2) sc_qg.nd rfl (Or.inl rfl) (pv 1))
   (Bc (Dk PassesOwn.never rfl (Na rfl T.z_range (Ba (Nz rfl T.g_MOST_GOINGS.choose_spec.1 T.g_MOST_GOINGS.choose_spec.2) Bd)) (Bq (i:=3) sc_qg.nd rfl (Or.inl rfl))
    (Bi (Dl (Lz (AdO hu (pv 2) (pv 0)))
    (Bi (Bm (i:=2) sc_qg.nd rfl (Or.inl rfl) (Ci (AeQ) (Qi hu (pv 0) (pv 2) (fun _ _=>rfl)) Be (fun _ _=>rfl))))
    Cw)))
   (Bi (Ce (Vm (Ou hu (pv 2) (pv 0))))))),?_⟩
  try dsimp only [Cl,Cb]
  walk_at "rd"
  refine Ajf (hi:=7) (n:=7) (fun R q'=>by walk_at "rd"; exact q') ⟨by decide,by decide⟩ rfl (fun i σ H'=>∃ v3,σ = [some (.ref d),some (.int n),some (.int (jGo J i n)),v3]/\H' = H) ⟨none,rfl,rfl⟩ ?_ ?_
  ·rintro i σ H' hi ⟨v3,rfl,rfl⟩
   walk_at "rd"
   refine⟨d,_,rfl,.inl ⟨kvs,Sum.inl (jGo J i n),hd,rfl,rfl⟩,?_⟩
   walk_at "rd"
   rcases Zl lj (jGo J i n) with ⟨h1,h2⟩ | ⟨m,p,h1,h2,hp⟩
   ·rw[h2]
    refine Ni ?_
    walk_at "rd"
    exact⟨_,by show _ = [_,_,some (V.int (Fn J (jGo J i n))),_]; unfold Fn; rw[h1],rfl⟩
   ·rw[h2]
    refine Lh ?_
    walk_at "rd"
    refine⟨d,.ref p,rfl,.inl ⟨kvs,Sum.inl (jGo J i n),hd,rfl,h2.symm⟩,?_⟩
    walk_at "rd"
    refine Amj hp ?_ rfl
    walk_at "rd"
    exact⟨_,by show _ = [_,_,some (V.int (Fn J (jGo J i n))),_]; unfold Fn; rw[h1],rfl⟩
  ·rintro σ H' ⟨v3,rfl,rfl⟩
   walk_at "rd"
   refine⟨d,_,rfl,.inl ⟨kvs,Sum.inl (jGo J 7 n),hd,rfl,rfl⟩,?_⟩
   rcases Zl lj (jGo J 7 n) with ⟨h1,h2⟩ | ⟨m,p,h1,h2,hp⟩
   ·rw[h2]; rw[h1] at q; exact q
   ·rw[h2]; rw[h1] at q; exact q
def Af1:Sp:=fun vs H Q _=>∃ d b kk xs J,vs = [.ref d,.ref b]/\H d = some (.dK kk)/\H b = some (.lst xs)/\LAt TrjAt H xs J/\Ac6 kk J/\∀ p kvs H',H p = none->Same H H'->H' p = some (.dK kvs)->LAt KvAt H' kvs J->Q (.ref p) H'
theorem Ant (T:Txt K mg t):Binds K t.d_qbc ["kinds","joins"] []:=T.F_qbc.binds fun _ _ _ _ _ _ us hl=>match us,hl with | [_,_],_=>rfl
theorem Ak8 (T:Txt K mg t):FnOk P w K mg base CX0 4 t.f_qbc t.d_qbc ["kinds","joins"] (Af1):=by
 refine T.F_qbc.ok sc_qbc (fun vs H Q E h=>?_) (fun cdv A outer s H vs Q E hr h=>?_)
 ·obtain⟨d,b,kk,xs,J,rfl,hd,hb,lj,jo,q⟩:=h
  rfl
 ·obtain⟨d,b,kk,xs,J,rfl,hd,hb,lj,jo,q⟩:=h
  have hu:=Cr hr
  have hu64:=hr.units
  refine⟨_,(Bc (Bm (i:=2) sc_qbc.nd rfl (Or.inl rfl) Lo)
   (Bc (Dk PassesOwn.never rfl (Cu (pv 1)) (Oj rfl (Cf (Bq (i:=3) sc_qbc.nd rfl (Or.inl rfl)) (Cf (Bq (i:=4) sc_qbc.nd rfl (Or.inl rfl)) (Cf (Bq (i:=5) sc_qbc.nd rfl (Or.inl rfl)) Fa))))
    (Bc (Cn (Bo (AnJ T) (hr.mono (by decide)) rfl T.m_qv T.F_qv.kp (Aoh T) .nil Bx (Ba (pv 0) (Ba (pv 3) (Ba (pv 4) (Ba (pv 5) Bd))))))
   (Bc (Cn (Bo (Jj T) (hr.mono (by decide)) rfl T.m_qe T.F_qe.kp (Li T) .nil Bx (Ba (Vm (Ou hu (pv 3) (pv 2))) (Ba Bv Bd))))
   (Bi (Gs hu (pv 2) (pv 3) (AlY (Ba (pv 4) (Ba (pv 5) Bd))) rfl)))))
   (Bc (Vh (Dk PassesOwn.never rfl (Ud (pv 2)) (Bq (i:=3) sc_qbc.nd rfl (Or.inl rfl))
    (Bi (Cn (Bo (Jj T) (hr.mono (by decide)) rfl T.m_qe T.F_qe.kp (Li T) .nil Bx (Ba (Bo (Am5 T) (hr.mono (by decide)) rfl T.m_qg T.F_qg.kp (An6 T) .nil Bx (Ba (pv 2) (Ba (pv 3) Bd))) (Ba Bv Bd)))))))
   (Bi (Ce (pv 2)))))),?_⟩
  try dsimp only [Cl,Cb]
  walk_at "rd"
  intro p hp
  have s0:Same H (upd H p (.dK [])):=Same.new hp
  have e0:(upd H p (.dK [])) p = some (.dK []):=Bl
  generalize upd H p (.dK []) = H0 at s0 e0
  walk_at "rd"
  refine Ob (i:=1) rfl (SqL.of (s0 _ _ hb)) (fun i σ H'=>∃ v3 v4 v5 kvs,σ = [some (.ref d),some (.ref b),some (.ref p),v3,v4,v5]/\Same H H'/\H' p = some (.dK kvs)/\LAt KvAt H' kvs (J.take i)) ⟨none,none,none,[],rfl,s0,e0,LAt.nil⟩ (fun i σ H' _ ⟨_,_,_,_,_,s,_⟩=>SqL.of (s _ _ hb)) ?_ ?_
  ·rintro i x σ H' hi ⟨v3,v4,v5,kvs,rfl,s,e,lk⟩
   obtain⟨j,ej,a,rfl,ha⟩:=lj.get hi
   have hj:=mem_of_getElem? ej
   have ha':=s _ _ ha
   obtain⟨k,hk,hw,hb'⟩:=jo.kd j hj
   obtain⟨n1,n2,n3⟩:=jo.nn j hj
   have hlen:kvs.length <= 400:=by
    rw[lk.1,length_take]
    have:=jo.ln
    omega
   have hno:Cs kvs (Sum.inl j.1) = none:=by
    rcases Zl lk j.1 with ⟨_,h2⟩ | ⟨m,_,h1,_,_⟩
    ·exact h2
    ·exact absurd (show j.1 ∈ (J.take i).map (·.1) from mem_map.mpr ⟨_,Uv h1,rfl⟩) (Ol (f:=(·.1)) jo.nw ej)
   walk_at "rd"
   refine⟨d,kk,j.1,j.2.1,j.2.2,k,rfl,s _ _ hd,n1,n2,n3,jo.mr j hj,hk,hw,hb',?_⟩
   walk_at "rd"
   ·refine⟨by show 2 <= sizeLine; decide,fun t ht=>?_⟩
    walk_at "rd"
    refine Aeh (Same.new ht _ _ e) ?_ (Jy (by omega))
    rw[Ls _ hno]
    have ntp:t ≠ p:=(By e ht).symm
    have kt:∀ q' zs,H' q' = some (.tup zs)->(upd (upd H' t (.tup [.int j.2.1,.int j.2.2])) p (.dK (kvs ++ [(Sum.inl j.1,V.ref t)]))) q' = some (.tup zs):=fun q' zs z=>by
     rw[Bh (Fh z e (by intro w; cases w)),Bh (By z ht)]; exact z
    refine⟨_,_,_,_,rfl,fun q' o z=>?_,Bl,?_⟩
    ·rw[Bh (By z hp),Bh (By (s _ _ z) ht)]; exact s _ _ z
    ·rw[Dt ej]
     exact LAt.snoc (lk.mono fun x y h=>h.mono kt) ⟨rfl,t,rfl,by rw[Bh ntp,Bl]⟩
   ·rw[hno]; rfl
  ·rintro σ H' ⟨v3,v4,v5,kvs,rfl,s,e,lk⟩
   rw[lj.1,take_length] at lk
   dsimp only
   with_reducible refine AcS ?_
   refine Ak1 (i:=2) (a:=p) (kvs:=kvs) rfl e (fun i σ H''=>∃ v3 v4 v5,σ = [some (.ref d),some (.ref b),some (.ref p),v3,v4,v5]/\H'' = H') ⟨_,_,_,rfl,rfl⟩ (fun i σ H' _ ⟨_,_,_,_,z⟩=>by subst z; exact e) ?_ ?_
   ·rintro o i kv σ H'' hi ⟨v3,v4,v5,rfl,rfl⟩
    obtain⟨j,ej,e1,_⟩:=lk.get hi
    have hj:=mem_of_getElem? ej
    obtain⟨key,val⟩:=kv
    dsimp only at e1
    subst e1
    show Gn _ (.int j.1) _ _ _
    walk_at "rd"
    refine⟨p,kvs,J,j.1,rfl,Alm,lk.mono fun x y h=>h.mono fun q' zs z=>?_,?_⟩
    ·rw[Bh (Fh z e (by intro w; cases w))]; exact z
    ·walk_at "rd"
     ·exact⟨Bl,_,_,_,rfl,AfP e⟩
     ·rw[jo.en j hj]; rfl
   ·rintro σ H'' ⟨v3,v4,v5,rfl,rfl⟩
    walk_at "rd"
    exact q p kvs _ hp s e lk
def AdT:Sp:=fun vs H Q _=>∃ d kvs J,vs = [.ref d]/\H d = some (.dK kvs)/\LAt KvAt H kvs J/\(J.map (·.2)).Nodup/\J.length <= 400/\∀ p H',H p = none->Same H H'->H' p = some (.dT (kW J))->Q (.ref p) H'
theorem AnN (T:Txt K mg t):Binds K t.d_qt ["pairs"] []:=T.F_qt.binds fun _ _ _ _ _ _ us hl=>match us,hl with | [_],_=>rfl
theorem Amp (T:Txt K mg t):FnOk P w K mg base CX0 2 t.f_qt t.d_qt ["pairs"] (AdT):=by
 refine T.F_qt.ok sc_qt (fun vs H Q E h=>?_) (fun cdv A outer s H vs Q E hr h=>?_)
 ·obtain⟨d,kvs,J,rfl,hd,lk,np,ln,q⟩:=h
  rfl
 ·obtain⟨d,kvs,J,rfl,hd,lk,np,ln,q⟩:=h
  have hu:=Cr hr
  have hu64:=hr.units
  refine⟨_,(Bc (Bm (i:=1) sc_qt.nd rfl (Or.inl rfl) Ags)
   (Bc (Vh (Dk PassesOwn.never rfl (Aee (pv 0)) (Oj rfl (Cf (Bq (i:=2) sc_qt.nd rfl (Or.inl rfl)) (Cf (Bq (i:=3) sc_qt.nd rfl (Or.inl rfl)) Fa)))
    (Bc (Cn (Bo (Jj T) (hr.mono (by decide)) rfl T.m_qe T.F_qe.kp (Li T) .nil Bx (Ba (Vm (Ou hu (pv 3) (pv 1))) (Ba Bv Bd))))
   (Bi (Gs hu (pv 1) (pv 3) (pv 2) rfl)))))
   (Bi (Ce (pv 1))))),?_⟩
  try dsimp only [Cl,Cb]
  walk_at "rd"
  intro p hp
  have s0:Same H (upd H p (.dT [])):=Same.new hp
  have e0:(upd H p (.dT [])) p = some (.dT []):=Bl
  generalize upd H p (.dT []) = H0 at s0 e0
  have ndp:d ≠ p:=By hd hp
  walk_at "rd"
  refine Akh (i:=0) (a:=d) (kvs:=kvs) rfl (s0 _ _ hd) (fun i σ H'=>∃ v2 v3,σ = [some (.ref d),some (.ref p),v2,v3]/\Same H H'/\H' p = some (.dT (kW (J.take i)))) ⟨none,none,rfl,s0,e0⟩ ?_ ?_
  ·rintro o i kv t σ H' hi ht ntd ⟨v2,v3,rfl,s,e⟩
   obtain⟨j,ej,e1,a,e2,ha⟩:=lk.get hi
   obtain⟨key,val⟩:=kv
   dsimp only at e1 e2
   subst e1 e2
   have ntp:p ≠ t:=By e ht
   have had:a ≠ d:=Fh ha hd (by intro w; cases w)
   have hat:a ≠ t:=By (s _ _ ha) ht
   have hap:a ≠ p:=By ha hp
   have ep:(upd (upd H' d (.frz o (.dK kvs))) t (.tup [.int j.1,.ref a])) p = some (.dT (kW (J.take i))):=by rw[Bh ntp,Bh ndp.symm]; exact e
   have ea:(upd (upd H' d (.frz o (.dK kvs))) t (.tup [.int j.1,.ref a])) a = some (.tup ([Sum.inl j.2.1,Sum.inl j.2.2].map kV)):=by rw[Bh hat,Bh had]; exact s _ _ ha
   have et:(upd (upd H' d (.frz o (.dK kvs))) t (.tup [.int j.1,.ref a])) t = some (.tup [.int j.1,.ref a]):=Bl
   have ed:(upd (upd H' d (.frz o (.dK kvs))) t (.tup [.int j.1,.ref a])) d = some (.frz o (.dK kvs)):=by rw[Bh ntd.symm,Bl]
   have back:∀ q' u,H q' = some u->q' ≠ d->(upd (upd H' d (.frz o (.dK kvs))) t (.tup [.int j.1,.ref a])) q' = some u:=fun q' u z nz=>by
    rw[Bh (By (s _ _ z) ht),Bh nz]; exact s _ _ z
   show Wj _ _ _ _ _ (upd (upd H' d (.frz o (.dK kvs))) t (.tup [.int j.1,.ref a])) _
   generalize upd (upd H' d (.frz o (.dK kvs))) t (.tup [.int j.1,.ref a]) = H2 at ep ea et ed back
   have hno:Cs (kW (J.take i)) [Sum.inl j.2.1,Sum.inl j.2.2] = none:=Am4 (Ol (f:=(·.2)) np ej)
   have hlen:(kW (J.take i)).length <= 400:=by unfold kW; rw[length_map,length_take]; omega
   walk_at "rd"
   refine⟨p,_,rfl,DGet.t ep ea,?_⟩
   rw[hno]
   walk_at "rd"
   rotate_left
   ·rfl
   refine⟨p,_,rfl,DPut.t ep ea (Jy (by omega)),?_⟩
   rw[Ls _ hno]
   refine⟨by rw[Bh ndp]; exact ed,_,_,rfl,fun q' u z=>?_,?_⟩
   ·by_cases hq:q' = d
    ·subst hq
     rw[Bl]
     rw[hd] at z; exact z
    ·rw[Bh hq,Bh (By z hp)]; exact back _ _ z hq
   ·rw[Bh ndp.symm,Bl,Dt ej]
    simp [kW]
  ·rintro σ H' ⟨v2,v3,rfl,s,e⟩
   rw[lk.1,take_length] at e
   walk_at "rd"
   exact q p _ hp s e
theorem Amw (T:Txt K mg t):Binds K t.d_qbe ["self","signs","mates","joins"] []:=T.F_qbe.binds fun _ _ _ _ _ _ us hl=>match us,hl with | [_,_,_,_],_=>rfl
theorem AlM (T:Txt K mg t):FnOk P w K mg base CX0 5 t.f_qbe t.d_qbe ["self","signs","mates","joins"] (Aa1 t.C_Book):=by
 refine T.F_qbe.ok Ajz (fun vs H Q E h=>?_) (fun cdv A outer s H vs Q E hr h=>?_)
 ·obtain⟨p,dx,a,b,cc,xs,ys,zs,signs,mates,J,rfl,hp,ha,hb,hc,ls,lm,lj,so,mo,nd,jo,hl,q⟩:=h
  rfl
 ·obtain⟨p,dx,a,b,cc,xs,ys,zs,signs,mates,J,rfl,hp,ha,hb,hc,ls,lm,lj,so,mo,nd,jo,hl,q⟩:=h
  have hu:=Cr hr
  have hu64:=hr.units
  refine⟨_,(Bc (Cn (Bo (Ack T) (hr.mono (by decide)) rfl T.m_qf T.F_qf.kp (AfF T) .nil Bx (Ba (pv 1) (Ba Be Bd))))
   (Bc (Cn (Bo (Ack T) (hr.mono (by decide)) rfl T.m_qf T.F_qf.kp (AfF T) .nil Bx (Ba (pv 2) (Ba Be Bd))))
   (Bc (Cn (Bo (Ack T) (hr.mono (by decide)) rfl T.m_qf T.F_qf.kp (AfF T) .nil Bx (Ba (pv 3) (Ba Be Bd))))
   (Bc (Sd (pv 0) (Bo (AnI T) (hr.mono (by decide)) rfl T.m_qy T.F_qy.kp (AnQ T) .nil Bx (Ba (pv 1) (Ba (pv 2) Bd))) rfl)
   (Bc (Sd (pv 0) (Bo (Aln T) (hr.mono (by decide)) rfl T.m_qbd T.F_qbd.kp (AmD T) .nil Bx (Ba (pv 1) Bd)) rfl)
   (Bc (Sd (pv 0) (Bo (Alq T) (hr.mono (by decide)) rfl T.m_qbi T.F_qbi.kp (AnD T) .nil Bx (Ba (pv 2) Bd)) rfl)
   (Bc (Sd (pv 0) (Bo (Ak8 T) (hr.mono (by decide)) rfl T.m_qbc T.F_qbc.kp (Ant T) .nil Bx (Ba (Vb (pv 0) rfl) (Ba (pv 3) Bd))) rfl)
   (Bi (Sd (pv 0) (Bo (Amp T) (hr.mono (by decide)) rfl T.m_qt T.F_qt.kp (AnN T) .nil Bx (Ba (Vb (pv 0) rfl) Bd)) rfl))))))))),?_⟩
  try dsimp only [Cl,Cb]
  have nt:∀ q' zs,H q' = some (.tup zs)->q' ≠ p:=fun q' zs h=>Fh h hp (by intro z; cases z)
  have nap:a ≠ p:=Fh ha hp (by intro z; cases z)
  have nbp:b ≠ p:=Fh hb hp (by intro z; cases z)
  have ncp:cc ≠ p:=Fh hc hp (by intro z; cases z)
  have c3:∀ x ∈ xs,∃ b ys,x = V.ref b/\H b = some (.tup ys)/\((ys.length:Nat):Int) = 3:=fun x hx=>by
   obtain⟨i,hi⟩:=getElem?_of_mem hx
   obtain⟨s,_,q',e,h⟩:=ls.get hi
   exact⟨q',_,e,h,rfl⟩
  have c2:∀ x ∈ ys,∃ b ys,x = V.ref b/\H b = some (.tup ys)/\((ys.length:Nat):Int) = 2:=fun x hx=>by
   obtain⟨i,hi⟩:=getElem?_of_mem hx
   obtain⟨s,_,q',e,h⟩:=lm.get hi
   exact⟨q',_,e,h,rfl⟩
  have c3j:∀ x ∈ zs,∃ b ys,x = V.ref b/\H b = some (.tup ys)/\((ys.length:Nat):Int) = 3:=fun x hx=>by
   obtain⟨i,hi⟩:=getElem?_of_mem hx
   obtain⟨s,_,q',e,h⟩:=lj.get hi
   exact⟨q',_,e,h,rfl⟩
  have mJ:∀ {H'},Keep p H H'->LAt TrjAt H' zs J:=fun k=>lj.mono fun x y h=>h.mono fun q' zs e=>k q' _ e (nt q' zs e)
  have mT:∀ {H'},Keep p H H'->LAt TripAt H' xs signs:=fun k=>ls.mono fun x y h=>h.mono fun q' zs e=>k q' _ e (nt q' zs e)
  have mP:∀ {H'},Keep p H H'->LAt PairAt H' ys mates:=fun k=>lm.mono fun x y h=>h.mono fun q' zs e=>k q' _ e (nt q' zs e)
  have nd1:=(nodup_append.mp nd).1
  have nd2:=(nodup_append.mp nd).2.1
  walk_at "rd"
  refine⟨a,xs,_,rfl,ha,c3,?_⟩
  walk_at "rd"
  refine⟨b,ys,_,rfl,hb,c2,?_⟩
  walk_at "rd"
  refine⟨cc,zs,_,rfl,hc,c3j,?_⟩
  walk_at "rd"
  refine⟨a,b,xs,ys,signs,mates,rfl,ha,hb,ls,lm,so,mo,nd,by omega,fun dk hk=>?_⟩
  have fk:H dk = none:=hk
  walk_at "rd"
  have k1:Keep p H (upd H dk (.dK (kK signs ++ kM mates))):=Keep.new hk
  have p1:(upd H dk (.dK (kK signs ++ kM mates))) p = some (.ins t.C_Book dx []):=by rw[Bh (By hp hk)]; exact hp
  have e1:(upd H dk (.dK (kK signs ++ kM mates))) dk = some (.dK (kK signs ++ kM mates)):=Bl
  generalize upd H dk (.dK (kK signs ++ kM mates)) = H1 at k1 p1 e1
  refine⟨p,_,_,_,rfl,p1,T.cl_Book,T.n_Book_kinds,by show 0 < 1000; decide,?_⟩
  have k2:Keep p H (upd H1 p (.ins t.C_Book dx (Bz "kinds" (.ref dk) []))):=k1.trans Keep.put
  have p2:(upd H1 p (.ins t.C_Book dx (Bz "kinds" (.ref dk) []))) p = some (.ins t.C_Book dx (Bz "kinds" (.ref dk) [])):=Bl
  have e2:(upd H1 p (.ins t.C_Book dx (Bz "kinds" (.ref dk) []))) dk = some (.dK (kK signs ++ kM mates)):=by rw[Bh (Fh e1 p1 (by intro z; cases z))]; exact e1
  generalize upd H1 p (.ins t.C_Book dx (Bz "kinds" (.ref dk) [])) = H2 at k2 p2 e2
  walk_at "rd"
  refine⟨a,xs,signs,rfl,k2 _ _ ha nap,mT k2,nd1,by omega,fun dr hk=>?_⟩
  have fr':H dr = none:=k2.free p2 hk
  walk_at "rd"
  have k3:Keep p H (upd H2 dr (.dK (kR signs))):=k2.trans (Keep.new hk)
  have p3:(upd H2 dr (.dK (kR signs))) p = some (.ins t.C_Book dx (Bz "kinds" (.ref dk) [])):=by rw[Bh (By p2 hk)]; exact p2
  have e3:(upd H2 dr (.dK (kR signs))) dk = some (.dK (kK signs ++ kM mates)):=by rw[Bh (By e2 hk)]; exact e2
  have r3:(upd H2 dr (.dK (kR signs))) dr = some (.dK (kR signs)):=Bl
  generalize upd H2 dr (.dK (kR signs)) = H3 at k3 p3 e3 r3
  refine⟨p,_,_,_,rfl,p3,T.cl_Book,T.n_Book_ranks,Nat.lt_of_le_of_lt (Dy _ _ _) (by show 0 + 1 < 1000; decide),?_⟩
  have k4:Keep p H (upd H3 p (.ins t.C_Book dx (Bz "ranks" (.ref dr) (Bz "kinds" (.ref dk) [])))):=k3.trans Keep.put
  have p4:(upd H3 p (.ins t.C_Book dx (Bz "ranks" (.ref dr) (Bz "kinds" (.ref dk) [])))) p = some (.ins t.C_Book dx (Bz "ranks" (.ref dr) (Bz "kinds" (.ref dk) []))):=Bl
  have e4:(upd H3 p (.ins t.C_Book dx (Bz "ranks" (.ref dr) (Bz "kinds" (.ref dk) [])))) dk = some (.dK (kK signs ++ kM mates)):=by rw[Bh (Fh e3 p3 (by intro z; cases z))]; exact e3
  have r4:(upd H3 p (.ins t.C_Book dx (Bz "ranks" (.ref dr) (Bz "kinds" (.ref dk) [])))) dr = some (.dK (kR signs)):=by rw[Bh (Fh r3 p3 (by intro z; cases z))]; exact r3
  generalize upd H3 p (.ins t.C_Book dx (Bz "ranks" (.ref dr) (Bz "kinds" (.ref dk) []))) = H4 at k4 p4 e4 r4
  walk_at "rd"
  refine⟨b,ys,mates,rfl,k4 _ _ hb nbp,mP k4,nd2,by omega,fun dm hk=>?_⟩
  have fm:H dm = none:=k4.free p4 hk
  walk_at "rd"
  have k5:Keep p H (upd H4 dm (.dK (kB mates))):=k4.trans (Keep.new hk)
  have p5:(upd H4 dm (.dK (kB mates))) p = some (.ins t.C_Book dx (Bz "ranks" (.ref dr) (Bz "kinds" (.ref dk) []))):=by rw[Bh (By p4 hk)]; exact p4
  have e5:(upd H4 dm (.dK (kB mates))) dk = some (.dK (kK signs ++ kM mates)):=by rw[Bh (By e4 hk)]; exact e4
  have r5:(upd H4 dm (.dK (kB mates))) dr = some (.dK (kR signs)):=by rw[Bh (By r4 hk)]; exact r4
  have m5:(upd H4 dm (.dK (kB mates))) dm = some (.dK (kB mates)):=Bl
  generalize upd H4 dm (.dK (kB mates)) = H5 at k5 p5 e5 r5 m5
  refine⟨p,_,_,_,rfl,p5,T.cl_Book,T.n_Book_mates,Nat.lt_of_le_of_lt (Dy _ _ _) (Nat.lt_of_le_of_lt (succ_le_succ (Dy _ _ _)) (by show 0 + 1 + 1 < 1000; decide)),?_⟩
  have k6:Keep p H (upd H5 p (.ins t.C_Book dx (Bz "mates" (.ref dm) (Bz "ranks" (.ref dr) (Bz "kinds" (.ref dk) []))))):=k5.trans Keep.put
  have p6:(upd H5 p (.ins t.C_Book dx (Bz "mates" (.ref dm) (Bz "ranks" (.ref dr) (Bz "kinds" (.ref dk) []))))) p = some (.ins t.C_Book dx (Bz "mates" (.ref dm) (Bz "ranks" (.ref dr) (Bz "kinds" (.ref dk) [])))):=Bl
  have e6:(upd H5 p (.ins t.C_Book dx (Bz "mates" (.ref dm) (Bz "ranks" (.ref dr) (Bz "kinds" (.ref dk) []))))) dk = some (.dK (kK signs ++ kM mates)):=by rw[Bh (Fh e5 p5 (by intro z; cases z))]; exact e5
  have r6:(upd H5 p (.ins t.C_Book dx (Bz "mates" (.ref dm) (Bz "ranks" (.ref dr) (Bz "kinds" (.ref dk) []))))) dr = some (.dK (kR signs)):=by rw[Bh (Fh r5 p5 (by intro z; cases z))]; exact r5
  have m6:(upd H5 p (.ins t.C_Book dx (Bz "mates" (.ref dm) (Bz "ranks" (.ref dr) (Bz "kinds" (.ref dk) []))))) dm = some (.dK (kB mates)):=by rw[Bh (Fh m5 p5 (by intro z; cases z))]; exact m5
  generalize upd H5 p (.ins t.C_Book dx (Bz "mates" (.ref dm) (Bz "ranks" (.ref dr) (Bz "kinds" (.ref dk) [])))) = H6 at k6 p6 e6 r6 m6
  walk_at "rd"
  refine⟨p,_,_,_,_,rfl,p6,T.cl_Book,T.n_Book_kinds,by rw[Cz,if_neg (by decide +kernel),Cz,if_neg (by decide +kernel),Cz,if_pos rfl],?_⟩
  walk_at "rd"
  refine⟨dk,cc,_,zs,J,rfl,e6,k6 _ _ hc ncp,mJ k6,jo,fun dp kvs H7 hk s7 q7 lk7=>?_⟩
  have fp:H dp = none:=k6.free p6 hk
  walk_at "rd"
  have k7:Keep p H H7:=fun q' o e n=>s7 _ _ (k6 _ _ e n)
  have p7:=s7 _ _ p6
  have e7:=s7 _ _ e6
  have r7:=s7 _ _ r6
  have m7:=s7 _ _ m6
  clear k6 p6 e6 r6 m6 s7
  refine⟨p,_,_,_,rfl,p7,T.cl_Book,T.n_Book_pairs,Nat.lt_of_le_of_lt (Dy _ _ _) (Nat.lt_of_le_of_lt (succ_le_succ (Nat.le_trans (Dy _ _ _) (succ_le_succ (Dy _ _ _)))) (by show 0 + 1 + 1 + 1 < 1000; decide)),?_⟩
  have k8:Keep p H (upd H7 p (.ins t.C_Book dx (Bz "pairs" (.ref dp) (Bz "mates" (.ref dm) (Bz "ranks" (.ref dr) (Bz "kinds" (.ref dk) [])))))):=k7.trans Keep.put
  have p8:(upd H7 p (.ins t.C_Book dx (Bz "pairs" (.ref dp) (Bz "mates" (.ref dm) (Bz "ranks" (.ref dr) (Bz "kinds" (.ref dk) [])))))) p = some (.ins t.C_Book dx (Bz "pairs" (.ref dp) (Bz "mates" (.ref dm) (Bz "ranks" (.ref dr) (Bz "kinds" (.ref dk) []))))):=Bl
  have e8:(upd H7 p (.ins t.C_Book dx (Bz "pairs" (.ref dp) (Bz "mates" (.ref dm) (Bz "ranks" (.ref dr) (Bz "kinds" (.ref dk) [])))))) dk = some (.dK (kK signs ++ kM mates)):=by rw[Bh (Fh e7 p7 (by intro z; cases z))]; exact e7
  have r8:(upd H7 p (.ins t.C_Book dx (Bz "pairs" (.ref dp) (Bz "mates" (.ref dm) (Bz "ranks" (.ref dr) (Bz "kinds" (.ref dk) [])))))) dr = some (.dK (kR signs)):=by rw[Bh (Fh r7 p7 (by intro z; cases z))]; exact r7
  have m8:(upd H7 p (.ins t.C_Book dx (Bz "pairs" (.ref dp) (Bz "mates" (.ref dm) (Bz "ranks" (.ref dr) (Bz "kinds" (.ref dk) [])))))) dm = some (.dK (kB mates)):=by rw[Bh (Fh m7 p7 (by intro z; cases z))]; exact m7
  have q8:(upd H7 p (.ins t.C_Book dx (Bz "pairs" (.ref dp) (Bz "mates" (.ref dm) (Bz "ranks" (.ref dr) (Bz "kinds" (.ref dk) [])))))) dp = some (.dK kvs):=by rw[Bh (Fh q7 p7 (by intro z; cases z))]; exact q7
  have lk8:LAt KvAt (upd H7 p (.ins t.C_Book dx (Bz "pairs" (.ref dp) (Bz "mates" (.ref dm) (Bz "ranks" (.ref dr) (Bz "kinds" (.ref dk) [])))))) kvs J:=lk7.mono fun x y h=>h.mono fun q' zs z=>by rw[Bh (Fh z p7 (by intro z; cases z))]; exact z
  generalize upd H7 p (.ins t.C_Book dx (Bz "pairs" (.ref dp) (Bz "mates" (.ref dm) (Bz "ranks" (.ref dr) (Bz "kinds" (.ref dk) []))))) = H8 at k8 p8 e8 r8 m8 q8 lk8
  clear k7 p7 e7 r7 m7 q7 lk7
  walk_at "rd"
  refine⟨p,_,_,_,_,rfl,p8,T.cl_Book,T.n_Book_pairs,by rw[Cz,if_pos rfl],?_⟩
  walk_at "rd"
  refine⟨dp,kvs,J,rfl,q8,lk8,jo.np,jo.ln,fun dw H9 hk s9 w9=>?_⟩
  have fw:H dw = none:=k8.free p8 hk
  walk_at "rd"
  have p9:=s9 _ _ p8
  refine⟨p,_,_,_,rfl,p9,T.cl_Book,T.n_Book_wholes,Nat.lt_of_le_of_lt (Dy _ _ _) (Nat.lt_of_le_of_lt (succ_le_succ (Nat.le_trans (Dy _ _ _) (succ_le_succ (Nat.le_trans (Dy _ _ _) (succ_le_succ (Dy _ _ _)))))) (by show 0 + 1 + 1 + 1 + 1 < 1000; decide)),?_⟩
  refine q _ kvs dx dk dr dm dp dw (fun q' o e n=>by rw[Bh n]; exact s9 _ _ (k8 _ _ e n)) fk fr' fm fp fw Bl ?_ ?_ ?_ ?_ ?_ ?_
  ·rw[Bh (Fh e8 p8 (by intro z; cases z))]; exact s9 _ _ e8
  ·rw[Bh (Fh r8 p8 (by intro z; cases z))]; exact s9 _ _ r8
  ·rw[Bh (Fh m8 p8 (by intro z; cases z))]; exact s9 _ _ m8
  ·rw[Bh (Fh q8 p8 (by intro z; cases z))]; exact s9 _ _ q8
  ·rw[Bh (Fh w9 p9 (by intro z; cases z))]; exact w9
  ·exact lk8.mono fun x y h=>h.mono fun q' zs z=>by rw[Bh (Fh z p8 (by intro z; cases z))]; exact s9 _ _ z
local macro_rules | `(tactic| walk_at "u")=>`(tactic| with_reducible refine Ae3 (by assumption) ?_)
local macro_rules | `(tactic| walk_at "u")=>`(tactic| with_reducible refine Aao (by assumption) Zp ?_)
theorem Agx (T:Txt K mg t):Binds K t.d_qbf ["self","sign"] []:=T.F_qbf.binds fun _ _ _ _ _ _ us hl=>match us,hl with | [_,_],_=>rfl
theorem AdN (T:Txt K mg t):FnOk P w K mg base CX0 2 t.f_qbf t.d_qbf ["self","sign"] (Wg t.C_Book):=by
 refine T.F_qbf.ok Alt (fun vs H Q E h=>?_) (fun cdv A outer s H vs Q E hr h=>?_)
 ·obtain⟨b,n,k,r,m,p,w,rfl,⟨dx,dk,dr,dm,dp,dw,h1,h2,h3,h4,h5,h6⟩,q⟩:=h
  rfl
 ·obtain⟨b,n,k,r,m,p,w,rfl,⟨dx,dk,dr,dm,dp,dw,h1,h2,h3,h4,h5,h6⟩,q⟩:=h
  have hu:=Cr hr
  have hu64:=hr.units
  refine⟨_,(Bi (Ce (Bo (Xp T) (hr.mono (by decide)) rfl T.m_qx T.F_qx.kp (Aco T) .nil Bx (Ba (Vb (pv 0) rfl) (Ba (pv 1) Bd))))),?_⟩
  try dsimp only [Cl,Cb]
  walk_at "rd"
  refine⟨b,_,_,_,_,rfl,h1,T.cl_Book,T.n_Book_kinds,AeY,?_⟩
  walk_at "rd"
  exact q
local macro_rules | `(tactic| walk_at "u")=>`(tactic| with_reducible refine u_sp_mate (by assumption) ?_)
local macro_rules | `(tactic| walk_at "u")=>`(tactic| with_reducible refine Aao (by assumption) Zb ?_)
theorem AmO (T:Txt K mg t):Binds K t.d_qbg ["self","sign"] []:=T.F_qbg.binds fun _ _ _ _ _ _ us hl=>match us,hl with | [_,_],_=>rfl
theorem AlD (T:Txt K mg t):FnOk P w K mg base CX0 1 t.f_qbg t.d_qbg ["self","sign"] (Abx t.C_Book):=by
 refine T.F_qbg.ok AjK (fun vs H Q E h=>?_) (fun cdv A outer s H vs Q E hr h=>?_)
 ·obtain⟨b,n,k,r,m,p,w,rfl,⟨dx,dk,dr,dm,dp,dw,h1,h2,h3,h4,h5,h6⟩,q⟩:=h
  rfl
 ·obtain⟨b,n,k,r,m,p,w,rfl,⟨dx,dk,dr,dm,dp,dw,h1,h2,h3,h4,h5,h6⟩,q⟩:=h
  have hu:=Cr hr
  have hu64:=hr.units
  refine⟨_,(Bi (Ce (AfJ hu (Vb (pv 0) rfl) (pv 1) ⟨rfl,rfl,rfl,rfl⟩))),?_⟩
  try dsimp only [Cl,Cb]
  walk_at "rd"
  refine⟨b,_,_,_,_,rfl,h1,T.cl_Book,T.n_Book_mates,AeO,?_⟩
  walk_at "rd"
  exact q
def Ad0 (K:Frag) (C:Addr):Sp:=fun vs H Q _=>∃ b l U M r m p w ts,vs = [.ref b,.ref l]/\BookAt C H b (kK U ++ kM M) r m p w/\SqL K H l (map V.int ts)/\ts.length <= 300 /\
 ∀ (wl:Addr) (xs:List V) (H':Hp),H wl = none->Same H H'->(∀ x ∈ xs,∃ p,x = V.ref p/\H p = none)->LLat H' wl xs (grp (Dd U M) ts)->Q (.ref wl) H'
-- EU_WOF
def Aie:PSp:=fun ps P=>∃ U M J ts,ps = [.bk U M J,.lst (map .int ts)]/\ts.length <= 300/\P (.lst (map (fun g=>PV.lst (map .int g)) (grp (Dd U M) ts)))
theorem Ael {C:Addr} {ω:Om} {E:XK} {m n:Bool} {t:TA} {u:UA} (ha:AU K C ω [m,n] t u):EU K C ω (Tk (Ad0 K C) [] E t) (Yc Aie u) :=
 fun B G0 H0 own G σ H ρ P Q S hu k=>ha B G0 H0 own G σ H ρ _ _ S hu fun vs ps G1 H1 w1 ok ⟨U,M,J,ts,e,hl,h⟩=>by
  obtain⟨v,w,p,q,rfl,e2,r1,r2⟩:=Sr ok
  rw[e] at e2; cases e2
  obtain⟨b,kvs,rfl,bk,_⟩:=r1.bk
  obtain⟨a,xs,rfl,ea,l⟩:=r2.lst w1.i
  rw[Wk l] at ea
  refine⟨b,a,U,M,_,_,_,_,ts,rfl,bk.mono fun _ _ e _=>w1.i _ _ e,SqL.of ea,hl,fun wl xs H2 hwl s2 fx ll=>?_⟩
  refine k _ _ _ H2 (w1.trans (Ro w1.i s2)) (Rep.ofL (Ft hwl ll.li) ⟨by rw[ll.at'.1,length_map],fun i x y hx hy=>?_⟩) h
  rw[getElem?_map] at hy
  obtain⟨g,hg,rfl⟩:=map_eq_some_iff.mp hy
  obtain⟨p,e1,hp⟩:=ll.at'.2 i x g hx hg
  obtain⟨p',e2,hn⟩:=fx x (mem_of_getElem? hx)
  subst e1
  cases e2
  exact Rep.ofL (Ft hn hp) (Fs g)
theorem AgU (T:Txt K mg t):Binds K t.d_qbr ["book","text"] []:=T.F_qbr.binds fun _ _ _ _ _ _ us hl=>match us,hl with | [_,_],_=>rfl
theorem Aeb (T:Txt K mg t):FnOk P w K mg base CX0 3 t.f_qbr t.d_qbr ["book","text"] (Ad0 K t.C_Book):=by
 refine T.F_qbr.ok sc_qbr (fun vs H Q E h=>?_) (fun cdv A outer s H vs Q E hr h=>?_)
 ·obtain⟨b,l,U,M,r,m,pp,w,ts,rfl,hB,hT,hl,q⟩:=h
  rfl
 ·obtain⟨b,l,U,M,r,m,pp,w,ts,rfl,hB,hT,hl,q⟩:=h
  have hu:=Cr hr
  have hu64:=hr.units
  refine⟨_,(Bc (Bm (i:=2) sc_qbr.nd rfl (Or.inl rfl) (Co Bd))
   (Bc (Dk PassesOwn.never rfl (Cu (pv 1)) (Bq (i:=3) sc_qbr.nd rfl (Or.inl rfl))
    (Bc (Dl (PW.pt (Acp (Cd Dp (Ct (Oh) rfl T.z_len PySem.boot_len (Ba (pv 2) Bd)) Be (Cj _)) (Yz (Cd Acx (Vv (pv 0) T.cl_Book T.M_qbf (AdN T) (hr.mono (by decide)) (Agx T) .nil Bx (Ba (pv 3) Bd)) Bv (Cj _)))))
    (Bi (Cn (Fx plainAttrs_list PySem.F.slot_list_append PySem.F.type_list_append Df (pv 2) (Ba (Co Bd) Bd))))
    Cw)
   (Bi (Cn (Fx plainAttrs_list PySem.F.slot_list_append PySem.F.type_list_append Df (Ci (AbK) (pv 2) (Tj Qt Be) (fun _ _=>rfl)) (Ba (pv 3) Bd))))))
   (Bi (Ce (pv 2))))),?_⟩
  try dsimp only [Cl,Cb]
  walk_at "rd"
  refine⟨by decide,fun wl H0 hwl s0 e0=>?_⟩
  walk_at "rd"
  refine Ob (i:=1) rfl (s0.seq hT) (fun i σ H'=>∃ v3 xs,σ = [some (.ref b),some (.ref l),some (.ref wl),v3]/\Same H H'/\(∀ x ∈ xs,∃ p,x = V.ref p/\H p = none)/\LLat H' wl xs (grp (Dd U M) (ts.take i))) ⟨none,[],rfl,s0,(fun x h=>by cases h),⟨e0,LAt.nil,nodup_nil,by simp⟩⟩ (fun i σ H' _ ⟨_,_,_,s,_⟩=>s.seq hT) ?_ ?_
  ·rintro i x σ H' hi ⟨v3,xs,rfl,s,fx,ll⟩
   obtain⟨n,en,rfl⟩:=Agk hi
   have hlt:=(List.getElem?_eq_some_iff.mp en).1
   have eg:grp (Dd U M) (ts.take (i + 1)) = Qa (Dd U M) (grp (Dd U M) (ts.take i)) n:=by rw[Dt en,Afz]
   have hli:=ll.li
   have hxl:xs.length <= 300:=by
    have:=(Ly (Dd U M) (ts.take i)).ln
    rw[<- ll.at'.1,length_take] at this
    omega
   have hB':=hB.mono (H':=H') fun _ _ e _=>s _ _ e
   walk_at "rd"
   refine Ze (fun h=>?_) (fun h=>?_)
   ·have hz:grp (Dd U M) (ts.take i) = []\/Dd U M n = false:=.inl (List.eq_nil_of_length_eq_zero (by
     have h':((xs.length:Nat):Int) = 0:=of_decide_eq_true h
     rw[<- ll.at'.1]; omega))
    refine Lh ?_
    walk_at "rd"
    refine⟨by decide,fun p H2 hp s2 e2=>?_⟩
    walk_at "rd"
    walk_at "rd"
    refine Ng (s2 _ _ hli) (Jy (by omega)) fun H3 c3 e3=>?_
    have npw:p ≠ wl:=(By hli hp).symm
    have e2':=c3 _ _ e2 npw
    walk_at "rd"
    refine AcX (SqL.of e3) ?_ (Lp _ _)
    walk_at "rd"
    walk_at "rd"
    refine Ng e2' (by decide) fun H4 c4 e4=>?_
    walk_at "rd"
    refine⟨_,_,rfl,((s.trans s2).chg c3 hwl).chg c4 (s.free hp),fun x hx=>?_,by rw[eg,Uh (by assumption)]; exact ll.push hp s2 c3 e3 c4 e4⟩
    rcases mem_append.mp hx with w | w
    ·exact fx x w
    ·exact⟨p,mem_singleton.mp w,s.free hp⟩
   ·have h':¬ ((xs.length:Nat):Int) = 0:=fun z=>h (decide_eq_true z)
    walk_at "rd"
    rw[Ac0]
    walk_at "rd"
    refine Ze (fun h2=>?_) (fun h2=>?_)
    ·have hz:grp (Dd U M) (ts.take i) = []\/Dd U M n = false:=.inr (by
      unfold Dd
      simpa using h2)
     walk_at "rd"
     refine⟨by decide,fun p H2 hp s2 e2=>?_⟩
     walk_at "rd"
     walk_at "rd"
     refine Ng (s2 _ _ hli) (Jy (by omega)) fun H3 c3 e3=>?_
     have npw:p ≠ wl:=(By hli hp).symm
     have e2':=c3 _ _ e2 npw
     walk_at "rd"
     refine AcX (SqL.of e3) ?_ (Lp _ _)
     walk_at "rd"
     walk_at "rd"
     refine Ng e2' (by decide) fun H4 c4 e4=>?_
     walk_at "rd"
     refine⟨_,_,rfl,((s.trans s2).chg c3 hwl).chg c4 (s.free hp),fun x hx=>?_,by rw[eg,Uh (by assumption)]; exact ll.push hp s2 c3 e3 c4 e4⟩
     rcases mem_append.mp hx with w | w
     ·exact fx x w
     ·exact⟨p,mem_singleton.mp w,s.free hp⟩
    ·have hm:Dd U M n = true:=by
      unfold Dd
      simpa using h2
     obtain⟨xs',p,gs',g,rfl,eg',hp⟩:=ll.last (fun z=>h' (by rw[ll.at'.1,z]; rfl))
     rw[eg'] at ll eg
     have hgl:g.length <= 300:=by
      have z:=(Ly (Dd U M) (ts.take i)).fl
      rw[eg'] at z
      have:=congrArg length z
      simp at this
      omega
     walk_at "rd"
     refine AcX (SqL.of hli) ?_ (Lp _ _)
     walk_at "rd"
     walk_at "rd"
     refine Ng hp (Jy (by rw[length_map]; omega)) fun H4 c4 e4=>?_
     walk_at "rd"
     have fp:H p = none:=by
      obtain⟨p',e,z⟩:=fx _ (mem_append_right _ mem_cons_self)
      cases e; exact z
     exact⟨_,_,rfl,s.chg c4 fp,fx,by rw[eg,Aah hm]; exact ll.add c4 e4⟩
  ·rintro σ H' ⟨v3,xs,rfl,s,fx,ll⟩
   rw[length_map,take_length] at ll
   walk_at "rd"
   exact q wl xs H' hwl s fx ll
def AkY:PSp:=fun ps P=>∃ U M J n r,ps = [.bk U M J,.lst (map .int (n :: r))]/\P (.str (knW U M (n :: r)))
theorem AjW (T:Txt K mg t):Binds K t.d_qc ["book","whole"] []:=T.F_qc.binds fun _ _ _ _ _ _ us hl=>match us,hl with | [_,_],_=>rfl
theorem Ahb (T:Txt K mg t):FnOk P w K mg base CX0 3 t.f_qc t.d_qc ["book","whole"] (spOf K t.C_Book [false,false] .sh AkY):=by
 refine T.F_qc.ok sc_qc (fun vs H Q E h=>h.len) (fun cdv A outer s H vs Q E hr h=>?_)
 have hu:=Cr hr
 have hu64:=hr.units
 refine⟨_,(Bc (Bm (i:=2) sc_qc.nd rfl (Or.inl rfl) (Vv (pv 0) T.cl_Book T.M_qbf (AdN T) (hr.mono (by decide)) (Agx T) .nil Bx (Ba (Ci (Ck K) (pv 1) Be (fun _ _=>rfl)) Bd)))
   (Bc (Dl (Cd Dp (pv 2) Bv (Cj _))
    (Bi (Ce Bv))
    Cw)
   (Bi (Ce (pv 2))))),?_⟩
 try dsimp only [Cl,Cb]
 refine Cv h (by decide) (Bk (Bw (AiH Bb (EU.eb (Da Bb (EU.eb Bf)))))
   (Bk (Ds (Cy (EU.eb (Dz Bb (EU.eb Cg))))
    (Dw Cg)
    Dj)
   (Dw Bn))) (fun ps P hp=>?_)
 clear h hu hu64 hr
 obtain⟨U,M,J,n,r,rfl,q⟩:=hp
 walk_at "s"
 walk_at "p"
 refine Ff (l:=n :: r) (j:=0) (a:=n) rfl rfl ?_
 walk_at "p"
 refine Ze (fun h=>?_) (fun h=>?_)
 ·walk_at "p"
  have e:knW U M (n :: r) = "plain":=if_pos h
  rw[e] at q
  exact q
 ·walk_at "p"
  have e:knW U M (n :: r) = Ch U M n:=if_neg h
  rw[e] at q
  exact q
def Ae2:PSp:=fun ps P=>∃ U M J ts,ps = [.bk U M J,.lst (map .int ts)]/\ts.length <= 300/\P (.lst (map (fun w=>PV.str (knW U M w)) (grp (Dd U M) ts)))
theorem Ah5 (T:Txt K mg t):Binds K t.d_qbt ["book","text"] []:=T.F_qbt.binds fun _ _ _ _ _ _ us hl=>match us,hl with | [_,_],_=>rfl
theorem Aed (T:Txt K mg t):FnOk P w K mg base CX0 4 t.f_qbt t.d_qbt ["book","text"] (spOf K t.C_Book [false,false] .fr Ae2):=by
 refine T.F_qbt.ok Ale (fun vs H Q E h=>h.len) (fun cdv A outer s H vs Q E hr h=>?_)
 have hu:=Cr hr
 have hu64:=hr.units
 refine⟨_,(Bi (Ce (Gm 1 [0] ["whole","book"] ["book"] rfl (Cu (Bo (Aeb T) (hr.mono (by decide)) rfl T.m_qbr T.F_qbr.kp (AgU T) .nil Bx (Ba (pv 0) (Ba (pv 1) Bd)))) rfl (fun j y e1 i e2=>match j,e1,e2 with | 0,e1,e2=>by cases e1; cases e2; exact⟨rfl,rfl,rfl,by decide +kernel⟩ | _ + 1,_,e2=>by simp at e2) (forall_mem_cons.mpr ⟨rfl,fun _ h=>nomatch h⟩) (by decide +kernel) (fun _ _ _ _=>(Bq (i:=0) (show Nodup (["whole","book"]:List Str) by decide +kernel) rfl (Or.inl rfl))) (fun _ _ _ _=>Gh) (fun _ _ _ _=>(Bo (Ahb T) (hr.mono (by decide)) rfl T.m_qc T.F_qc.kp (AjW T) .nil Bx (Ba (pv 1) (Ba (pv 0) Bd)))) rfl (by decide +kernel) rfl (by decide +kernel)))),?_⟩
 try dsimp only [Cl,Cb]
 refine Cv h (by decide) (Nu (Fu (EU.eb (Ael (Bu Bb (Bu Bb Bj)))) (Ca (top:=1)) Gr (Fp (Bu Bb (Bu Bb Bj))))) (fun ps P hp=>?_)
 clear h hu hu64 hr
 obtain⟨U,M,J,ts,rfl,hl,q⟩:=hp
 walk_at "s"
 have gl:=(Ly (Dd U M) ts).ln
 walk_at "p"
 refine⟨U,M,J,ts,rfl,hl,?_⟩
 walk_at "p"
 walk_at "me"
 refine Fb (f:=fun w:List Int=>some (.str (knW U M w))) ?_ (fun d hd Z hZ=>?_)
 rotate_left
 ·obtain⟨n,r,rfl,hr⟩:=(Ly (Dd U M) ts).ne d hd
  walk_at "p"
  refine⟨U,M,J,n,r,rfl,?_⟩
  exact hZ
 rw[show (grp (Dd U M) ts).filterMap (fun w=>some (PV.str (knW U M w))) = (grp (Dd U M) ts).map fun w=>PV.str (knW U M w) from congrFun (List.filterMap_eq_map (f:=fun w=>PV.str (knW U M w))) _]
 exact q
theorem Rs {C:Addr} {G:Hp} (T:Txt K mg t):Rep K C G (.ref t.a_BEGINNINGS) (.ctp [.str "forein",.str "backin"]):=.ctp T.q_BEGINNINGS rfl fun i v p h1 h2=>by
 match i,h1,h2 with
 | 0,h1,h2=>cases h1; cases h2; exact .str _
 | 1,h1,h2=>cases h1; cases h2; exact .str _
 | _ + 2,h1,_=>simp at h1
theorem AmF (T:Txt K mg t):Binds K t.d_qbx ["book","text"] []:=T.F_qbx.binds fun _ _ _ _ _ _ us hl=>match us,hl with | [_,_],_=>rfl
theorem AlT (T:Txt K mg t):FnOk P w K mg base CX0 5 t.f_qbx t.d_qbx ["book","text"] (spOf K t.C_Book [false,false] .sh AkQ):=by
 refine T.F_qbx.ok sc_qbx (fun vs H Q E h=>h.len) (fun cdv A outer s H vs Q E hr h=>?_)
 have hu:=Cr hr
 have hu64:=hr.units
 refine⟨_,(Bc (Bm (i:=2) sc_qbx.nd rfl (Or.inl rfl) Be)
   (Bc (Dk PassesOwn.never rfl (Cu (Bo (Aed T) (hr.mono (by decide)) rfl T.m_qbt T.F_qbt.kp (Ah5 T) .nil Bx (Ba (pv 0) (Ba (pv 1) Bd)))) (Bq (i:=3) sc_qbx.nd rfl (Or.inl rfl))
    (Bi (Dl (Cd (Ji K) (pv 3) (Nz (v:=.ref t.a_BEGINNINGS) rfl T.g_BEGINNINGS rfl) rfl)
    (Bi (AdR (i:=2) sc_qbx.nd rfl (Or.inl rfl) Be AdJ))
    (Bi (Dl (Cd Dp (pv 3) Bv (Cj _))
    (Bi (Bm (i:=2) sc_qbx.nd rfl (Or.inl rfl) (Ct (Wq rfl) rfl T.z_max boot_max (Ba Be (Ba (Br Zv (pv 2) Be) Bd)))))
    (Bi (Dl (PW.pt (Aas (Cd Dp (pv 2) Be (Cj _)) (Vo (Cd Dp (pv 3) Bv (Cj _)))))
    (Bi (Ce Be))
    (Bi (Dl (PW.pt (Aas (Cd Dp (pv 2) Be (Cj _)) (Vo (Cd Dp (pv 3) Bv (Cj _)))))
    (Bi (Ce Be))
    Cw)))))))))
   (Bi (Ce Be)))),?_⟩
 try dsimp only [Cl,Cb]
 refine Cv h (by decide) (Bk (Bw Bf)
   (Bk (Us (EF.eu (Dm (Bu Bb (Bu Bb Bj)))) (Ca (top:=4))
    (Ds (Cy (EU.eb (Td Bn (EU.eb (Ty fun G=>Rs T)))))
    (AeT (EU.eb Bf))
    (Ds (Cy (EU.eb (Dz Bb (EU.eb Cg))))
    (Bw (AeP (Bu (EU.eb Bf) (Bu (EU.eb (Dr (fun _ _ _=>.int _) Bb (EU.eb Bf))) Bj))))
    (Ds (Zu (Cy (EU.eb (Dz Bb (EU.eb Bf)))) (Cy (EU.eb (Dz Bb (EU.eb Cg)))))
    (Dw Bf)
    (Ds (Zu (Cy (EU.eb (Dz Bb (EU.eb Bf)))) (Cy (EU.eb (Dz Bb (EU.eb Cg)))))
    (Dw Bf)
    Dj)))))
   (Dw Bf))) (fun ps P hp=>?_)
 clear h hu hu64 hr
 obtain⟨U,M,J,ts,rfl,hl,q⟩:=hp
 walk_at "s"
 walk_at "p"
 refine⟨U,M,J,ts,rfl,hl,?_⟩
 rw[show (map (fun w=>PV.str (knW U M w)) (grp (Dd U M) ts)) = (knL U M ts).map .str by unfold knL; rw[map_map]; rfl]
 generalize knL U M ts = kn at q
 walk_at "p"
 refine⟨fun k ρ=>∃ (d:Nat) (v3:Sl),ρ = [.bo (.bk U M J),.bo (.lst (map .int ts)),.sh (.int d),v3]/\obF d (kn.drop k) = obF 0 kn,⟨0,_,rfl,rfl⟩,?_,?_⟩
 ·rintro k p ρ hp ⟨d,v3,rfl,ho⟩
  rw[getElem?_map] at hp
  obtain⟨w,hk,rfl⟩:=map_eq_some_iff.mp hp
  have hkl:k < kn.length:=(List.getElem?_eq_some_iff.mp hk).1
  have ed:kn.drop k = w :: kn.drop (k + 1):=by
   rw[drop_eq_getElem_cons hkl]
   rw[getElem?_eq_getElem hkl] at hk
   rw[Option.some.inj hk]
  rw[ed,obF] at ho
  walk_at "p"
  refine Zd (L:=bgK) (x:=w) ?_
  walk_at "p"
  by_cases h1:w ∈ bgK
  ·rw[decide_eq_true h1]
   rw[if_pos h1] at ho
   walk_at "p"
   exact⟨d + 1,_,by rw[Int.natCast_add]; rfl,ho⟩
  rw[decide_eq_false h1]
  rw[if_neg h1] at ho
  walk_at "p"
  by_cases h2:w = "out"
  ·rw[decide_eq_true h2]
   rw[if_pos h2] at ho
   walk_at "p"
   refine⟨d - 1,.sh (.str w),?_,ho⟩
   have ez:(if (d:Int) - 1 > 0 then (d:Int) - 1 else 0) = ((d - 1:Nat):Int):=by split <;> omega
   have ez2:max (0:Int) ((d:Int) - 1) = ((d - 1:Nat):Int):=by omega
   first | rw[ez] | rw[ez2] | (rw[show (if (0:Int) < (d:Int) - 1 then (d:Int) - 1 else 0) = ((d - 1:Nat):Int) from ez])
  rw[decide_eq_false h2]
  rw[if_neg h2] at ho
  walk_at "p"
  by_cases hd:d = 0
  ·rw[decide_eq_true (by omega)]
   subst hd
   walk_at "p"
   by_cases hb:w = "back"
   ·rw[decide_eq_true hb]
    rw[if_pos ⟨rfl,hb⟩] at ho
    walk_at "p"
    rw[<- ho] at q
    exact q
   rw[decide_eq_false hb]
   rw[if_neg (fun z=>hb z.2)] at ho
   walk_at "p"
   rw[decide_eq_true (show ((0:Nat):Int) = 0 from rfl)]
   walk_at "p"
   by_cases hb2:w = "fore"
   ·rw[decide_eq_true hb2]
    rw[if_pos ⟨rfl,hb2⟩] at ho
    walk_at "p"
    rw[<- ho] at q
    exact q
   rw[decide_eq_false hb2]
   rw[if_neg (fun z=>hb2 z.2)] at ho
   walk_at "p"
   exact⟨0,_,rfl,ho⟩
  ·rw[decide_eq_false (by omega)]
   rw[if_neg (fun z=>hd z.1),if_neg (fun z=>hd z.1)] at ho
   walk_at "p"
   rw[decide_eq_false (by omega)]
   walk_at "p"
   exact⟨d,_,rfl,ho⟩
 rintro ρ ⟨d,v3,rfl,ho⟩
 rw[length_map,drop_length,obF] at ho
 walk_at "p"
 rw[<- ho] at q
 exact q
def opP:Option Int->PV
 | none=>.non
 | some l=>.int l
def Akk:PSp:=fun ps P=>∃ k l m,ps = [.str k,.int l,.int m]/\P (opP (lvF k l m))
theorem AnW (T:Txt K mg t):Binds K t.d_qk ["kind","level","most"] []:=T.F_qk.binds fun _ _ _ _ _ _ us hl=>match us,hl with | [_,_,_],_=>rfl
theorem Amv (T:Txt K mg t):FnOk P w K mg base CX0 1 t.f_qk t.d_qk ["kind","level","most"] (spOf K t.C_Book [false,false,false] .sh Akk):=by
 refine T.F_qk.ok sc_qk (fun vs H Q E h=>h.len) (fun cdv A outer s H vs Q E hr h=>?_)
 have hu:=Cr hr
 have hu64:=hr.units
 refine⟨_,(Bc (Bm (i:=3) sc_qk.nd rfl (Or.inl rfl) (Gw (Cd Dp (pv 0) Bv (Cj _)) Be Be))
   (Bc (Bm (i:=4) sc_qk.nd rfl (Or.inl rfl) (Br Fc (pv 1) Be))
   (Bc (Dl (Cd Acx (Br Dg (pv 4) Be) (pv 3) (Cj _))
    (Bi (AdR (i:=4) sc_qk.nd rfl (Or.inl rfl) Be AdJ))
    Cw)
   (Bi (Ce (Gw (Cd Am2 (pv 4) (pv 2) (Cj _)) (pv 4) Zo)))))),?_⟩
 try dsimp only [Cl,Cb]
 refine Cv h (by decide) (Bk (Bw (Nm (Cy (EU.eb (Dz Bb (EU.eb Cg)))) Bf Bf))
   (Bk (Bw (Dr (fun _ _ _=>.int _) Bb (EU.eb Bf)))
   (Bk (Ds (Cy (EU.eb (Ahw (EU.eb (Cp (fun _ _ _=>.int _) Bb (EU.eb Bf))) Bb)))
    (AeT (EU.eb Bf))
    Dj)
   (Dw (Nm (Cy (EU.eb (Dr (fun _ _ _=>.bl _) Bb Bb))) Bn Aap))))) (fun ps P hp=>?_)
 clear h hu hu64 hr
 obtain⟨k,l,m,rfl,q⟩:=hp
 walk_at "s"
 walk_at "x"
 refine Nr (fun ρ=>ρ = [.bo (.str k),.bo (.int l),.bo (.int m),.sh (.int (if k = "forein" then 0 else 1)),.un]) (fun ρ h=>?_) ?_
 rotate_left
 ·walk_at "p"
  by_cases h1:k = "forein"
  ·rw[decide_eq_true h1,if_pos h1]
   walk_at "p"
   exact .inl rfl
  ·rw[decide_eq_false h1,if_neg h1]
   walk_at "p"
   exact .inl rfl
 subst h
 unfold lvF at q
 generalize (if k = "forein" then (0:Int) else 1) = r at q
 walk_at "x"
 refine Jd ?_
 walk_at "x"
 refine Nr (fun ρ=>ρ = [.bo (.str k),.bo (.int l),.bo (.int m),.sh (.int r),.sh (.int (if (l + 1) % 2 = r then l + 1 else l + 2))]) (fun ρ h=>?_) ?_
 rotate_left
 ·walk_at "p"
  all_goals try decide
  by_cases h1:(l + 1) % 2 = r
  ·rw[decide_eq_true h1,if_pos h1]
   walk_at "p"
   exact .inl rfl
  ·rw[decide_eq_false h1,if_neg h1]
   walk_at "p"
   exact .inl (by rw[Int.add_assoc]; rfl)
 subst h
 generalize (if (l + 1) % 2 = r then l + 1 else l + 2) = z at q
 walk_at "p"
 by_cases h1:z <= m
 ·rw[decide_eq_true h1]
  rw[if_pos h1] at q
  walk_at "p"
  exact q
 ·rw[decide_eq_false h1]
  rw[if_neg h1] at q
  walk_at "p"
  exact q
def nPn (L n:Nat) (x:Nst):PV:=.tup [.int x.1,.int (if x.2.1 < n then x.2.1 else L:Nat),opP x.2.2]
def nP (x:Nst):PV:=.tup [.int x.1,.int x.2.1,opP x.2.2]
theorem Ti {n j:Nat} (h:j < n):ixN n (j:Int) = some j:=by
 unfold ixN
 rw[if_pos (show (0:Int) <= (j:Int) by omega),if_pos (show (j:Int) < (n:Int) by omega),toNat_natCast]
theorem Adm {L n:Nat} {D:List Nst} (h:∀ x ∈ D,x.2.1 = n->False):D.map (nPn L n) = D.map (nPn L (n + 1)):=List.map_congr_left fun x hx=>by
 unfold nPn
 have:¬ x.2.1 = n:=h x hx
 by_cases z:x.2.1 < n
 ·rw[if_pos z,if_pos (by omega)]
 ·rw[if_neg z,if_neg (by omega)]
theorem Ai4 {kn:List Str} {b m:Int} {L n:Nat} {s:Nat × Nst} (hs:(dF kn b m n)[s.1]? = some s.2) (es:s.2.2.1 = n) (one:∀ x ∈ dF kn b m n,x.2.1 = n->x = s.2) :
  ((dF kn b m n).map fun x:Nst=>PV.tup [.int x.1,.int (if x.2.1 < n then x.2.1 else L:Nat),opP x.2.2]).set s.1 (.tup [.int s.2.1,.int n,opP s.2.2.2]) = (dF kn b m n).map (nPn L (n + 1)):=by
 refine ext_getElem? fun i=>?_
 rw[getElem?_set,getElem?_map,getElem?_map,length_map]
 by_cases z:s.1 = i
 ·subst z
  have:=(List.getElem?_eq_some_iff.mp hs).1
  rw[if_pos rfl,if_pos this,hs]
  show _ = some (PV.tup [.int s.2.1,.int ((if s.2.2.1 < n + 1 then s.2.2.1 else L:Nat):Int),opP s.2.2.2])
  rw[if_pos (show s.2.2.1 < n + 1 by omega),es]
 ·rw[if_neg z]
  cases e:(dF kn b m n)[i]? with
  | none=>rfl
  | some x =>
   have ne:¬ x.2.1 = n:=fun h=>by
    have:=one x (mem_of_getElem? e) h
    subst this
    exact z (AkZ hs e rfl)
   show some (PV.tup [.int x.1,.int ((if x.2.1 < n then x.2.1 else L:Nat):Int),opP x.2.2]) = some (PV.tup [.int x.1,.int ((if x.2.1 < n + 1 then x.2.1 else L:Nat):Int),opP x.2.2])
   by_cases w:x.2.1 < n
   ·rw[if_pos w,if_pos (by omega)]
   ·rw[if_neg w,if_neg (by omega)]
def wP (w:Nat × Int):PV:=.tup [.int w.1,.int w.2]
def Ajd:PSp:=fun ps P=>∃ U M J ts b m,ps = [.bk U M J,.lst (map .int ts),.int b,.int m]/\ts.length <= 300/\P (.lst ((dF (knL U M ts) b m (knL U M ts).length).map nP))
theorem Ami (T:Txt K mg t):Binds K t.d_qbw ["book","text","base","most"] [t.v_nests_of_0]:=T.F_qbw.binds 3 rfl fun _ _ _ _ _ _ us hl=>match us,hl with | [_,_,_],_=>⟨_,rfl,rfl⟩
theorem Am1 (T:Txt K mg t):Binds K t.d_qbw ["book","text","base","most"] []:=T.F_qbw.binds 4 rfl fun _ _ _ _ _ _ us hl=>match us,hl with | [_,_,_,_],_=>⟨_,rfl,rfl⟩
theorem AjM (T:Txt K mg t):FnOk P w K mg base CX0 5 t.f_qbw t.d_qbw ["book","text","base","most"] (spOf K t.C_Book [false,false,true,false] .fr Ajd):=by
 refine T.F_qbw.ok sc_qbw (fun vs H Q E h=>h.len) (fun cdv A outer s H vs Q E hr h=>?_)
 have hu:=Cr hr
 have hu64:=hr.units
 refine⟨_,(Bc (Bm (i:=4) sc_qbw.nd rfl (Or.inl rfl) (Bo (Aed T) (hr.mono (by decide)) rfl T.m_qbt T.F_qbt.kp (Ah5 T) .nil Bx (Ba (pv 0) (Ba (pv 1) Bd))))
   (Bc (Bm (i:=5) sc_qbw.nd rfl (Or.inl rfl) (Co Bd))
   (Bc (Bm (i:=6) sc_qbw.nd rfl (Or.inl rfl) (Co Bd))
   (Bc (Bm (i:=7) sc_qbw.nd rfl (Or.inl rfl) (pv 2))
   (Bc (Dk PassesOwn.never rfl (Qf (pv 4) rfl T.z_enumerate) (Ga (K':=K) (n:=2) rfl rfl (Cf (Bq (i:=8) sc_qbw.nd rfl (Or.inl rfl)) (Cf (Bq (i:=9) sc_qbw.nd rfl (Or.inl rfl)) Fa)))
    (Bi (Dl (Cd (Ji K) (pv 9) (Nz (v:=.ref t.a_BEGINNINGS) rfl T.g_BEGINNINGS rfl) rfl)
    (Bc (Cn (Fx plainAttrs_list PySem.F.slot_list_append PySem.F.type_list_append Df (pv 6) (Ba (Fw (Ba (Ct (Cq K) rfl T.z_len PySem.boot_len (Ba (pv 5) Bd)) (Ba (pv 7) Bd))) Bd)))
   (Bc (Bm (i:=10) sc_qbw.nd rfl (Or.inl rfl) (Bo (Amv T) (hr.mono (by decide)) rfl T.m_qk T.F_qk.kp (AnW T) .nil Bx (Ba (pv 9) (Ba (pv 7) (Ba (pv 3) Bd)))))
   (Bc (Cn (Fx plainAttrs_list PySem.F.slot_list_append PySem.F.type_list_append Df (pv 5) (Ba (Fw (Ba (pv 8) (Ba (Ct (Cq K) rfl T.z_len PySem.boot_len (Ba (pv 4) Bd)) (Ba (pv 10) Bd)))) Bd)))
   (Bi (Dl (Lz (Qg (pv 10)))
    (Bi (Bm (i:=7) sc_qbw.nd rfl (Or.inl rfl) (pv 10)))
    Cw)))))
    (Bi (Dl (PW.pt (Aas (Cd Dp (pv 9) Bv (Cj _)) (Vo (Cd Uq (Ct (Cq K) rfl T.z_len PySem.boot_len (Ba (pv 6) Bd)) Be (Cj _)))))
    (Bc (Bm (i:=11) sc_qbw.nd rfl (Or.inl rfl) (Aki plainAttrs_list PySem.F.slot_list_pop PySem.F.type_list_pop Aiz (pv 6)))
   (Bc (Bm (i:=12) sc_qbw.nd rfl (Or.inl rfl) (Ci (Ck K) (pv 5) (Ci (Dh K) (pv 11) Be (fun _ _=>rfl)) (fun _ _=>rfl)))
   (Bc (Si (Fw (Ba (Ci (Dh K) (pv 12) Be (fun _ _=>rfl)) (Ba (pv 8) (Ba (Ci (Dh K) (pv 12) Be (fun _ _=>rfl)) Bd)))) (Rv (pv 5) (Ci (Dh K) (pv 11) Be (fun _ _=>rfl)) Nf))
   (Bi (Bm (i:=7) sc_qbw.nd rfl (Or.inl rfl) (Ci (Dh K) (pv 11) Be (fun _ _=>rfl)))))))
    Cw)))))
   (Bi (Ce (pv 5)))))))),?_⟩
 try dsimp only [Cl,Cb]
 refine Cv h (by decide) (Bk (Bw (EF.eu (Dm (Bu Bb (Bu Bb Bj)))))
   (Bk (Dv (Db 0 Bj))
   (Bk (Dv (Db 0 Bj))
   (Bk (Bw Bn)
   (Bk (Vu Bn (Gx (Dc (Ca (top:=13)) (Dc (Ca (top:=13)) Gi)))
    (Ds (Cy (EU.eb (Td Bn (EU.eb (Ty fun G=>Rs T)))))
    (Bk (Gc (Bp (Gq 2 (Bp (Fo (Bu Bb Bj)) (Bp Bn Bj))) Bj))
   (Bk (Bw (Fp (Bu Bb (Bu Bb (Bu Bb Bj)))))
   (Bk (Gc (Bp (Gq 3 (Bp Bn (Bp (Fo (Bu Bb Bj)) (Bp Bn Bj)))) Bj))
   (Ds (Cy (EU.eb (Qy Bb)))
    (Bw Bn)
    Dj))))
    (Ds (Zu (Cy (EU.eb (Dz Bb (EU.eb Cg)))) (Cy (EU.eb (Dr (fun _ _ _=>.bl _) (EU.eb (Fo (Bu Bb Bj))) (EU.eb Bf)))))
    (Bk AlA
   (Bk (Bw (Da Bb (EU.eb (Du Bb (EU.eb Bf)))))
   (Bk (Sb (EU.eb (Du Bb (EU.eb Bf))) (Gq 3 (Bp (Du Bb (EU.eb Bf)) (Bp Bn (Bp (Du Bb (EU.eb Bf)) Bj)))))
   (Bw (Du Bb (EU.eb Bf))))))
    Dj)))
   Gv))))) (fun ps P hp=>?_)
 clear h hu hu64 hr
 obtain⟨U,M,J,ts,b,m,rfl,hl,q⟩:=hp
 walk_at "s"
 have gl:=(Ly (Dd U M) ts).ln
 walk_at "p"
 refine⟨U,M,J,ts,rfl,hl,?_⟩
 rw[show (map (fun w=>PV.str (knW U M w)) (grp (Dd U M) ts)) = (knL U M ts).map .str by unfold knL; rw[map_map]; rfl]
 have kl:(knL U M ts).length <= 300:=by unfold knL; rw[length_map]; omega
 generalize knL U M ts = kn at q kl
 walk_at "p"
 refine⟨fun n ρ=>∃ (S:Stk) (v8 v9 v10 v11 v12:Sl),NI kn b m n S/\ρ = [.bo (.bk U M J),.bo (.lst (map .int ts)),.sh (.int b),.bo (.int m),.sh (.lst (kn.map .str)),.ow (.lst ((dF kn b m n).map (nPn kn.length n))),.ow (.lst ((wtF b S).map wP)),.sh (.int (chF b S)),v8,v9,v10,v11,v12],⟨[],_,_,_,_,_,.zero,rfl⟩,?_,?_⟩
 ·rintro n p ρ hp ⟨S,v8,v9,v10,v11,v12,hN,rfl⟩
  rw[Ny,getElem?_map,Option.map_map] at hp
  obtain⟨k,hk,rfl⟩:=map_eq_some_iff.mp hp
  have hn:n < kn.length:=(List.getElem?_eq_some_iff.mp hk).1
  have dl:=Aau (kn:=kn) (b:=b) (m:=m) n
  have sl:S.length <= 300:=by
   have:=congrArg length hN.fil
   rw[length_map] at this
   have:=length_filter_le (fun x:Nst=>decide (n <= x.2.1)) (dF kn b m n)
   omega
  dsimp only [Function.comp]
  walk_at "p"
  refine Zd (L:=bgK) (x:=k) ?_
  walk_at "p"
  by_cases h1:k ∈ bgK
  ·rw[decide_eq_true h1]
   obtain⟨e1,hN2⟩:=hN.beg hk h1
   have fin:(dF kn b m n).map (nPn kn.length n) ++ [.tup [.int n,.int (kn.length:Nat),opP (lvF k (chF b S) m)]] = (dF kn b m (n + 1)).map (nPn kn.length (n + 1)):=by
    rw[e1,map_append,Adm fun x hx e=>by have:=hN.later hk (Oa h1) x (mem_filter.mpr ⟨hx,decide_eq_true (by omega)⟩); omega]
    have:¬ Bt kn n < n + 1:=by
     unfold Bt
     rw[Jr hk,show (0:Int) = ((0:Nat):Int) from rfl,Nv h1]; omega
    show _ = _ ++ [PV.tup [.int n,.int ((if Bt kn n < n + 1 then Bt kn n else kn.length:Nat):Int),opP (lvF k (chF b S) m)]]
    rw[if_neg this]
   have wt:(wtF b S).map wP ++ [.tup [.int ((dF kn b m n).length:Nat),.int (chF b S)]] = (wtF b (S ++ [((dF kn b m n).length,(n,Bt kn n,lvF k (chF b S) m))])).map wP:=by
    rw[Tx,map_append]; rfl
   have ch:=Tt b S ((dF kn b m n).length,(n,Bt kn n,lvF k (chF b S) m))
   walk_at "p"
   rotate_left
   ·rw[length_map,Wd]; omega
   rw[length_map,wt]
   refine⟨k,chF b S,m,rfl,?_⟩
   walk_at "p"
   rotate_left
   ·rw[length_map]; omega
   rw[length_map,fin]
   cases e:lvF k (chF b S) m with
   | none =>
    rw[e] at ch hN2
    refine Np (by decide) ?_
    walk_at "p"
    exact⟨_,_,_,_,_,_,hN2,by rw[ch]; rfl⟩
   | some l =>
    rw[e] at ch hN2
    refine No rfl ?_
    walk_at "p"
    exact⟨_,_,_,_,_,_,hN2,by rw[ch]; rfl⟩
  rw[decide_eq_false h1]
  walk_at "p"
  have keep:(∀ x ∈ dF kn b m n,x.2.1 = n->False)->dF kn b m (n + 1) = dF kn b m n->(dF kn b m n).map (nPn kn.length n) = (dF kn b m (n + 1)).map (nPn kn.length (n + 1)):=fun h e=>by
   rw[e,Adm h]
  by_cases h2:k = "out"
  ·subst h2
   rw[decide_eq_true rfl]
   walk_at "p"
   rw[length_map,Wd]
   rcases eq_nil_or_concat S with e | ⟨S',s,e⟩
   ·rw[decide_eq_false (by rw[e]; exact Int.lt_irrefl 0)]
    walk_at "p"
    obtain⟨e1,hN2⟩:=hN.oth hk h1 fun _=>e
    rw[keep (fun x hx z=>by
     have:=hN.fil
     rw[e] at this
     exact List.filter_eq_nil_iff.mp this x hx (decide_eq_true (by omega))) e1]
    exact⟨S,_,_,_,_,_,hN2,rfl⟩
   ·rw[concat_eq_append] at e
    subst e
    rw[decide_eq_true (by rw[length_append,length_singleton]; omega)]
    obtain⟨e1,hN2,es,one⟩:=hN.out hk
    have hs:=hN.ix s (mem_append_right _ (.head _))
    rw[Tx,map_append,Tt]
    walk_at "p"
    refine AnF (ps:=(wtF b S').map wP) (q:=wP (s.1,chF b S')) rfl ?_
    unfold wP
    walk_at "p"
    refine Ff (l:=dF kn b m n) (f:=nPn kn.length n) (j:=s.1) (a:=s.2) hs rfl ?_
    unfold nPn
    walk_at "p"
    refine Ux rfl (Ti (by rw[length_map]; exact (List.getElem?_eq_some_iff.mp hs).1)) ?_
    walk_at "p"
    rw[show ((dF kn b m n).map fun x:Nst=>PV.tup [.int x.1,.int (if x.2.1 < n then x.2.1 else kn.length:Nat),opP x.2.2]).set s.1 (.tup [.int s.2.1,.int n,opP s.2.2.2]) = (dF kn b m (n + 1)).map (nPn kn.length (n + 1)) by rw[e1]; exact Ai4 hs es one]
    exact⟨S',_,_,_,_,_,hN2,rfl⟩
  ·rw[decide_eq_false h2]
   walk_at "p"
   obtain⟨e1,hN2⟩:=hN.oth hk h1 fun z=>absurd z h2
   rw[keep (fun x hx z=>by have:=hN.later hk h2 x (mem_filter.mpr ⟨hx,decide_eq_true (by omega)⟩); omega) e1]
   exact⟨S,_,_,_,_,_,hN2,rfl⟩
 rintro ρ ⟨S,v8,v9,v10,v11,v12,hN,rfl⟩
 rw[Qq,length_map] at hN ⊢
 walk_at "p"
 rw[show (dF kn b m kn.length).map (nPn kn.length kn.length) = (dF kn b m kn.length).map nP from List.map_congr_left fun x hx=>by
  have:=hN.end x hx
  unfold nPn nP
  by_cases z:x.2.1 < kn.length
  ·rw[if_pos z]
  ·rw[if_neg z,show x.2.1 = kn.length by omega]]
 exact q
def AlS:PSp:=fun ps P=>∃ U M J ts o,ps = [.bk U M J,.lst (map .int ts),opP o]/\ts.length <= 300/\P (.int (o.getD (obF 0 (knL U M ts))))
theorem Aob (T:Txt K mg t):Binds K t.d_qo ["book","text","base"] []:=T.F_qo.binds fun _ _ _ _ _ _ us hl=>match us,hl with | [_,_,_],_=>rfl
theorem Anh (T:Txt K mg t):FnOk P w K mg base CX0 6 t.f_qo t.d_qo ["book","text","base"] (spOf K t.C_Book [false,false,true] .sh AlS):=by
 refine T.F_qo.ok AnG (fun vs H Q E h=>h.len) (fun cdv A outer s H vs Q E hr h=>?_)
 have hu:=Cr hr
 have hu64:=hr.units
 refine⟨_,(Bi (Ce (Gw (Lz (AkK (pv 2))) (Bo (AlT T) (hr.mono (by decide)) rfl T.m_qbx T.F_qbx.kp (AmF T) .nil Bx (Ba (pv 0) (Ba (pv 1) Bd))) (pv 2)))),?_⟩
 try dsimp only [Cl,Cb]
 refine Cv h (by decide) (Dw (Nm (Cy (EU.eb (AjB Bb))) (Fp (Bu Bb (Bu Bb Bj))) Bn)) (fun ps P hp=>?_)
 clear h hu hu64 hr
 obtain⟨U,M,J,ts,o,rfl,hl,q⟩:=hp
 walk_at "s"
 cases o with
 | none =>
  rw[show opP none = .non from rfl]
  walk_at "p"
  refine No rfl ?_
  walk_at "p"
  refine⟨U,M,J,ts,rfl,hl,?_⟩
  exact q
 | some b =>
  rw[show opP (some b) = .int b from rfl]
  walk_at "p"
  refine Np (fun z=>Bool.noConfusion z) ?_
  walk_at "p"
  exact q
def Akg:PSp:=fun ps P=>∃ v:Int,ps = [.int v]/\P (.str (wyF v))
theorem Akq (T:Txt K mg t):Binds K t.d_qm ["level"] []:=T.F_qm.binds fun _ _ _ _ _ _ us hl=>match us,hl with | [_],_=>rfl
theorem Ahp (T:Txt K mg t):FnOk P w K mg base CX0 1 t.f_qm t.d_qm ["level"] (spOf K t.C_Book [false] .sh Akg):=by
 refine T.F_qm.ok Amr (fun vs H Q E h=>h.len) (fun cdv A outer s H vs Q E hr h=>?_)
 have hu:=Cr hr
 have hu64:=hr.units
 refine⟨_,(Bi (Ce (Gw (Cd Dp (Br Dg (pv 0) Be) Be (Cj _)) Bv Bv))),?_⟩
 try dsimp only [Cl,Cb]
 refine Cv h (by decide) (Dw (Nm (Cy (EU.eb (Dz (EU.eb (Cp (fun _ _ _=>.int _) Bb (EU.eb Bf))) (EU.eb Bf)))) Cg Cg)) (fun ps P hp=>?_)
 clear h hu hu64 hr
 obtain⟨v,rfl,q⟩:=hp
 walk_at "s"
 unfold wyF at q
 walk_at "p"
 all_goals try decide
 by_cases h:v % 2 = 0
 ·rw[decide_eq_true h]
  rw[if_pos h] at q
  walk_at "p"
  exact q
 ·rw[decide_eq_false h]
  rw[if_neg h] at q
  walk_at "p"
  exact q
theorem Aio {n:Nat} {z:Int} (h0:0 <= z) (h:z < n):ixN n z = some z.toNat:=by
 unfold ixN
 rw[if_pos h0,if_pos h]
def Al7:PSp:=fun ps P=>∃ (N:List Nst) (n:Nat) (b:Int),ps = [.lst (N.map nP),.int n,.int b]/\N.length <= 300/\n <= 300/\(∀ x ∈ N,x.1 <= n/\x.2.1 <= n)/\P (.lst ((rsF (stF N n b) (hmF (stF N n b) n (stF N n b).length)).map rsP))
theorem Aoa (T:Txt K mg t):Binds K t.d_ql ["nests","number","base"] []:=T.F_ql.binds fun _ _ _ _ _ _ us hl=>match us,hl with | [_,_,_],_=>rfl
theorem AnH (T:Txt K mg t):FnOk P w K mg base CX0 1 t.f_ql t.d_ql ["nests","number","base"] (spOf K t.C_Book [false,true,true] .sh Al7):=by
 refine T.F_ql.ok sc_ql (fun vs H Q E h=>h.len) (fun cdv A outer s H vs Q E hr h=>?_)
 have hu:=Cr hr
 have hu64:=hr.units
 refine⟨_,(Bc (Bm (i:=3) sc_ql.nd rfl (Or.inl rfl) (Br Fv (Co (Ba (Fw (Ba (Tj Qt Be) (Ba (pv 1) (Ba (pv 2) Bd)))) Bd)) (Rq 1 ["nest"] rfl rfl (Cu (pv 0)) (fun _ _ _ _=>(Bq (i:=0) (show Nodup (["nest"]:List Str) by decide +kernel) rfl (Or.inl rfl))) (fun _ _ _ _=>(Gz (Lz (Qg (Ci (Dh K) (pv 0) Be (fun _ _=>rfl)))))) (fun _ _ _ _=>(pv 0)) (by decide +kernel) (by decide +kernel) rfl (by decide +kernel))))
   (Bc (Bm (i:=4) sc_ql.nd rfl (Or.inl rfl) (Br Abi (Co (Ba Be Bd)) (pv 1)))
   (Bc (Dk PassesOwn.never rfl (Qf (pv 3) rfl T.z_enumerate) (Ga (K':=K) (n:=2) rfl rfl (Cf (Bq (i:=5) sc_ql.nd rfl (Or.inl rfl)) (Cf (Bq (i:=6) sc_ql.nd rfl (Or.inl rfl)) Fa)))
    (Bi (Dk PassesOwn.never rfl (Wp rfl T.z_range (Ba (Br Fc (Ci (Dh K) (pv 6) Be (fun _ _=>rfl)) Be) (Ba (Ci (Dh K) (pv 6) Be (fun _ _=>rfl)) Bd))) (Bq (i:=7) sc_ql.nd rfl (Or.inl rfl))
    (Bi (Si (pv 5) (Rv (pv 4) (pv 7) Nf))))))
   (Bc (Rp 1 ["stretch"] rfl rfl (Cu (pv 3)) (fun _ _ _ _=>(Bq (i:=0) (show Nodup (["stretch"]:List Str) by decide +kernel) rfl (Or.inl rfl))) (fun _ _ _ _=>Gh) (fun _ _ _ _=>(Fw (Ba (Ci (Dh K) (pv 0) Be (fun _ _=>rfl)) (Ba (Co Bd) Bd)))) (by decide +kernel) (by decide +kernel) rfl (by decide +kernel) (fun _=>rfl) (i:=8) sc_ql.nd rfl (Or.inl rfl) rfl)
   (Bc (Dk PassesOwn.never rfl (Qf (pv 4) rfl T.z_enumerate) (Ga (K':=K) (n:=2) rfl rfl (Cf (Bq (i:=7) sc_ql.nd rfl (Or.inl rfl)) (Cf (Bq (i:=5) sc_ql.nd rfl (Or.inl rfl)) Fa)))
    (Bi (Cn (Fx plainAttrs_list PySem.F.slot_list_append PySem.F.type_list_append Df (Ci (Dh K) (Ci (Ck K) (pv 8) (pv 5) (fun _ _=>rfl)) Be (fun _ _=>rfl)) (Ba (pv 7) Bd)))))
   (Bi (Ce (pv 8)))))))),?_⟩
 try dsimp only [Cl,Cb]
 refine Cv h (by decide) (Bk (Bw (EF.eu (Gj (EF.eb (Db 1 (Bp (Gq 3 (Bp (AaD (fun _ _=>.int _) (EU.eb Bf)) (Bp Bn (Bp Bn Bj)))) Bj))) (EF.eb (Fu Bb (Ca (top:=1)) (Cy (EU.eb (Qy (EU.eb (Du Bb (EU.eb Bf)))))) Bn)))))
   (Bk (Dv (Ad8 (EF.eb (Db 1 (Bp Bf Bj))) Bb))
   (Bk (Vu Bn (Gx (Dc (Ca (top:=9)) (Dc (Ca (top:=9)) Gi)))
    (Aa5 (Bu (EU.eb (Dr (fun _ _ _=>.int _) (EU.eb (Du Bb (EU.eb Bf))) (EU.eb Bf))) (Bu (EU.eb (Du Bb (EU.eb Bf))) Bj)) (Ca (top:=9))
    (Sb Bb Bn)))
   Aia))) (fun ps P hp=>?_)
 clear h hu hu64 hr
 obtain⟨N,n,b,rfl,hl,hn,hN,q⟩:=hp
 walk_at "s"
 walk_at "p"
 walk_at "me"
 refine Fb (S:=N) (enc:=nP) (f:=fun x=>(x.2.2.map fun l=>((x.1:Int),(x.2.1:Int),l)).map stP) ?_ (fun d hd Z hZ=>?_)
 rotate_left
 ·walk_at "c"
  rw[show nP d = .tup [.int d.1,.int d.2.1,opP d.2.2] from rfl]
  walk_at "p"
  cases el:d.2.2 with
  | none =>
   rw[el] at hZ
   refine Np (by decide) ?_
   exact hZ
  | some l =>
   rw[el] at hZ
   refine No rfl ?_
   walk_at "p"
   exact hZ
 rw[show N.filterMap (fun x=>(x.2.2.map fun l=>((x.1:Int),(x.2.1:Int),l)).map stP) = (N.filterMap fun x=>x.2.2.map fun l=>((x.1:Int),(x.2.1:Int),l)).map stP from (List.map_filterMap ..).symm]
 have sl:(stF N n b).length <= 301:=by
  unfold stF
  have:=List.length_filterMap_le (fun x:Nst=>x.2.2.map fun l=>((x.1:Int),(x.2.1:Int),l)) N
  rw[length_cons]; omega
 have sb:∀ s ∈ stF N n b,(-1 <= s.1/\s.1 <= n)/\-1 <= s.2.1/\s.2.1 <= (n:Int):=fun s hs=>by
  unfold stF at hs
  rcases mem_cons.mp hs with rfl | hs
  ·exact⟨⟨Int.le_refl _,by show (-1:Int) <= n; omega⟩,by show (-1:Int) <= n; omega,Int.le_refl _⟩
  ·obtain⟨x,hx,e⟩:=mem_filterMap.mp hs
   obtain⟨l,_,rfl⟩:=map_eq_some_iff.mp e
   have:=hN x hx
   exact⟨⟨by show (-1:Int) <= (x.1:Int); omega,by show (x.1:Int) <= n; omega⟩,by show (-1:Int) <= (x.2.1:Int); omega,by show (x.2.1:Int) <= n; omega⟩
 have sp:0 < (stF N n b).length:=Nat.succ_pos _
 walk_at "x"
 rotate_left
 ·rw[length_map]
  unfold stF at sl
  rw[length_cons] at sl
  show 1 + _ <= _
  omega
 rw[show PV.tup [PV.int (-1),PV.int (n:Int),PV.int b] :: (N.filterMap fun x=>x.2.2.map fun l=>((x.1:Int),(x.2.1:Int),l)).map stP = (stF N n b).map stP from rfl]
 generalize stF N n b = St at q sl sb sp
 refine Jd ?_
 walk_at "x"
 rotate_left
 ·exact⟨by omega,by omega⟩
 rw[toNat_natCast]
 refine Jd ?_
 walk_at "p"
 refine⟨fun j ρ=>∃ v5 v6 v7,ρ = [.bo (.lst (N.map nP)),.sh (.int n),.sh (.int b),.sh (.lst (St.map stP)),.ow (.lst ((hmF St n j).map fun k:Nat=>.int k)),v5,v6,v7,.un],⟨_,_,_,by rw[hmF,List.map_replicate]; rfl⟩,?_,?_⟩
 ·rintro j p ρ hp ⟨v5,v6,v7,rfl⟩
  rw[Ny,getElem?_map,Option.map_map] at hp
  obtain⟨s,hs,rfl⟩:=map_eq_some_iff.mp hp
  obtain⟨⟨s1,s1'⟩,s2',s2⟩:=sb s (mem_of_getElem? hs)
  have hj:=(List.getElem?_eq_some_iff.mp hs).1
  have hm:hmF St n (j + 1) = hmS (hmF St n j) j s.1 s.2.1:=by rw[hmF,hs]
  have hlen:=Nw St n j
  dsimp only [Function.comp]
  rw[show stP s = .tup [.int s.1,.int s.2.1,.int s.2.2] from rfl]
  walk_at "p"
  all_goals try exact⟨by omega,by omega,by omega,by omega⟩
  rw[hm]
  generalize hmF St n j = hh at hlen
  refine⟨fun i ρ=>∃ v7,ρ = [.bo (.lst (N.map nP)),.sh (.int n),.sh (.int b),.sh (.lst (St.map stP)),.ow (.lst ((hh.mapIdx fun k x=>if s.1 < (k:Int)/\(k:Int) < s.1 + 1 + i then j else x).map fun k:Nat=>.int k)),.sh (.int j),.sh (.tup [.int s.1,.int s.2.1,.int s.2.2]),v7,.un],⟨_,by rw[Qb hh _ (fun k x _=>if_neg (by omega))]⟩,?_,?_⟩
  ·rintro i ρ hi ⟨v7,rfl⟩
   walk_at "p"
   refine Ux rfl (Aio (by omega) (by rw[length_map,length_mapIdx]; omega)) ?_
   walk_at "p"
   rw[<- map_set,Ai7 s1 (by omega)]
   exact⟨_,rfl⟩
  ·rintro ρ ⟨v7,rfl⟩
   rw[show (hh.mapIdx fun k x=>if s.1 < (k:Int)/\(k:Int) < s.1 + 1 + ((s.2.1 - (s.1 + 1)).toNat:Int) then j else x) = hmS hh j s.1 s.2.1 by
    unfold hmS
    congr 1
    funext k x
    by_cases z:s.1 < (k:Int)/\(k:Int) < s.2.1
    ·rw[if_pos z,if_pos (by omega)]
    ·rw[if_neg z,if_neg (by omega)]]
   exact⟨_,_,_,rfl⟩
 ·rintro ρ ⟨v5,v6,v7,rfl⟩
  rw[Qq,length_map]
  exact⟨St,_,rfl,rfl,rfl,by omega,by rw[Nw]; omega,Yx St n sp _,q⟩
theorem Tv {C:Addr} {G:Hp} (T:Txt K mg t):Rep K C G (.ref t.a_LEADING_KINDS) (.ctp [.str "fore",.str "back",.str "num"]):=.ctp T.q_LEADING_KINDS rfl fun i v p h1 h2=>by
 match i,h1,h2 with
 | 0,h1,h2=>cases h1; cases h2; exact .str _
 | 1,h1,h2=>cases h1; cases h2; exact .str _
 | 2,h1,h2=>cases h1; cases h2; exact .str _
 | _ + 3,h1,_=>simp at h1
def Ald:PSp:=fun ps P=>∃ (ks:List Str) (own:Str),ps = [.lst (ks.map .str),.str own]/\ks.length <= 1000/\P (.lst ((ldF own ks).map osP))
theorem AnL (T:Txt K mg t):Binds K t.d_qi ["kinds","own"] []:=T.F_qi.binds fun _ _ _ _ _ _ us hl=>match us,hl with | [_,_],_=>rfl
theorem Am8 (T:Txt K mg t):FnOk P w K mg base CX0 1 t.f_qi t.d_qi ["kinds","own"] (spOf K t.C_Book [false,true] .fr Ald):=by
 refine T.F_qi.ok sc_qi (fun vs H Q E h=>h.len) (fun cdv A outer s H vs Q E hr h=>?_)
 have hu:=Cr hr
 have hu64:=hr.units
 refine⟨_,(Bc (Bm (i:=2) sc_qi.nd rfl (Or.inl rfl) (Co Bd))
   (Bc (Bm (i:=3) sc_qi.nd rfl (Or.inl rfl) (pv 1))
   (Bc (Dk PassesOwn.never rfl (Cu (pv 0)) (Bq (i:=4) sc_qi.nd rfl (Or.inl rfl))
    (Bc (Dl (PW.pt (Acp (Cd Dp (pv 4) Bv (Cj _)) (Yz (Cd Dp (pv 4) Bv (Cj _)))))
    (Bi (Bm (i:=3) sc_qi.nd rfl (Or.inl rfl) (pv 4)))
    Cw)
   (Bi (Cn (Fx plainAttrs_list PySem.F.slot_list_append PySem.F.type_list_append Df (pv 2) (Ba (Gw (Cd (Ji K) (pv 4) (Nz (v:=.ref t.a_LEADING_KINDS) rfl T.g_LEADING_KINDS rfl) rfl) (pv 3) Zo) Bd))))))
   (Bi (Ce (pv 2)))))),?_⟩
 try dsimp only [Cl,Cb]
 refine Cv h (by decide) (Bk (Dv (Db 0 Bj))
   (Bk (Bw Bn)
   (Bk (Nx (Ca (top:=5))
    (Bk (Ds (AhL (Cy (EU.eb (Dz Bb (EU.eb Cg)))) (Cy (EU.eb (Dz Bb (EU.eb Cg)))))
    (Bw Bn)
    Dj)
   (Gc (Bp (Nm (Cy (EU.eb (Td Bn (EU.eb (Ty fun G=>Tv T))))) Bn Aap) Bj))))
   Gv))) (fun ps P hp=>?_)
 clear h hu hu64 hr
 obtain⟨ks,own,rfl,hl,q⟩:=hp
 walk_at "s"
 walk_at "p"
 refine⟨fun n ρ=>∃ (A:List (Option Str)) (l:Str) (v4:Sl),ρ = [.bo (.lst (ks.map .str)),.sh (.str own),.ow (.lst (A.map osP)),.sh (.str l),v4]/\A.length = n/\A ++ ldF l (ks.drop n) = ldF own ks,⟨[],own,_,rfl,rfl,rfl⟩,?_,?_⟩
 ·rintro n p ρ hp ⟨A,l,v4,rfl,al,he⟩
  rw[getElem?_map] at hp
  obtain⟨k,hk,rfl⟩:=map_eq_some_iff.mp hp
  have hn:n < ks.length:=(List.getElem?_eq_some_iff.mp hk).1
  rw[Jr hk,ldF] at he
  walk_at "x"
  refine Nr (fun ρ=>ρ = [.bo (.lst (ks.map .str)),.sh (.str own),.ow (.lst (A.map osP)),.sh (.str (if k = "fore"\/k = "back" then k else l)),.sh (.str k)]) (fun ρ h=>?_) ?_
  rotate_left
  ·walk_at "p"
   by_cases h1:k = "fore"
   ·rw[decide_eq_true h1,show (if k = "fore"\/k = "back" then k else l) = k from if_pos (.inl h1)]
    walk_at "p"
    exact .inl rfl
   ·rw[decide_eq_false h1]
    walk_at "p"
    by_cases h2:k = "back"
    ·rw[decide_eq_true h2,show (if k = "fore"\/k = "back" then k else l) = k from if_pos (.inr h2)]
     walk_at "p"
     exact .inl rfl
    ·rw[decide_eq_false h2,show (if k = "fore"\/k = "back" then k else l) = l from if_neg (fun z=>z.elim h1 h2)]
     walk_at "p"
     exact .inl rfl
  subst h
  generalize (if k = "fore"\/k = "back" then k else l) = l' at he
  walk_at "p"
  refine Zd (L:=ldK) (x:=k) ?_
  walk_at "p"
  by_cases h1:k ∈ ldK
  ·rw[decide_eq_true h1]
   rw[if_pos h1] at he
   walk_at "p"
   rotate_left
   ·rw[length_map]; omega
   exact⟨A ++ [some l'],l',_,by rw[map_append]; rfl,by rw[length_append,al]; rfl,by rw[append_assoc]; exact he⟩
  ·rw[decide_eq_false h1]
   rw[if_neg h1] at he
   walk_at "p"
   rotate_left
   ·rw[length_map]; omega
   exact⟨A ++ [none],l',_,by rw[map_append]; rfl,by rw[length_append,al]; rfl,by rw[append_assoc]; exact he⟩
 rintro ρ ⟨A,l,v4,rfl,al,he⟩
 rw[length_map,drop_length,ldF,append_nil] at he
 walk_at "p"
 rw[he]
 exact q
def mtF (M:List (Int × Int)) (n:Int):Option Int:=match Ry M n with
 | .int z=>some z
 | _=>none
theorem AdC:∀ (M:List (Int × Int)),∀ kv ∈ kB M,∃ z:Int,kv.2 = .int z
 | [],kv,h=>by cases h
 | m :: r,kv,h=>by
  rcases mem_cons.mp h with rfl | h
  ·exact⟨_,rfl⟩
  ·rcases mem_cons.mp h with rfl | h
   ·exact⟨_,rfl⟩
   ·exact AdC r kv h
theorem Ai1 (M:List (Int × Int)) (n:Int):Ry M n = opP (mtF M n):=by
 have:Ry M n = .non\/∃ z,Ry M n = .int z:=by
  unfold Ry Cs
  cases e:(kB M).find? (fun kv=>decide (kv.1 = Sum.inl n)) with
  | none=>exact .inl rfl
  | some kv =>
   obtain⟨z,hz⟩:=AdC M kv (List.mem_of_find?_eq_some e)
   refine .inr ⟨z,?_⟩
   show vP kv.2 = _
   rw[hz]; rfl
 unfold mtF
 rcases this with h | ⟨z,h⟩ <;> rw[h] <;> rfl
theorem AkJ {o:Option Int} {b:Int} {P:PV->Prop} (q:P (.bl (decide (o = some b)))):AfD false (opP o) (.int b) P:=by
 cases o with
 | none=>exact⟨false,.ni,q⟩
 | some c =>
  refine⟨_,.ii,?_⟩
  rw[show decide (c = b) = decide (some c = some b) from decide_eq_decide.mpr ⟨fun z=>by rw[z],fun z=>Option.some.inj z⟩]
  exact q
def ppP (p:Nat × Nat):PV:=.tup [.int p.1,.int p.2]
theorem AiB (w:List Nat):enP (w.map fun a:Nat=>PV.int a) = (w.mapIdx fun j a=>(j,a)).map fun q:Nat × Nat=>PV.tup [.int q.1,.int q.2]:=by
 refine ext_getElem? fun i=>?_
 rw[Ny,getElem?_map,getElem?_map,getElem?_mapIdx,Option.map_map,Option.map_map]
 rfl
theorem Adv {mt:Int->Option Int} {bs:List Int} {w:List Nat} {b:Int}:∀ j ∈ Qe mt bs w b,j < w.length:=fun j hj=>by
 unfold Qe at hj
 obtain⟨q,hq,h⟩:=mem_filterMap.mp hj
 obtain⟨i,hi⟩:=getElem?_of_mem hq
 rw[getElem?_mapIdx] at hi
 obtain⟨a,ha,rfl⟩:=map_eq_some_iff.mp hi
 split at h
 ·cases h; exact (List.getElem?_eq_some_iff.mp ha).1
 ·cases h
theorem AaI {mt:Int->Option Int} {ks:List Str} {bs:List Int}:∀ n,(∀ p ∈ (prF mt ks bs n).1,p.1 < n/\p.2 < n)/\(∀ a ∈ (prF mt ks bs n).2,a < n)/\(prF mt ks bs n).2.length <= n/\(prF mt ks bs n).1.length <= n
 | 0=>⟨fun p h=>(by cases h),fun p h=>(by cases h),Nat.le_refl _,Nat.le_refl _⟩
 | n + 1=>by
  obtain⟨h1,h2,h3,h4⟩:=AaI (mt:=mt) (ks:=ks) (bs:=bs) n
  have same:(∀ p ∈ (prF mt ks bs n).1,p.1 < n + 1/\p.2 < n + 1)/\(∀ a ∈ (prF mt ks bs n).2,a < n + 1)/\(prF mt ks bs n).2.length <= n + 1/\(prF mt ks bs n).1.length <= n + 1:=⟨fun p hp=>by have:=h1 p hp; omega,fun a ha=>by have:=h2 a ha; omega,by omega,by omega⟩
  rw[prF]
  split
  ·refine⟨same.1,fun a ha=>?_,by rw[length_append,length_singleton]; omega,same.2.2.2⟩
   rcases mem_append.mp ha with ha | ha
   ·exact same.2.1 a ha
   ·rw[mem_singleton.mp ha]; omega
  ·split
   ·split
    ·exact same
    ·rename_i j hj
     have hj2:=Adv (mt:=mt) (bs:=bs) (w:=(prF mt ks bs n).2) (b:=(bs[n]?).getD 0) j (List.mem_of_getLast? hj)
     refine⟨fun p hp=>?_,fun a ha=>same.2.1 a (List.mem_of_mem_take ha),by rw[length_take]; omega,by rw[length_append,length_singleton]; omega⟩
     rcases mem_append.mp hp with hp | hp
     ·exact same.1 p hp
     ·rw[mem_singleton.mp hp,getElem?_eq_getElem hj2]
      have:=h2 _ (getElem_mem hj2)
      exact⟨by show (prF mt ks bs n).2[j] < n + 1; omega,lt_succ_self _⟩
   ·exact same
def Ajr:PSp:=fun ps P=>∃ U M J ks bs,ps = [.bk U M J,.lst (map .str ks),.lst (map .int bs)]/\ks.length = bs.length/\bs.length <= 1000/\P (.lst ((prF (mtF M) ks bs ks.length).1.map ppP))
theorem Amo (T:Txt K mg t):Binds K t.d_qby ["book","kinds","bases"] []:=T.F_qby.binds fun _ _ _ _ _ _ us hl=>match us,hl with | [_,_,_],_=>rfl
theorem Ak4 (T:Txt K mg t):FnOk P w K mg base CX0 2 t.f_qby t.d_qby ["book","kinds","bases"] (spOf K t.C_Book [false,true,false] .fr Ajr):=by
 refine T.F_qby.ok sc_qby (fun vs H Q E h=>h.len) (fun cdv A outer s H vs Q E hr h=>?_)
 have hu:=Cr hr
 have hu64:=hr.units
 refine⟨_,(Bc (Bm (i:=3) sc_qby.nd rfl (Or.inl rfl) (Co Bd))
   (Bc (Bm (i:=4) sc_qby.nd rfl (Or.inl rfl) (Co Bd))
   (Bc (Dk PassesOwn.never rfl (Qf (pv 1) rfl T.z_enumerate) (Ga (K':=K) (n:=2) rfl rfl (Cf (Bq (i:=5) sc_qby.nd rfl (by first | exact Or.inl rfl | exact Or.inr rfl)) (Cf (Bq (i:=6) sc_qby.nd rfl (Or.inl rfl)) Fa)))
    (Bi (Dl (Cd Dp (pv 6) Bv (Cj _))
    (Bi (Cn (Fx plainAttrs_list PySem.F.slot_list_append PySem.F.type_list_append Df (pv 4) (Ba (pv 5) Bd))))
    (Bi (Dl (Cd Dp (pv 6) Bv (Cj _))
    (Bc (Ra 2 [0,2,5] ["place","at","book","bases","k"] ["k","book","bases"] rfl (Qf (pv 4) rfl T.z_enumerate) rfl (fun j y e1 i e2=>match j,e1,e2 with | 0,e1,e2=>by cases e1; cases e2; exact⟨rfl,rfl,rfl,by decide +kernel⟩ | 1,e1,e2=>by cases e1; cases e2; exact⟨rfl,rfl,rfl,by decide +kernel⟩ | 2,e1,e2=>by cases e1; cases e2; exact⟨rfl,rfl,rfl,by decide +kernel⟩ | _ + 3,_,e2=>by simp at e2) (forall_mem_cons.mpr ⟨rfl,forall_mem_cons.mpr ⟨rfl,forall_mem_cons.mpr ⟨rfl,fun _ h=>nomatch h⟩⟩⟩) (by decide +kernel) (fun _ _ _ _=>(Ga (K':=K) (n:=2) rfl rfl (Cf (Bq (i:=0) (show Nodup (["place","at","book","bases","k"]:List Str) by decide +kernel) rfl (Or.inl rfl)) (Cf (Bq (i:=1) (show Nodup (["place","at","book","bases","k"]:List Str) by decide +kernel) rfl (Or.inl rfl)) Fa)))) (fun _ _ _ _=>(Gz (Cd (Ak6 K hu64) (Vv (pv 2) T.cl_Book T.M_qbg (AlD T) (hr.mono (by decide)) (AmO T) .nil Bx (Ba (Ci (Ck K) (pv 3) (pv 1) (fun _ _=>rfl)) Bd)) (Ci (Ck K) (pv 3) (pv 4) (fun _ _=>rfl)) (Cj _)))) (fun _ _ _ _=>(pv 0)) rfl (by decide +kernel) rfl (by decide +kernel) (fun _=>rfl) (i:=7) sc_qby.nd rfl (Or.inl rfl) rfl)
   (Bi (Dl (Cd Uq (Ct (Cq K) rfl T.z_len PySem.boot_len (Ba (pv 7) Bd)) Be (Cj _))
    (Bc (Cn (Fx plainAttrs_list PySem.F.slot_list_append PySem.F.type_list_append Df (pv 3) (Ba (Fw (Ba (Ci (Ck K) (pv 4) (Ci (Ck K) (pv 7) (Tj Qt Be) (fun _ _=>rfl)) (fun _ _=>rfl)) (Ba (pv 5) Bd))) Bd)))
   (Bi (Bm (i:=4) sc_qby.nd rfl (Or.inl rfl) (Jg (Jh K) (pv 4) Tm (Gg (Ci (Ck K) (pv 7) (Tj Qt Be) (fun _ _=>rfl)))))))
    Cw)))
    Cw)))))
   (Bi (Ce (pv 3)))))),?_⟩
 try dsimp only [Cl,Cb]
 refine Cv h (by decide) (Bk (Dv (Db 0 Bj))
   (Bk (Dv (Db 0 Bj))
   (Bk (Vu Bn (Gx (Dc (Ca (top:=8)) (Dc (Ca (top:=8)) Gi)))
    (Ds (Cy (EU.eb (Dz Bb (EU.eb Cg))))
    (Gc (Bp Bn Bj))
    (Ds (Cy (EU.eb (Dz Bb (EU.eb Cg))))
    (Bk (Bw (EF.eu (Agn Bb (Gx (Dc (Ca (top:=2)) (Dc (Ca (top:=2)) Gi))) (Cy (EU.eb (AkS (EU.eb (Ai6 Bb (EU.eb (Da Bb Bb)))) (EU.eb (Da Bb Bb))))) Bn)))
   (Ds (Cy (EU.eb (Dr (fun _ _ _=>.bl _) (EU.eb (Fo (Bu Bb Bj))) (EU.eb Bf))))
    (Bk (Gc (Bp (Gq 2 (Bp (Da Bb (EU.eb (Da Bb (EU.eb (AaD (fun _ _=>.int _) (EU.eb Bf)))))) (Bp Bn Bj))) Bj))
   (Dv (Nc Bb Ss (Gf (EU.eb (Da Bb (EU.eb (AaD (fun _ _=>.int _) (EU.eb Bf)))))))))
    Dj))
    Dj)))
   Gv))) (fun ps P hp=>?_)
 clear h hu hu64 hr
 obtain⟨U,M,J,ks,bs,rfl,hl,hb,q⟩:=hp
 walk_at "s"
 walk_at "p"
 refine⟨fun n ρ=>∃ (v5 v6 v7:Sl),ρ = [.bo (.bk U M J),.sh (.lst (ks.map .str)),.bo (.lst (bs.map .int)),.ow (.lst ((prF (mtF M) ks bs n).1.map ppP)),.ow (.lst ((prF (mtF M) ks bs n).2.map fun a:Nat=>.int a)),v5,v6,v7],⟨_,_,_,rfl⟩,?_,?_⟩
 ·rintro n p ρ hp ⟨v5,v6,v7,rfl⟩
  rw[Ny,getElem?_map,Option.map_map] at hp
  obtain⟨k,hk,rfl⟩:=map_eq_some_iff.mp hp
  have hn:n < ks.length:=(List.getElem?_eq_some_iff.mp hk).1
  obtain⟨b,hbn⟩:∃ b,bs[n]? = some b:=⟨_,getElem?_eq_getElem (by omega)⟩
  obtain⟨w1,w2,w3⟩:=AaI (mt:=mtF M) (ks:=ks) (bs:=bs) n
  have e:=Rn (mtF M) ks bs n
  rw[hk] at e
  generalize prF (mtF M) ks bs n = X at w1 w2 w3 e
  obtain⟨pp,w⟩:=X
  dsimp only [Function.comp] at *
  walk_at "p"
  by_cases h1:k = "open"
  ·rw[if_pos (by rw[h1])] at e
   rw[decide_eq_true h1]
   walk_at "p"
   rotate_left
   ·rw[length_map]; omega
   exact⟨_,_,_,by rw[e,map_append]; rfl⟩
  rw[if_neg (fun z=>h1 (Option.some.inj z))] at e
  rw[decide_eq_false h1]
  walk_at "p"
  by_cases h2:k = "shut"
  ·rw[if_pos (by rw[h2]),hbn] at e
   rw[decide_eq_true h2]
   walk_at "x"
   refine Jd ?_
   walk_at "x"
   walk_at "me"
   rw[AiB]
   refine Fb (S:=w.mapIdx fun j a=>(j,a)) (enc:=fun q:Nat × Nat=>PV.tup [.int q.1,.int q.2]) (f:=fun q=>if (bs[q.2]?).bind (mtF M) = some b then some (.int q.1) else none) ?_ (fun d hd Z hZ=>?_)
   rotate_left
   ·obtain⟨j,hj⟩:=getElem?_of_mem hd
    rw[getElem?_mapIdx] at hj
    obtain⟨a,ha,rfl⟩:=map_eq_some_iff.mp hj
    have han:=w2 a (mem_of_getElem? ha)
    obtain⟨c,hc⟩:∃ c,bs[a]? = some c:=⟨_,getElem?_eq_getElem (by omega)⟩
    have hZ2:Z (if mtF M c = some b then some (.int (j:Nat)) else none):=by
     have:((bs[(j,a).2]?).bind (mtF M)) = mtF M c:=by show (bs[a]?).bind _ = _; rw[hc]; rfl
     rw[this] at hZ; exact hZ
    walk_at "c"
    walk_at "p"
    refine Ff (l:=bs) (f:=PV.int) (j:=a) (a:=c) hc rfl ?_
    walk_at "p"
    refine Ff (l:=bs) (f:=PV.int) (j:=n) (a:=b) hbn rfl ?_
    rw[Ai1]
    refine AkJ ?_
    by_cases h3:mtF M c = some b
    ·rw[decide_eq_true h3]
     rw[if_pos h3] at hZ2
     walk_at "p"
     exact hZ2
    ·rw[decide_eq_false h3]
     rw[if_neg h3] at hZ2
     walk_at "p"
     exact hZ2
   rw[show (w.mapIdx fun j a=>(j,a)).filterMap (fun q=>if (bs[q.2]?).bind (mtF M) = some b then some (PV.int (q.1:Nat)) else none) = (Qe (mtF M) bs w b).map fun a:Nat=>PV.int a by
    unfold Qe
    rw[List.map_filterMap]
    congr 1
    funext q
    split <;> rfl]
   have ft:=Adv (mt:=mtF M) (bs:=bs) (w:=w) (b:=b)
   rw[show (some b).getD 0 = b from rfl] at e
   generalize Qe (mtF M) bs w b = fit at ft e
   walk_at "p"
   rcases eq_nil_or_concat fit with z | ⟨f',j,z⟩
   ·subst z
    rw[decide_eq_false (by simp)]
    walk_at "p"
    have e2:prF (mtF M) ks bs (n + 1) = (pp,w):=e
    exact⟨_,_,_,by rw[e2]⟩
   ·rw[concat_eq_append] at z
    subst z
    have hj:=ft j (mem_append_right _ (.head _))
    obtain⟨a,ha⟩:∃ a,w[j]? = some a:=⟨_,getElem?_eq_getElem hj⟩
    rw[List.getLast?_concat] at e
    dsimp only at e
    rw[ha] at e
    rw[decide_eq_true (by rw[length_map,length_append,length_singleton]; omega)]
    walk_at "p"
    refine Nk (by rw[map_append]; exact Lp _ _) ?_
    refine Ff (l:=w) (f:=fun a:Nat=>PV.int a) (j:=j) (a:=a) ha rfl ?_
    walk_at "p"
    rotate_left
    ·rw[length_map]; omega
    refine Nk (by rw[map_append]; exact Lp _ _) ?_
    walk_at "p"
    rw[Oe,Ahn]
    have e1:(prF (mtF M) ks bs (n + 1)).1.map ppP = pp.map ppP ++ [.tup [.int (a:Nat),.int (n:Nat)]]:=by rw[e,map_append]; rfl
    have e2:(prF (mtF M) ks bs (n + 1)).2 = w.take j:=by rw[e]
    exact⟨_,_,_,by rw[e1,e2]⟩
  ·rw[if_neg (fun z=>h2 (Option.some.inj z))] at e
   rw[decide_eq_false h2]
   walk_at "p"
   exact⟨_,_,_,by rw[e]⟩
 rintro ρ ⟨v5,v6,v7,rfl⟩
 rw[Qq,length_map]
 walk_at "p"
 exact q
theorem Zm {ks:List Nat} {vs acc:List Int} {k:Nat} (h:¬ k ∈ ks):(lpF acc ks vs)[k]? = acc[k]?:=by
 unfold lpF
 induction ks generalizing vs acc with
 | nil=>rfl
 | cons x r ih =>
  cases vs with
  | nil=>rfl
  | cons v vs =>
   rw[List.zip_cons_cons,foldl_cons,ih (fun z=>h (.tail _ z))]
   show (acc.set x v)[k]? = _
   rw[getElem?_set,if_neg (fun z=>h (by rw[z]; exact .head _))]
theorem Am3 {ks:List Nat} {vs acc:List Int} {k p:Nat} (nd:ks.Nodup) (hp:ks[p]? = some k) (hk:k < acc.length) (hv:p < vs.length):(lpF acc ks vs)[k]? = vs[p]?:=by
 induction ks generalizing vs acc p with
 | nil=>simp at hp
 | cons x r ih =>
  cases vs with
  | nil=>simp at hv
  | cons v vs =>
   show (lpF (acc.set x v) r vs)[k]? = _
   cases p with
   | zero =>
    rw[List.getElem?_cons_zero] at hp
    cases hp
    rw[Zm (nodup_cons.mp nd).1,getElem?_set,if_pos rfl,if_pos hk]; rfl
   | succ p =>
    rw[List.getElem?_cons_succ] at hp ⊢
    exact ih (nodup_cons.mp nd).2 hp (by rw[length_set]; exact hk) (by simpa using hv)
theorem AeD (mt:Int->Option Int) (ks:List Str) (bs:List Int):∀ (rows:List (Int × List Nat)) (acc:List Int),(∀ r ∈ rows,r.2.Nodup/\∀ k ∈ r.2,k < acc.length)->rows.Pairwise (fun r q=>∀ k ∈ r.2,¬ k ∈ q.2) ->
  ∀ r ∈ rows,pkF (lvA mt ks bs rows acc) r.2 = rwF mt (pkF ks r.2) (pkF bs r.2) r.1
 | [],_,_,_,r,h=>by cases h
 | q :: l,acc,hk,pw,r,hr=>by
  have ih:=AeD mt ks bs l (lpF acc q.2 (rwF mt (pkF ks q.2) (pkF bs q.2) q.1)) (fun r' hr'=>by rw[AbC]; exact hk r' (.tail _ hr')) (List.pairwise_cons.mp pw).2
  rcases mem_cons.mp hr with rfl | hr
  ·have no:∀ (l':List (Int × List Nat)) (a:List Int) (k:Nat),(∀ r' ∈ l',¬ k ∈ r'.2)->(lvA mt ks bs l' a)[k]? = a[k]?:=fun l'=>by
    induction l' with
    | nil=>intro a k _; rfl
    | cons x y ih2 =>
     intro a k h
     show (lvA mt ks bs y (lpF a x.2 _))[k]? = _
     rw[ih2 _ k (fun r' hr'=>h r' (.tail _ hr')),Zm (h x (.head _))]
   have vl:(rwF mt (pkF ks r.2) (pkF bs r.2) r.1).length = r.2.length:=by rw[AbP]; unfold pkF; rw[length_map]
   refine ext_getElem? fun p=>?_
   unfold pkF
   rw[getElem?_map]
   cases e:r.2[p]? with
   | none=>rw[getElem?_eq_none (by have:=List.getElem?_eq_none_iff.mp e; show (rwF mt (pkF ks r.2) (pkF bs r.2) r.1).length <= p; omega)]; rfl
   | some k =>
    have hp:=(List.getElem?_eq_some_iff.mp e).1
    have hkm:=mem_of_getElem? e
    show some (((lvA mt ks bs l (lpF acc r.2 (rwF mt (pkF ks r.2) (pkF bs r.2) r.1)))[k]?).getD default) = (rwF mt (pkF ks r.2) (pkF bs r.2) r.1)[p]?
    rw[no l _ k (fun r' hr'=>(List.pairwise_cons.mp pw).1 r' hr' k hkm),Am3 (hk r (.head _)).1 e ((hk r (.head _)).2 k hkm) (by omega),getElem?_eq_getElem (by omega)]; rfl
  ·exact ih r hr
def plK (k:Str):Str:=if k ∈ bgK\/k = "out" then "plain" else k
theorem Alr (k:Str):(plK k = k/\¬ (k ∈ bgK\/k = "out"))\/(plK k = "plain"/\(k ∈ bgK\/k = "out")):=by
 unfold plK
 by_cases h:k ∈ bgK\/k = "out"
 ·rw[if_pos h]; exact .inr ⟨rfl,h⟩
 ·rw[if_neg h]; exact .inl ⟨rfl,h⟩
theorem La {k s:Str} (h1:¬ s = "plain") (h2:¬ (s ∈ bgK\/s = "out")):plK k = s ↔ k = s:=by
 rcases Alr k with ⟨e,h⟩ | ⟨e,h⟩
 ·rw[e]
 ·rw[e]
  exact⟨fun z=>absurd z.symm h1,fun z=>by rw[z] at h; exact absurd h h2⟩
theorem plK_fb {k:Str}:(plK k = "fore"\/plK k = "back") ↔ (k = "fore"\/k = "back"):=by
 rw[La (by decide +kernel) (by decide +kernel),La (by decide +kernel) (by decide +kernel)]
theorem plK_ld {k:Str}:plK k ∈ ldK ↔ k ∈ ldK:=by
 unfold ldK
 simp only [mem_cons,not_mem_nil,or_false]
 rw[La (by decide +kernel) (by decide +kernel),La (by decide +kernel) (by decide +kernel),La (by decide +kernel) (by decide +kernel)]
theorem Aeu:∀ (l:Str) (ks:List Str),ldF l (ks.map plK) = ldF l ks
 | _,[]=>rfl
 | l,k :: r=>by
  rw[map_cons,ldF,ldF]
  have e:(if plK k = "fore"\/plK k = "back" then plK k else l) = (if k = "fore"\/k = "back" then k else l):=by
   by_cases z:k = "fore"\/k = "back"
   ·rw[if_pos z,if_pos (plK_fb.mpr z)]
    rcases z with z | z <;> rw[z] <;> decide +kernel
   ·rw[if_neg z,if_neg (fun y=>z (plK_fb.mp y))]
  rw[e,Aeu]
  congr 1
  by_cases z:k ∈ ldK
  ·rw[if_pos z,if_pos (plK_ld.mpr z)]
  ·rw[if_neg z,if_neg (fun y=>z (plK_ld.mp y))]
theorem Aaa {α β:Type} {F G:α->Option β}:∀ {l:List α},(∀ x ∈ l,F x = G x)->l.filterMap F = l.filterMap G
 | [],_=>rfl
 | x :: r,h=>by
  have ih:=Aaa (l:=r) fun y hy=>h y (.tail _ hy)
  have hx:=h x (.head _)
  cases e:G x with
  | none=>rw[List.filterMap_cons_none (hx.trans e),List.filterMap_cons_none e,ih]
  | some z=>rw[List.filterMap_cons_some (hx.trans e),List.filterMap_cons_some e,ih]
theorem Afd {mt:Int->Option Int} {bs bs':List Int} {w:List Nat} {b:Int} (h:∀ a ∈ w,bs'[a]? = bs[a]?):Qe mt bs' w b = Qe mt bs w b:=by
 unfold Qe
 refine Aaa fun q hq=>?_
 obtain⟨i,hi⟩:=getElem?_of_mem hq
 rw[getElem?_mapIdx] at hi
 obtain⟨a,ha,rfl⟩:=map_eq_some_iff.mp hi
 rw[h a (mem_of_getElem? ha)]
theorem AbJ {mt:Int->Option Int} {ks:List Str} {bs:List Int}:∀ n,∀ a ∈ (prF mt ks bs n).2,a < n/\ks[a]? = some ("open" : Str)
 | 0,a,h=>by cases h
 | n + 1,a,h=>by
  have ih:=AbJ (mt:=mt) (ks:=ks) (bs:=bs) n
  have same:∀ a ∈ (prF mt ks bs n).2,a < n + 1/\ks[a]? = some ("open" : Str):=fun a ha=>⟨lt_succ_of_lt (ih a ha).1,(ih a ha).2⟩
  rw[prF] at h
  split at h
  ·rename_i hk
   rcases mem_append.mp h with ha | ha
   ·exact same a ha
   ·rw[mem_singleton.mp ha]; exact⟨lt_succ_self _,hk⟩
  ·split at h
   ·split at h
    ·exact same a h
    ·exact same a (List.mem_of_mem_take h)
   ·exact same a h
theorem Ae5 {mt:Int->Option Int} {ks:List Str} {bs bs':List Int} (h:∀ (a:Nat) (k:Str),ks[a]? = some k->¬ (k ∈ bgK\/k = "out")->bs'[a]? = bs[a]?):∀ n,prF mt (ks.map plK) bs' n = prF mt ks bs n
 | 0=>rfl
 | n + 1=>by
  rw[Rn,Rn,Ae5 h n,getElem?_map]
  cases e:ks[n]? with
  | none=>rfl
  | some k =>
   show (if some (plK k) = some ("open" : Str) then _ else _) = (if some k = some ("open" : Str) then _ else _)
   by_cases h1:k = "open"
   ·rw[if_pos (show some (plK k) = some ("open" : Str) by rw[h1]; decide +kernel),if_pos (show some k = some ("open" : Str) by rw[h1])]
   ·rw[if_neg (fun z=>h1 (Option.some.inj z)),if_neg (fun z=>h1 ((La (by decide +kernel) (by decide +kernel)).mp (Option.some.inj z)))]
    show (if some (plK k) = some ("shut" : Str) then _ else _) = (if some k = some ("shut" : Str) then _ else _)
    by_cases h2:k = "shut"
    ·rw[if_pos (show some (plK k) = some ("shut" : Str) by rw[h2]; decide +kernel),if_pos (show some k = some ("shut" : Str) by rw[h2])]
     rw[h n k e (by rw[h2]; decide +kernel),Afd fun a ha=>h a _ (AbJ n a ha).2 (by decide +kernel)]
    ·rw[if_neg (fun z=>h2 (Option.some.inj z)),if_neg (fun z=>h2 ((La (by decide +kernel) (by decide +kernel)).mp (Option.some.inj z)))]
theorem AkU (k w:Str) (v:Int):lwF (plK k) w v = lwF k w v:=by
 unfold lwF
 by_cases h:k = "num"
 ·rw[if_pos h,if_pos ((La (by decide +kernel) (by decide +kernel)).mpr h)]
 ·rw[if_neg h,if_neg (fun z=>h ((La (by decide +kernel) (by decide +kernel)).mp z))]
theorem AdG {mt:Int->Option Int} {ks:List Str} {bs bs':List Int} {v:Int} (h:∀ (a:Nat) (k:Str),ks[a]? = some k->¬ (k ∈ bgK\/k = "out")->bs'[a]? = bs[a]?):rwF mt (ks.map plK) bs' v = rwF mt ks bs v:=by
 unfold rwF wrF
 rw[Aeu,length_map,Ae5 h,List.zip_map_left,map_map]
 refine List.map_congr_left fun z _=>?_
 exact AkU z.1 z.2 v
def arA (D:List Nst) (n:Nat):Nat->List Int
 | 0=>replicate n (-1)
 | j + 1=>match D[j]? with
  | some x=>if x.2.2.isSome then (arA D n j).mapIdx (fun k y=>if x.1 < k/\k < x.2.1 then (j:Int) else y) else arA D n j
  | none=>arA D n j
def lcF (D:List Nst) (j:Nat):Nat:=((D.take j).filter fun x=>x.2.2.isSome).length
def phF (D:List Nst) (z:Int):Nat:=if z < 0 then 0 else 1 + lcF D z.toNat
theorem Ge (D:List Nst) (n:Nat):∀ j,(arA D n j).length = n
 | 0=>length_replicate
 | j + 1=>by
  rw[arA]
  cases D[j]? with
  | none=>exact Ge D n j
  | some x =>
   show (if x.2.2.isSome = true then (arA D n j).mapIdx (fun k y=>if x.1 < k/\k < x.2.1 then (j:Int) else y) else arA D n j:List Int).length = n
   split
   ·rw[length_mapIdx]; exact Ge D n j
   ·exact Ge D n j
theorem Rf {D:List Nst} {j:Nat} {x:Nst} (h:D[j]? = some x):lcF D (j + 1) = lcF D j + (if x.2.2.isSome = true then 1 else 0):=by
 unfold lcF
 rw[Dt h,filter_append,length_append]
 by_cases z:x.2.2.isSome = true
 ·rw[if_pos z,filter_cons_of_pos (p:=fun x:Nst=>x.2.2.isSome) z]; rfl
 ·rw[if_neg z,filter_cons_of_neg (p:=fun x:Nst=>x.2.2.isSome) z]; rfl
theorem Tu {D:List Nst} {i:Nat}:∀ j,i <= j->lcF D i <= lcF D j
 | 0,h=>by rw[Nat.le_zero.mp h]; exact Nat.le_refl _
 | j + 1,h=>by
  rcases Nat.lt_or_ge i (j + 1) with z | z
  ·refine Nat.le_trans (Tu j (by omega)) ?_
   cases e:D[j]? with
   | none =>
    unfold lcF
    have:=List.getElem?_eq_none_iff.mp e
    rw[List.take_of_length_le this,List.take_of_length_le (by omega)]; exact Nat.le_refl _
   | some x=>rw[Rf e]; omega
  ·rw[show i = j + 1 by omega]; exact Nat.le_refl _
theorem Vq:∀ l:List Nst,(l.filterMap fun x=>x.2.2.map fun v=>((x.1:Int),(x.2.1:Int),v)).length = (l.filter fun x=>x.2.2.isSome).length
 | []=>rfl
 | x :: r=>by
  cases e:x.2.2 with
  | none=>rw[List.filterMap_cons_none (by rw[e]; rfl),filter_cons_of_neg (p:=fun x:Nst=>x.2.2.isSome) (by rw[e]; decide),Vq r]
  | some v=>rw[List.filterMap_cons_some (by rw[e]; rfl),filter_cons_of_pos (p:=fun x:Nst=>x.2.2.isSome) (by rw[e]; rfl),length_cons,length_cons,Vq r]
theorem Ahu {D:List Nst} {n j:Nat} {b l:Int} {x:Nst} (h:D[j]? = some x) (hl:x.2.2 = some l):(stF D n b)[1 + lcF D j]? = some ((x.1:Int),(x.2.1:Int),l):=by
 unfold stF
 rw[Nat.add_comm,List.getElem?_cons_succ]
 obtain⟨hj,rfl⟩:=List.getElem?_eq_some_iff.mp h
 have e:D = D.take j ++ D[j] :: D.drop (j + 1):=by rw[<- drop_eq_getElem_cons hj,take_append_drop]
 have e2:D.filterMap (fun x=>x.2.2.map fun v=>((x.1:Int),(x.2.1:Int),v)) = (D.take j).filterMap (fun x=>x.2.2.map fun v=>((x.1:Int),(x.2.1:Int),v)) ++ (((D[j].1:Int),(D[j].2.1:Int),l) :: (D.drop (j + 1)).filterMap (fun x=>x.2.2.map fun v=>((x.1:Int),(x.2.1:Int),v))):=by
  conv=>lhs; rw[e]
  rw[List.filterMap_append,List.filterMap_cons_some (by rw[hl]; rfl)]
 rw[e2,getElem?_append_right (by rw[Vq]; exact Nat.le_refl _),Vq]
 show _ = some _
 rw[show lcF D j - ((D.take j).filter fun x=>x.2.2.isSome).length = 0 from Nat.sub_self _]; rfl
theorem Aci (D:List Nst) (n:Nat) (b:Int):∀ j,j <= D.length->hmF (stF D n b) n (1 + lcF D j) = (arA D n j).map (phF D)
 | 0,_=>by
  show hmF (stF D n b) n 1 = (replicate n (-1)).map (phF D)
  rw[List.map_replicate]
  show hmS (replicate n 0) 0 (-1) (n:Int) = replicate n 0
  unfold hmS
  refine Qb _ _ fun k x hx=>?_
  rw[List.eq_of_mem_replicate (mem_of_getElem? hx)]
  split <;> rfl
 | j + 1,hj=>by
  have ih:=Aci D n b j (by omega)
  obtain⟨x,hx⟩:∃ x,D[j]? = some x:=⟨_,getElem?_eq_getElem (by omega)⟩
  rw[Rf hx,arA,hx]
  cases e:x.2.2 with
  | none =>
   show hmF _ n (1 + (lcF D j + 0)) = (if (x.2.2).isSome = true then _ else _:List Int).map _
   rw[e,if_neg (by decide)]
   exact ih
  | some l =>
   show hmF _ n (1 + (lcF D j + 1)) = (if (x.2.2).isSome = true then _ else _:List Int).map _
   rw[e,if_pos (show (some l).isSome = true from rfl),<- Nat.add_assoc,hmF,Ahu hx e]
   show hmS (hmF (stF D n b) n (1 + lcF D j)) (1 + lcF D j) (x.1:Int) (x.2.1:Int) = _
   rw[ih]
   unfold hmS
   refine ext_getElem? fun k=>?_
   rw[getElem?_mapIdx,getElem?_map,getElem?_map,getElem?_mapIdx]
   cases (arA D n j)[k]? with
   | none=>rfl
   | some z =>
    show some (if (x.1:Int) < (k:Int)/\(k:Int) < (x.2.1:Int) then 1 + lcF D j else phF D z) = some (phF D (if x.1 < k/\k < x.2.1 then (j:Int) else z))
    by_cases c:x.1 < k/\k < x.2.1
    ·rw[if_pos c,if_pos (by omega)]
     unfold phF
     rw[if_neg (by omega),toNat_natCast]
    ·rw[if_neg c,if_neg (by omega)]
theorem Ql (D:List Nst) (n:Nat):∀ j,∀ z ∈ arA D n j,z = -1\/∃ i:Nat,i < j/\z = (i:Int)/\∃ x l,D[i]? = some x/\x.2.2 = some l
 | 0,z,h=>.inl (List.eq_of_mem_replicate h)
 | j + 1,z,h=>by
  have ih:=Ql D n j
  have up:(z = -1\/∃ i:Nat,i < j/\z = (i:Int)/\∃ x l,D[i]? = some x/\x.2.2 = some l)->z = -1\/∃ i:Nat,i < j + 1/\z = (i:Int)/\∃ x l,D[i]? = some x/\x.2.2 = some l:=fun h=>h.imp id fun⟨i,h1,h2⟩=>⟨i,by omega,h2⟩
  rw[arA] at h
  cases e:D[j]? with
  | none=>rw[e] at h; exact up (ih z h)
  | some x =>
   rw[e] at h
   cases el:x.2.2 with
   | none =>
    have h:z ∈ (if x.2.2.isSome = true then _ else arA D n j:List Int):=h
    rw[el,if_neg (by decide)] at h
    exact up (ih z h)
   | some l =>
    have h:z ∈ (if x.2.2.isSome = true then (arA D n j).mapIdx (fun k y=>if x.1 < k/\k < x.2.1 then (j:Int) else y) else _:List Int):=h
    rw[el,if_pos (show (some l).isSome = true from rfl)] at h
    obtain⟨k,hk⟩:=getElem?_of_mem h
    rw[getElem?_mapIdx] at hk
    obtain⟨y,hy,e2⟩:=map_eq_some_iff.mp hk
    by_cases c:x.1 < k/\k < x.2.1
    ·rw[if_pos c] at e2
     exact .inr ⟨j,lt_succ_self _,e2.symm,x,l,e,el⟩
    ·rw[if_neg c] at e2
     subst e2
     exact up (ih y (mem_of_getElem? hy))
def spF (A:List Int) (n:Nat) (z:Int):List Nat:=(range n).filter fun k=>decide (A[k]? = some z)
theorem Aay {D:List Nst} {n i:Nat} {b:Int} {x:Nst} {l:Int} (h:D[i]? = some x) (hl:x.2.2 = some l):(rsF (stF D n b) (hmF (stF D n b) n (stF D n b).length))[1 + lcF D i]? = some (l,spF (arA D n D.length) n i):=by
 have sl:(stF D n b).length = 1 + lcF D D.length:=by
  unfold stF lcF
  rw[length_cons,Vq,take_length]; omega
 unfold rsF
 rw[getElem?_mapIdx,Ahu h hl,sl,Aci D n b D.length (Nat.le_refl _),length_map,Ge]
 show some (l,_) = some (l,_)
 unfold spF
 congr 2
 refine List.filter_congr fun k hk=>?_
 rw[getElem?_map]
 obtain⟨z,hz⟩:∃ z,(arA D n D.length)[k]? = some z:=⟨_,getElem?_eq_getElem (by rw[Ge]; exact mem_range.mp hk)⟩
 rw[hz]
 refine decide_eq_decide.mpr ?_
 show some (phF D z) = some (1 + lcF D i) ↔ some z = some (i:Int)
 constructor
 ·intro e
  have e:=Option.some.inj e
  rcases Ql D n _ z (mem_of_getElem? hz) with rfl | ⟨i',_,rfl,x',l',hx',hl'⟩
  ·unfold phF at e; rw[if_pos (by decide)] at e; omega
  ·unfold phF at e
   rw[if_neg (by omega),toNat_natCast] at e
   rcases Nat.lt_trichotomy i i' with c | c | c
   ·have h1:=Rf h
    rw[hl,if_pos (show (some l).isSome = true from rfl)] at h1
    have:=Tu (D:=D) i' (show i + 1 <= i' from c)
    omega
   ·rw[c]
   ·have h1:=Rf hx'
    rw[hl',if_pos (show (some l').isSome = true from rfl)] at h1
    have:=Tu (D:=D) i (show i' + 1 <= i from c)
    omega
 ·intro e
  have e:=Option.some.inj e
  rw[e]
  unfold phF
  rw[if_neg (by omega),toNat_natCast]
theorem Aa4 {D:List Nst} {n:Nat} {b:Int}:(rsF (stF D n b) (hmF (stF D n b) n (stF D n b).length))[0]? = some (b,spF (arA D n D.length) n (-1)):=by
 have sl:(stF D n b).length = 1 + lcF D D.length:=by
  unfold stF lcF
  rw[length_cons,Vq,take_length]; omega
 unfold rsF
 rw[getElem?_mapIdx,sl,Aci D n b D.length (Nat.le_refl _),length_map,Ge]
 show some (b,_) = some (b,_)
 unfold spF
 congr 2
 refine List.filter_congr fun k hk=>?_
 rw[getElem?_map]
 obtain⟨z,hz⟩:∃ z,(arA D n D.length)[k]? = some z:=⟨_,getElem?_eq_getElem (by rw[Ge]; exact mem_range.mp hk)⟩
 rw[hz]
 refine decide_eq_decide.mpr ?_
 show some (phF D z) = some 0 ↔ some z = some (-1)
 constructor
 ·intro e
  have e:=Option.some.inj e
  rcases Ql D n _ z (mem_of_getElem? hz) with rfl | ⟨i',_,rfl,_⟩
  ·rfl
  ·unfold phF at e; rw[if_neg (by omega)] at e; omega
 ·intro e
  rw[Option.some.inj e]; rfl
theorem Ajk (St:List Stc) (hs:List Nat):(∀ r ∈ rsF St hs,r.2.Nodup/\∀ k ∈ r.2,k < hs.length)/\(rsF St hs).Pairwise (fun r q=>∀ k ∈ r.2,¬ k ∈ q.2):=by
 have at':∀ i r,(rsF St hs)[i]? = some r->r.2 = (range hs.length).filter fun k=>decide (hs[k]? = some i):=fun i r h=>by
  unfold rsF at h
  rw[getElem?_mapIdx] at h
  obtain⟨s,_,rfl⟩:=map_eq_some_iff.mp h
  rfl
 refine⟨fun r hr=>?_,List.pairwise_iff_getElem.mpr fun i j hi hj hij k hk hk2=>?_⟩
 ·obtain⟨i,hi⟩:=getElem?_of_mem hr
  rw[at' i r hi]
  exact⟨List.nodup_range.filter _,fun k hk=>mem_range.mp (mem_filter.mp hk).1⟩
 ·rw[at' i _ (getElem?_eq_getElem hi)] at hk
  rw[at' j _ (getElem?_eq_getElem hj)] at hk2
  have h1:=of_decide_eq_true (mem_filter.mp hk).2
  have h2:=of_decide_eq_true (mem_filter.mp hk2).2
  rw[h1] at h2
  have:=Option.some.inj h2
  omega
theorem Uf {mt:Int->Option Int} {ks:List Str} {bs:List Int} {b m:Int} {r:Int × List Nat} (hr:r ∈ Jb ks b m):pkF (Do mt ks bs b m) r.2 = rwF mt (pkF ks r.2) (pkF bs r.2) r.1:=by
 unfold Jb at hr
 obtain⟨h1,h2⟩:=Ajk (stF (dF ks b m ks.length) ks.length b) (hmF (stF (dF ks b m ks.length) ks.length b) ks.length (stF (dF ks b m ks.length) ks.length b).length)
 unfold Do
 refine AeD mt ks bs _ _ (fun r' hr'=>?_) h2 r hr
 have:=h1 r' hr'
 rw[Nw] at this
 rw[length_replicate]; exact this
def Uc (x:Nst):Nst:=(x.1,x.2.1,x.2.2.map (· + 2))
theorem Aim (k:Str) (a m:Int):lvF k (a + 2) (m + 2) = (lvF k a m).map (· + 2):=by
 unfold lvF
 generalize (if k = "forein" then (0:Int) else 1) = r
 by_cases h1:(a + 1) % 2 = r
 ·rw[if_pos h1,if_pos (show (a + 2 + 1) % 2 = r by omega)]
  by_cases h2:a + 1 <= m
  ·rw[if_pos h2,if_pos (by omega)]
   show some (a + 2 + 1) = some (a + 1 + 2)
   rw[show a + 2 + 1 = a + 1 + 2 by omega]
  ·rw[if_neg h2,if_neg (by omega)]; rfl
 ·rw[if_neg h1,if_neg (show ¬ (a + 2 + 1) % 2 = r by omega)]
  by_cases h2:a + 2 <= m
  ·rw[if_pos h2,if_pos (by omega)]; rfl
  ·rw[if_neg h2,if_neg (by omega)]; rfl
theorem Aa7:∀ (D:List Nst) (b:Int),arF (b + 2) (D.map Uc) = arF b D + 2
 | [],_=>rfl
 | x :: r,b=>by
  have ih:=fun c=>Aa7 r c
  unfold arF at ih ⊢
  rw[map_cons,foldl_cons,foldl_cons]
  cases e:x.2.2 with
  | none =>
   have:(Uc x).2.2 = none:=by show x.2.2.map _ = _; rw[e]; rfl
   rw[this]
   exact ih b
  | some l =>
   have:(Uc x).2.2 = some (l + 2):=by show x.2.2.map _ = _; rw[e]; rfl
   rw[this]
   show foldl _ (max (b + 2) (l + 2)) _ = foldl _ (max b l) _ + 2
   rw[show max (b + 2) (l + 2) = max b l + 2 by omega]
   exact ih (max b l)
theorem Ado (ks:List Str) (b m:Int):∀ n,dF ks (b + 2) (m + 2) n = (dF ks b m n).map Uc
 | 0=>rfl
 | n + 1=>by
  have ih:=Ado ks b m n
  cases e:ks[n]? with
  | none=>rw[dF,dF,e]; exact ih
  | some k =>
   by_cases hb:k ∈ bgK
   ·rw[Jf e hb,Jf e hb,ih,map_append]
    have ef:((dF ks b m n).map Uc).filter (fun x=>decide (n <= x.2.1)) = ((dF ks b m n).filter fun x=>decide (n <= x.2.1)).map Uc:=by rw[List.filter_map]; rfl
    rw[ef,Aa7,Aim]; rfl
   ·rw[Je e hb,Je e hb]; exact ih
def AcA (s:Stc):Stc:=(s.1,s.2.1,s.2.2 + 2)
theorem Ai8 (N:List Nst) (n:Nat) (b:Int):stF (N.map Uc) n (b + 2) = (stF N n b).map AcA:=by
 unfold stF
 rw[map_cons,List.filterMap_map,List.map_filterMap]
 congr 1
 congr 1
 funext x
 show (x.2.2.map (· + 2)).map _ = (x.2.2.map _).map AcA
 cases x.2.2 <;> rfl
theorem AaZ (St:List Stc) (n:Nat):∀ j,hmF (St.map AcA) n j = hmF St n j
 | 0=>rfl
 | j + 1=>by
  rw[hmF,hmF,AaZ St n j,getElem?_map]
  cases St[j]? <;> rfl
theorem Aji (St:List Stc) (hs:List Nat):rsF (St.map AcA) hs = (rsF St hs).map fun r=>(r.1 + 2,r.2):=by
 unfold rsF
 refine ext_getElem? fun i=>?_
 rw[getElem?_mapIdx,getElem?_map,getElem?_map,getElem?_mapIdx,Option.map_map,Option.map_map]
 rfl
theorem AdP (ks:List Str) (b m:Int):Jb ks (b + 2) (m + 2) = (Jb ks b m).map fun r=>(r.1 + 2,r.2):=by
 unfold Jb
 rw[Ado,Ai8,AaZ,Aji,length_map]
theorem Abk (v:Int):wyF (v + 2) = wyF v:=by
 unfold wyF
 rw[show (v + 2) % 2 = v % 2 by omega]
theorem Aix (k w:Str) (v:Int):lwF k w (v + 2) = lwF k w v + 2:=by
 unfold lwF
 rw[Abk,show (v + 2) % 2 = v % 2 by omega]
 repeat' split
 all_goals omega
theorem Ain (mt:Int->Option Int) (ks:List Str) (bs:List Int) (v:Int):rwF mt ks bs (v + 2) = (rwF mt ks bs v).map (· + 2):=by
 unfold rwF
 rw[Abk,map_map]
 exact List.map_congr_left fun z _=>Aix _ _ _
theorem AiN (ks:List Nat) (vs acc:List Int):lpF (acc.map (· + 2)) ks (vs.map (· + 2)) = (lpF acc ks vs).map (· + 2):=by
 unfold lpF
 rw[show ks.zip (vs.map (· + 2)) = (ks.zip vs).map (fun z=>(z.1,z.2 + 2)) by rw[List.zip_map_right]; rfl]
 generalize ks.zip vs = z
 induction z generalizing acc with
 | nil=>rfl
 | cons p r ih =>
  rw[map_cons,foldl_cons,foldl_cons]
  show foldl _ ((acc.map (· + 2)).set p.1 (p.2 + 2)) _ = _
  rw[<- map_set (f:=(· + 2)) (a:=p.2),ih]
theorem Af2 (mt:Int->Option Int) (ks:List Str) (bs:List Int) (b m:Int):Do mt ks bs (b + 2) (m + 2) = (Do mt ks bs b m).map (· + 2):=by
 unfold Do lvA
 rw[AdP,show replicate ks.length (b + 2) = (replicate ks.length b).map (· + 2) by rw[List.map_replicate]]
 generalize Jb ks b m = rows
 generalize replicate ks.length b = acc
 induction rows generalizing acc with
 | nil=>rfl
 | cons r l ih =>
  rw[map_cons,foldl_cons,foldl_cons]
  show foldl _ (lpF (acc.map (· + 2)) r.2 (rwF mt (pkF ks r.2) (pkF bs r.2) (r.1 + 2))) _ = _
  rw[Ain,AiN]
  exact ih _
theorem Aeg {d:Int} (h:1 <= d) (k:Str):0 <= stD d k:=by
 unfold stD
 split <;> split <;> omega
theorem AfV {d e:Int} (h:d <= e) (k:Str):stD d k <= stD e k:=by
 unfold stD
 split <;> split <;> omega
theorem Aax:∀ (r:List Str) (d e:Int),1 <= d->d <= e->enS d (r.take (enS e r)) = enS d r
 | [],_,_,_,_=>rfl
 | c :: r,d,e,h1,h2=>by
  have n1:=Aeg h1 c
  have mo:=AfV h2 c
  rw[enS]
  by_cases z:stD e c = 0
  ·rw[if_pos z,List.take_zero,enS,enS,if_pos (by omega)]
  ·rw[if_neg z,List.take_succ_cons,enS,enS]
   by_cases y:stD d c = 0
   ·rw[if_pos y,if_pos y]
   ·rw[if_neg y,if_neg y,Aax r _ _ (by omega) mo]
theorem AeV:∀ (r:List Str) (d:Int) (y:Nat) (k:Str),1 <= d->y < enS d r->r[y]? = some k->k ∈ bgK->enS 0 ((r.take (enS d r)).drop y) = enS 0 (r.drop y)
 | [],_,_,_,_,h,_,_=>absurd h (Nat.not_lt_zero _)
 | c :: r,d,y,k,h1,h,hk,hb=>by
  have n1:=Aeg h1 c
  rw[enS] at h ⊢
  by_cases z:stD d c = 0
  ·rw[if_pos z] at h; exact absurd h (Nat.not_lt_zero _)
  rw[if_neg z] at h ⊢
  rw[List.take_succ_cons]
  cases y with
  | zero =>
   have e:c = k:=Option.some.inj hk
   subst e
   rw[List.drop_zero,List.drop_zero]
   have e0:stD 0 c = 1:=by unfold stD; rw[if_pos hb,if_neg (Oa hb)]; rfl
   have e1:stD d c = d + 1:=by unfold stD; rw[if_pos hb,if_neg (Oa hb)]; omega
   rw[enS,enS,e0,e1,if_neg (by decide),if_neg (by decide),Aax r 1 (d + 1) (by decide) (by omega)]
  | succ y =>
   rw[List.drop_succ_cons,List.drop_succ_cons]
   exact AeV r (stD d c) y k (by omega) (by omega) hk hb
def inK {α:Type} (l:List α) (a e:Nat):List α:=(l.take e).drop (a + 1)
theorem Sw {ks:List Str} {a:Nat} {k:Str} (h:ks[a]? = some k) (hb:k ∈ bgK):Bt ks a = a + 1 + enS 1 (ks.drop (a + 1)):=by
 unfold Bt
 have ha:=(List.getElem?_eq_some_iff.mp h)
 obtain⟨h1,h2⟩:=ha
 rw[drop_eq_getElem_cons h1,h2]
 have:=Nv (d:=0) (r:=ks.drop (a + 1)) hb
 rw[show ((0:Nat):Int) = 0 from rfl,show ((0 + 1:Nat):Int) = 1 from rfl] at this
 rw[this]; omega
theorem Tn {ks:List Str} {a:Nat} (h:a <= ks.length):Bt ks a <= ks.length:=by
 unfold Bt
 have:=AbA 0 (ks.drop a)
 rw[length_drop] at this; omega
theorem Vn {α:Type} {l:List α} {a e x:Nat} (h:a + 1 + x < e):(inK l a e)[x]? = l[a + 1 + x]?:=by
 unfold inK
 rw[List.getElem?_drop,getElem?_take,if_pos h]
theorem Vr {α:Type} {l:List α} {a e:Nat} (h:e <= l.length):(inK l a e).length = e - (a + 1):=by
 unfold inK
 rw[length_drop,length_take]; omega
theorem AiK {ks:List Str} {a x:Nat} {k k':Str} (h:ks[a]? = some k) (hb:k ∈ bgK) (hx:a + 1 + x < Bt ks a) (h':ks[a + 1 + x]? = some k') (hb':k' ∈ bgK):Bt ks (a + 1 + x) = Bt (inK ks a (Bt ks a)) x + (a + 1):=by
 have ee:=Sw h hb
 have en:inK ks a (Bt ks a) = (ks.drop (a + 1)).take (enS 1 (ks.drop (a + 1))):=by
  unfold inK
  rw[List.drop_take,ee]
  congr 1; omega
 have:=AeV (ks.drop (a + 1)) 1 x k' (by decide) (by omega) (by rw[List.getElem?_drop]; exact h') hb'
 rw[en]
 unfold Bt
 rw[this,List.drop_drop]; omega
theorem Aiy (b:Int) (A B:List Nst):arF b (A ++ B) = arF (arF b A) B:=by unfold arF; rw[List.foldl_append]
theorem AfL:∀ (A B:List Nst) (b c:Int),A.Sublist B->b <= c->arF b A <= arF c B:=by
 intro A B b c h
 have st:∀ (x:Nst) (b c:Int),b <= c->(match x.2.2 with | some l=>max b l | none=>b) <= (match x.2.2 with | some l=>max c l | none=>c):=fun x b c hh=>by
  cases x.2.2 with
  | none=>exact hh
  | some l=>show max b l <= max c l; omega
 have gr:∀ (x:Nst) (c:Int),c <= (match x.2.2 with | some l=>max c l | none=>c):=fun x c=>by
  cases x.2.2 with
  | none=>exact Int.le_refl _
  | some l=>show c <= max c l; omega
 induction h generalizing b c with
 | slnil=>intro h; exact h
 | cons x _ ih =>
  intro h
  exact ih b _ (Int.le_trans h (gr x c))
 | cons_cons x _ ih =>
  intro h
  exact ih _ _ (st x b c h)
def shN (s:Nat) (x:Nst):Nst:=(x.1 + s,x.2.1 + s,x.2.2)
theorem AeH (s:Nat):∀ (D:List Nst) (b:Int),arF b (D.map (shN s)) = arF b D
 | [],_=>rfl
 | x :: r,b=>by
  have ih:=fun c=>AeH s r c
  unfold arF at ih ⊢
  rw[map_cons,foldl_cons,foldl_cons]
  exact ih _
theorem Ahz {ks:List Str} {b m l:Int} {a:Nat} {k:Str} (h:ks[a]? = some k) (hb:k ∈ bgK) (hl:lvF k (arF b ((dF ks b m a).filter fun x=>decide (a <= x.2.1))) m = some l):∀ x,a + 1 + x <= Bt ks a->dF ks b m (a + 1 + x) = dF ks b m a ++ (a,Bt ks a,some l) :: (dF (inK ks a (Bt ks a)) l m x).map (shN (a + 1))
 | 0,_=>by
  rw[show a + 1 + 0 = a + 1 from rfl,Jf h hb,hl]; rfl
 | x + 1,hx=>by
  have ih:=Ahz h hb hl x (by omega)
  have hn:a < ks.length:=(List.getElem?_eq_some_iff.mp h).1
  have el:=Tn (Nat.le_of_lt hn)
  have hx':a + 1 + x < ks.length:=by omega
  have e1:=getElem?_eq_getElem hx'
  have e2:(inK ks a (Bt ks a))[x]? = some ks[a + 1 + x]:=by rw[Vn (by omega)]; exact e1
  generalize ks[a + 1 + x] = k' at e1 e2
  rw[show a + 1 + (x + 1) = a + 1 + x + 1 from rfl]
  by_cases hb':k' ∈ bgK
  ·rw[Jf e1 hb',Jf e2 hb',ih,AiK h hb (by omega) e1 hb']
   have key:arF b ((dF ks b m a ++ (a,Bt ks a,some l) :: (dF (inK ks a (Bt ks a)) l m x).map (shN (a + 1))).filter fun y=>decide (a + 1 + x <= y.2.1)) = arF l ((dF (inK ks a (Bt ks a)) l m x).filter fun y=>decide (x <= y.2.1)):=by
    rw[filter_append,filter_cons_of_pos (p:=fun y:Nst=>decide (a + 1 + x <= y.2.1)) (decide_eq_true (show a + 1 + x <= Bt ks a by omega)),Aiy]
    have ef:((dF (inK ks a (Bt ks a)) l m x).map (shN (a + 1))).filter (fun y=>decide (a + 1 + x <= y.2.1)) = ((dF (inK ks a (Bt ks a)) l m x).filter fun y=>decide (x <= y.2.1)).map (shN (a + 1)):=by
     rw[List.filter_map]
     congr 1
     refine List.filter_congr fun y _=>?_
     refine decide_eq_decide.mpr ?_
     show a + 1 + x <= y.2.1 + (a + 1) ↔ x <= y.2.1
     omega
    rw[ef,show ∀ (c:Int) (Z:List Nst),arF c ((a,Bt ks a,some l) :: Z) = arF (max c l) Z from fun _ _=>rfl,AeH]
    have le:arF b ((dF ks b m a).filter fun y=>decide (a + 1 + x <= y.2.1)) <= arF b ((dF ks b m a).filter fun y=>decide (a <= y.2.1)):=by
     refine AfL _ _ _ _ ?_ (Int.le_refl _)
     have:(dF ks b m a).filter (fun y=>decide (a + 1 + x <= y.2.1)) = ((dF ks b m a).filter fun y=>decide (a <= y.2.1)).filter (fun y=>decide (a + 1 + x <= y.2.1)):=by
      rw[List.filter_filter]
      refine List.filter_congr fun y _=>?_
      by_cases z:a + 1 + x <= y.2.1
      ·rw[decide_eq_true z,decide_eq_true (show a <= y.2.1 by omega)]; rfl
      ·rw[decide_eq_false z]; rfl
     rw[this]
     exact List.filter_sublist
    have:=Aep hl
    rw[Int.max_eq_right (by omega)]
   rw[key,map_append,append_assoc]
   show _ ++ (_ :: _ ++ _) = _
   rw[show a + 1 + x = x + (a + 1) by omega]
   rfl
  ·rw[Je e1 hb',Je e2 hb',ih]
theorem Aa2 (ks:List Str) (b m:Int) (p:Nat):∀ q,∃ R:List Nst,dF ks b m (p + q) = dF ks b m p ++ R/\∀ x ∈ R,p <= x.1
 | 0=>⟨[],by rw[append_nil]; rfl,fun x h=>(by cases h)⟩
 | q + 1=>by
  obtain⟨R,h1,h2⟩:=Aa2 ks b m p q
  cases e:ks[p + q]? with
  | none=>exact⟨R,by rw[show p + (q + 1) = p + q + 1 from rfl,dF,e]; exact h1,h2⟩
  | some k =>
   by_cases hb:k ∈ bgK
   ·refine⟨R ++ [(p + q,Bt ks (p + q),lvF k (arF b ((dF ks b m (p + q)).filter fun x=>decide (p + q <= x.2.1))) m)],?_,?_⟩
    ·rw[show p + (q + 1) = p + q + 1 from rfl,Jf e hb,<- append_assoc,<- h1]
    ·intro x hx
     rcases mem_append.mp hx with hx | hx
     ·exact h2 x hx
     ·rw[mem_singleton.mp hx]; exact le_add_right _ _
   ·exact⟨R,by rw[show p + (q + 1) = p + q + 1 from rfl,Je e hb]; exact h1,h2⟩
theorem Zq {ks:List Str} {b m l:Int} {a:Nat} {k:Str} (h:ks[a]? = some k) (hb:k ∈ bgK) (hl:lvF k (arF b ((dF ks b m a).filter fun x=>decide (a <= x.2.1))) m = some l):∃ R:List Nst,dF ks b m ks.length = dF ks b m a ++ (a,Bt ks a,some l) :: ((dF (inK ks a (Bt ks a)) l m (inK ks a (Bt ks a)).length).map (shN (a + 1)) ++ R)/\∀ x ∈ R,Bt ks a <= x.1:=by
 have hn:a < ks.length:=(List.getElem?_eq_some_iff.mp h).1
 have el:=Tn (Nat.le_of_lt hn)
 have ee:=Sw h hb
 have il:(inK ks a (Bt ks a)).length = Bt ks a - (a + 1):=Vr el
 have e1:=Ahz h hb hl (inK ks a (Bt ks a)).length (by omega)
 obtain⟨R,h1,h2⟩:=Aa2 ks b m (Bt ks a) (ks.length - Bt ks a)
 rw[show Bt ks a + (ks.length - Bt ks a) = ks.length by omega] at h1
 rw[show a + 1 + (inK ks a (Bt ks a)).length = Bt ks a by omega] at e1
 refine⟨R,?_,h2⟩
 rw[h1,e1,append_assoc]; rfl
theorem Lm (mt:Int->Option Int) (ks:List Str) (bs:List Int) (b m:Int):(Do mt ks bs b m).length = ks.length:=by
 unfold Do lvA
 suffices h:∀ (rows:List (Int × List Nat)) (acc:List Int),(rows.foldl (fun l r=>lpF l r.2 (rwF mt (pkF ks r.2) (pkF bs r.2) r.1)) acc).length = acc.length by rw[h,length_replicate]
 intro rows
 induction rows with
 | nil=>intro acc; rfl
 | cons r l ih=>intro acc; rw[foldl_cons,ih,AbC]
theorem Of {D:List Nst} {n j:Nat} {x:Nst} (h:D[j]? = some x) (p:Nat):(arA D n (j + 1))[p]? = if x.2.2.isSome = true/\x.1 < p/\p < x.2.1/\p < n then some (j:Int) else (arA D n j)[p]?:=by
 rw[arA,h]
 show (if x.2.2.isSome = true then (arA D n j).mapIdx (fun k y=>if x.1 < k/\k < x.2.1 then (j:Int) else y) else arA D n j:List Int)[p]? = _
 by_cases c:x.2.2.isSome = true
 ·rw[if_pos c,getElem?_mapIdx]
  by_cases hp:p < n
  ·have:p < (arA D n j).length:=by rw[Ge]; exact hp
   rw[getElem?_eq_getElem this]
   show some (if x.1 < p/\p < x.2.1 then (j:Int) else _) = _
   by_cases z:x.1 < p/\p < x.2.1
   ·rw[if_pos z,if_pos ⟨c,z.1,z.2,hp⟩]
   ·rw[if_neg z,if_neg (fun y=>z ⟨y.2.1,y.2.2.1⟩)]
  ·have:(arA D n j)[p]? = none:=getElem?_eq_none (by rw[Ge]; omega)
   rw[this,if_neg (fun y=>hp y.2.2.2)]; rfl
 ·rw[if_neg c,if_neg (fun y=>c y.1)]
theorem Xm (D:List Nst) (n p i:Nat):∀ j,j <= D.length->(arA D n j)[p]? = some (i:Int)->∃ x,D[i]? = some x/\x.1 < p/\p < x.2.1
 | 0,_,h=>by
  rw[arA,getElem?_replicate] at h
  by_cases z:p < n
  ·rw[if_pos z] at h; injection h with h; omega
  ·rw[if_neg z] at h; cases h
 | j + 1,hj,h=>by
  have e:=getElem?_eq_getElem (show j < D.length by omega)
  rw[Of e] at h
  by_cases z:D[j].2.2.isSome = true/\D[j].1 < p/\p < D[j].2.1/\p < n
  ·rw[if_pos z] at h
   injection h with h
   have:j = i:=by omega
   subst this
   exact⟨_,e,z.2.1,z.2.2.1⟩
  ·rw[if_neg z] at h
   exact Xm D n p i j (by omega) h
def ouZ (i:Nat) (z:Int):Int:=if z < 0 then (i:Int) else (i:Int) + 1 + z
theorem Ad1 {D D0 Di R:List Nst} {a e n s:Nat} {l:Int} (hD:D = D0 ++ (a,e,some l) :: (Di.map (shN (a + 1)) ++ R)) (he:e <= n) (hs:e = a + 1 + s) (hR:∀ x ∈ R,e <= x.1) {k:Nat} (hk:k < s):(arA D n D.length)[a + 1 + k]? = ((arA Di s Di.length)[k]?).map (ouZ D0.length):=by
 have at0:D[D0.length]? = some (a,e,some l):=by rw[hD,getElem?_append_right (Nat.le_refl _),Nat.sub_self]; rfl
 have at1:∀ j,j < Di.length->D[D0.length + 1 + j]? = (Di[j]?).map (shN (a + 1)):=fun j hj=>by
  rw[hD,getElem?_append_right (by omega),show D0.length + 1 + j - D0.length = j + 1 by omega,List.getElem?_cons_succ,getElem?_append_left (by rw[length_map]; exact hj),getElem?_map]
 have at2:∀ j,D[D0.length + 1 + Di.length + j]? = R[j]?:=fun j=>by
  rw[hD,getElem?_append_right (by omega),show D0.length + 1 + Di.length + j - D0.length = Di.length + j + 1 by omega,List.getElem?_cons_succ,getElem?_append_right (by rw[length_map]; omega),length_map,show Di.length + j - Di.length = j by omega]
 have dl:D.length = D0.length + 1 + Di.length + R.length:=by rw[hD,length_append,length_cons,length_append,length_map]; omega
 have s1:(arA D n (D0.length + 1))[a + 1 + k]? = some ((D0.length:Nat):Int):=by
  rw[Of at0,if_pos]
  exact⟨rfl,by show a < a + 1 + k; omega,by show a + 1 + k < e; omega,by omega⟩
 have s2:∀ j,j <= Di.length->(arA D n (D0.length + 1 + j))[a + 1 + k]? = ((arA Di s j)[k]?).map (ouZ D0.length):=fun j=>by
  induction j with
  | zero =>
   intro _
   rw[show D0.length + 1 + 0 = D0.length + 1 from rfl,s1,arA,getElem?_replicate,if_pos hk]; rfl
  | succ j ih =>
   intro hj
   have e1:=getElem?_eq_getElem (show j < Di.length by omega)
   have e2:=at1 j (by omega)
   rw[e1] at e2
   have e2:D[D0.length + 1 + j]? = some (shN (a + 1) Di[j]):=e2
   rw[show D0.length + 1 + (j + 1) = D0.length + 1 + j + 1 from rfl,Of e1,Of e2,ih (by omega)]
   by_cases z:Di[j].2.2.isSome = true/\Di[j].1 < k/\k < Di[j].2.1/\k < s
   ·rw[if_pos z,if_pos]
    ·show _ = some (ouZ D0.length (j:Int))
     unfold ouZ
     rw[if_neg (by omega)]
     congr 1
    ·refine⟨z.1,?_,?_,by omega⟩
     ·show Di[j].1 + (a + 1) < a + 1 + k; have:=z.2.1; omega
     ·show a + 1 + k < Di[j].2.1 + (a + 1); have:=z.2.2.1; omega
   ·rw[if_neg z,if_neg]
    intro y
    refine z ⟨y.1,?_,?_,hk⟩
    ·have:Di[j].1 + (a + 1) < a + 1 + k:=y.2.1
     omega
    ·have:a + 1 + k < Di[j].2.1 + (a + 1):=y.2.2.1
     omega
 have s3:∀ j,j <= R.length->(arA D n (D0.length + 1 + Di.length + j))[a + 1 + k]? = ((arA Di s Di.length)[k]?).map (ouZ D0.length):=fun j=>by
  induction j with
  | zero=>intro _; exact s2 _ (Nat.le_refl _)
  | succ j ih =>
   intro hj
   have e1:=getElem?_eq_getElem (show j < R.length by omega)
   have e2:=at2 j
   rw[e1] at e2
   rw[show D0.length + 1 + Di.length + (j + 1) = D0.length + 1 + Di.length + j + 1 from rfl,Of e2,if_neg,ih (by omega)]
   intro y
   have:=hR _ (getElem_mem (show j < R.length by omega))
   have:=y.2.1
   omega
 rw[dl]
 exact s3 _ (Nat.le_refl _)
theorem AlW {A A':List Int} {Z z:Int} {a e n s:Nat} (he:e <= n) (hs:e = a + 1 + s) (h1:∀ p,A[p]? = some Z->a < p/\p < e) (h2:∀ k,k < s->(A[a + 1 + k]? = some Z ↔ A'[k]? = some z)):spF A n Z = (spF A' s z).map (· + (a + 1)):=by
 unfold spF
 obtain⟨t,rfl⟩:∃ t,n = e + t:=⟨n - e,by omega⟩
 have er:range (e + t) = range (a + 1) ++ (range s).map (fun k=>a + 1 + k) ++ (range t).map (fun k=>e + k):=by
  rw[List.range_add (n:=e),hs,List.range_add (n:=a + 1)]
 rw[er,filter_append,filter_append]
 have f1:(range (a + 1)).filter (fun k=>decide (A[k]? = some Z)) = []:=List.filter_eq_nil_iff.mpr fun k hk=>by
  have:=mem_range.mp hk
  intro y
  have:=h1 k (of_decide_eq_true y)
  omega
 have f3:((range t).map (fun k=>e + k)).filter (fun k=>decide (A[k]? = some Z)) = []:=List.filter_eq_nil_iff.mpr fun k hk=>by
  obtain⟨j,_,rfl⟩:=mem_map.mp hk
  intro y
  have:=h1 _ (of_decide_eq_true y)
  omega
 rw[f1,f3,append_nil,nil_append,List.filter_map]
 have f2:(range s).filter ((fun k=>decide (A[k]? = some Z)) ∘ fun k=>a + 1 + k) = (range s).filter fun k=>decide (A'[k]? = some z):=List.filter_congr fun k hk=>decide_eq_decide.mpr (h2 k (mem_range.mp hk))
 rw[f2]
 exact List.map_congr_left fun k _=>Nat.add_comm _ _
theorem Anr {D D0 Di R:List Nst} {a e n s:Nat} {l z:Int} (hD:D = D0 ++ (a,e,some l) :: (Di.map (shN (a + 1)) ++ R)) (he:e <= n) (hs:e = a + 1 + s) (hR:∀ x ∈ R,e <= x.1) (hi:∀ x ∈ Di,x.2.1 <= s) (hz:z = -1\/∃ j:Nat,j < Di.length/\z = (j:Int)):spF (arA D n D.length) n (ouZ D0.length z) = (spF (arA Di s Di.length) s z).map (· + (a + 1)):=by
 have at0:D[D0.length]? = some (a,e,some l):=by rw[hD,getElem?_append_right (Nat.le_refl _),Nat.sub_self]; rfl
 have at1:∀ j,j < Di.length->D[D0.length + 1 + j]? = (Di[j]?).map (shN (a + 1)):=fun j hj=>by
  rw[hD,getElem?_append_right (by omega),show D0.length + 1 + j - D0.length = j + 1 by omega,List.getElem?_cons_succ,getElem?_append_left (by rw[length_map]; exact hj),getElem?_map]
 have ins:∀ p,(arA D n D.length)[p]? = some (ouZ D0.length z)->a < p/\p < e:=fun p hp=>by
  rcases hz with rfl | ⟨j,hj,rfl⟩
  ·obtain⟨x,h1,h2,h3⟩:=Xm D n p D0.length D.length (Nat.le_refl _) hp
   rw[at0] at h1
   have:=Option.some.inj h1
   subst this
   exact⟨h2,h3⟩
  ·have eo:ouZ D0.length (j:Int) = ((D0.length + 1 + j:Nat):Int):=by unfold ouZ; rw[if_neg (by omega)]; omega
   rw[eo] at hp
   obtain⟨x,h1,h2,h3⟩:=Xm D n p _ D.length (Nat.le_refl _) hp
   rw[at1 j hj,getElem?_eq_getElem hj] at h1
   have:=Option.some.inj h1
   subst this
   have:=hi _ (getElem_mem hj)
   have h2:Di[j].1 + (a + 1) < p:=h2
   have h3:p < Di[j].2.1 + (a + 1):=h3
   exact⟨by omega,by omega⟩
 have zok:∀ y ∈ arA Di s Di.length,ouZ D0.length y = ouZ D0.length z->y = z:=fun y hy e=>by
  have h1:y = -1\/0 <= y:=by
   rcases Ql Di s Di.length y hy with h | ⟨i,_,h,_⟩
   ·exact .inl h
   ·exact .inr (by omega)
  have h2:z = -1\/0 <= z:=hz.imp id fun⟨j,_,h⟩=>by omega
  unfold ouZ at e
  rcases h1 with rfl | h1 <;> rcases h2 with rfl | h2
  ·rfl
  ·rw[if_pos (by decide),if_neg (by omega)] at e; omega
  ·rw[if_neg (by omega),if_pos (by decide)] at e; omega
  ·rw[if_neg (by omega),if_neg (by omega)] at e; omega
 refine AlW he hs ins fun k hk=>?_
 rw[Ad1 hD he hs hR hk]
 have hk':k < (arA Di s Di.length).length:=by rw[Ge]; exact hk
 rw[getElem?_eq_getElem hk']
 have zz:=zok _ (getElem_mem hk')
 constructor
 ·intro y
  rw[zz (Option.some.inj y)]
 ·intro y
  rw[Option.some.inj y]; rfl
theorem Uo {ks:List Str} {b m:Int}:∀ n,n <= ks.length->∀ x ∈ dF ks b m n,x.2.1 <= ks.length
 | 0,_,x,h=>(by cases h)
 | n + 1,hn,x,h=>by
  have e:=getElem?_eq_getElem (show n < ks.length by omega)
  by_cases hb:ks[n] ∈ bgK
  ·rw[Jf e hb] at h
   rcases mem_append.mp h with h | h
   ·exact Uo n (by omega) x h
   ·rw[mem_singleton.mp h]; exact Tn (by omega)
  ·rw[Je e hb] at h
   exact Uo n (by omega) x h
theorem Agu {α:Type} [Inhabited α] {l:List α} {a e s:Nat} (hs:e = a + 1 + s) {r:List Nat} (h:∀ k ∈ r,k < s):pkF l (r.map (· + (a + 1))) = pkF (inK l a e) r:=by
 unfold pkF
 rw[map_map]
 refine List.map_congr_left fun k hk=>?_
 have:=h k hk
 show (l[k + (a + 1)]?).getD default = _
 rw[Vn (by omega),show k + (a + 1) = a + 1 + k by omega]
theorem AjD {mt:Int->Option Int} {ks:List Str} {bs:List Int} {b m l:Int} {a:Nat} {k:Str} (h:ks[a]? = some k) (hb:k ∈ bgK) (hl:lvF k (arF b ((dF ks b m a).filter fun x=>decide (a <= x.2.1))) m = some l):inK (Do mt ks bs b m) a (Bt ks a) = Do mt (inK ks a (Bt ks a)) (inK bs a (Bt ks a)) l m:=by
 have hn:a < ks.length:=(List.getElem?_eq_some_iff.mp h).1
 have el:=Tn (Nat.le_of_lt hn)
 have ee:=Sw h hb
 have il:(inK ks a (Bt ks a)).length = Bt ks a - (a + 1):=Vr el
 obtain⟨R,hD,hR⟩:=Zq h hb hl
 have hs:Bt ks a = a + 1 + (inK ks a (Bt ks a)).length:=by omega
 have hi:=fun x=>Uo (ks:=inK ks a (Bt ks a)) (b:=l) (m:=m) _ (Nat.le_refl _) x
 have lw:(Do mt ks bs b m).length = ks.length:=Lm ..
 have li:(Do mt (inK ks a (Bt ks a)) (inK bs a (Bt ks a)) l m).length = (inK ks a (Bt ks a)).length:=Lm ..
 refine ext_getElem? fun q=>?_
 by_cases hq:q < (inK ks a (Bt ks a)).length
 rotate_left
 ·have lx:(inK (Do mt ks bs b m) a (Bt ks a)).length = Bt ks a - (a + 1):=Vr (by omega)
  rw[getElem?_eq_none (by omega),getElem?_eq_none (by omega)]
 -- the row that q stands in
 have key:∀ (z v:Int),(z = -1\/∃ j:Nat,j < (dF (inK ks a (Bt ks a)) l m (inK ks a (Bt ks a)).length).length/\z = (j:Int)) ->
   (v,spF (arA (dF (inK ks a (Bt ks a)) l m (inK ks a (Bt ks a)).length) (inK ks a (Bt ks a)).length (dF (inK ks a (Bt ks a)) l m (inK ks a (Bt ks a)).length).length) (inK ks a (Bt ks a)).length z) ∈ Jb (inK ks a (Bt ks a)) l m ->
   (v,spF (arA (dF ks b m ks.length) ks.length (dF ks b m ks.length).length) ks.length (ouZ (dF ks b m a).length z)) ∈ Jb ks b m ->
   ∀ q ∈ spF (arA (dF (inK ks a (Bt ks a)) l m (inK ks a (Bt ks a)).length) (inK ks a (Bt ks a)).length (dF (inK ks a (Bt ks a)) l m (inK ks a (Bt ks a)).length).length) (inK ks a (Bt ks a)).length z,
   ((Do mt ks bs b m)[a + 1 + q]?).getD default = ((Do mt (inK ks a (Bt ks a)) (inK bs a (Bt ks a)) l m)[q]?).getD default:=fun z v hz r1 r2 q hq=>by
  have e1:=Uf (mt:=mt) (bs:=inK bs a (Bt ks a)) r1
  have e2:=Uf (mt:=mt) (bs:=bs) r2
  have es:=Anr (z:=z) hD el hs hR hi hz
  have lt:∀ k ∈ spF (arA (dF (inK ks a (Bt ks a)) l m (inK ks a (Bt ks a)).length) (inK ks a (Bt ks a)).length (dF (inK ks a (Bt ks a)) l m (inK ks a (Bt ks a)).length).length) (inK ks a (Bt ks a)).length z,k < (inK ks a (Bt ks a)).length:=fun k hk=>mem_range.mp (mem_filter.mp hk).1
  rw[es] at e2
  generalize spF (arA (dF (inK ks a (Bt ks a)) l m (inK ks a (Bt ks a)).length) (inK ks a (Bt ks a)).length (dF (inK ks a (Bt ks a)) l m (inK ks a (Bt ks a)).length).length) (inK ks a (Bt ks a)).length z = r at e1 e2 hq lt
  have e2:pkF (Do mt ks bs b m) (r.map (· + (a + 1))) = rwF mt (pkF ks (r.map (· + (a + 1)))) (pkF bs (r.map (· + (a + 1)))) v:=e2
  have e1:pkF (Do mt (inK ks a (Bt ks a)) (inK bs a (Bt ks a)) l m) r = rwF mt (pkF (inK ks a (Bt ks a)) r) (pkF (inK bs a (Bt ks a)) r) v:=e1
  rw[Agu (l:=ks) hs lt,Agu (l:=bs) hs lt,<- e1] at e2
  unfold pkF at e2
  rw[map_map] at e2
  have:=List.map_inj_left.mp e2 q hq
  have this:((Do mt ks bs b m)[q + (a + 1)]?).getD default = ((Do mt (inK ks a (Bt ks a)) (inK bs a (Bt ks a)) l m)[q]?).getD default:=this
  rw[show q + (a + 1) = a + 1 + q by omega] at this
  exact this
 have got:((Do mt ks bs b m)[a + 1 + q]?).getD default = ((Do mt (inK ks a (Bt ks a)) (inK bs a (Bt ks a)) l m)[q]?).getD default:=by
  have ha:q < (arA (dF (inK ks a (Bt ks a)) l m (inK ks a (Bt ks a)).length) (inK ks a (Bt ks a)).length (dF (inK ks a (Bt ks a)) l m (inK ks a (Bt ks a)).length).length).length:=by rw[Ge]; exact hq
  have inq:q ∈ spF (arA (dF (inK ks a (Bt ks a)) l m (inK ks a (Bt ks a)).length) (inK ks a (Bt ks a)).length (dF (inK ks a (Bt ks a)) l m (inK ks a (Bt ks a)).length).length) (inK ks a (Bt ks a)).length _:=mem_filter.mpr ⟨mem_range.mpr hq,decide_eq_true (getElem?_eq_getElem ha)⟩
  have at0:(dF ks b m ks.length)[(dF ks b m a).length]? = some (a,Bt ks a,some l):=by rw[hD,getElem?_append_right (Nat.le_refl _),Nat.sub_self]; rfl
  rcases Ql _ _ _ _ (getElem_mem ha) with hz | ⟨i,hi1,hz,x,v,hx,hv⟩
  ·rw[hz] at inq
   refine key (-1) l (.inl rfl) ?_ ?_ q inq
   ·exact mem_of_getElem? Aa4
   ·exact mem_of_getElem? (Aay at0 rfl)
  ·rw[hz] at inq
   refine key i v (.inr ⟨i,hi1,rfl⟩) ?_ ?_ q inq
   ·exact mem_of_getElem? (Aay hx hv)
   ·have at1:(dF ks b m ks.length)[(dF ks b m a).length + 1 + i]? = some (shN (a + 1) x):=by
     rw[hD,getElem?_append_right (by omega),show (dF ks b m a).length + 1 + i - (dF ks b m a).length = i + 1 by omega,List.getElem?_cons_succ,getElem?_append_left (by rw[length_map]; exact hi1),getElem?_map,hx]; rfl
    have eo:ouZ (dF ks b m a).length (i:Int) = (((dF ks b m a).length + 1 + i:Nat):Int):=by unfold ouZ; rw[if_neg (by omega)]; omega
    rw[eo]
    exact mem_of_getElem? (Aay at1 hv)
 rw[Vn (by omega)]
 rw[getElem?_eq_getElem (show a + 1 + q < (Do mt ks bs b m).length by omega),getElem?_eq_getElem (show q < (Do mt (inK ks a (Bt ks a)) (inK bs a (Bt ks a)) l m).length by omega)] at got ⊢
 exact congrArg some got
def hsF (mk:Int->Bool):List Int->List Int
 | []=>[]
 | t :: r=>t :: r.filter (fun n=>!mk n)
theorem AdM (mk:Int->Bool) (ts:List Int):(grp mk ts).map hdF = hsF mk ts:=by
 refine (Abg (mk:=mk) (fun gs ts=>gs.map hdF = hsF mk ts/\(∀ g ∈ gs,g ≠ [])/\(gs = [] ↔ ts = [])) ⟨rfl,fun g h=>(by cases h),⟨fun _=>rfl,fun _=>rfl⟩⟩ (fun gs ts n ⟨h1,h2,h3⟩=>?_) ts).1
 unfold Qa
 by_cases c:gs = []\/mk n = false
 ·rw[if_pos c]
  refine⟨?_,fun g hg=>?_,⟨fun z=>absurd z (by simp),fun z=>absurd z (by simp)⟩⟩
  ·rw[map_append,h1]
   cases ts with
   | nil=>rfl
   | cons t r =>
    have:mk n = false:=c.resolve_left (fun z=>by have:=h3.mp z; cases this)
    show t :: r.filter _ ++ [n] = t :: (r ++ [n]).filter _
    rw[filter_append,filter_cons_of_pos (p:=fun n=>!mk n) (by rw[this]; rfl)]; rfl
  ·rcases mem_append.mp hg with hg | hg
   ·exact h2 g hg
   ·rw[mem_singleton.mp hg]; exact List.cons_ne_nil _ _
 ·rw[if_neg c]
  have c1:gs ≠ []:=fun z=>c (.inl z)
  have c2:mk n = true:=by cases e:mk n with | true=>rfl | false=>exact absurd (.inr e) c
  obtain⟨g0,hg0⟩:∃ g0,gs.getLast? = some g0:=⟨_,List.getLast?_eq_some_getLast c1⟩
  have eg:gs.dropLast ++ [g0] = gs:=by
   have:=List.dropLast_concat_getLast c1
   rw[List.getLast?_eq_some_getLast c1] at hg0
   rw[<- Option.some.inj hg0]; exact this
  have g0n:g0 ≠ []:=h2 g0 (List.mem_of_getLast? hg0)
  refine⟨?_,fun g hg=>?_,⟨fun z=>absurd z (by simp),fun z=>absurd z (by simp)⟩⟩
  ·rw[hg0]
   show (gs.dropLast ++ [g0 ++ [n]]).map hdF = _
   have eh:hdF (g0 ++ [n]) = hdF g0:=by
    cases g0 with
    | nil=>exact absurd rfl g0n
    | cons a r=>rfl
   rw[map_append,show [g0 ++ [n]].map hdF = [g0].map hdF by show [_] = [_]; rw[eh],<- map_append,eg,h1]
   cases ts with
   | nil=>exact absurd (h3.mpr rfl) c1
   | cons t r =>
    show t :: r.filter _ = t :: (r ++ [n]).filter _
    rw[filter_append,filter_cons_of_neg (p:=fun n=>!mk n) (by rw[c2]; decide)]
    show _ = t :: (r.filter _ ++ [])
    rw[append_nil]
  ·rcases mem_append.mp hg with hg | hg
   ·exact h2 g (List.dropLast_subset _ hg)
   ·rw[mem_singleton.mp hg,hg0]
    show g0 ++ [n] ≠ []
    exact fun z=>by simp at z
def kpF (U:List Sg) (M:List (Int × Int)) (n:Int):Str:=if Dd U M n = true then "plain" else Ch U M n
theorem Sv (U:List Sg) (M:List (Int × Int)) (ts:List Int):knL U M ts = (hsF (Dd U M) ts).map (kpF U M)/\bsL U M ts = hsF (Dd U M) ts:=by
 refine⟨?_,AdM _ _⟩
 rw[<- AdM,map_map]
 unfold knL
 refine List.map_congr_left fun g hg=>?_
 have:=(Ly (Dd U M) ts).ne g hg
 obtain⟨n,r,rfl,_⟩:=this
 rfl
theorem Aiv {mt:Int->Option Int} {ks:List Str} {bs:List Int} {v:Int} (h:∀ k ∈ ks,k ∈ bgK\/k = "out"):rwF mt ks bs v = ks.map fun _=>v:=by
 have nl:∀ (l:Str) (ks:List Str),(∀ k ∈ ks,k ∈ bgK\/k = "out")->ldF l ks = ks.map fun _=>none:=fun l ks=>by
  induction ks generalizing l with
  | nil=>intro _; rfl
  | cons k r ih =>
   intro h
   have hk:=h k (.head _)
   have n1:¬ k ∈ ldK:=fun z=>by
    rcases hk with hk | hk
    ·have:∀ x ∈ bgK,¬ x ∈ ldK:=by decide +kernel
     exact this k hk z
    ·rw[hk] at z; revert z; decide +kernel
   rw[ldF,ih _ (fun k hk=>h k (.tail _ hk)),if_neg n1]; rfl
 have np:∀ n,prF mt ks bs n = ([],[]):=fun n=>by
  induction n with
  | zero=>rfl
  | succ n ih =>
   rw[Rn,ih]
   have n1:¬ ks[n]? = some ("open" : Str):=fun z=>by
    rcases h _ (mem_of_getElem? z) with hk | hk
    ·revert hk; decide +kernel
    ·revert hk; decide +kernel
   have n2:¬ ks[n]? = some ("shut" : Str):=fun z=>by
    rcases h _ (mem_of_getElem? z) with hk | hk
    ·revert hk; decide +kernel
    ·revert hk; decide +kernel
   rw[if_neg n1,if_neg n2]
 have la:∀ (l:Str) (r:List (Option Str)),(∀ x ∈ r,x = none)->laF l r = r.map fun _=>l:=fun l r=>by
  induction r with
  | nil=>intro _; rfl
  | cons x r ih =>
   intro h
   rw[h x (.head _),laF]
   show l :: laF l r = _
   rw[ih (fun y hy=>h y (.tail _ hy))]; rfl
 unfold rwF wrF
 rw[np,nl _ ks h]
 show (ks.zip (flF (wyF v) (ks.map fun _=>none))).map _ = _
 have ef:flF (wyF v) (ks.map fun _=>none) = ks.map fun _=>wyF v:=by
  unfold flF
  rw[la _ _ (fun x hx=>by obtain⟨_,_,rfl⟩:=mem_map.mp hx; rfl),la _ _ (fun x hx=>by obtain⟨_,_,rfl⟩:=mem_map.mp (List.mem_reverse.mp hx); rfl),map_reverse,List.reverse_reverse,map_map]
  rw[List.zip_map',map_map]
  refine List.map_congr_left fun _ _=>?_
  show (if wyF v = wyF v then wyF v else wyF v) = wyF v
  rw[if_pos rfl]
 rw[ef,show ks.zip (ks.map fun _=>wyF v) = ks.map fun k=>(k,wyF v) by
  have:=List.zip_map' (f:=(id:Str->Str)) (g:=fun _:Str=>wyF v) (l:=ks)
  rw[List.map_id] at this
  exact this,map_map]
 refine List.map_congr_left fun k hk=>?_
 show lwF k (wyF v) v = v
 unfold lwF
 have:¬ k = "num":=fun z=>by
  rcases h k hk with hk | hk
  ·rw[z] at hk; revert hk; decide +kernel
  ·rw[z] at hk; revert hk; decide +kernel
 rw[if_neg this,if_pos rfl]
theorem AfN {ks:List Str} {b m l:Int} {k:Str} (h:ks[0]? = some k) (hb:k ∈ bgK) (hl:lvF k b m = some l):∃ R:List Nst,dF ks b m ks.length = (0,Bt ks 0,some l) :: ((dF (inK ks 0 (Bt ks 0)) l m (inK ks 0 (Bt ks 0)).length).map (shN 1) ++ R)/\∀ x ∈ R,Bt ks 0 <= x.1:=by
 have:=Zq (b:=b) (m:=m) (l:=l) h hb hl
 exact this
theorem Vg {mt:Int->Option Int} {k:Str} {ki ke:List Str} {x:Int} {bi be:List Int} {m l:Int} (hb:k ∈ bgK) (hl:lvF k 0 m = some l) (hi:enS 1 (ki ++ ke) = ki.length) (hbl:bi.length = ki.length) (hbe:be.length = ke.length) (he:ke = []\/ke = [("out" : Str)]):Do mt (k :: (ki ++ ke)) (x :: (bi ++ be)) 0 m = 0 :: (Do mt ki bi l m ++ ke.map fun _=>0):=by
 have h0:(k :: (ki ++ ke))[0]? = some k:=rfl
 have ee:Bt (k :: (ki ++ ke)) 0 = 1 + ki.length:=by
  rw[Sw h0 hb]
  show 0 + 1 + enS 1 (ki ++ ke) = _
  rw[hi]
 have ik:inK (k :: (ki ++ ke)) 0 (Bt (k :: (ki ++ ke)) 0) = ki:=by
  rw[ee,Nat.add_comm]
  show (k :: (ki ++ ke).take ki.length).drop 1 = ki
  rw[List.take_left']
  ·rfl
  ·rfl
 have ib:inK (x :: (bi ++ be)) 0 (Bt (k :: (ki ++ ke)) 0) = bi:=by
  rw[ee,Nat.add_comm]
  show (x :: (bi ++ be).take ki.length).drop 1 = bi
  rw[List.take_left' hbl]
  rfl
 have li:=AjD (mt:=mt) (bs:=x :: (bi ++ be)) (b:=0) (m:=m) (l:=l) h0 hb hl
 rw[ik,ib,ee] at li
 obtain⟨R,hD,hR⟩:=AfN (b:=0) (m:=m) (l:=l) h0 hb hl
 rw[ik] at hD
 rw[ee] at hD hR
 have ll:(Do mt (k :: (ki ++ ke)) (x :: (bi ++ be)) 0 m).length = ki.length + ke.length + 1:=by rw[Lm,length_cons,length_append]
 -- the row at the base
 have r0:((0:Int),spF (arA (dF (k :: (ki ++ ke)) 0 m (k :: (ki ++ ke)).length) (k :: (ki ++ ke)).length (dF (k :: (ki ++ ke)) 0 m (k :: (ki ++ ke)).length).length) (k :: (ki ++ ke)).length (-1)) ∈ Jb (k :: (ki ++ ke)) 0 m:=mem_of_getElem? Aa4
 have e0:=Uf (mt:=mt) (bs:=x :: (bi ++ be)) r0
 have nl:(k :: (ki ++ ke)).length = ki.length + ke.length + 1:=by rw[length_cons,length_append]
 have kl:ke.length <= 1:=by rcases he with h | h <;> rw[h] <;> decide
 have inn:∀ p,p < (k :: (ki ++ ke)).length->((arA (dF (k :: (ki ++ ke)) 0 m (k :: (ki ++ ke)).length) (k :: (ki ++ ke)).length (dF (k :: (ki ++ ke)) 0 m (k :: (ki ++ ke)).length).length)[p]? = some (-1)->p = 0\/p = ki.length + 1):=fun p hp h=>by
  refine Classical.byContradiction fun z=>?_
  have hp1:p - 1 < ki.length:=by omega
  have:=Ad1 (D0:=[]) (n:=(k :: (ki ++ ke)).length) (s:=ki.length) hD (by omega) (by omega) (fun y hy=>hR y hy) hp1
  rw[show 0 + 1 + (p - 1) = p by omega,h] at this
  obtain⟨y,_,hy⟩:=map_eq_some_iff.mp this.symm
  unfold ouZ at hy
  split at hy
  ·have:(([]:List Nst).length:Int) = 0:=rfl
   omega
  ·have:(([]:List Nst).length:Int) = 0:=rfl
   omega
 have out:∀ p,p < (k :: (ki ++ ke)).length->(p = 0\/p = ki.length + 1)->(arA (dF (k :: (ki ++ ke)) 0 m (k :: (ki ++ ke)).length) (k :: (ki ++ ke)).length (dF (k :: (ki ++ ke)) 0 m (k :: (ki ++ ke)).length).length)[p]? = some (-1):=fun p hp h=>by
  have ha:p < (arA (dF (k :: (ki ++ ke)) 0 m (k :: (ki ++ ke)).length) (k :: (ki ++ ke)).length (dF (k :: (ki ++ ke)) 0 m (k :: (ki ++ ke)).length).length).length:=by rw[Ge]; exact hp
  have eg:=getElem?_eq_getElem ha
  rcases Ql _ _ _ _ (getElem_mem ha) with hz | ⟨i,hi1,hz,_⟩
  ·rw[eg,hz]
  ·rw[hz] at eg
   obtain⟨y,hy,h1,h2⟩:=Xm _ _ p i _ (Nat.le_refl _) eg
   have ym:=mem_of_getElem? hy
   rw[hD] at ym
   rcases mem_cons.mp ym with rfl | ym
   ·have h1:0 < p:=h1
    have h2:p < 1 + ki.length:=h2
    omega
   ·rcases mem_append.mp ym with ym | ym
    ·obtain⟨w,hw,rfl⟩:=mem_map.mp ym
     have:=Uo _ (Nat.le_refl _) w hw
     have h2:p < w.2.1 + 1:=h2
     have h1:w.1 + 1 < p:=h1
     omega
    ·have:=hR y ym
     have:=(Yv (kn:=k :: (ki ++ ke)) (b:=0) (m:=m) (k :: (ki ++ ke)).length).1 y (mem_of_getElem? hy)
     omega
 have allz:∀ p,p < (k :: (ki ++ ke)).length->(p = 0\/p = ki.length + 1)->(Do mt (k :: (ki ++ ke)) (x :: (bi ++ be)) 0 m)[p]? = some 0:=fun p hp h=>by
  have mem:p ∈ spF (arA (dF (k :: (ki ++ ke)) 0 m (k :: (ki ++ ke)).length) (k :: (ki ++ ke)).length (dF (k :: (ki ++ ke)) 0 m (k :: (ki ++ ke)).length).length) (k :: (ki ++ ke)).length (-1):=mem_filter.mpr ⟨mem_range.mpr hp,decide_eq_true (out p hp h)⟩
  have lt:∀ q ∈ spF (arA (dF (k :: (ki ++ ke)) 0 m (k :: (ki ++ ke)).length) (k :: (ki ++ ke)).length (dF (k :: (ki ++ ke)) 0 m (k :: (ki ++ ke)).length).length) (k :: (ki ++ ke)).length (-1),q < (k :: (ki ++ ke)).length/\(q = 0\/q = ki.length + 1):=fun q hq=>by
   have h1:=mem_range.mp (mem_filter.mp hq).1
   exact⟨h1,inn q h1 (of_decide_eq_true (mem_filter.mp hq).2)⟩
  generalize spF (arA (dF (k :: (ki ++ ke)) 0 m (k :: (ki ++ ke)).length) (k :: (ki ++ ke)).length (dF (k :: (ki ++ ke)) 0 m (k :: (ki ++ ke)).length).length) (k :: (ki ++ ke)).length (-1) = r at e0 mem lt
  have e0:pkF (Do mt (k :: (ki ++ ke)) (x :: (bi ++ be)) 0 m) r = rwF mt (pkF (k :: (ki ++ ke)) r) (pkF (x :: (bi ++ be)) r) 0:=e0
  rw[Aiv (fun c hc=>by
   unfold pkF at hc
   obtain⟨q,hq,rfl⟩:=mem_map.mp hc
   obtain⟨q1,q2⟩:=lt q hq
   rcases q2 with rfl | rfl
   ·exact .inl hb
   ·rcases he with rfl | rfl
    ·rw[length_nil] at nl; omega
    ·right
     rw[List.getElem?_cons_succ,getElem?_append_right (Nat.le_refl _),Nat.sub_self]; rfl)] at e0
  unfold pkF at e0
  rw[map_map] at e0
  have:=List.map_inj_left.mp e0 p mem
  have this:((Do mt (k :: (ki ++ ke)) (x :: (bi ++ be)) 0 m)[p]?).getD default = 0:=this
  rw[getElem?_eq_getElem (show p < (Do mt (k :: (ki ++ ke)) (x :: (bi ++ be)) 0 m).length by omega)] at this ⊢
  exact congrArg some this
 have lil:=Lm mt ki bi l m
 refine ext_getElem? fun p=>?_
 by_cases hp:p < (k :: (ki ++ ke)).length
 rotate_left
 ·rw[getElem?_eq_none (by omega),getElem?_eq_none (by rw[length_cons,length_append,length_map,lil]; omega)]
 by_cases h:p = 0\/p = ki.length + 1
 ·rw[allz p hp h]
  rcases h with rfl | rfl
  ·rfl
  ·rw[List.getElem?_cons_succ,getElem?_append_right (by omega),lil,Nat.sub_self]
   rcases he with rfl | rfl
   ·rw[length_nil] at nl; omega
   ·rfl
 ·obtain⟨q,rfl⟩:∃ q,p = q + 1:=⟨p - 1,by omega⟩
  rw[List.getElem?_cons_succ,getElem?_append_left (by omega),<- li,Vn (by omega),show 0 + 1 + q = q + 1 by omega]
theorem Zx:∀ (D:List Nst) (b:Int),(∀ x ∈ D,x.2.2 = none)->arF b D = b
 | [],_,_=>rfl
 | x :: r,b,h=>by
  have ih:=Zx r b (fun y hy=>h y (.tail _ hy))
  unfold arF at ih ⊢
  rw[foldl_cons,h x (.head _)]
  exact ih
theorem AbM (ks:List Str):∀ n,∀ x ∈ dF ks 0 0 n,x.2.2 = none
 | 0,x,h=>(by cases h)
 | n + 1,x,h=>by
  have ih:=AbM ks n
  cases e:ks[n]? with
  | none=>rw[dF,e] at h; exact ih x h
  | some k =>
   by_cases hb:k ∈ bgK
   ·rw[Jf e hb] at h
    rcases mem_append.mp h with h | h
    ·exact ih x h
    ·rw[mem_singleton.mp h]
     show lvF k (arF 0 _) 0 = none
     rw[Zx _ _ (fun y hy=>ih y (mem_filter.mp hy).1)]
     unfold lvF
     split
     ·rw[if_neg (by decide)]
     ·rw[if_neg (by decide)]
   ·rw[Je e hb] at h; exact ih x h
theorem Wt {mt:Int->Option Int} {ks:List Str} {bs:List Int} (hl:bs.length = ks.length):Do mt ks bs 0 0 = rwF mt ks bs 0:=by
 have hr:Jb ks 0 0 = [(0,range ks.length)]:=by
  unfold Jb
  have e:stF (dF ks 0 0 ks.length) ks.length 0 = [(-1,(ks.length:Int),0)]:=by
   unfold stF
   rw[List.filterMap_eq_nil_iff.mpr]
   intro x hx
   rw[AbM ks _ x hx]; rfl
  rw[e]
  exact Af3 ks.length 0
 unfold Do lvA
 rw[hr]
 show lpF (replicate ks.length 0) (range ks.length) (rwF mt (pkF ks (range ks.length)) (pkF bs (range ks.length)) 0) = _
 rw[AaH]
 conv=>lhs; rw[<- hl,AaH,hl]
 have:=AbP mt ks bs 0
 have e:=AfR (rwF mt ks bs 0) (replicate ks.length 0) (by rw[length_replicate,this])
 rw[this] at e
 exact e
theorem Afn {mt:Int->Option Int} {k:Str} {ki:List Str} {x y s:Int} {bi:List Int} (hb:k ∈ bgK) (hbl:bi.length = ki.length):Do mt (k :: (ki ++ [("out" : Str)])) (x :: (bi ++ [y])) 0 0 = Do mt (("plain" : Str) :: (ki ++ [("plain" : Str)])) (s :: (bi ++ [s])) 0 0:=by
 have ln:∀ (u:Int) (c d:Str),(u :: (bi ++ [u])).length = (c :: (ki ++ [d])).length:=fun u c d=>by
  show (bi ++ [u]).length + 1 = (ki ++ [d]).length + 1
  rw[length_append,length_append,hbl]; rfl
 have ln2:(x :: (bi ++ [y])).length = (k :: (ki ++ [("out" : Str)])).length:=by
  show (bi ++ [y]).length + 1 = (ki ++ [("out" : Str)]).length + 1
  rw[length_append,length_append,hbl]; rfl
 rw[Wt ln2,Wt (ln s _ _)]
 have h1:=AdG (mt:=mt) (ks:=k :: (ki ++ [("out" : Str)])) (bs:=x :: (bi ++ [y])) (bs':=s :: (bi ++ [s])) (v:=0) (fun a c hc hn=>by
  cases a with
  | zero=>exact absurd (.inl (Option.some.inj hc ▸ hb)) hn
  | succ a =>
   rw[List.getElem?_cons_succ] at hc ⊢
   rw[List.getElem?_cons_succ]
   by_cases z:a < ki.length
   ·rw[getElem?_append_left (by omega),getElem?_append_left (by omega)]
   ·rw[getElem?_append_right (by omega)] at hc
    by_cases w:a - ki.length = 0
    ·rw[w] at hc
     exact absurd (.inr (Option.some.inj hc).symm) hn
    ·rw[getElem?_eq_none (by show 1 <= _; omega)] at hc; cases hc)
 have h2:=AdG (mt:=mt) (ks:=("plain" : Str) :: (ki ++ [("plain" : Str)])) (bs:=s :: (bi ++ [s])) (bs':=s :: (bi ++ [s])) (v:=0) (fun _ _ _ _=>rfl)
 have e:(k :: (ki ++ [("out" : Str)])).map plK = (("plain" : Str) :: (ki ++ [("plain" : Str)])).map plK:=by
  have e1:plK k = "plain":=by unfold plK; rw[if_pos (.inl hb)]
  have e2:plK "plain" = "plain":=by decide +kernel
  have e3:plK "out" = "plain":=by decide +kernel
  rw[map_cons,map_cons,map_append,map_append,e1,e2]
  show _ :: (_ ++ [plK "out"]) = _ :: (_ ++ [plK "plain"])
  rw[e2,e3]
 rw[<- h1,<- h2,e]
def edL (kd:Int->Str):Nat->List Int->List Int
 | _,[]=>[]
 | d,t :: r=>(if ¬ kd t = "out"\/0 < d then [t] else []) ++ edL kd (if kd t ∈ bgK then d + 1 else if kd t = "out" then d - 1 else d) r
def edD (kd:Int->Str):Nat->List Int->Nat
 | d,[]=>d
 | d,t :: r=>edD kd (if kd t ∈ bgK then d + 1 else if kd t = "out" then d - 1 else d) r
theorem Abj (kd:Int->Str):∀ (ts:List Int) (d:Nat),(edL kd d ts).length <= ts.length/\edD kd d ts <= d + ts.length
 | [],_=>⟨Nat.le_refl _,Nat.le_refl _⟩
 | t :: r,d=>by
  have ih:=Abj kd r (if kd t ∈ bgK then d + 1 else if kd t = "out" then d - 1 else d)
  rw[edL,edD,length_append,length_cons]
  have:(if kd t ∈ bgK then d + 1 else if kd t = "out" then d - 1 else d) <= d + 1:=by
   split
   ·omega
   ·split <;> omega
  have:(if ¬ kd t = "out"\/0 < d then [t] else []:List Int).length <= 1:=by
   split
   ·exact Nat.le_refl 1
   ·exact zero_le 1
  omega
def ndK (kd:Int->Str) (l:List Int):List Str:=(l.filter fun n=>!decide (kd n = "mark")).map kd
theorem Qk (kd:Int->Str) (a b:List Int):ndK kd (a ++ b) = ndK kd a ++ ndK kd b:=by unfold ndK; rw[filter_append,map_append]
theorem Qm {kd:Int->Str} {t:Int} (h:¬ kd t = "mark"):ndK kd [t] = [kd t]:=by
 unfold ndK
 rw[filter_cons_of_pos (p:=fun n=>!decide (kd n = "mark")) (by rw[decide_eq_false h]; rfl)]; rfl
theorem Zs {kd:Int->Str} {c:Int} {ke:List Str} (hc:kd c = "out") (he:ke = []\/ke = [("out" : Str)]):∀ (ts:List Int) (d:Nat),enS ((d + 1:Nat):Int) (ndK kd (edL kd d ts ++ replicate (edD kd d ts) c) ++ ke) = (ndK kd (edL kd d ts ++ replicate (edD kd d ts) c)).length
 | [],d=>by
  show enS ((d + 1:Nat):Int) (ndK kd (replicate d c) ++ ke) = (ndK kd (replicate d c)).length
  induction d with
  | zero =>
   show enS ((1:Nat):Int) ke = 0
   rcases he with rfl | rfl
   ·rfl
   ·exact Abo
  | succ d ih =>
   have e:ndK kd (replicate (d + 1) c) = ("out" : Str) :: ndK kd (replicate d c):=by
    rw[replicate_succ,show c :: replicate d c = [c] ++ replicate d c from rfl,Qk,Qm (by rw[hc]; decide +kernel),hc]; rfl
   rw[e,cons_append,Vz (by omega),show d + 1 + 1 - 1 = d + 1 from rfl,ih]; rfl
 | t :: r,d=>by
  have ih:=Zs (ke:=ke) hc he r
  rw[edL,edD]
  by_cases h1:kd t ∈ bgK
  ·have n1:¬ kd t = "out":=Oa h1
   have n2:¬ kd t = "mark":=fun z=>by rw[z] at h1; revert h1; decide +kernel
   rw[if_pos h1,if_pos (.inl n1),append_assoc,Qk,Qm n2,append_assoc]
   show enS _ (kd t :: (_ ++ _)) = _
   rw[Nv h1,nil_append,ih (d + 1)]; rfl
  rw[if_neg h1]
  by_cases h2:kd t = "out"
  ·rw[if_pos h2]
   by_cases hd:0 < d
   ·rw[if_pos (.inr hd),append_assoc,Qk,Qm (by rw[h2]; decide +kernel),append_assoc,h2]
    show enS _ ("out" :: (_ ++ _)) = _
    have ih:=ih (d - 1)
    rw[show d - 1 + 1 = d by omega] at ih
    rw[Vz (by omega),show d + 1 - 1 = d from rfl,nil_append,ih]; rfl
   ·have:d = 0:=by omega
    subst this
    rw[if_neg (fun z=>z.elim (fun y=>y h2) (fun y=>absurd y (by decide))),nil_append]
    exact ih 0
  ·rw[if_neg h2,if_pos (.inl h2),append_assoc,Qk]
   by_cases h3:kd t = "mark"
   ·have:ndK kd [t] = []:=by unfold ndK; rw[filter_cons_of_neg (p:=fun n=>!decide (kd n = "mark")) (by rw[decide_eq_true h3]; decide)]; rfl
    rw[this,nil_append]
    exact ih d
   ·rw[Qm h3,append_assoc]
    show enS _ (kd t :: (_ ++ _)) = _
    rw[Sx (by omega) h1 h2,nil_append,ih d]; rfl
theorem Acc {W:List Sg} {M:List (Int × Int)} {n:Int} (h:¬ Ch W M n = "mark"):Dd W M n = false:=decide_eq_false h
theorem Yd {W:List Sg} {M:List (Int × Int)} {n:Int} (h:¬ Ch W M n = "mark"):kpF W M n = Ch W M n:=by
 unfold kpF
 rw[Acc h,if_neg (by decide)]
theorem AhO {W:List Sg} {M:List (Int × Int)} (E:List Int):(E.filter fun n=>!Dd W M n).map (kpF W M) = ndK (Ch W M) E:=by
 unfold ndK
 have e:(E.filter fun n=>!Dd W M n) = E.filter fun n=>!decide (Ch W M n = "mark"):=rfl
 rw[e]
 refine List.map_congr_left fun n hn=>?_
 have:=(mem_filter.mp hn).2
 refine Yd fun z=>?_
 rw[decide_eq_true z] at this
 exact absurd this (by decide)
theorem AmW {W:List Sg} {M:List (Int × Int)} {p:Int} (hp:Ch W M p = "plain") (E:List Int):knL W M (p :: E) = ("plain" : Str) :: ndK (Ch W M) E/\bsL W M (p :: E) = p :: E.filter (fun n=>!Dd W M n):=by
 obtain⟨h1,h2⟩:=Sv W M (p :: E)
 refine⟨?_,h2⟩
 rw[h1]
 show kpF W M p :: (E.filter _).map _ = _
 rw[AhO,Yd (by rw[hp]; decide +kernel),hp]
theorem AgD {W:List Sg} {M:List (Int × Int)} {x p:Int} (hx:¬ Ch W M x = "mark") (hp:Ch W M p = "plain") (E:List Int):knL W M (x :: p :: E) = Ch W M x :: (("plain" : Str) :: ndK (Ch W M) E)/\bsL W M (x :: p :: E) = x :: (p :: E.filter (fun n=>!Dd W M n)):=by
 obtain⟨h1,h2⟩:=Sv W M (x :: p :: E)
 have np:¬ Ch W M p = "mark":=by rw[hp]; decide +kernel
 have ef:hsF (Dd W M) (x :: p :: E) = x :: (p :: E.filter (fun n=>!Dd W M n)):=by
  show x :: (p :: E).filter _ = _
  rw[filter_cons_of_pos (p:=fun n=>!Dd W M n) (by rw[Acc np]; rfl)]
 rw[ef] at h1 h2
 refine⟨?_,h2⟩
 rw[h1,map_cons,map_cons,AhO,Yd hx,Yd np,hp]
theorem AgX {W:List Sg} {M:List (Int × Int)} {x p c:Int} (hx:¬ Ch W M x = "mark") (hp:Ch W M p = "plain") (hc:¬ Ch W M c = "mark") (E:List Int):knL W M (x :: p :: (E ++ [c])) = Ch W M x :: ((("plain" : Str) :: ndK (Ch W M) E) ++ [Ch W M c])/\bsL W M (x :: p :: (E ++ [c])) = x :: ((p :: E.filter (fun n=>!Dd W M n)) ++ [c]):=by
 obtain⟨h1,h2⟩:=AgD hx hp (E ++ [c])
 rw[h1,h2,Qk,Qm hc,filter_append,filter_cons_of_pos (p:=fun n=>!Dd W M n) (by rw[Acc hc]; rfl)]
 exact⟨rfl,rfl⟩
theorem AjR (W:List Sg) (M:List (Int × Int)) (E:List Int):(E.filter fun n=>!Dd W M n).length = (ndK (Ch W M) E).length:=by
 unfold ndK
 rw[length_map]; rfl
theorem Anf {mt:Int->Option Int} {W:List Sg} {M:List (Int × Int)} {x p c:Int} {m l:Int} {E:List Int} (hx:Ch W M x ∈ bgK) (hp:Ch W M p = "plain") (hc:Ch W M c = "out") (hl:lvF (Ch W M x) 0 m = some l)
  (e1:enS 1 (ndK (Ch W M) E ++ [("out" : Str)]) = (ndK (Ch W M) E).length) (e0:enS 1 (ndK (Ch W M) E ++ []) = (ndK (Ch W M) E).length) :
  Do mt (knL W M (x :: p :: (E ++ [c]))) (bsL W M (x :: p :: (E ++ [c]))) 0 m = 0 :: (Do mt (knL W M (p :: E)) (bsL W M (p :: E)) l m ++ [0]) /\
  Do mt (knL W M (x :: p :: E)) (bsL W M (x :: p :: E)) 0 m = 0 :: Do mt (knL W M (p :: E)) (bsL W M (p :: E)) l m /\
  Do mt (knL W M (x :: p :: (E ++ [c]))) (bsL W M (x :: p :: (E ++ [c]))) 0 0 = Do mt (knL W M (p :: p :: (E ++ [p]))) (bsL W M (p :: p :: (E ++ [p]))) 0 0:=by
 have nx:¬ Ch W M x = "mark":=fun z=>by rw[z] at hx; revert hx; decide +kernel
 have nc:¬ Ch W M c = "mark":=by rw[hc]; decide +kernel
 have np:¬ Ch W M p = "mark":=by rw[hp]; decide +kernel
 have op:∀ ke:List Str,enS 1 (ndK (Ch W M) E ++ ke) = (ndK (Ch W M) E).length->enS 1 ((("plain" : Str) :: ndK (Ch W M) E) ++ ke) = (("plain" : Str) :: ndK (Ch W M) E).length:=fun ke h=>by
  have:=Sx (d:=1) (k:="plain") (r:=ndK (Ch W M) E ++ ke) (Nat.le_refl _) (by decide +kernel) (by decide +kernel)
  rw[show ((1:Nat):Int) = 1 from rfl] at this
  show enS 1 (("plain" : Str) :: (ndK (Ch W M) E ++ ke)) = _
  rw[this,h]; rfl
 have bl:(p :: E.filter (fun n=>!Dd W M n)).length = (("plain" : Str) :: ndK (Ch W M) E).length:=by
  rw[length_cons,length_cons,AjR]
 obtain⟨a1,a2⟩:=AmW hp E
 obtain⟨b1,b2⟩:=AgD nx hp E
 obtain⟨c1,c2⟩:=AgX nx hp nc E
 obtain⟨d1,d2⟩:=AgX np hp np E
 rw[a1,a2,b1,b2,c1,c2,d1,d2,hc,hp]
 refine⟨?_,?_,?_⟩
 ·exact Vg hx hl (op _ e1) bl rfl (.inr rfl)
 ·have:=Vg (mt:=mt) (x:=x) (be:=[]) hx hl (op _ e0) bl rfl (.inl rfl)
  rw[append_nil,append_nil] at this
  rw[this]
  show 0 :: (_ ++ []) = _
  rw[append_nil]
 ·exact Afn hx bl
theorem Aaj {α:Type} (xs:List α) (p q:Nat):Fe xs (some (p:Int)) (some (q:Int)) = (xs.take q).drop p:=by
 unfold Fe
 rw[HT.sIx_nat,HT.sIx_nat,List.drop_take]
 by_cases h:p <= xs.length
 ·rw[Nat.min_eq_left h]
  by_cases h2:q <= xs.length
  ·rw[Nat.min_eq_left h2]
  ·rw[Nat.min_eq_right (by omega),List.take_of_length_le (by rw[length_drop]; omega),List.take_of_length_le (by rw[length_drop]; omega)]
 ·rw[Nat.min_eq_right (show xs.length <= p by omega),drop_of_length_le (Nat.le_refl _),drop_of_length_le (by omega),take_nil,take_nil]
theorem Ye:∀ l:List (Option Str),l.filterMap (fun o=>o.map PV.str) = (l.filterMap id).map .str
 | []=>rfl
 | none :: r=>Ye r
 | some s :: r=>by
  show PV.str s :: r.filterMap (fun o=>o.map PV.str) = _
  rw[Ye r]; rfl
def Akc:PSp:=fun ps P=>∃ (ws:List (Option Str)) (p:Nat × Nat) (own:Str),ps = [.lst (ws.map osP),ppP p,.str own]/\ws.length <= 1000/\P (osP (wpF ws p own))
theorem An2 (T:Txt K mg t):Binds K t.d_qq ["ways","pair","own"] []:=T.F_qq.binds fun _ _ _ _ _ _ us hl=>match us,hl with | [_,_,_],_=>rfl
theorem Anz (T:Txt K mg t):FnOk P w K mg base CX0 1 t.f_qq t.d_qq ["ways","pair","own"] (spOf K t.C_Book [false,false,true] .sh Akc):=by
 refine T.F_qq.ok sc_qq (fun vs H Q E h=>h.len) (fun cdv A outer s H vs Q E hr h=>?_)
 have hu:=Cr hr
 have hu64:=hr.units
 refine⟨_,(Bc (Rp 1 ["way"] rfl rfl (Cu (Jg (Jh K) (pv 0) (Gg (Br Fc (Ci (Dh K) (pv 1) Be (fun _ _=>rfl)) Be)) (Gg (Ci (Dh K) (pv 1) Be (fun _ _=>rfl))))) (fun _ _ _ _=>(Bq (i:=0) (show Nodup (["way"]:List Str) by decide +kernel) rfl (Or.inl rfl))) (fun _ _ _ _=>(Gz (Lz (Qg (pv 0))))) (fun _ _ _ _=>(pv 0)) (by decide +kernel) (by decide +kernel) rfl (by decide +kernel) (fun _=>rfl) (i:=3) sc_qq.nd rfl (Or.inl rfl) rfl)
   (Bc (Dl (Cd Dp (Ct (Cq K) rfl T.z_len PySem.boot_len (Ba (pv 3) Bd)) Be (Cj _))
    (Bi (Ce Zo))
    Cw)
   (Bc (Dl (Cd (Ji K) (pv 2) (pv 3) rfl)
    (Bi (Ce (pv 2)))
    Cw)
   (Bc (Rp 1 ["way"] rfl rfl (Cu (Jg (Jh K) (pv 0) Tm (Gg (Ci (Dh K) (pv 1) Be (fun _ _=>rfl))))) (fun _ _ _ _=>(Bq (i:=0) (show Nodup (["way"]:List Str) by decide +kernel) rfl (Or.inl rfl))) (fun _ _ _ _=>(Gz (Lz (Qg (pv 0))))) (fun _ _ _ _=>(pv 0)) (by decide +kernel) (by decide +kernel) rfl (by decide +kernel) (fun _=>rfl) (i:=4) sc_qq.nd rfl (Or.inl rfl) rfl)
   (Bi (Ce (Gw (Cd Uq (Ct (Cq K) rfl T.z_len PySem.boot_len (Ba (pv 4) Bd)) Be (Cj _)) (Ci (Ck K) (pv 4) (Tj Qt Be) (fun _ _=>rfl)) (pv 2)))))))),?_⟩
 try dsimp only [Cl,Cb]
 refine Cv h (by decide) (Bk (Bw (EF.eu (Fu (EF.eb (Nc Bb (Gf (EU.eb (Dr (fun _ _ _=>.int _) (EU.eb (Du Bb (EU.eb Bf))) (EU.eb Bf)))) (Gf (EU.eb (Du Bb (EU.eb Bf)))))) (Ca (top:=1)) (Cy (EU.eb (Qy Bb))) Bn)))
   (Bk (Ds (Cy (EU.eb (Dz (EU.eb (Fo (Bu Bb Bj))) (EU.eb Bf))))
    (Dw Aap)
    Dj)
   (Bk (Ds (Cy (EU.eb (Td Bn Bb)))
    (Dw Bn)
    Dj)
   (Bk (Bw (EF.eu (Fu (EF.eb (Nc Bb Ss (Gf (EU.eb (Du Bb (EU.eb Bf)))))) (Ca (top:=1)) (Cy (EU.eb (Qy Bb))) Bn)))
   (Dw (Nm (Cy (EU.eb (Dr (fun _ _ _=>.bl _) (EU.eb (Fo (Bu Bb Bj))) (EU.eb Bf)))) (Da Bb (EU.eb (AaD (fun _ _=>.int _) (EU.eb Bf)))) Bn)))))) (fun ps P hp=>?_)
 clear h hu hu64 hr
 obtain⟨ws,p,own,rfl,hl,q⟩:=hp
 walk_at "s"
 have cl:=Rg ws (some ((p.1:Int) + 1)) (some (p.2:Int))
 have cl2:=Rg ws none (some (p.1:Int))
 unfold wpF at q
 rw[show ppP p = .tup [.int p.1,.int p.2] from rfl]
 walk_at "p"
 rw[Oe]
 walk_at "me"
 rw[show (some ((p.1:Int) + 1)) = some (((p.1 + 1:Nat):Int)) by rw[Int.natCast_add]; rfl,Aaj]
 generalize (ws.take p.2).drop (p.1 + 1) = wi at q
 refine Fb (S:=wi) (enc:=osP) (f:=fun o=>o.map .str) ?_ (fun d hd Z hZ=>?_)
 rotate_left
 ·walk_at "c"
  walk_at "p"
  cases d with
  | none =>
   refine Np (by decide) ?_
   exact hZ
  | some s =>
   refine No rfl ?_
   walk_at "p"
   exact hZ
 rw[Ye]
 generalize wi.filterMap id = w2 at q
 walk_at "p"
 rw[length_map]
 by_cases h1:w2 = []
 ·rw[if_pos h1] at q
  rw[decide_eq_true (by rw[h1]; rfl)]
  walk_at "p"
  exact q
 rw[if_neg h1] at q
 rw[decide_eq_false (by have:=List.length_pos_iff.mpr h1; omega)]
 walk_at "p"
 refine Aab (L:=w2) (x:=own) ?_
 walk_at "p"
 by_cases h2:own ∈ w2
 ·rw[if_pos h2] at q
  rw[decide_eq_true h2]
  walk_at "p"
  exact q
 rw[if_neg h2] at q
 rw[decide_eq_false h2]
 walk_at "p"
 rw[Oe,Ahn]
 refine⟨by rw[length_map,length_take]; omega,?_⟩
 generalize ws.take p.1 = wa at q
 refine Fb (S:=wa) (enc:=osP) (f:=fun o=>o.map .str) ?_ (fun d hd Z hZ=>?_)
 rotate_left
 ·walk_at "c"
  walk_at "p"
  cases d with
  | none =>
   refine Np (by decide) ?_
   exact hZ
  | some s =>
   refine No rfl ?_
   walk_at "p"
   exact hZ
 rw[Ye]
 generalize wa.filterMap id = w3 at q
 walk_at "p"
 rcases eq_nil_or_concat w3 with z | ⟨w4,s,z⟩
 ·subst z
  rw[decide_eq_false (by simp)]
  walk_at "p"
  exact q
 ·rw[concat_eq_append] at z
  subst z
  rw[List.getLast?_concat] at q
  rw[decide_eq_true (by rw[length_map,length_append,length_singleton]; omega)]
  walk_at "p"
  refine Nk (by rw[map_append]; exact Lp _ _) ?_
  exact q
def AiW:PSp:=fun ps P=>∃ (ws:List (Option Str)) (pp:List (Nat × Nat)) (own:Str),ps = [.lst (ws.map osP),.lst (pp.map ppP),.str own]/\ws.length <= 1000/\(∀ p ∈ pp,p.1 < ws.length/\p.2 < ws.length)/\P (.lst ((wwF ws pp own).map osP))
theorem Aok (T:Txt K mg t):Binds K t.d_qb ["ways","pairs","own"] []:=T.F_qb.binds fun _ _ _ _ _ _ us hl=>match us,hl with | [_,_,_],_=>rfl
theorem Anu (T:Txt K mg t):FnOk P w K mg base CX0 2 t.f_qb t.d_qb ["ways","pairs","own"] (spOf K t.C_Book [false,false,true] .fr AiW):=by
 refine T.F_qb.ok sc_qb (fun vs H Q E h=>h.len) (fun cdv A outer s H vs Q E hr h=>?_)
 have hu:=Cr hr
 have hu64:=hr.units
 refine⟨_,(Bc (Bm (i:=3) sc_qb.nd rfl (Or.inl rfl) (Ow (Jo K) rfl T.z_list PyProof.Rows.boot_list (Ba (pv 0) Bd)))
   (Bc (Dk PassesOwn.never rfl (Cu (pv 1)) (Bq (i:=4) sc_qb.nd rfl (Or.inl rfl))
    (Bc (Bm (i:=5) sc_qb.nd rfl (Or.inl rfl) (Bo (Anz T) (hr.mono (by decide)) rfl T.m_qq T.F_qq.kp (An2 T) .nil Bx (Ba (pv 0) (Ba (pv 4) (Ba (pv 2) Bd)))))
   (Bc (Si (pv 5) (Rv (pv 3) (Ci (Dh K) (pv 4) Be (fun _ _=>rfl)) Nf))
   (Bi (Si (pv 5) (Rv (pv 3) (Ci (Dh K) (pv 4) Be (fun _ _=>rfl)) Nf))))))
   (Bi (Ce (pv 3))))),?_⟩
 try dsimp only [Cl,Cb]
 refine Cv h (by decide) (Bk (Dv (Tg (Bu Bb Bj)))
   (Bk (Nx (Ca (top:=6))
    (Bk (Bw (Fp (Bu Bb (Bu Bb (Bp Bn Bj)))))
   (Bk (Sb (EU.eb (Du Bb (EU.eb Bf))) Bn)
   (Sb (EU.eb (Du Bb (EU.eb Bf))) Bn))))
   Gv)) (fun ps P hp=>?_)
 clear h hu hu64 hr
 obtain⟨ws,pp,own,rfl,hl,hp,q⟩:=hp
 walk_at "s"
 unfold wwF at q
 walk_at "p"
 refine⟨fun n ρ=>∃ (f:List (Option Str)) (v4 v5:Sl),ρ = [.bo (.lst (ws.map osP)),.bo (.lst (pp.map ppP)),.sh (.str own),.ow (.lst (f.map osP)),v4,v5]/\f.length = ws.length/\(pp.drop n).foldl (fun f p=>(f.set p.1 (wpF ws p own)).set p.2 (wpF ws p own)) f = pp.foldl (fun f p=>(f.set p.1 (wpF ws p own)).set p.2 (wpF ws p own)) ws,⟨ws,_,_,rfl,rfl,rfl⟩,?_,?_⟩
 ·rintro n p ρ hpn ⟨f,v4,v5,rfl,fl,he⟩
  rw[getElem?_map] at hpn
  obtain⟨x,hx,rfl⟩:=map_eq_some_iff.mp hpn
  obtain⟨x1,x2⟩:=hp x (mem_of_getElem? hx)
  obtain⟨hi,rfl⟩:=List.getElem?_eq_some_iff.mp hx
  rw[drop_eq_getElem_cons hi,foldl_cons] at he
  generalize pp[n] = x at *
  walk_at "p"
  refine⟨ws,x,own,rfl,hl,?_⟩
  rw[show ppP x = .tup [.int x.1,.int x.2] from rfl]
  walk_at "p"
  refine Ux rfl (Ti (j:=x.1) (by rw[length_map]; omega)) ?_
  walk_at "p"
  refine Ux rfl (Ti (j:=x.2) (by rw[length_set,length_map]; omega)) ?_
  walk_at "p"
  rw[<- map_set,<- map_set]
  exact⟨_,_,_,rfl,by rw[length_set,length_set,fl],he⟩
 rintro ρ ⟨f,v4,v5,rfl,fl,he⟩
 rw[length_map,drop_length,foldl_nil] at he
 walk_at "p"
 rw[he]
 exact q
def Amd:PSp:=fun ps P=>∃ (ws:List (Option Str)) (own:Str),ps = [.lst (ws.map osP),.str own]/\ws.length <= 1000/\P (.lst ((laF own ws).map .str))
theorem AgY (T:Txt K mg t):Binds K t.d_qbj ["ways","own"] []:=T.F_qbj.binds fun _ _ _ _ _ _ us hl=>match us,hl with | [_,_],_=>rfl
theorem Aeq (T:Txt K mg t):FnOk P w K mg base CX0 1 t.f_qbj t.d_qbj ["ways","own"] (spOf K t.C_Book [false,true] .fr Amd):=by
 refine T.F_qbj.ok sc_qbj (fun vs H Q E h=>h.len) (fun cdv A outer s H vs Q E hr h=>?_)
 have hu:=Cr hr
 have hu64:=hr.units
 refine⟨_,(Bc (Bm (i:=2) sc_qbj.nd rfl (Or.inl rfl) (Co Bd))
   (Bc (Bm (i:=3) sc_qbj.nd rfl (Or.inl rfl) (pv 1))
   (Bc (Dk PassesOwn.never rfl (Cu (pv 0)) (Bq (i:=4) sc_qbj.nd rfl (Or.inl rfl))
    (Bc (Dl (Lz (Qg (pv 4)))
    (Bi (Bm (i:=3) sc_qbj.nd rfl (Or.inl rfl) (pv 4)))
    Cw)
   (Bi (Cn (Fx plainAttrs_list PySem.F.slot_list_append PySem.F.type_list_append Df (pv 2) (Ba (pv 3) Bd))))))
   (Bi (Ce (pv 2)))))),?_⟩
 try dsimp only [Cl,Cb]
 refine Cv h (by decide) (Bk (Dv (Db 0 Bj))
   (Bk (Bw Bn)
   (Bk (Nx (Ca (top:=5))
    (Bk (Ds (Cy (EU.eb (Qy Bb)))
    (Bw Bn)
    Dj)
   (Gc (Bp Bn Bj))))
   Gv))) (fun ps P hp=>?_)
 clear h hu hu64 hr
 obtain⟨ws,own,rfl,hl,q⟩:=hp
 walk_at "s"
 walk_at "p"
 refine⟨fun n ρ=>∃ (A:List Str) (l:Str) (v4:Sl),ρ = [.bo (.lst (ws.map osP)),.sh (.str own),.ow (.lst (A.map .str)),.sh (.str l),v4]/\A.length = n/\A ++ laF l (ws.drop n) = laF own ws,⟨[],own,_,rfl,rfl,rfl⟩,?_,?_⟩
 ·rintro n p ρ hp ⟨A,l,v4,rfl,al,he⟩
  rw[getElem?_map] at hp
  obtain⟨w,hw,rfl⟩:=map_eq_some_iff.mp hp
  obtain⟨hi,rfl⟩:=List.getElem?_eq_some_iff.mp hw
  rw[drop_eq_getElem_cons hi,laF] at he
  generalize ws[n] = w at *
  walk_at "p"
  cases w with
  | none =>
   refine Np (by decide) ?_
   walk_at "p"
   rotate_left
   ·rw[length_map]; omega
   exact⟨A ++ [l],l,_,by rw[map_append]; rfl,by rw[length_append,al]; rfl,by rw[append_assoc]; exact he⟩
  | some s =>
   refine No rfl ?_
   walk_at "p"
   rotate_left
   ·rw[length_map]; omega
   exact⟨A ++ [s],s,_,by rw[map_append]; rfl,by rw[length_append,al]; rfl,by rw[append_assoc]; exact he⟩
 rintro ρ ⟨A,l,v4,rfl,al,he⟩
 rw[length_map,drop_length,laF,append_nil] at he
 walk_at "p"
 rw[he]
 exact q
def Aj0:PSp:=fun ps P=>∃ (ws:List (Option Str)) (own:Str),ps = [.lst (ws.map osP),.str own]/\ws.length <= 1000/\P (.lst ((flF own ws).map .str))
theorem AnV (T:Txt K mg t):Binds K t.d_qr ["ways","own"] []:=T.F_qr.binds fun _ _ _ _ _ _ us hl=>match us,hl with | [_,_],_=>rfl
theorem AmJ (T:Txt K mg t):FnOk P w K mg base CX0 2 t.f_qr t.d_qr ["ways","own"] (spOf K t.C_Book [true,true] .fr Aj0):=by
 refine T.F_qr.ok sc_qr (fun vs H Q E h=>h.len) (fun cdv A outer s H vs Q E hr h=>?_)
 have hu:=Cr hr
 have hu64:=hr.units
 refine⟨_,(Bc (Bm (i:=2) sc_qr.nd rfl (Or.inl rfl) (Bo (Aeq T) (hr.mono (by decide)) rfl T.m_qbj T.F_qbj.kp (AgY T) .nil Bx (Ba (pv 0) (Ba (pv 1) Bd))))
   (Bc (Bm (i:=3) sc_qr.nd rfl (Or.inl rfl) (Aem (Bo (Aeq T) (hr.mono (by decide)) rfl T.m_qbj T.F_qbj.kp (AgY T) .nil Bx (Ba (Aem (pv 0) rfl rfl T.z_list rfl T.z_reversed) (Ba (pv 1) Bd))) rfl rfl T.z_list rfl T.z_reversed))
   (Bi (Ce (Gm 2 [1] ["one","other","own"] ["own"] rfl (Tf K (pv 2) (pv 3) rfl T.z_zip) rfl (fun j y e1 i e2=>match j,e1,e2 with | 0,e1,e2=>by cases e1; cases e2; exact⟨rfl,rfl,rfl,by decide +kernel⟩ | _ + 1,_,e2=>by simp at e2) (forall_mem_cons.mpr ⟨rfl,fun _ h=>nomatch h⟩) (by decide +kernel) (fun _ _ _ _=>(Ga (K':=K) (n:=2) rfl rfl (Cf (Bq (i:=0) (show Nodup (["one","other","own"]:List Str) by decide +kernel) rfl (Or.inl rfl)) (Cf (Bq (i:=1) (show Nodup (["one","other","own"]:List Str) by decide +kernel) rfl (Or.inl rfl)) Fa)))) (fun _ _ _ _=>Gh) (fun _ _ _ _=>(Gw (Cd Dp (pv 0) (pv 1) (Cj _)) (pv 0) (pv 2))) rfl (by decide +kernel) rfl (by decide +kernel)))))),?_⟩
 try dsimp only [Cl,Cb]
 refine Cv h (by decide) (Bk (Bw (EF.eu (Dm (Bu Bb (Bp Bn Bj)))))
   (Bk (Bw (EF.eu (Ae1 (EF.eb (Dm (Bu (EF.eb (Ae1 Bb)) (Bp Bn Bj)))))))
   (Nu (AaJ Bb Bb (Gx (Dc (Ca (top:=2)) (Dc (Ca (top:=2)) Gi))) Gr (Nm (Cy (EU.eb (Dz Bb Bb))) Bn Bn))))) (fun ps P hp=>?_)
 clear h hu hu64 hr
 obtain⟨ws,own,rfl,hl,q⟩:=hp
 walk_at "s"
 unfold flF at q
 walk_at "p"
 refine⟨ws,own,rfl,hl,?_⟩
 walk_at "p"
 rw[<- map_reverse]
 refine⟨ws.reverse,own,rfl,by rw[length_reverse]; exact hl,?_⟩
 walk_at "p"
 rw[<- map_reverse]
 refine⟨by rw[length_map,Ta]; omega,?_⟩
 rw[Sz]
 refine Fb (S:=(laF own ws).zip (laF own ws.reverse).reverse) (enc:=fun z:Str × Str=>PV.tup [.str z.1,.str z.2]) (f:=fun z=>some (.str (if z.1 = z.2 then z.1 else own))) ?_ (fun d hd Z hZ=>?_)
 rotate_left
 ·walk_at "c"
  walk_at "p"
  by_cases h:d.1 = d.2
  ·rw[decide_eq_true h]
   rw[if_pos h] at hZ
   walk_at "p"
   exact hZ
  ·rw[decide_eq_false h]
   rw[if_neg h] at hZ
   walk_at "p"
   exact hZ
 generalize (laF own ws).zip (laF own ws.reverse).reverse = Z at q
 rw[show Z.filterMap (fun z:Str × Str=>some (PV.str (if z.1 = z.2 then z.1 else own))) = (Z.map fun z=>if z.1 = z.2 then z.1 else own).map .str by rw[map_map]; exact congrFun (filterMap_eq_map' (f:=fun z:Str × Str=>PV.str (if z.1 = z.2 then z.1 else own))) _]
 exact q
def Amf:PSp:=fun ps P=>∃ U M J ks bs own,ps = [.bk U M J,.lst (map .str ks),.lst (map .int bs),.str own]/\ks.length = bs.length/\bs.length <= 1000/\P (.lst ((wrF (mtF M) ks bs own).map .str))
theorem Aoi (T:Txt K mg t):Binds K t.d_qs ["book","kinds","bases","own"] []:=T.F_qs.binds fun _ _ _ _ _ _ us hl=>match us,hl with | [_,_,_,_],_=>rfl
theorem AnK (T:Txt K mg t):FnOk P w K mg base CX0 3 t.f_qs t.d_qs ["book","kinds","bases","own"] (spOf K t.C_Book [false,true,false,true] .fr Amf):=by
 refine T.F_qs.ok sc_qs (fun vs H Q E h=>h.len) (fun cdv A outer s H vs Q E hr h=>?_)
 have hu:=Cr hr
 have hu64:=hr.units
 refine⟨_,(Bc (Bm (i:=4) sc_qs.nd rfl (Or.inl rfl) (Bo (Am8 T) (hr.mono (by decide)) rfl T.m_qi T.F_qi.kp (AnL T) .nil Bx (Ba (pv 1) (Ba (pv 3) Bd))))
   (Bc (Bm (i:=5) sc_qs.nd rfl (Or.inl rfl) (Bo (Ak4 T) (hr.mono (by decide)) rfl T.m_qby T.F_qby.kp (Amo T) .nil Bx (Ba (pv 0) (Ba (pv 1) (Ba (pv 2) Bd)))))
   (Bi (Ce (Bo (AmJ T) (hr.mono (by decide)) rfl T.m_qr T.F_qr.kp (AnV T) .nil Bx (Ba (Bo (Anu T) (hr.mono (by decide)) rfl T.m_qb T.F_qb.kp (Aok T) .nil Bx (Ba (pv 4) (Ba (pv 5) (Ba (pv 3) Bd)))) (Ba (pv 3) Bd))))))),?_⟩
 try dsimp only [Cl,Cb]
 refine Cv h (by decide) (Bk (Bw (EF.eu (Dm (Bu Bb (Bp Bn Bj)))))
   (Bk (Bw (EF.eu (Dm (Bu Bb (Bp Bn (Bu Bb Bj))))))
   (Nu (Dm (Bp (EF.eu (Dm (Bu Bb (Bu Bb (Bp Bn Bj))))) (Bp Bn Bj)))))) (fun ps P hp=>?_)
 clear h hu hu64 hr
 obtain⟨U,M,J,ks,bs,own,rfl,hl,hb,q⟩:=hp
 walk_at "s"
 unfold wrF at q
 walk_at "p"
 refine⟨ks,own,rfl,by omega,?_⟩
 walk_at "p"
 refine⟨U,M,J,ks,bs,rfl,hl,hb,?_⟩
 walk_at "p"
 refine⟨_,_,own,rfl,by rw[Qw]; omega,fun p hp=>?_,?_⟩
 ·have:=(AaI (mt:=mtF M) (ks:=ks) (bs:=bs) ks.length).1 p hp
  rw[Qw]; exact this
 walk_at "p"
 refine⟨_,own,rfl,by rw[Abz,Qw]; omega,?_⟩
 exact q
def Ail:PSp:=fun ps P=>∃ k w v,ps = [.str k,.str w,.int v]/\P (.int (lwF k w v))
theorem AnT (T:Txt K mg t):Binds K t.d_qj ["kind","way","level"] []:=T.F_qj.binds fun _ _ _ _ _ _ us hl=>match us,hl with | [_,_,_],_=>rfl
theorem AmS (T:Txt K mg t):FnOk P w K mg base CX0 2 t.f_qj t.d_qj ["kind","way","level"] (spOf K t.C_Book [false,false,true] .sh Ail):=by
 refine T.F_qj.ok AnA (fun vs H Q E h=>h.len) (fun cdv A outer s H vs Q E hr h=>?_)
 have hu:=Cr hr
 have hu64:=hr.units
 refine⟨_,(Bc (Dl (Cd Dp (pv 0) Bv (Cj _))
    (Bc (Dl (Cd Dp (Br Dg (pv 2) Be) Be (Cj _))
    (Bi (Ce (Br Fc (pv 2) Be)))
    Cw)
   (Bi (Ce (Gw (Cd Dp (pv 1) Bv (Cj _)) (pv 2) (Br Fc (pv 2) Be)))))
    Cw)
   (Bi (Ce (Gw (Cd Dp (pv 1) (Bo (Ahp T) (hr.mono (by decide)) rfl T.m_qm T.F_qm.kp (Akq T) .nil Bx (Ba (pv 2) Bd)) (Cj _)) (pv 2) (Br Fc (pv 2) Be))))),?_⟩
 try dsimp only [Cl,Cb]
 refine Cv h (by decide) (Bk (Ds (Cy (EU.eb (Dz Bb (EU.eb Cg))))
    (Bk (Ds (Cy (EU.eb (Dz (EU.eb (Cp (fun _ _ _=>.int _) Bb (EU.eb Bf))) (EU.eb Bf))))
    (Dw (Dr (fun _ _ _=>.int _) Bb (EU.eb Bf)))
    Dj)
   (Dw (Nm (Cy (EU.eb (Dz Bb (EU.eb Cg)))) Bn (Dr (fun _ _ _=>.int _) Bb (EU.eb Bf)))))
    Dj)
   (Dw (Nm (Cy (EU.eb (Dz Bb (EU.eb (Fp (Bu Bb Bj)))))) Bn (Dr (fun _ _ _=>.int _) Bb (EU.eb Bf))))) (fun ps P hp=>?_)
 clear h hu hu64 hr
 obtain⟨k,w,v,rfl,q⟩:=hp
 walk_at "s"
 unfold lwF at q
 walk_at "p"
 by_cases h1:k = "num"
 ·rw[decide_eq_true h1]
  rw[if_pos h1] at q
  walk_at "p"
  all_goals try decide
  by_cases h2:v % 2 = 1
  ·rw[decide_eq_true h2]
   rw[if_pos h2] at q
   walk_at "p"
   exact q
  ·rw[decide_eq_false h2]
   rw[if_neg h2] at q
   walk_at "p"
   by_cases h3:w = "fore"
   ·rw[decide_eq_true h3]
    rw[if_pos h3] at q
    walk_at "p"
    exact q
   ·rw[decide_eq_false h3]
    rw[if_neg h3] at q
    walk_at "p"
    exact q
 ·rw[decide_eq_false h1]
  rw[if_neg h1] at q
  walk_at "p"
  refine⟨v,rfl,?_⟩
  walk_at "p"
  by_cases h3:w = wyF v
  ·rw[decide_eq_true h3]
   rw[if_pos h3] at q
   walk_at "p"
   exact q
  ·rw[decide_eq_false h3]
   rw[if_neg h3] at q
   walk_at "p"
   exact q
def AiG:PSp:=fun ps P=>∃ (U:List Sg) (M:List (Int × Int)) (J:List Jn) (ws:List (List Int)) (v:Int),ps = [.bk U M J,.lst (ws.map fun g:List Int=>PV.lst (g.map .int)),.int v]/\(∀ w ∈ ws,∃ n r,w = n :: r)/\ws.length <= 1000/\P (.lst ((rwF (mtF M) (ws.map (knW U M)) (ws.map hdF) v).map .int))
theorem AnY (T:Txt K mg t):Binds K t.d_qd ["book","row","level"] []:=T.F_qd.binds fun _ _ _ _ _ _ us hl=>match us,hl with | [_,_,_],_=>rfl
theorem AmI (T:Txt K mg t):FnOk P w K mg base CX0 4 t.f_qd t.d_qd ["book","row","level"] (spOf K t.C_Book [false,false,true] .fr AiG):=by
 refine T.F_qd.ok sc_qd (fun vs H Q E h=>h.len) (fun cdv A outer s H vs Q E hr h=>?_)
 have hu:=Cr hr
 have hu64:=hr.units
 refine⟨_,(Bc (Ra 1 [0] ["whole","book"] ["book"] rfl (Cu (pv 1)) rfl (fun j y e1 i e2=>match j,e1,e2 with | 0,e1,e2=>by cases e1; cases e2; exact⟨rfl,rfl,rfl,by decide +kernel⟩ | _ + 1,_,e2=>by simp at e2) (forall_mem_cons.mpr ⟨rfl,fun _ h=>nomatch h⟩) (by decide +kernel) (fun _ _ _ _=>(Bq (i:=0) (show Nodup (["whole","book"]:List Str) by decide +kernel) rfl (Or.inl rfl))) (fun _ _ _ _=>Gh) (fun _ _ _ _=>(Bo (Ahb T) (hr.mono (by decide)) rfl T.m_qc T.F_qc.kp (AjW T) .nil Bx (Ba (pv 1) (Ba (pv 0) Bd)))) rfl (by decide +kernel) rfl (by decide +kernel) (fun _=>rfl) (i:=3) sc_qd.nd rfl (Or.inl rfl) rfl)
   (Bc (Rp 1 ["whole"] rfl rfl (Cu (pv 1)) (fun _ _ _ _=>(Bq (i:=0) (show Nodup (["whole"]:List Str) by decide +kernel) rfl (Or.inl rfl))) (fun _ _ _ _=>Gh) (fun _ _ _ _=>(Ci (Ck K) (pv 0) Be (fun _ _=>rfl))) (by decide +kernel) (by decide +kernel) rfl (by decide +kernel) (fun _=>rfl) (i:=4) sc_qd.nd rfl (Or.inl rfl) rfl)
   (Bc (Bm (i:=5) sc_qd.nd rfl (Or.inl rfl) (Bo (AnK T) (hr.mono (by decide)) rfl T.m_qs T.F_qs.kp (Aoi T) .nil Bx (Ba (pv 0) (Ba (pv 3) (Ba (pv 4) (Ba (Bo (Ahp T) (hr.mono (by decide)) rfl T.m_qm T.F_qm.kp (Akq T) .nil Bx (Ba (pv 2) Bd)) Bd))))))
   (Bi (Ce (Gm 2 [2] ["kind","way","level"] ["level"] rfl (Tf K (pv 3) (pv 5) rfl T.z_zip) rfl (fun j y e1 i e2=>match j,e1,e2 with | 0,e1,e2=>by cases e1; cases e2; exact⟨rfl,rfl,rfl,by decide +kernel⟩ | _ + 1,_,e2=>by simp at e2) (forall_mem_cons.mpr ⟨rfl,fun _ h=>nomatch h⟩) (by decide +kernel) (fun _ _ _ _=>(Ga (K':=K) (n:=2) rfl rfl (Cf (Bq (i:=0) (show Nodup (["kind","way","level"]:List Str) by decide +kernel) rfl (Or.inl rfl)) (Cf (Bq (i:=1) (show Nodup (["kind","way","level"]:List Str) by decide +kernel) rfl (Or.inl rfl)) Fa)))) (fun _ _ _ _=>Gh) (fun _ _ _ _=>(Bo (AmS T) (hr.mono (by decide)) rfl T.m_qj T.F_qj.kp (AnT T) .nil Bx (Ba (pv 0) (Ba (pv 1) (Ba (pv 2) Bd))))) rfl (by decide +kernel) rfl (by decide +kernel))))))),?_⟩
 try dsimp only [Cl,Cb]
 refine Cv h (by decide) (Bk (Bw (EF.eu (Fu Bb (Ca (top:=1)) Gr (Fp (Bu Bb (Bu Bb Bj))))))
   (Bk (Bw (EF.eu (Fu Bb (Ca (top:=1)) Gr (Da Bb (EU.eb Bf)))))
   (Bk (Bw (EF.eu (Dm (Bu Bb (Bp Bn (Bu Bb (Bp (Fp (Bu Bb Bj)) Bj)))))))
   (Nu (AaJ Bb Bb (Gx (Dc (Ca (top:=2)) (Dc (Ca (top:=2)) Gi))) Gr (Fp (Bu Bb (Bu Bb (Bp Bn Bj))))))))) (fun ps P hp=>?_)
 clear h hu hu64 hr
 obtain⟨U,M,J,ws,v,rfl,hw,hl,q⟩:=hp
 walk_at "s"
 unfold rwF at q
 walk_at "p"
 walk_at "me"
 refine Fb (S:=ws) (enc:=fun g:List Int=>PV.lst (g.map .int)) (f:=fun g=>some (.str (knW U M g))) ?_ (fun d hd Z hZ=>?_)
 rotate_left
 ·obtain⟨n,r,rfl⟩:=hw d hd
  walk_at "c"
  walk_at "p"
  refine⟨U,M,J,n,r,rfl,?_⟩
  exact hZ
 rw[show ws.filterMap (fun g=>some (PV.str (knW U M g))) = (ws.map (knW U M)).map .str by rw[map_map]; exact congrFun (filterMap_eq_map' (f:=fun g=>PV.str (knW U M g))) _]
 walk_at "p"
 walk_at "me"
 refine Fb (S:=ws) (enc:=fun g:List Int=>PV.lst (g.map .int)) (f:=fun g=>some (.int (hdF g))) ?_ (fun d hd Z hZ=>?_)
 rotate_left
 ·obtain⟨n,r,rfl⟩:=hw d hd
  walk_at "c"
  walk_at "p"
  refine Ff (l:=n :: r) (f:=PV.int) (j:=0) (a:=n) rfl rfl ?_
  exact hZ
 rw[show ws.filterMap (fun g=>some (PV.int (hdF g))) = (ws.map hdF).map .int by rw[map_map]; exact congrFun (filterMap_eq_map' (f:=fun g=>PV.int (hdF g))) _]
 walk_at "p"
 refine⟨v,rfl,?_⟩
 walk_at "p"
 refine⟨U,M,J,ws.map (knW U M),ws.map hdF,wyF v,rfl,by rw[length_map,length_map],by rw[length_map]; omega,?_⟩
 walk_at "p"
 refine⟨by rw[length_map,length_map]; omega,?_⟩
 rw[Sz]
 refine Fb (S:=(ws.map (knW U M)).zip (wrF (mtF M) (ws.map (knW U M)) (ws.map hdF) (wyF v))) (enc:=fun z:Str × Str=>PV.tup [.str z.1,.str z.2]) (f:=fun z=>some (.int (lwF z.1 z.2 v))) ?_ (fun d hd Z hZ=>?_)
 rotate_left
 ·walk_at "c"
  walk_at "p"
  refine⟨d.1,d.2,v,rfl,?_⟩
  exact hZ
 generalize (ws.map (knW U M)).zip (wrF (mtF M) (ws.map (knW U M)) (ws.map hdF) (wyF v)) = Z at q
 rw[show Z.filterMap (fun z:Str × Str=>some (PV.int (lwF z.1 z.2 v))) = (Z.map fun z=>lwF z.1 z.2 v).map .int by rw[map_map]; exact congrFun (filterMap_eq_map' (f:=fun z:Str × Str=>PV.int (lwF z.1 z.2 v))) _]
 exact q
def Alv:PSp:=fun ps P=>∃ U M J ts o m,ps = [.bk U M J,.lst (map .int ts),opP o,.int m]/\ts.length <= 300/\P (.lst ((Do (mtF M) (knL U M ts) (bsL U M ts) (o.getD (obF 0 (knL U M ts))) m).map .int))
theorem Amc (T:Txt K mg t):Binds K t.d_qbq ["book","text","base","most"] [t.v_levels_of_0,t.v_levels_of_1]:=T.F_qbq.binds 2 rfl fun _ _ _ _ _ _ us hl=>match us,hl with | [_,_],_=>⟨_,rfl,rfl⟩
theorem Alb (T:Txt K mg t):Binds K t.d_qbq ["book","text","base","most"] [t.v_levels_of_1]:=T.F_qbq.binds 3 rfl fun _ _ _ _ _ _ us hl=>match us,hl with | [_,_,_],_=>⟨_,rfl,rfl⟩
theorem Ox (T:Txt K mg t):Binds K t.d_qbq ["book","text","base","most"] []:=T.F_qbq.binds 4 rfl fun _ _ _ _ _ _ us hl=>match us,hl with | [_,_,_,_],_=>⟨_,rfl,rfl⟩
theorem Lx (T:Txt K mg t):FnOk P w K mg base CX0 7 t.f_qbq t.d_qbq ["book","text","base","most"] (spOf K t.C_Book [false,false,true,false] .fr Alv):=by
 refine T.F_qbq.ok sc_qbq (fun vs H Q E h=>h.len) (fun cdv A outer s H vs Q E hr h=>?_)
 have hu:=Cr hr
 have hu64:=hr.units
 refine⟨_,(Bc (Bm (i:=4) sc_qbq.nd rfl (by first | exact Or.inl rfl | exact Or.inr rfl) (Bo (Aeb T) (hr.mono (by decide)) rfl T.m_qbr T.F_qbr.kp (AgU T) .nil Bx (Ba (pv 0) (Ba (pv 1) Bd))))
   (Bc (Bm (i:=5) sc_qbq.nd rfl (Or.inl rfl) (Bo (Anh T) (hr.mono (by decide)) rfl T.m_qo T.F_qo.kp (Aob T) .nil Bx (Ba (pv 0) (Ba (pv 1) (Ba (pv 2) Bd)))))
   (Bc (Bm (i:=6) sc_qbq.nd rfl (Or.inl rfl) (Br Abi (Co (Ba (pv 5) Bd)) (Ct (Cq K) rfl T.z_len PySem.boot_len (Ba (pv 4) Bd))))
   (Bc (Bm (i:=7) sc_qbq.nd rfl (Or.inl rfl) (Bo (AjM T) (hr.mono (by decide)) rfl T.m_qbw T.F_qbw.kp (Am1 T) .nil Bx (Ba (pv 0) (Ba (pv 1) (Ba (pv 5) (Ba (pv 3) Bd))))))
   (Bc (Dk PassesOwn.never rfl (Cu (Bo (AnH T) (hr.mono (by decide)) rfl T.m_ql T.F_ql.kp (Aoa T) .nil Bx (Ba (pv 7) (Ba (Ct (Cq K) rfl T.z_len PySem.boot_len (Ba (pv 4) Bd)) (Ba (pv 5) Bd))))) (Ga (K':=K) (n:=2) rfl rfl (Cf (Bq (i:=8) sc_qbq.nd rfl (Or.inl rfl)) (Cf (Bq (i:=9) sc_qbq.nd rfl (Or.inl rfl)) Fa)))
    (Bc (Bm (i:=10) sc_qbq.nd rfl (Or.inl rfl) (Bo (AmI T) (hr.mono (by decide)) rfl T.m_qd T.F_qd.kp (AnY T) .nil Bx (Ba (pv 0) (Ba (Gm 1 [4] ["k","wholes"] ["wholes"] rfl (Cu (pv 9)) rfl (fun j y e1 i e2=>match j,e1,e2 with | 0,e1,e2=>by cases e1; cases e2; exact⟨rfl,rfl,rfl,by decide +kernel⟩ | _ + 1,_,e2=>by simp at e2) (forall_mem_cons.mpr ⟨rfl,fun _ h=>nomatch h⟩) (by decide +kernel) (fun _ _ _ _=>(Bq (i:=0) (show Nodup (["k","wholes"]:List Str) by decide +kernel) rfl (Or.inl rfl))) (fun _ _ _ _=>Gh) (fun _ _ _ _=>(Ci (Ck K) (pv 1) (pv 0) (fun _ _=>rfl))) rfl (by decide +kernel) rfl (by decide +kernel)) (Ba (pv 8) Bd)))))
   (Bi (Dk PassesOwn.never rfl (Tf K (pv 9) (pv 10) rfl T.z_zip) (Ga (K':=K) (n:=2) rfl rfl (Cf (Bq (i:=11) sc_qbq.nd rfl (Or.inl rfl)) (Cf (Bq (i:=12) sc_qbq.nd rfl (Or.inl rfl)) Fa)))
    (Bi (Si (pv 12) (Rv (pv 6) (pv 11) Nf)))))))
   (Bi (Ce (pv 6)))))))),?_⟩
 try dsimp only [Cl,Cb]
 refine Cv h (by decide) (Bk (Bw (Ael (Bu Bb (Bu Bb Bj))))
   (Bk (Bw (Fp (Bu Bb (Bu Bb (Bp Bn Bj)))))
   (Bk (Dv (Ad8 (EF.eb (Db 1 (Bp Bn Bj))) (EU.eb (Fo (Bu Bb Bj)))))
   (Bk (Bw (EF.eu (Dm (Bu Bb (Bu Bb (Bp Bn (Bu Bb Bj)))))))
   (Bk (Us (Fp (Bu Bb (Bp (Fo (Bu Bb Bj)) (Bp Bn Bj)))) (Gx (Dc (Ca (top:=13)) (Dc (Ca (top:=13)) Gi)))
    (Bk (Bw (EF.eu (Dm (Bu Bb (Bu (EF.eb (Fu Bb (Ca (top:=1)) Gr (Da Bb Bb))) (Bp Bn Bj))))))
   (AbS Bn Bn (Gx (Dc (Ca (top:=13)) (Dc (Ca (top:=13)) Gi)))
    (Sb Bb Bn))))
   Gv))))) (fun ps P hp=>?_)
 clear h hu hu64 hr
 obtain⟨U,M,J,ts,o,m,rfl,hl,q⟩:=hp
 walk_at "s"
 have go:=Ly (Dd U M) ts
 have gl:=go.ln
 walk_at "p"
 refine⟨U,M,J,ts,rfl,hl,?_⟩
 walk_at "p"
 refine⟨U,M,J,ts,o,rfl,hl,?_⟩
 walk_at "x"
 have kl:(knL U M ts).length = (grp (Dd U M) ts).length:=by unfold knL; rw[length_map]
 unfold Do bsL at q
 have ne:∀ w ∈ grp (Dd U M) ts,∃ n r,w = n :: r:=fun w hw=>by
  obtain⟨n,r,e,_⟩:=go.ne w hw
  exact⟨n,r,e⟩
 have kn:knL U M ts = (grp (Dd U M) ts).map (knW U M):=rfl
 generalize o.getD (obF 0 (knL U M ts)) = b at q
 refine Jd ?_
 walk_at "x"
 all_goals try (first | exact⟨by rw[length_map]; omega,by rw[length_map]; omega⟩ | decide)
 refine Jd ?_
 walk_at "x"
 refine⟨U,M,J,ts,b,m,rfl,hl,?_⟩
 walk_at "p"
 rw[length_map,toNat_natCast]
 obtain⟨S,hS⟩:=NI.all (kn:=knL U M ts) (b:=b) (m:=m) (fun _ _=>trivial) (knL U M ts).length (Nat.le_refl _)
 have nend:=hS.end
 have dl:=Aau (kn:=knL U M ts) (b:=b) (m:=m) (knL U M ts).length
 refine⟨dF (knL U M ts) b m (knL U M ts).length,(grp (Dd U M) ts).length,b,rfl,by omega,by omega,fun x hx=>by rw[<- kl]; exact⟨Nat.le_of_lt ((Yv _).1 x hx),nend x hx⟩,?_⟩
 rw[<- kl]
 have rk:rsF (stF (dF (knL U M ts) b m (knL U M ts).length) (knL U M ts).length b) (hmF (stF (dF (knL U M ts) b m (knL U M ts).length) (knL U M ts).length b) (knL U M ts).length (stF (dF (knL U M ts) b m (knL U M ts).length) (knL U M ts).length b).length) = Jb (knL U M ts) b m:=rfl
 have rok:=Aj3 (St:=stF (dF (knL U M ts) b m (knL U M ts).length) (knL U M ts).length b) (hs:=hmF (stF (dF (knL U M ts) b m (knL U M ts).length) (knL U M ts).length b) (knL U M ts).length (stF (dF (knL U M ts) b m (knL U M ts).length) (knL U M ts).length b).length)
 have stl:=Ai3 (dF (knL U M ts) b m (knL U M ts).length) (knL U M ts).length b
 rw[rk,Nw] at rok
 rw[rk]
 generalize Jb (knL U M ts) b m = rows at q rok
 rw[kl] at rok stl dl q
 generalize dF (knL U M ts) b m (knL U M ts).length = DD at *
 rw[kl]
 rw[kn] at q
 generalize grp (Dd U M) ts = ws at *
 clear rk hS nend
 unfold lvA at q
 walk_at "p"
 refine⟨fun j ρ=>∃ (acc:List Int) (v8 v9 v10 v11 v12:Sl),ρ = [.bo (.bk U M J),.bo (.lst (ts.map .int)),.sh (opP o),.bo (.int m),.sh (.lst (ws.map fun g:List Int=>PV.lst (g.map .int))),.sh (.int b),.ow (.lst (acc.map .int)),.sh (.lst (DD.map nP)),v8,v9,v10,v11,v12]/\acc.length = ws.length/\(rows.drop j).foldl (fun l r=>lpF l r.2 (rwF (mtF M) (pkF (ws.map (knW U M)) r.2) (pkF (ws.map hdF) r.2) r.1)) acc = rows.foldl (fun l r=>lpF l r.2 (rwF (mtF M) (pkF (ws.map (knW U M)) r.2) (pkF (ws.map hdF) r.2) r.1)) (replicate ws.length b),⟨replicate ws.length b,_,_,_,_,_,by rw[List.map_replicate],length_replicate,rfl⟩,?_,?_⟩
 ·rintro j p ρ hp ⟨acc,v8,v9,v10,v11,v12,rfl,al,he⟩
  rw[getElem?_map] at hp
  obtain⟨r,hr,rfl⟩:=map_eq_some_iff.mp hp
  obtain⟨hi,rfl⟩:=List.getElem?_eq_some_iff.mp hr
  rw[drop_eq_getElem_cons hi,foldl_cons] at he
  obtain⟨rk1,rk2⟩:=rok.2 _ (getElem_mem hi)
  generalize rows[j] = r at *
  rw[Ad9 _ ws _ rk2,Ad9 _ ws _ rk2] at he
  rw[show rsP r = .tup [.int r.1,.lst (r.2.map fun k:Nat=>.int k)] from rfl]
  walk_at "p"
  walk_at "me"
  refine Fb (S:=r.2) (enc:=fun k:Nat=>PV.int k) (f:=fun k=>some (.lst (((ws[k]?).getD default).map .int))) ?_ (fun d hd Z hZ=>?_)
  rotate_left
  ·have hdl:=rk2 d hd
   rw[getElem?_eq_getElem hdl] at hZ
   walk_at "c"
   walk_at "p"
   refine Ff (l:=ws) (f:=fun g:List Int=>PV.lst (g.map .int)) (j:=d) (a:=ws[d]) (getElem?_eq_getElem hdl) rfl ?_
   exact hZ
  rw[show r.2.filterMap (fun k=>some (PV.lst (((ws[k]?).getD default).map .int))) = (pkF ws r.2).map (fun g:List Int=>PV.lst (g.map .int)) by unfold pkF; rw[map_map]; exact congrFun (filterMap_eq_map' (f:=fun k:Nat=>PV.lst (((ws[k]?).getD default).map .int))) _]
  walk_at "p"
  refine⟨U,M,J,pkF ws r.2,r.1,rfl,fun w hw=>?_,by unfold pkF; rw[length_map]; omega,?_⟩
  ·unfold pkF at hw
   obtain⟨k,hk,rfl⟩:=mem_map.mp hw
   have hkl:=rk2 k hk
   rw[getElem?_eq_getElem hkl]
   exact ne _ (getElem_mem hkl)
  generalize rwF (mtF M) ((pkF ws r.2).map (knW U M)) ((pkF ws r.2).map hdF) r.1 = vals at he
  walk_at "p"
  rw[Sz]
  unfold lpF at he
  have zk:∀ z ∈ r.2.zip vals,z.1 < ws.length:=fun z hz=>rk2 _ (of_mem_zip hz).1
  generalize r.2.zip vals = zs at he zk
  refine⟨fun i ρ=>∃ (ac:List Int) (v11 v12:Sl),ρ = [.bo (.bk U M J),.bo (.lst (ts.map .int)),.sh (opP o),.bo (.int m),.sh (.lst (ws.map fun g:List Int=>PV.lst (g.map .int))),.sh (.int b),.ow (.lst (ac.map .int)),.sh (.lst (DD.map nP)),.sh (.int r.1),.sh (.lst (r.2.map fun k:Nat=>.int k)),.sh (.lst (vals.map .int)),v11,v12]/\ac.length = ws.length/\(zs.drop i).foldl (fun l p=>l.set p.1 p.2) ac = zs.foldl (fun l p=>l.set p.1 p.2) acc,⟨acc,_,_,rfl,al,rfl⟩,?_,?_⟩
  ·rintro i p ρ hp ⟨ac,v11,v12,rfl,al2,he2⟩
   rw[getElem?_map] at hp
   obtain⟨z,hz,rfl⟩:=map_eq_some_iff.mp hp
   obtain⟨hi2,rfl⟩:=List.getElem?_eq_some_iff.mp hz
   rw[drop_eq_getElem_cons hi2,foldl_cons] at he2
   have zk2:=zk _ (getElem_mem hi2)
   generalize zs[i] = z at *
   walk_at "p"
   refine Ux rfl (Ti (j:=z.1) (by rw[length_map]; omega)) ?_
   walk_at "p"
   rw[<- map_set]
   exact⟨_,_,_,rfl,by rw[length_set,al2],he2⟩
  ·rintro ρ ⟨ac,v11,v12,rfl,al2,he2⟩
   rw[length_map,drop_length,foldl_nil] at he2
   rw[<- he2] at he
   exact⟨ac,_,_,_,_,_,rfl,al2,he⟩
 ·rintro ρ ⟨acc,v8,v9,v10,v11,v12,rfl,al,he⟩
  rw[length_map,drop_length,foldl_nil] at he
  walk_at "p"
  rw[he]
  exact q
def cR (ns:List Int) (k:Nat):Int:=(ns[k]?).getD 0
def Ama:PSp:=fun ps P=>∃ ns k,ps = [.scr ns,.int (k:Nat)]/\ns.length <= 63/\P (.int (cR ns k))
theorem AcG (T:Txt K mg t):Binds K t.d_qp ["_law_script","_law_k"] []:=T.F_qp.binds fun _ _ _ _ _ _ us hl=>match us,hl with | [_,_],_=>rfl
theorem Xv (T:Txt K mg t):FnOk P w K mg base CX0 1 t.f_qp t.d_qp ["_law_script","_law_k"] (spOf K t.C_Book [false,false] .sh Ama):=by
 refine T.F_qp.ok Amk (fun vs H Q E h=>h.len) (fun cdv A outer s H vs Q E hr h=>?_)
 have hu:=Cr hr
 have hu64:=hr.units
 refine⟨_,(Bc (Dl (Cd AmN (pv 1) (Ct (Cq K) rfl T.z_len PySem.boot_len (Ba (pv 0) Bd)) (Cj _))
    (Bi (Ce (Ci (Ck K) (pv 0) (pv 1) (fun _ _=>rfl))))
    Cw)
   (Bi (Ce Be))),?_⟩
 try dsimp only [Cl,Cb]
 refine Cv h (by decide) (Bk (Ds (Cy (EU.eb (Dr (fun _ _ _=>.bl _) Bb (EU.eb (Fo (Bu Bb Bj))))))
    (Dw (Da Bb Bb))
    Dj)
   (Dw Bf)) (fun ps P hp=>?_)
 clear h hu hu64 hr
 obtain⟨ns,k,rfl,hl,q⟩:=hp
 walk_at "s"
 unfold cR at q
 walk_at "p"
 by_cases hk:k < ns.length
 ·rw[decide_eq_true (by omega:(k:Int) < (ns.length:Int))]
  rw[getElem?_eq_getElem hk] at q
  walk_at "p"
  refine Ang (n:=ns[k]) (Gd (getElem?_eq_getElem hk)) ?_
  walk_at "p"
  exact q
 ·rw[decide_eq_false (by omega:¬ (k:Int) < (ns.length:Int))]
  rw[getElem?_eq_none (by omega)] at q
  walk_at "p"
  exact q
theorem Aaz {n:Nat} {f:Nat->Option PV} {P:PV->Prop} {ug:PV->Bg->(Bg->Prop)->Prop} {ta:UT} {ue:UE} {ρ':Bg} (hn:n < 100000) (q:P (.lst ((range n).filterMap f))) (h:∀ k,k < n->∀ Z:Option PV->Prop,Z (f k)->ug (.int (k:Int)) ρ' fun ρ2=>ta ρ2 fun b=>if b = true then ue ρ2 fun q=>Z (some q) else Z none):Aam ug ta ue ρ' P [.int (n:Int)]:=by
 refine⟨_,rfl,by omega,by omega,fun k rs=>rs = (range k).filterMap f,rfl,fun k rs hk hr=>?_,fun rs hr=>?_⟩
 ·subst hr
  rw[toNat_natCast] at hk
  rw[Int.zero_add]
  refine h k hk (fun o=>(match o with | some q=>(range k).filterMap f ++ [q] | none=>(range k).filterMap f) = (range (k + 1)).filterMap f) ?_
  rw[List.range_succ,List.filterMap_append]
  cases e:f k with
  | none=>simp [filterMap_cons,e]
  | some x=>simp [filterMap_cons,e]
 ·rw[toNat_natCast] at hr
  rw[hr]; exact q
def byL:List Int:=[1,3,5,9,11,13,15,17]
def byF (c:Int):Int:=(byL[(c % 8).toNat]?).getD 1
def s2F (c:Int) (k:Nat):Int:=c / 8 % 10 ^ 28 + (1 + c / 64 % 10 ^ 26) * (((k:Int) * byF c + c / 512) % 28)
def s2L (c:Int):List Int:=(range 28).map (s2F c)
def AjE:PSp:=fun ps P=>∃ c:Int,ps = [.int c]/\0 <= c/\P (.lst ((s2L c).map .int))
theorem Am0 (T:Txt K mg t):Binds K t.d_qbo ["_law_cell"] []:=T.F_qbo.binds fun _ _ _ _ _ _ us hl=>match us,hl with | [_],_=>rfl
theorem Alj (T:Txt K mg t):FnOk P w K mg base CX0 1 t.f_qbo t.d_qbo ["_law_cell"] (spOf K t.C_Book [false] .fr AjE):=by
 refine T.F_qbo.ok sc_qbo (fun vs H Q E h=>h.len) (fun cdv A outer s H vs Q E hr h=>?_)
 have hu:=Cr hr
 have hu64:=hr.units
 refine⟨_,(Bc (Bm (i:=1) sc_qbo.nd rfl (by first | exact Or.inl rfl | exact Or.inr rfl) (Ci (Ck K) (Co (Ba Be (Ba Be (Ba Be (Ba Be (Ba Be (Ba Be (Ba Be (Ba Be Bd))))))))) (Br Dg (pv 0) Be) (fun _ _=>rfl)))
   (Bc (Bm (i:=2) sc_qbo.nd rfl (by first | exact Or.inl rfl | exact Or.inr rfl) (Br Dg (Br Fi (pv 0) Be) (Br Lc Be Be)))
   (Bc (Bm (i:=3) sc_qbo.nd rfl (by first | exact Or.inl rfl | exact Or.inr rfl) (Br Fc Be (Br Dg (Br Fi (pv 0) Be) (Br Lc Be Be))))
   (Bi (Ce (Gm 1 [2,3,1,0] ["_law_k","_law_low","_law_step","_law_by","_law_cell"] ["_law_step","_law_low","_law_cell","_law_by"] rfl (Na rfl T.z_range (Ba Be Bd)) rfl (fun j y e1 i e2=>match j,e1,e2 with | 0,e1,e2=>by cases e1; cases e2; exact⟨rfl,rfl,rfl,by decide +kernel⟩ | 1,e1,e2=>by cases e1; cases e2; exact⟨rfl,rfl,rfl,by decide +kernel⟩ | 2,e1,e2=>by cases e1; cases e2; exact⟨rfl,rfl,rfl,by decide +kernel⟩ | 3,e1,e2=>by cases e1; cases e2; exact⟨rfl,rfl,rfl,by decide +kernel⟩ | _ + 4,_,e2=>by simp at e2) (forall_mem_cons.mpr ⟨rfl,forall_mem_cons.mpr ⟨rfl,forall_mem_cons.mpr ⟨rfl,forall_mem_cons.mpr ⟨rfl,fun _ h=>nomatch h⟩⟩⟩⟩) (by decide +kernel) (fun _ _ _ _=>(Bq (i:=0) (show Nodup (["_law_k","_law_low","_law_step","_law_by","_law_cell"]:List Str) by decide +kernel) rfl (Or.inl rfl))) (fun _ _ _ _=>Gh) (fun _ _ _ _=>(Br Fc (pv 1) (Br Sm (pv 2) (Br Dg (Br Fc (Br Sm (pv 0) (pv 3)) (Br Fi (pv 4) Be)) Be)))) rfl (by decide +kernel) rfl (by decide +kernel))))))),?_⟩
 try dsimp only [Cl,Cb]
 refine Cv h (by decide) (Bk (Bw (Da (EF.eb (Db 8 (Bp Bf (Bp Bf (Bp Bf (Bp Bf (Bp Bf (Bp Bf (Bp Bf (Bp Bf Bj)))))))))) (EU.eb (Cp (fun _ _ _=>.int _) Bb (EU.eb Bf)))))
   (Bk (Bw (Cp (fun _ _ _=>.int _) (EU.eb (Cp (fun _ _ _=>.int _) Bb (EU.eb Bf))) (EU.eb (Cp (fun _ _ _=>.int _) (EU.eb Bf) (EU.eb Bf)))))
   (Bk (Bw (Dr (fun _ _ _=>.int _) (EU.eb Bf) (EU.eb (Cp (fun _ _ _=>.int _) (EU.eb (Cp (fun _ _ _=>.int _) Bb (EU.eb Bf))) (EU.eb (Cp (fun _ _ _=>.int _) (EU.eb Bf) (EU.eb Bf)))))))
   (Nu (Zz (Bu (EU.eb Bf) Bj) (Ca (top:=1)) Gr (Dr (fun _ _ _=>.int _) Bb (EU.eb (Cp (fun _ _ _=>.int _) Bb (EU.eb (Cp (fun _ _ _=>.int _) (EU.eb (Dr (fun _ _ _=>.int _) (EU.eb (Cp (fun _ _ _=>.int _) Bb Bb)) (EU.eb (Cp (fun _ _ _=>.int _) Bb (EU.eb Bf))))) (EU.eb Bf))))))))))) (fun ps P hp=>?_)
 clear h hu hu64 hr
 obtain⟨c,rfl,hc,q⟩:=hp
 walk_at "s"
 have h1:=emod_nonneg c (show (8:Int) ≠ 0 by decide)
 have h2:=emod_lt_of_pos c (show (0:Int) < 8 by decide)
 have hj:(c % 8).toNat < byL.length:=by show _ < 8; omega
 have eb:byL[(c % 8).toNat]? = some (byF c):=by unfold byF; rw[getElem?_eq_getElem hj]; rfl
 walk_at "p"
 walk_at "md"
 refine Ff (l:=byL) (f:=PV.int) (j:=(c % 8).toNat) (a:=byF c) eb (by omega) ?_
 walk_at "p"
 walk_at "md"
 have hb:0 <= byF c/\byF c < 20:=by
  have:∀ x ∈ byL,0 <= x/\x < 20:=by decide
  exact this _ (mem_of_getElem? eb)
 refine Aaz (n:=28) (f:=fun k=>some (.int (s2F c k))) (by decide) ?_ (fun k hk Z hZ=>?_)
 rotate_left
 ·walk_at "c"
  walk_at "p"
  walk_at "mb"
  have g1:=emod_nonneg ((k:Int) * byF c + c / 512) (show (28:Int) ≠ 0 by decide)
  have g2:=emod_lt_of_pos ((k:Int) * byF c + c / 512) (show (0:Int) < 28 by decide)
  all_goals try (first | exact .inr ⟨by omega,by omega⟩ | exact .inl ⟨by omega,by omega⟩)
  exact hZ
 rw[show (range 28).filterMap (fun k=>some (PV.int (s2F c k))) = (s2L c).map .int by unfold s2L; rw[map_map]; exact congrFun (filterMap_eq_map' (f:=fun k=>PV.int (s2F c k))) _]
 exact q
theorem T2.nil {sg:List Int}:T2 sg []:=⟨fun k s h=>by simp at h,fun k s h=>by simp at h⟩
theorem T2.snoc {sg:List Int} {U:List Sg} (h:T2 sg U) {s:Sg} (h1:sg[U.length]? = some s.1) (h2:s.2.1 ∈ toldK) (h3:Nb s.2.1 s.2.2) (h4:U.length < 8->toldK[U.length]? = some s.2.1):T2 sg (U ++ [s]):=by
 refine⟨fun k x e=>?_,fun k x e hk=>?_⟩
 ·rcases Jv e with e | ⟨rfl,rfl⟩
  ·exact h.at' k x e
  ·exact⟨h1,h2,h3⟩
 ·rcases Jv e with e | ⟨rfl,rfl⟩
  ·exact h.wd k x e hk
  ·exact h4 hk
def Al3:PSp:=fun ps P=>∃ (c m:Int) (sg:List Int),ps = [.int c,.int m,.lst (sg.map .int)]/\0 <= m/\sg.length = 28/\∀ U:List Sg,U.length = 14->T2 sg U->P (.lst (U.map sgP))
theorem AmV (T:Txt K mg t):Binds K t.d_qbv ["_law_cell","_law_more","_law_signs_here"] []:=T.F_qbv.binds fun _ _ _ _ _ _ us hl=>match us,hl with | [_,_,_],_=>rfl
theorem Amh (T:Txt K mg t):FnOk P w K mg base CX0 1 t.f_qbv t.d_qbv ["_law_cell","_law_more","_law_signs_here"] (spOf K t.C_Book [false,true,false] .fr Al3):=by
 refine T.F_qbv.ok sc_qbv (fun vs H Q E h=>h.len) (fun cdv A outer s H vs Q E hr h=>?_)
 have hu:=Cr hr
 have hu64:=hr.units
 refine⟨_,(Bc (Bm (i:=3) sc_qbv.nd rfl (Or.inl rfl) (Co (Ba Bv (Ba Bv (Ba Bv (Ba Bv (Ba Bv (Ba Bv (Ba Bv (Ba Bv Bd))))))))))
   (Bc (Bm (i:=4) sc_qbv.nd rfl (Or.inl rfl) (Co Bd))
   (Bc (Dk PassesOwn.never rfl (Na rfl T.z_range (Ba Be Bd)) (Bq (i:=5) sc_qbv.nd rfl (Or.inl rfl))
    (Bc (Bm (i:=6) sc_qbv.nd rfl (Or.inl rfl) (Ci (Ck K) (pv 3) (Br Dg (pv 5) Be) (fun _ _=>rfl)))
   (Bc (Dl (Cd Uq (pv 5) Be (Cj _))
    (Bc (Bm (i:=6) sc_qbv.nd rfl (Or.inl rfl) (Ci (Ck K) (pv 3) (Br Dg (pv 1) Be) (fun _ _=>rfl)))
   (Bi (Bm (i:=1) sc_qbv.nd rfl (Or.inl rfl) (Br Fi (pv 1) Be))))
    Cw)
   (Bc (Bm (i:=7) sc_qbv.nd rfl (Or.inl rfl) Be)
   (Bc (Dl (Cd Dp (pv 6) Bv (Cj _))
    (Bc (Bm (i:=7) sc_qbv.nd rfl (Or.inl rfl) (Br Sm (Br Fc Be (Br Dg (pv 1) Be)) (Ci (Ck K) (Co (Ba Be (Ba (Br Lc Be Be) Bd))) (Br Dg (Br Fi (pv 0) Be) Be) (fun _ _=>rfl))))
   (Bi (Bm (i:=1) sc_qbv.nd rfl (Or.inl rfl) (Br Fi (pv 1) Be))))
    Cw)
   (Bi (Cn (Fx plainAttrs_list PySem.F.slot_list_append PySem.F.type_list_append Df (pv 4) (Ba (Fw (Ba (Ci (Ck K) (pv 2) (pv 5) (fun _ _=>rfl)) (Ba (pv 6) (Ba (pv 7) Bd)))) Bd)))))))))
   (Bi (Ce (pv 4)))))),?_⟩
 try dsimp only [Cl,Cb]
 refine Cv h (by decide) (Bk (Bw (EF.eu (Db 8 (Bp Cg (Bp Cg (Bp Cg (Bp Cg (Bp Cg (Bp Cg (Bp Cg (Bp Cg Bj)))))))))))
   (Bk (Dv (Db 0 Bj))
   (Bk (AbG (Bu (EU.eb Bf) Bj) (Ca (top:=8))
    (Bk (Bw (Da Bb (EU.eb (Cp (fun _ _ _=>.int _) Bb (EU.eb Bf)))))
   (Bk (Ds (Cy (EU.eb (Dr (fun _ _ _=>.bl _) Bb (EU.eb Bf))))
    (Bk (Bw (Da Bb (EU.eb (Cp (fun _ _ _=>.int _) Bb (EU.eb Bf)))))
   (Bw (Cp (fun _ _ _=>.int _) Bb (EU.eb Bf))))
    Dj)
   (Bk (Bw Bf)
   (Bk (Ds (Cy (EU.eb (Dz Bb (EU.eb Cg))))
    (Bk (Bw (Cp (fun _ _ _=>.int _) (EU.eb (Dr (fun _ _ _=>.int _) (EU.eb Bf) (EU.eb (Cp (fun _ _ _=>.int _) Bb (EU.eb Bf))))) (EU.eb (Da (EF.eb (Db 2 (Bp Bf (Bp (Cp (fun _ _ _=>.int _) (EU.eb Bf) (EU.eb Bf)) Bj)))) (EU.eb (Cp (fun _ _ _=>.int _) (EU.eb (Cp (fun _ _ _=>.int _) Bb (EU.eb Bf))) (EU.eb Bf)))))))
   (Bw (Cp (fun _ _ _=>.int _) Bb (EU.eb Bf))))
    Dj)
   (Gc (Bp (Gq 3 (Bp (Da Bb Bb) (Bp Bn (Bp Bn Bj)))) Bj)))))))
   Gv))) (fun ps P hp=>?_)
 clear h hu hu64 hr
 obtain⟨c,m,sg,rfl,hm,hs,q⟩:=hp
 walk_at "s"
 have ew:([PV.str "fore",PV.str "back",PV.str "num",PV.str "blank",PV.str "mark",PV.str "forein",PV.str "backin",PV.str "out"]:List PV) = toldK.map PV.str:=rfl
 walk_at "p"
 rotate_left
 ·exact⟨by decide,by decide⟩
 rw[ew]
 refine⟨fun k ρ=>∃ (m:Int) (U:List Sg) (v5 v6 v7:Sl),ρ = [.bo (.int c),.sh (.int m),.bo (.lst (sg.map .int)),.sh (.lst (toldK.map PV.str)),.ow (.lst (U.map sgP)),v5,v6,v7]/\0 <= m/\U.length = k/\T2 sg U,⟨m,[],_,_,_,rfl,hm,rfl,T2.nil⟩,?_,?_⟩
 ·rintro k ρ hk ⟨m,U,v5,v6,v7,rfl,h0,ul,ht⟩
  have hk':k < 14:=hk
  rw[Int.zero_add]
  have wl:∀ i:Int,∃ w,toldK[(i % 8).toNat]? = some w/\w ∈ toldK/\i % 8 = ((i % 8).toNat:Int):=fun i=>by
   have g1:=emod_nonneg i (show (8:Int) ≠ 0 by decide)
   have g2:=emod_lt_of_pos i (show (0:Int) < 8 by decide)
   have hj:(i % 8).toNat < toldK.length:=by show _ < 8; omega
   exact⟨_,getElem?_eq_getElem hj,getElem_mem hj,by omega⟩
  walk_at "x"
  refine Jd ?_
  obtain⟨w0,hw0,hm0,he0⟩:=wl (k:Int)
  walk_at "x"
  all_goals try decide
  refine Ff (l:=toldK) (f:=PV.str) (j:=((k:Int) % 8).toNat) (a:=w0) hw0 he0 ?_
  walk_at "x"
  refine Nr (fun ρ=>∃ (m':Int) (w:Str),0 <= m'/\w ∈ toldK/\(k < 8->toldK[k]? = some w)/\ρ = [.bo (.int c),.sh (.int m'),.bo (.lst (sg.map .int)),.sh (.lst (toldK.map PV.str)),.ow (.lst (U.map sgP)),.sh (.int k),.sh (.str w),v7]) (fun ρ h=>?_) ?_
  rotate_left
  ·walk_at "p"
   by_cases h7:7 < k
   ·rw[decide_eq_true (by omega)]
    obtain⟨w1,hw1,hm1,he1⟩:=wl m
    walk_at "p"
    walk_at "mb"
    refine Ff (l:=toldK) (f:=PV.str) (j:=(m % 8).toNat) (a:=w1) hw1 he1 ?_
    walk_at "p"
    walk_at "mb"
    exact .inl ⟨m / 8,w1,by omega,hm1,fun z=>by omega,rfl⟩
   ·rw[decide_eq_false (by omega)]
    walk_at "p"
    exact .inl ⟨m,w0,h0,hm0,fun z=>by rw[show ((k:Int) % 8).toNat = k by omega] at hw0; exact hw0,rfl⟩
  obtain⟨m',w,hm',hw,hw8,rfl⟩:=h
  walk_at "x"
  refine Jd ?_
  walk_at "x"
  refine Nr (fun ρ=>∃ (m' r:Int),0 <= m'/\Nb w r/\ρ = [.bo (.int c),.sh (.int m'),.bo (.lst (sg.map .int)),.sh (.lst (toldK.map PV.str)),.ow (.lst (U.map sgP)),.sh (.int k),.sh (.str w),.sh (.int r)]) (fun ρ h=>?_) ?_
  rotate_left
  ·walk_at "p"
   by_cases hmk:w = "mark"
   ·rw[decide_eq_true hmk]
    have g1:=emod_nonneg (c / 16) (show (2:Int) ≠ 0 by decide)
    have g2:=emod_lt_of_pos (c / 16) (show (0:Int) < 2 by decide)
    obtain⟨f,hf,hf1⟩:∃ f:Int,([1,10 ^ 28]:List Int)[(c / 16 % 2).toNat]? = some f/\1 <= f:=by
     have hj:(c / 16 % 2).toNat < ([1,10 ^ 28]:List Int).length:=by show _ < 2; omega
     have:∀ x ∈ ([1,10 ^ 28]:List Int),1 <= x:=by decide
     exact⟨_,getElem?_eq_getElem hj,this _ (getElem_mem hj)⟩
    walk_at "p"
    walk_at "md"
    refine Ff (l:=([1,10 ^ 28]:List Int)) (f:=PV.int) (j:=(c / 16 % 2).toNat) (a:=f) hf (by omega) ?_
    have g3:=emod_nonneg m' (show (3:Int) ≠ 0 by decide)
    have g4:=emod_lt_of_pos m' (show (0:Int) < 3 by decide)
    walk_at "p"
    all_goals try (first | decide | exact⟨by decide,by decide⟩ | exact .inl ⟨by omega,by omega⟩)
    refine .inl ⟨m' / 3,(1 + m' % 3) * f,by omega,.inl ⟨hmk,?_⟩,rfl⟩
    have:=Int.mul_le_mul (show (1:Int) <= 1 + m' % 3 by omega) hf1 (by decide) (by omega)
    omega
   ·rw[decide_eq_false hmk]
    walk_at "p"
    exact .inl ⟨m',0,hm',.inr ⟨hmk,rfl⟩,rfl⟩
  obtain⟨m2,r,hm2,hr,rfl⟩:=h
  walk_at "p"
  have hk28:k < sg.length:=by omega
  refine Ff (l:=sg) (f:=PV.int) (j:=k) (a:=sg[k]) (getElem?_eq_getElem hk28) rfl ?_
  walk_at "p"
  rotate_left
  ·rw[length_map]; omega
  refine⟨m2,U ++ [(sg[k],w,r)],_,_,_,by rw[map_append]; rfl,hm2,by rw[length_append,ul]; rfl,ht.snoc (s:=(sg[k],w,r)) (by rw[ul]; exact getElem?_eq_getElem hk28) hw hr (by rw[ul]; exact hw8)⟩
 rintro ρ ⟨m,U,v5,v6,v7,rfl,h0,ul,ht⟩
 walk_at "p"
 exact q U ul ht
theorem Ahk {l:List Sg} {p:Sg->Prop} [DecidablePred p]:l.filterMap (fun s=>if p s then some (PV.int s.1) else none) = ((l.filter fun s=>decide (p s)).map (·.1)).map .int:=by
 induction l with
 | nil=>rfl
 | cons x r ih =>
  by_cases z:p x
  ·rw[List.filterMap_cons_some (by rw[if_pos z]),filter_cons_of_pos (by simp [z]),map_cons,map_cons,ih]
  ·rw[List.filterMap_cons_none (by rw[if_neg z]),filter_cons_of_neg (by simp [z]),ih]
def wdD (U:List Sg):List (Key × PV):=U.map fun s=>(Sum.inl s.1,.str s.2.1)
theorem Abm {U:List Sg} {k:Nat} {s:Sg} (nd:(U.map (·.1)).Nodup) (hs:U[k]? = some s):Lr (wdD (U.take k)) (.inl s.1) (.str s.2.1) = wdD (U.take (k + 1)):=by
 rw[Aat (kvs:=wdD (U.take k)) (fun z=>Ol (f:=fun s:Sg=>s.1) nd hs (AaN (f:=fun s:Sg=>s.1) z)),Dt hs]
 unfold wdD; rw[map_append]; rfl
theorem Aav (f:Nat->Int):Fe ((range 28).map fun k=>PV.int (f k)) (some 24) (some 26) = [.int (f 24),.int (f 25)]:=rfl
theorem Amt {f:Nat->Int} {U:List Sg}:((U.filter fun s=>decide (s.2.1 ∈ bs4)).map (·.1)).map PV.int ++ [PV.int (f 24),PV.int (f 25)] = (r0G f U).map fun s=>PV.int s.1:=by
 unfold r0G
 rw[map_append,map_map,map_map]; rfl
theorem Anc {U:List Sg}:((U.filter fun s:Sg=>decide (s.2.1 = "mark")).map (·.1)).map PV.int = (Ll U).map fun s=>PV.int s.1:=by unfold Ll; rw[map_map]; rfl
theorem AjH {f:Nat->Int} {U:List Sg}:upG U (r0G f U) (r0G f U).length = U:=by
 unfold upG; rw[drop_of_length_le (Nat.le_refl _)]; simp
theorem AiO {U R:List Sg} {n:Nat} (h:n <= R.length) (x:Sg):upG U (R ++ [x]) n = upG U R n ++ (if x.2.1 = "plain" then [] else [x]):=by
 unfold upG
 rw[List.drop_append_of_le_length h,filter_append,append_assoc]
 by_cases z:x.2.1 = "plain"
 ·rw[if_pos z,filter_cons_of_neg (by simp [z])]; rfl
 ·rw[if_neg z,filter_cons_of_pos (by simp [z])]; rfl
theorem AjJ {s:Int × Int} {ss:List (Int × Int)} {P:PV->Prop} (h1:¬ s ∈ ss->P (.bl true)) (h2:s ∈ ss->P (.bl false)):Afv (prP s) (.lst (ss.map prP)) P:=by
 refine⟨ss.map prP,rfl,fun x hx=>?_,fun x hx=>?_,fun b hb=>?_⟩
 ·obtain⟨z,_,rfl⟩:=mem_map.mp hx; exact⟨_,rfl⟩
 ·obtain⟨z,_,rfl⟩:=mem_map.mp hx
  refine .tup (n:=39) fun i u v hu hv=>?_
  match i,hu,hv with
  | 0,hu,hv=>cases hu; cases hv; exact .flat rfl rfl
  | 1,hu,hv=>cases hu; cases hv; exact .flat rfl rfl
  | _ + 2,hu,_=>simp at hu
 ·have hm:prP s ∈ ss.map prP ↔ s ∈ ss:=by
   constructor
   ·intro h
    obtain⟨z,hz,e⟩:=mem_map.mp h
    have e':PV.tup [.int z.1,.int z.2] = .tup [.int s.1,.int s.2]:=e
    injection e' with e'
    injection e' with e1 e2
    injection e2 with e2
    injection e1 with e1
    injection e2 with e2
    rwa [<- show z = s from Prod.ext e1 e2]
   ·exact fun h=>mem_map.mpr ⟨s,h,rfl⟩
  by_cases h:s ∈ ss
  ·rw[hb.mpr (hm.mpr h)]; exact h2 h
  ·have:b = false:=by
    cases b with
    | false=>rfl
    | true=>exact absurd (hm.mp (hb.mp rfl)) h
   rw[this]; exact h1 h
theorem Zn (U:List Sg):(wdD U).map (fun kv=>kP kv.1) = U.map fun s=>PV.int s.1:=by unfold wdD; rw[map_map]; rfl
theorem Tl {U:List Sg} (nd:(U.map (·.1)).Nodup) {s:Sg} (hs:s ∈ U):Gb (wdD U) (.inl s.1) = some (.str s.2.1):=by
 induction U with
 | nil=>cases hs
 | cons x r ih =>
  obtain⟨h1,h2⟩:=nodup_cons.mp (show (x.1 :: r.map (·.1)).Nodup from nd)
  show Gb ((Sum.inl x.1,PV.str x.2.1) :: wdD r) (Sum.inl s.1) = _
  rw[Ru]
  rcases mem_cons.mp hs with e | e
  ·subst e; rw[if_pos rfl]
  ·rw[if_neg (fun z=>h1 (mem_map.mpr ⟨s,e,(Sum.inl.inj z).symm⟩))]
   exact ih h2 e
theorem AjQ {U:List Sg} {n:Int} (h:∀ u ∈ U,¬ u.1 = n):Gb (wdD U) (.inl n) = none:=by
 induction U with
 | nil=>rfl
 | cons x r ih =>
  show Gb ((Sum.inl x.1,PV.str x.2.1) :: wdD r) (Sum.inl n) = _
  rw[Ru,if_neg (fun z=>h x mem_cons_self (Sum.inl.inj z))]
  exact ih fun u hu=>h u (mem_cons_of_mem _ hu)
def Amb:Um:=fun p q r P=>∃ (c:Int) (f:Nat->Int) (U:List Sg),p = .int c/\q = .lst (U.map sgP)/\r = .lst ((range 28).map fun k=>.int (f k))/\T2 ((range 28).map f) U/\U.length = 14/\S28 f/\∀ k R J,k <= 6->JG f U k R J->P (.lst (map jnP J)) (.lst (map sgP (upG U R (r0G f U).length)))
theorem Any (T:Txt K mg t):Binds K t.d_qbl ["_law_cell","_law_told_here","_law_signs_here"] []:=T.F_qbl.binds fun _ _ _ _ _ _ us hl=>match us,hl with | [_,_,_],_=>rfl
theorem AlP (T:Txt K mg t):FnOk P w K mg base CX0 1 t.f_qbl t.d_qbl ["_law_cell","_law_told_here","_law_signs_here"] (spM K t.C_Book Amb):=by
 refine T.F_qbl.ok sc_qbl (fun vs H Q E h=>h.len) (fun cdv A outer s H vs Q E hr h=>?_)
 have hu:=Cr hr
 have hu64:=hr.units
 refine⟨_,(Bc (Bm (i:=3) sc_qbl.nd rfl (by first | exact Or.inl rfl | exact Or.inr rfl) Lo)
   (Bc (Dk PassesOwn.never rfl (Cu (pv 1)) (Ga (K':=K) (n:=3) rfl rfl (Cf (Bq (i:=4) sc_qbl.nd rfl (Or.inl rfl)) (Cf (Bq (i:=5) sc_qbl.nd rfl (Or.inl rfl)) (Cf (Bq (i:=6) sc_qbl.nd rfl (Or.inl rfl)) Fa))))
    (Bi (Gs hu (pv 3) (pv 4) (pv 5) rfl)))
   (Bc (Vh (Ra 1 [3] ["_law_sign","_law_words_here"] ["_law_words_here"] rfl (Ud (pv 3)) rfl (fun j y e1 i e2=>match j,e1,e2 with | 0,e1,e2=>by cases e1; cases e2; exact⟨rfl,rfl,rfl,by decide +kernel⟩ | _ + 1,_,e2=>by simp at e2) (forall_mem_cons.mpr ⟨rfl,fun _ h=>nomatch h⟩) (by decide +kernel) (fun _ _ _ _=>(Bq (i:=0) (show Nodup (["_law_sign","_law_words_here"]:List Str) by decide +kernel) rfl (Or.inl rfl))) (fun _ _ _ _=>(Gz (Cd Dp (Qi hu (pv 1) (pv 0) (fun _ _=>rfl)) Bv (Cj _)))) (fun _ _ _ _=>(pv 0)) rfl (by decide +kernel) rfl (by decide +kernel) (fun _=>rfl) (i:=7) sc_qbl.nd rfl (Or.inl rfl) rfl))
   (Bc (Vh (Bm (i:=8) sc_qbl.nd rfl (Or.inl rfl) (Br Fv (Gm 1 [3] ["_law_sign","_law_words_here"] ["_law_words_here"] rfl (Ud (pv 3)) rfl (fun j y e1 i e2=>match j,e1,e2 with | 0,e1,e2=>by cases e1; cases e2; exact⟨rfl,rfl,rfl,by decide +kernel⟩ | _ + 1,_,e2=>by simp at e2) (forall_mem_cons.mpr ⟨rfl,fun _ h=>nomatch h⟩) (by decide +kernel) (fun _ _ _ _=>(Bq (i:=0) (show Nodup (["_law_sign","_law_words_here"]:List Str) by decide +kernel) rfl (Or.inl rfl))) (fun _ _ _ _=>(Gz (Cd (Ji K) (Qi hu (pv 1) (pv 0) (fun _ _=>rfl)) (Co (Ba Bv (Ba Bv (Ba Bv (Ba Bv Bd))))) rfl))) (fun _ _ _ _=>(pv 0)) rfl (by decide +kernel) rfl (by decide +kernel)) (Jg (Jh K) (pv 2) (Gg Be) (Gg Be)))))
   (Bc (Bm (i:=9) sc_qbl.nd rfl (Or.inl rfl) (Co Bd))
   (Bc (Bm (i:=10) sc_qbl.nd rfl (Or.inl rfl) (Co Bd))
   (Bc (Dk PassesOwn.never rfl (Wp rfl T.z_range (Ba Be (Ba (Br Fc Be (Br Dg (pv 0) Be)) Bd))) (Bq (i:=11) sc_qbl.nd rfl (Or.inl rfl))
    (Bc (Bm (i:=0) sc_qbl.nd rfl (Or.inl rfl) (Br Fi (pv 0) Be))
   (Bc (Bm (i:=12) sc_qbl.nd rfl (Or.inl rfl) (Ci (Ck K) (pv 8) (Br Dg (pv 0) (Ct (Cq K) rfl T.z_len PySem.boot_len (Ba (pv 8) Bd))) (fun _ _=>rfl)))
   (Bc (Bm (i:=13) sc_qbl.nd rfl (Or.inl rfl) (Ci (Ck K) (pv 7) (Br Dg (Br Fi (pv 0) (Ct (Cq K) rfl T.z_len PySem.boot_len (Ba (pv 8) Bd))) (Ct (Cq K) rfl T.z_len PySem.boot_len (Ba (pv 7) Bd))) (fun _ _=>rfl)))
   (Bc (Bm (i:=0) sc_qbl.nd rfl (Or.inl rfl) (Br Fi (pv 0) (Br Sm (Ct (Cq K) rfl T.z_len PySem.boot_len (Ba (pv 8) Bd)) (Ct (Cq K) rfl T.z_len PySem.boot_len (Ba (pv 7) Bd)))))
   (Bi (Dl (Cd (Xg hu64) (Fw (Ba (pv 12) (Ba (pv 13) Bd))) (pv 10) rfl)
    (Bc (Cn (Fx plainAttrs_list PySem.F.slot_list_append PySem.F.type_list_append Df (pv 10) (Ba (Fw (Ba (pv 12) (Ba (pv 13) Bd))) Bd)))
   (Bc (Cn (Fx plainAttrs_list PySem.F.slot_list_append PySem.F.type_list_append Df (pv 9) (Ba (Fw (Ba (Ci (Ck K) (pv 2) (pv 11) (fun _ _=>rfl)) (Ba (pv 12) (Ba (pv 13) Bd)))) Bd)))
   (Bc (Cn (Fx plainAttrs_list PySem.F.slot_list_append PySem.F.type_list_append Df (pv 8) (Ba (Ci (Ck K) (pv 2) (pv 11) (fun _ _=>rfl)) Bd)))
   (Bi (Dl (Lz (AdO hu (pv 12) (pv 3)))
    (Bc (Gs hu (pv 3) (Ci (Ck K) (pv 2) (pv 11) (fun _ _=>rfl)) (Qi hu (pv 3) (pv 12) (fun _ _=>rfl)) rfl)
   (Bi (Cn (Fx plainAttrs_list PySem.F.slot_list_append PySem.F.type_list_append Df (pv 1) (Ba (Fw (Ba (Ci (Ck K) (pv 2) (pv 11) (fun _ _=>rfl)) (Ba (Qi hu (pv 3) (pv 12) (fun _ _=>rfl)) (Ba Be Bd)))) Bd)))))
    Cw)))))
    Cw)))))))
   (Bi (Ce (pv 9)))))))))),?_⟩
 try dsimp only [Cl,Cb]
 refine Ady h (by decide) (fun a=>(Bk (Dv Aa0)
   (Bk (Aja (i:=1) (a:=a) (Ah8 (Gx (Dc (Ca (top:=14)) (Dc (Ca (top:=14)) (Dc (Ca (top:=14)) Gi))))
    (Qp Bb Bn)))
   (Bk (Aeo (i:=3) (Bw (EF.eu (Wz  (Ca (top:=1)) (Cy (EU.eb (Dz (EU.eb (Zr Bb)) (EU.eb Cg)))) Bn))))
   (Bk (Aeo (i:=3) (Dv (Gj (EF.eb (Wz  (Ca (top:=1)) (Cy (EU.eb (Td (Zr Bb) (EF.eb (Db 4 (Bp Cg (Bp Cg (Bp Cg (Bp Cg Bj))))))))) Bn)) (EF.eb (Nc Bb (Gf (EU.eb Bf)) (Gf (EU.eb Bf)))))))
   (Bk (Dv (Db 0 Bj))
   (Bk (Dv (Db 0 Bj))
   (Bk (Aa5 (Bu (EU.eb Bf) (Bu (EU.eb (Dr (fun _ _ _=>.int _) (EU.eb Bf) (EU.eb (Cp (fun _ _ _=>.int _) Bb (EU.eb Bf))))) Bj)) (Ca (top:=14))
    (Bk (Bw (Cp (fun _ _ _=>.int _) Bb (EU.eb Bf)))
   (Bk (Bw (Da Bb (EU.eb (Cp (fun _ _ _=>.int _) Bb (EU.eb (Fo (Bu Bb Bj)))))))
   (Bk (Bw (Da Bb (EU.eb (Cp (fun _ _ _=>.int _) (EU.eb (Cp (fun _ _ _=>.int _) Bb (EU.eb (Fo (Bu Bb Bj))))) (EU.eb (Fo (Bu Bb Bj)))))))
   (Bk (Bw (Cp (fun _ _ _=>.int _) Bb (EU.eb (Cp (fun _ _ _=>.int _) (EU.eb (Fo (Bu Bb Bj))) (EU.eb (Fo (Bu Bb Bj)))))))
   (Ds (Cy (EU.eb (AdI (Gq 2 (Bp Bn (Bp Bn Bj))) Bb)))
    (Bk (Gc (Bp (Gq 2 (Bp Bn (Bp Bn Bj))) Bj))
   (Bk (Gc (Bp (Gq 3 (Bp (Da Bb Bb) (Bp Bn (Bp Bn Bj)))) Bj))
   (Bk (Gc (Bp (Da Bb Bb) Bj))
   (Ds (Cy (EU.eb (AlX Bb Bb)))
    (Bk (Qp (EU.eb (Da Bb Bb)) (AaX Bb Bb))
   (Aiq (a:=a) (Bp (Gq 3 (Bp (Da Bb Bb) (Bp (AaX Bb Bb) (Bp Bf Bj)))) Bj)))
    Dj))))
    Dj))))))
   (Ai5 (i:=1)))))))))) (fun a p0 q0 r0 P hp=>?_)
 clear h hu hu64 hr
 obtain⟨c,f,U,rfl,rfl,rfl,ht,ul,hf,q⟩:=hp
 walk_at "s"
 have nd:=ht.nd ul hf
 walk_at "p"
 refine Aku rfl (fun z=>?_)
 refine AjP rfl ⟨fun k ρ=>∃ v4 v5 v6,k <= 14/\ρ = [.sh (.int c),.fl z (U.map sgP),.sh (.lst ((range 28).map fun k=>.int (f k))),.ow (.dk (wdD (U.take k))),v4,v5,v6,.un,.un,.un,.un,.un,.un,.un],⟨_,_,_,zero_le _,rfl⟩,?_,?_,?_⟩
 ·rintro k ρ ⟨v4,v5,v6,_,rfl⟩; rfl
 ·rintro k p ρ hp ⟨v4,v5,v6,hk14,rfl⟩
  rw[getElem?_map] at hp
  obtain⟨s,hs,rfl⟩:=map_eq_some_iff.mp hp
  have hk:k < U.length:=(List.getElem?_eq_some_iff.mp hs).1
  walk_at "p"
  rotate_left
  ·unfold wdD; rw[length_map,length_take]; omega
  rw[show Lr (wdD (U.take k)) (Sum.inl s.1) (.str s.2.1) = wdD (U.take (k + 1)) from Abm nd hs]
  exact⟨_,_,_,by omega,rfl⟩
 ·rintro ρ ⟨v4,v5,v6,hk14,rfl⟩
  walk_at "mf"
  refine⟨rfl,?_⟩
  have wl:(wdD U).length = 14:=by unfold wdD; rw[length_map,ul]
  walk_at "p"
  refine⟨by omega,?_⟩
  rw[Zn]
  refine Fb (S:=U) (enc:=fun s=>PV.int s.1) (f:=fun s=>if s.2.1 = "mark" then some (.int s.1) else none) ?_ (fun d hd Z hZ=>?_)
  rotate_left
  ·walk_at "c"
   walk_at "p"
   refine Uz (Tl nd hd) ?_
   walk_at "p"
   by_cases hm:d.2.1 = "mark"
   ·rw[decide_eq_true hm]
    rw[if_pos hm] at hZ
    walk_at "p"
    exact hZ
   ·rw[decide_eq_false hm]
    rw[if_neg hm] at hZ
    walk_at "p"
    exact hZ
  rw[Ahk,Anc]
  show fzE _ _ _ _ _
  refine⟨rfl,?_⟩
  walk_at "p"
  refine⟨by omega,?_⟩
  rw[Zn]
  refine Fb (S:=U) (enc:=fun s=>PV.int s.1) (f:=fun s=>if s.2.1 ∈ bs4 then some (.int s.1) else none) ?_ (fun d hd Z hZ=>?_)
  rotate_left
  ·walk_at "c"
   walk_at "p"
   refine Uz (Tl nd hd) ?_
   walk_at "p"
   refine Aab (L:=bs4) (x:=d.2.1) ?_
   by_cases hm:d.2.1 ∈ bs4
   ·rw[decide_eq_true hm]
    rw[if_pos hm] at hZ
    walk_at "p"
    exact hZ
   ·rw[decide_eq_false hm]
    rw[if_neg hm] at hZ
    walk_at "p"
    exact hZ
  rw[Ahk]
  have fl:=length_filter_le (fun s:Sg=>decide (s.2.1 ∈ bs4)) U
  walk_at "p"
  all_goals try (first | decide | (rw[length_map,length_map,Aav]; show _ + 2 <= _; omega))
  rw[Aav,Amt]
  have rl:(r0G f U).length <= 16:=by unfold r0G; rw[length_append,length_map]; show _ + 2 <= _; omega
  have g1:=emod_nonneg c (show (7:Int) ≠ 0 by decide)
  have g2:=emod_lt_of_pos c (show (0:Int) < 7 by decide)
  show fzE _ _ _ _ _
  refine⟨rfl,?_⟩
  walk_at "p"
  all_goals try (first | decide | exact⟨by decide,by decide⟩ | omega)
  refine⟨fun n ρ=>∃ (c':Int) (R:List Sg) (J:List Jn) (v11 v12 v13:Sl),n <= 6/\ρ = [.sh (.int c'),.om a (.lst ((upG U R (r0G f U).length).map sgP)),.sh (.lst ((range 28).map fun k=>.int (f k))),.ow (.dk (wdD (upG U R (r0G f U).length))),v4,v5,v6,.sh (.lst ((Ll U).map fun s=>PV.int s.1)),.ow (.lst (R.map fun s=>PV.int s.1)),.ow (.lst (J.map jnP)),.ow (.lst ((J.map (·.2)).map prP)),v11,v12,v13]/\JG f U n R J,⟨c,r0G f U,[],_,_,_,zero_le _,by rw[AjH]; rfl,.nil⟩,?_,?_⟩
  ·rintro n ρ hn ⟨c',R,J,v11,v12,v13,hn6,rfl,jg⟩
   have hn':n < 6:=by omega
   obtain⟨und,uix⟩:=Vf jg hn6 ht ul hf
   have kk:=Rr ht ul hf
   have old:=jg.old2 hn' kk
   have jl:=jg.len
   have rp:0 < R.length:=by rw[jl.2]; unfold r0G; rw[length_append]; show 0 < _ + 2 + _; omega
   have ml:=length_filter_le (fun s:Sg=>decide (s.2.1 = "mark")) U
   have mp:0 < (Ll U).length:=by
    have h4:4 < U.length:=by omega
    have:=ht.wd 4 _ (getElem?_eq_getElem h4) (by omega)
    exact List.length_pos_of_mem (mem_filter.mpr ⟨getElem_mem h4,decide_eq_true (Option.some.inj this).symm⟩)
   have ulen:(upG U R (r0G f U).length).length <= 60:=by
    have:=(Xz jg hn6 ht ul hf 0).ln
    omega
   have pick:∀ (l:List Sg) (i:Int),0 < l.length->∃ s,l[(i % (l.length:Int)).toNat]? = some s/\s ∈ l/\i % (l.length:Int) = ((i % (l.length:Int)).toNat:Int):=fun l i hl=>by
    have q1:=emod_nonneg i (show (l.length:Int) ≠ 0 by omega)
    have q2:=emod_lt_of_pos i (show (0:Int) < (l.length:Int) by omega)
    have hj:(i % (l.length:Int)).toNat < l.length:=by omega
    exact⟨_,getElem?_eq_getElem hj,getElem_mem hj,by omega⟩
   obtain⟨s,hs1,hs2,hs3⟩:=pick R (c' / 7) rp
   obtain⟨mr,hm1,hm2,hm3⟩:=pick (Ll U) (c' / 7 / (R.length:Int)) mp
   have fk:((range 28).map fun k=>PV.int (f k))[18 + n]? = some (PV.int (f (18 + n))):=by rw[getElem?_map,getElem?_range (by omega)]; rfl
   have ai:atI ((range 28).map fun k=>PV.int (f k)) (18 + (n:Int)) = some (PV.int (f (18 + n))):=by
    rw[show (18 + (n:Int)) = ((18 + n:Nat):Int) by omega]; exact Gd fk
   walk_at "p"
   all_goals try (first | decide | exact⟨by decide,by decide⟩ | (simp only [length_map]; omega))
   simp only [length_map]
   refine Ff (l:=R) (f:=fun s:Sg=>PV.int s.1) (j:=(c' / 7 % (R.length:Int)).toNat) (a:=s) hs1 hs3 ?_
   walk_at "p"
   all_goals try (first | decide | exact⟨by decide,by decide⟩ | (simp only [length_map]; omega) | exact⟨by simp only [length_map]; omega,by simp only [length_map]; omega⟩)
   simp only [length_map]
   refine Ff (l:=Ll U) (f:=fun s:Sg=>PV.int s.1) (j:=(c' / 7 / (R.length:Int) % ((Ll U).length:Int)).toNat) (a:=mr) hm1 hm3 ?_
   have mlen:(Ll U).length <= 14:=by unfold Ll; omega
   have prd:0 < (R.length:Int) * ((Ll U).length:Int):=Int.mul_pos (by omega) (by omega)
   have prd2:(R.length:Int) * ((Ll U).length:Int) <= 22 * 14:=Int.mul_le_mul (by omega) (by omega) (by omega) (by decide)
   walk_at "p"
   all_goals try (first | decide | exact⟨by decide,by decide⟩ | exact .inl ⟨by simp only [length_map]; omega,by simp only [length_map]; omega⟩ | exact⟨by simp only [length_map]; omega,by simp only [length_map]; omega⟩)
   refine AjJ (s:=(s.1,mr.1)) (ss:=J.map (·.2)) (fun hnew=>?_) (fun hold=>?_)
   rotate_left
   ·walk_at "p"
    exact⟨_,R,J,_,_,_,by omega,rfl,.skip jg⟩
   have jg2:JG f U (n + 1) (R ++ [(f (10 + n + 8),s.2.1,0)]) (J ++ [(f (10 + n + 8),s.1,mr.1)]):=.add jg hs2 hm2 hnew
   rw[show 10 + n + 8 = 18 + n by omega] at jg2
   obtain⟨und2,_⟩:=Vf jg2 (by omega) ht ul hf
   have us:=AiO (U:=U) (R:=R) (n:=(r0G f U).length) (by omega) (f (18 + n),s.2.1,0)
   have eh:(J.map (·.2)).map prP ++ [PV.tup [.int s.1,.int mr.1]] = ((J ++ [(f (18 + n),s.1,mr.1)]).map (·.2)).map prP:=by rw[map_append,map_append]; rfl
   have ej:J.map jnP ++ [PV.tup [.int (f (18 + n)),.int s.1,.int mr.1]] = (J ++ [(f (18 + n),s.1,mr.1)]).map jnP:=by rw[map_append]; rfl
   have er:R.map (fun s:Sg=>PV.int s.1) ++ [PV.int (f (18 + n))] = (R ++ [((f (18 + n),s.2.1,0):Sg)]).map fun s:Sg=>PV.int s.1:=by rw[map_append]; rfl
   walk_at "p"
   all_goals try (first | (simp only [length_map]; omega))
   refine Nk ai ?_
   walk_at "p"
   all_goals try (first | (simp only [length_map]; omega))
   refine Nk ai ?_
   walk_at "p"
   all_goals try (first | (simp only [length_map]; omega))
   rw[eh,ej,er]
   rcases Aev jg hn6 ht ul hf s hs2 with ⟨np,r,hr⟩ | ⟨pl,hr⟩
   ·have hv:=Tl und hr
    rw[if_neg np] at us
    have hv2:=Tl (s:=(s.1,s.2.1,r)) und2 (by rw[us]; exact mem_append_left _ hr)
    have ep:Lr (wdD (upG U R (r0G f U).length)) (Sum.inl (f (18 + n))) (.str s.2.1) = wdD (upG U (R ++ [(f (18 + n),s.2.1,0)]) (r0G f U).length):=by
     rw[us] at und2 ⊢
     have hx:(upG U R (r0G f U).length ++ [(f (18 + n),s.2.1,0)])[(upG U R (r0G f U).length).length]? = some (f (18 + n),s.2.1,0):=by simp
     have:=Abm und2 hx
     rwa [List.take_left,List.take_of_length_le (by simp)] at this
    have et:(upG U R (r0G f U).length).map sgP ++ [PV.tup [.int (f (18 + n)),.str s.2.1,.int 0]] = (upG U (R ++ [(f (18 + n),s.2.1,0)]) (r0G f U).length).map sgP:=by rw[us,map_append]; rfl
    rw[hv,isSome_some]
    walk_at "p"
    refine Uz hv ?_
    walk_at "p"
    refine Nk ai ?_
    walk_at "p"
    rotate_left
    ·unfold wdD; rw[length_map]; omega
    rw[ep]
    refine Nk ai ?_
    walk_at "p"
    refine Uz hv2 ?_
    walk_at "p"
    rotate_left
    ·rw[length_map]; omega
    rw[et]
    exact⟨_,_,_,_,_,_,by omega,rfl,jg2⟩
   ·have hv:=AjQ hr
    rw[if_pos pl,append_nil] at us
    rw[hv,Option.isSome_none]
    walk_at "p"
    exact⟨_,R ++ [(f (18 + n),s.2.1,0)],_,_,_,_,by omega,(by rw[us]),jg2⟩
  ·rintro ρ ⟨c',R,J,v11,v12,v13,hn6,rfl,jg⟩
   walk_at "p"
   exact⟨_,_,rfl,q _ R J hn6 jg⟩
theorem AhE {c:Int} (hc:0 <= c):S28 (s2F c):=by
 have hst:(0:Int) < 1 + c / 64 % 10 ^ 26:=by have:=emod_nonneg (c / 64) (show (10:Int) ^ 26 ≠ 0 by decide); omega
 have hb:byF c ∈ byL:=by
  have h1:=emod_nonneg c (show (8:Int) ≠ 0 by decide)
  have h2:=emod_lt_of_pos c (show (0:Int) < 8 by decide)
  have hj:(c % 8).toNat < byL.length:=by show _ < 8; omega
  unfold byF; rw[getElem?_eq_getElem hj]; exact getElem_mem hj
 refine⟨fun i=>?_,fun i j hi hj e=>?_⟩
 ·unfold s2F
  have h1:=emod_nonneg (c / 8) (show (10:Int) ^ 28 ≠ 0 by decide)
  have h2:=emod_nonneg ((i:Int) * byF c + c / 512) (show (28:Int) ≠ 0 by decide)
  have:=Int.mul_nonneg (Int.le_of_lt hst) h2
  omega
 ·unfold s2F at e
  have e2:=Int.eq_of_mul_eq_mul_left (show 1 + c / 64 % 10 ^ 26 ≠ 0 by omega) (show (1 + c / 64 % 10 ^ 26) * (((i:Int) * byF c + c / 512) % 28) = (1 + c / 64 % 10 ^ 26) * (((j:Int) * byF c + c / 512) % 28) by omega)
  generalize c / 512 = z at e2
  generalize byF c = b at hb e2
  simp only [byL,mem_cons,not_mem_nil,or_false] at hb
  rcases hb with rfl | rfl | rfl | rfl | rfl | rfl | rfl | rfl <;> omega
structure G2A (f:Nat->Int) (U R:List Sg) (J:List Jn) (k y:Nat):Prop where
 hf:S28 f
 ht:T2 ((range 28).map f) U
 ul:U.length = 14
 hk:k <= 6
 jg:JG f U k R J
 hy:y = 1\/y = 2
def g2P (f:Nat->Int) (U R:List Sg) (J:List Jn) (y:Nat):PV:=.tup [.lst ((range 28).map fun k=>.int (f k)),.lst ((upG U R (r0G f U).length).map sgP),.lst ((mtG f y).map prP),.lst (J.map jnP)]
def Aka:PSp:=fun ps P=>∃ ns,ps = [.scr ns]/\ns.length <= 63/\∀ f U R J k y,G2A f U R J k y->P (g2P f U R J y)
theorem AnB (T:Txt K mg t):Binds K t.d_qbn ["_law_script"] []:=T.F_qbn.binds fun _ _ _ _ _ _ us hl=>match us,hl with | [_],_=>rfl
theorem Akn (T:Txt K mg t):FnOk P w K mg base CX0 2 t.f_qbn t.d_qbn ["_law_script"] (spOf K t.C_Book [false] .sh Aka):=by
 refine T.F_qbn.ok sc_qbn (fun vs H Q E h=>h.len) (fun cdv A outer s H vs Q E hr h=>?_)
 have hu:=Cr hr
 have hu64:=hr.units
 refine⟨_,(Bc (Bm (i:=1) sc_qbn.nd rfl (Or.inl rfl) (Br Dg (Bo (Xv T) (hr.mono (by decide)) rfl T.m_qp T.F_qp.kp (AcG T) .nil Bx (Ba (pv 0) (Ba Be Bd))) (Br Lc Be Be)))
   (Bc (Bm (i:=2) sc_qbn.nd rfl (Or.inl rfl) (Bo (Alj T) (hr.mono (by decide)) rfl T.m_qbo T.F_qbo.kp (Am0 T) .nil Bx (Ba (pv 1) Bd)))
   (Bc (Bm (i:=3) sc_qbn.nd rfl (Or.inl rfl) (Bo (Amh T) (hr.mono (by decide)) rfl T.m_qbv T.F_qbv.kp (AmV T) .nil Bx (Ba (pv 1) (Ba (Br Dg (Bo (Xv T) (hr.mono (by decide)) rfl T.m_qp T.F_qp.kp (AcG T) .nil Bx (Ba (pv 0) (Ba Be Bd))) (Br Lc Be Be)) (Ba (pv 2) Bd)))))
   (Bc (Bm (i:=4) sc_qbn.nd rfl (Or.inl rfl) (Bo (AlP T) (hr.mono (by decide)) rfl T.m_qbl T.F_qbl.kp (Any T) .nil Bx (Ba (Br Dg (Bo (Xv T) (hr.mono (by decide)) rfl T.m_qp T.F_qp.kp (AcG T) .nil Bx (Ba (pv 0) (Ba Be Bd))) (Br Lc Be Be)) (Ba (pv 3) (Ba (pv 2) Bd)))))
   (Bc (Bm (i:=5) sc_qbn.nd rfl (Or.inl rfl) (Jg (Jh K) (Co (Ba (Fw (Ba (Ci (Ck K) (pv 2) Be (fun _ _=>rfl)) (Ba (Ci (Ck K) (pv 2) Be (fun _ _=>rfl)) Bd))) (Ba (Fw (Ba (Ci (Ck K) (pv 2) Be (fun _ _=>rfl)) (Ba (Ci (Ck K) (pv 2) Be (fun _ _=>rfl)) Bd))) Bd))) Tm (Gg (Br Fc Be (Br Dg (Br Fi (pv 1) Be) Be)))))
   (Bi (Ce (Fw (Ba (pv 2) (Ba (pv 3) (Ba (pv 5) (Ba (pv 4) Bd)))))))))))),?_⟩
 try dsimp only [Cl,Cb]
 refine Cv h (by decide) (Bk (Bw (Cp (fun _ _ _=>.int _) (EU.eb (Fp (Bu Bb (Bu (EU.eb Bf) Bj)))) (EU.eb (Cp (fun _ _ _=>.int _) (EU.eb Bf) (EU.eb Bf)))))
   (Bk (Bw (EF.eu (Dm (Bu Bb Bj))))
   (Bk (Dv (Dm (Bu Bb (Bp (Cp (fun _ _ _=>.int _) (EU.eb (Fp (Bu Bb (Bu (EU.eb Bf) Bj)))) (EU.eb (Cp (fun _ _ _=>.int _) (EU.eb Bf) (EU.eb Bf)))) (Bu Bb Bj)))))
   (Bk (Ah9 (Cp (fun _ _ _=>.int _) (EU.eb (Fp (Bu Bb (Bu (EU.eb Bf) Bj)))) (EU.eb (Cp (fun _ _ _=>.int _) (EU.eb Bf) (EU.eb Bf)))) Bn)
   (Bk (Bw (EF.eu (Nc (EF.eb (Db 2 (Bp (Gq 2 (Bp (Da Bb (EU.eb Bf)) (Bp (Da Bb (EU.eb Bf)) Bj))) (Bp (Gq 2 (Bp (Da Bb (EU.eb Bf)) (Bp (Da Bb (EU.eb Bf)) Bj))) Bj)))) Ss (Gf (EU.eb (Dr (fun _ _ _=>.int _) (EU.eb Bf) (EU.eb (Cp (fun _ _ _=>.int _) (EU.eb (Cp (fun _ _ _=>.int _) Bb (EU.eb Bf))) (EU.eb Bf)))))))))
   (Aad 3 (Aad 4 (Dw (Gq 4 (Bp Bn (Bp Bn (Bp Bn (Bp Bn Bj))))))))))))) (fun ps P hp=>?_)
 clear h hu hu64 hr
 obtain⟨ns,rfl,hl,q⟩:=hp
 walk_at "s"
 walk_at "p"
 refine⟨ns,0,rfl,hl,?_⟩
 walk_at "p"
 walk_at "mc"
 have hc:=emod_nonneg (cR ns 0) (show (10:Int) ^ 30 ≠ 0 by decide)
 rw[show (10:Int) ^ toNat 30 = 10 ^ 30 from rfl]
 generalize cR ns 0 % 10 ^ 30 = c at hc
 refine⟨c,rfl,hc,?_⟩
 walk_at "p"
 refine⟨ns,1,rfl,hl,?_⟩
 walk_at "p"
 walk_at "mc"
 refine⟨c,_,s2L c,rfl,emod_nonneg _ (by decide),by unfold s2L; rw[length_map,length_range],fun U ul ht=>?_⟩
 walk_at "p"
 refine⟨ns,2,rfl,hl,?_⟩
 walk_at "p"
 walk_at "mc"
 refine⟨_,s2F c,U,rfl,rfl,(by unfold s2L; rw[map_map]; rfl),ht,ul,AhE hc,fun k R J hk jg=>?_⟩
 have gx:∀ i,i < 28->(s2L c)[i]? = some (s2F c i):=fun i hi=>by unfold s2L; rw[getElem?_map,getElem?_range hi]; rfl
 walk_at "p"
 refine Ff (l:=s2L c) (f:=PV.int) (j:=14) (a:=s2F c 14) (gx 14 (by decide)) rfl ?_
 walk_at "p"
 refine Ff (l:=s2L c) (f:=PV.int) (j:=15) (a:=s2F c 15) (gx 15 (by decide)) rfl ?_
 walk_at "p"
 refine Ff (l:=s2L c) (f:=PV.int) (j:=16) (a:=s2F c 16) (gx 16 (by decide)) rfl ?_
 walk_at "p"
 refine Ff (l:=s2L c) (f:=PV.int) (j:=17) (a:=s2F c 17) (gx 17 (by decide)) rfl ?_
 walk_at "p"
 walk_at "mb"
 obtain⟨y,hy,ey⟩:∃ y:Nat,(y = 1\/y = 2)/\1 + c / 32 % 2 = (y:Int):=by
  have h1:=emod_nonneg (c / 32) (show (2:Int) ≠ 0 by decide)
  have h2:=emod_lt_of_pos (c / 32) (show (0:Int) < 2 by decide)
  exact⟨(1 + c / 32 % 2).toNat,by omega,by omega⟩
 rw[ey]
 have em:Fe [PV.tup [.int (s2F c 14),.int (s2F c 15)],PV.tup [.int (s2F c 16),.int (s2F c 17)]] none (some (y:Int)) = (mtG (s2F c) y).map prP:=by
  rcases hy with rfl | rfl <;> rfl
 have z:=q (s2F c) U R J k y ⟨AhE hc,ht,ul,hk,jg,hy⟩
 unfold g2P at z
 rw[<- em,show ((range 28).map fun k=>PV.int (s2F c k)) = (s2L c).map .int by unfold s2L; rw[map_map]; rfl] at z
 exact z
def cvD (l:List (Key × V)):List (Key × PV):=l.map fun kv=>(kv.1,vP kv.2)
def kkD (U:List Sg) (M:List (Int × Int)):List (Key × PV):=cvD (kK U ++ kM M)
theorem Vp {l:List (Key × V)} {k:Key} {v:V} (nd:((l ++ [(k,v)]).map (·.1)).Nodup):Lr (cvD l) k (vP v) = cvD (l ++ [(k,v)]):=by
 rw[Aat (kvs:=cvD l) (fun z=>by
  rw[map_append] at nd
  refine (nodup_append.mp nd).2.2 k ?_ k mem_cons_self rfl
  unfold cvD at z
  rw[map_map] at z
  exact z)]
 unfold cvD
 rw[map_append]; rfl
theorem AiQ (l:List (Key × V)) (k:Key):Gb (cvD l) k = (Cs l k).map vP:=by
 induction l with
 | nil=>rfl
 | cons x r ih =>
  show Gb ((x.1,vP x.2) :: cvD r) k = _
  rw[Ru]
  by_cases z:x.1 = k
  ·rw[if_pos z,Lk z]; rfl
  ·rw[if_neg z,Le z,ih]
theorem Qn (U:List Sg) (M:List (Int × Int)) (n:Int):(Gb (kkD U M) (.inl n)).getD (.str "plain") = .str (Ch U M n):=by
 unfold kkD
 rw[AiQ]
 have:=Ac0 U M n
 cases e:Cs (kK U ++ kM M) (Sum.inl n) with
 | none=>rw[e] at this; show PV.str "plain" = _; injection this with this; rw[this]
 | some v=>rw[e] at this; have t:v = V.str (Ch U M n):=this; rw[t]; rfl
def Ajx:PSp:=fun ps P=>∃ f U R J k y,ps = [g2P f U R J y]/\G2A f U R J k y/\P (.dk (kkD (upG U R (r0G f U).length) (mtG f y)))
theorem Anb (T:Txt K mg t):Binds K t.d_qbp ["_law_lists_here"] []:=T.F_qbp.binds fun _ _ _ _ _ _ us hl=>match us,hl with | [_],_=>rfl
theorem Ajn (T:Txt K mg t):FnOk P w K mg base CX0 1 t.f_qbp t.d_qbp ["_law_lists_here"] (spOf K t.C_Book [true] .fr Ajx):=by
 refine T.F_qbp.ok sc_qbp (fun vs H Q E h=>h.len) (fun cdv A outer s H vs Q E hr h=>?_)
 have hu:=Cr hr
 have hu64:=hr.units
 refine⟨_,(Bc (Bm (i:=1) sc_qbp.nd rfl (Or.inl rfl) Lo)
   (Bc (Dk PassesOwn.never rfl (Cu (Ci (Dh K) (pv 0) Be (fun _ _=>rfl))) (Ga (K':=K) (n:=3) rfl rfl (Cf (Bq (i:=2) sc_qbp.nd rfl (Or.inl rfl)) (Cf (Bq (i:=3) sc_qbp.nd rfl (Or.inl rfl)) (Cf (Bq (i:=4) sc_qbp.nd rfl (Or.inl rfl)) Fa))))
    (Bi (Gs hu (pv 1) (pv 2) (pv 3) rfl)))
   (Bc (Dk PassesOwn.never rfl (Cu (Ci (Dh K) (pv 0) Be (fun _ _=>rfl))) (Ga (K':=K) (n:=2) rfl rfl (Cf (Bq (i:=5) sc_qbp.nd rfl (Or.inl rfl)) (Cf (Bq (i:=6) sc_qbp.nd rfl (Or.inl rfl)) Fa)))
    (Bc (Gs hu (pv 1) (pv 5) Bv rfl)
   (Bi (Gs hu (pv 1) (pv 6) Bv rfl))))
   (Bi (Ce (pv 1)))))),?_⟩
 try dsimp only [Cl,Cb]
 refine Cv h (by decide) (Bk (Dv Aa0)
   (Bk (Us (Du Bb (EU.eb Bf)) (Gx (Dc (Ca (top:=7)) (Dc (Ca (top:=7)) (Dc (Ca (top:=7)) Gi))))
    (Qp Bb Bn))
   (Bk (Us (Du Bb (EU.eb Bf)) (Gx (Dc (Ca (top:=7)) (Dc (Ca (top:=7)) Gi)))
    (Bk (Qp Bb Cg)
   (Qp Bb Cg)))
   Gv))) (fun ps P hp=>?_)
 clear h hu hu64 hr
 obtain⟨f,U,R,J,k0,y,rfl,ga,q⟩:=hp
 walk_at "s"
 have bk:=Xz ga.jg ga.hk ga.ht ga.ul ga.hf y
 unfold g2P
 generalize upG U R (r0G f U).length = W at bk q
 generalize mtG f y = M at bk q
 have ndk:=Yp bk.nd
 have wl:W.length <= 60:=by have:=bk.ln; omega
 have ml:M.length <= 30:=by have:=bk.ln; omega
 walk_at "p"
 refine⟨fun k ρ=>∃ v2 v3 v4,ρ = [.sh (.tup [.lst ((range 28).map fun k=>.int (f k)),.lst (W.map sgP),.lst (M.map prP),.lst (J.map jnP)]),.ow (.dk (cvD (kK (W.take k)))),v2,v3,v4,.un,.un],⟨_,_,_,rfl⟩,?_,?_⟩
 ·rintro k p ρ hp ⟨v2,v3,v4,rfl⟩
  rw[getElem?_map] at hp
  obtain⟨s,hs,rfl⟩:=map_eq_some_iff.mp hp
  have e1:kK (W.take (k + 1)) = kK (W.take k) ++ [(Sum.inl s.1,V.str s.2.1)]:=by rw[Dt hs]; unfold kK; rw[map_append]; rfl
  have n1:((kK (W.take (k + 1))).map (·.1)).Nodup:=by
   rw[map_append] at ndk
   refine Nodup.sublist (Sublist.map _ ?_) (nodup_append.mp ndk).1
   unfold kK
   exact Sublist.map _ (List.take_sublist _ _)
  rw[e1] at n1
  walk_at "p"
  rotate_left
  ·unfold cvD kK; rw[length_map,length_map,length_take]; omega
  rw[show Lr (cvD (kK (W.take k))) (Sum.inl s.1) (PV.str s.2.1) = cvD (kK (W.take (k + 1))) by rw[e1]; exact Vp n1]
  exact⟨_,_,_,rfl⟩
 rintro ρ ⟨v2,v3,v4,rfl⟩
 walk_at "mf"
 walk_at "p"
 refine⟨fun k ρ=>∃ v5 v6,ρ = [.sh (.tup [.lst ((range 28).map fun k=>.int (f k)),.lst (W.map sgP),.lst (M.map prP),.lst (J.map jnP)]),.ow (.dk (cvD (kK W ++ kM (M.take k)))),v2,v3,v4,v5,v6],⟨_,_,by rw[List.take_zero]; unfold kM; rw[append_nil]⟩,?_,?_⟩
 ·rintro k p ρ hp ⟨v5,v6,rfl⟩
  rw[getElem?_map] at hp
  obtain⟨m,hm,rfl⟩:=map_eq_some_iff.mp hp
  have hk:k < M.length:=(List.getElem?_eq_some_iff.mp hm).1
  have e1:kK W ++ kM (M.take (k + 1)) = (kK W ++ kM (M.take k) ++ [(Sum.inl m.1,V.str "open")]) ++ [(Sum.inl m.2,V.str "shut")]:=by rw[Dt hm,Oy,append_assoc,append_assoc]; rfl
  have n1:((kK W ++ kM (M.take (k + 1))).map (·.1)).Nodup:=by
   have e:=Oy (M.take (k + 1)) (M.drop (k + 1))
   rw[take_append_drop] at e
   rw[e,<- append_assoc,map_append] at ndk
   exact (nodup_append.mp ndk).1
  rw[e1] at n1
  have n2:=n1
  rw[map_append] at n2
  have n3:=(nodup_append.mp n2).1
  have kl:(cvD (kK W ++ kM (M.take k))).length <= 1000:=by
   have:∀ M:List (Int × Int),(kM M).length = 2 * M.length:=fun M=>by
    induction M with
    | nil=>rfl
    | cons x r ih=>show (kM r).length + 1 + 1 = _; rw[ih,length_cons]; omega
   unfold cvD kK
   rw[length_map,length_append,length_map,this,length_take]; omega
  have p1:Lr (cvD (kK W ++ kM (M.take k))) (Sum.inl m.1) (PV.str "open") = cvD (kK W ++ kM (M.take k) ++ [(Sum.inl m.1,V.str "open")]):=Vp n3
  have p2:Lr (cvD (kK W ++ kM (M.take k) ++ [(Sum.inl m.1,V.str "open")])) (Sum.inl m.2) (PV.str "shut") = cvD (kK W ++ kM (M.take (k + 1))):=by rw[e1]; have z:=Vp n1; exact z
  have l2:(cvD (kK W ++ kM (M.take k) ++ [(Sum.inl m.1,V.str "open")])).length < 100000:=by
   unfold cvD at kl ⊢; rw[length_map] at kl ⊢; rw[length_append]; show _ + 1 < _; omega
  have l1:(cvD (kK W ++ kM (M.take k))).length < 100000:=by omega
  walk_at "p"
  all_goals try (first | exact l1 | (rw[p1]; exact l2))
  rw[p1,p2]
  exact⟨_,_,rfl⟩
 rintro ρ ⟨v5,v6,rfl⟩
 walk_at "mf"
 walk_at "p"
 exact q
def Akw:PSp:=fun ps P=>∃ (f:Nat->Int) (W:List Sg) (M:List (Int × Int)) (J:List Jn) (ws:List Str),ps = [.tup [.lst ((range 28).map fun k=>.int (f k)),.lst (W.map sgP),.lst (M.map prP),.lst (J.map jnP)],.dk (kkD W M),.lst (ws.map .str)]/\ws.length <= 100/\P (.lst (ws.map fun w=>.lst ((gpF f W M w).map .int)))
theorem Aon (T:Txt K mg t):Binds K t.d_qz ["_law_lists_here","_law_words_here","_law_chosen"] []:=T.F_qz.binds fun _ _ _ _ _ _ us hl=>match us,hl with | [_,_,_],_=>rfl
theorem AnE (T:Txt K mg t):FnOk P w K mg base CX0 1 t.f_qz t.d_qz ["_law_lists_here","_law_words_here","_law_chosen"] (spOf K t.C_Book [false,false,true] .fr Akw):=by
 refine T.F_qz.ok sc_qz (fun vs H Q E h=>h.len) (fun cdv A outer s H vs Q E hr h=>?_)
 have hu:=Cr hr
 have hu64:=hr.units
 refine⟨_,(Bc (Bm (i:=3) sc_qz.nd rfl (Or.inl rfl) (Co Bd))
   (Bc (Dk PassesOwn.never rfl (Cu (pv 2)) (Bq (i:=4) sc_qz.nd rfl (by first | exact Or.inl rfl | exact Or.inr rfl))
    (Bi (Cn (Fx plainAttrs_list PySem.F.slot_list_append PySem.F.type_list_append Df (pv 3) (Ba (Gm 1 [1,4] ["_law_sign","_law_words_here","_law_word"] ["_law_words_here","_law_word"] rfl (Cu (Ci (Dh K) (pv 0) Be (fun _ _=>rfl))) rfl (fun j y e1 i e2=>match j,e1,e2 with | 0,e1,e2=>by cases e1; cases e2; exact⟨rfl,rfl,rfl,by decide +kernel⟩ | 1,e1,e2=>by cases e1; cases e2; exact⟨rfl,rfl,rfl,by decide +kernel⟩ | _ + 2,_,e2=>by simp at e2) (forall_mem_cons.mpr ⟨rfl,forall_mem_cons.mpr ⟨rfl,fun _ h=>nomatch h⟩⟩) (by decide +kernel) (fun _ _ _ _=>(Bq (i:=0) (show Nodup (["_law_sign","_law_words_here","_law_word"]:List Str) by decide +kernel) rfl (Or.inl rfl))) (fun _ _ _ _=>(Gz (Cd Dp (Lu hu (pv 1) (pv 0) Bv ⟨rfl,rfl,rfl,rfl⟩) (pv 2) (Cj _)))) (fun _ _ _ _=>(pv 0)) rfl (by decide +kernel) rfl (by decide +kernel)) Bd)))))
   (Bi (Ce (pv 3))))),?_⟩
 try dsimp only [Cl,Cb]
 refine Cv h (by decide) (Bk (Dv (Db 0 Bj))
   (Bk (Nx (Ca (top:=5))
    (Gc (Bp (EF.eu (Fu (EU.eb (Du Bb (EU.eb Bf))) (Ca (top:=1)) (Cy (EU.eb (Dz (EU.eb (Oc Bb Cg)) Bb))) Bn)) Bj)))
   Gv)) (fun ps P hp=>?_)
 clear h hu hu64 hr
 obtain⟨f,W,M,J,ws,rfl,hw,q⟩:=hp
 walk_at "s"
 walk_at "p"
 refine⟨fun k ρ=>∃ v4,ρ = [.bo (.tup [.lst ((range 28).map fun k=>.int (f k)),.lst (W.map sgP),.lst (M.map prP),.lst (J.map jnP)]),.bo (.dk (kkD W M)),.sh (.lst (ws.map .str)),.ow (.lst ((ws.take k).map fun w=>.lst ((gpF f W M w).map .int))),v4],⟨_,rfl⟩,?_,?_⟩
 ·rintro k p ρ hp ⟨v4,rfl⟩
  rw[getElem?_map] at hp
  obtain⟨w,hk,rfl⟩:=map_eq_some_iff.mp hp
  walk_at "p"
  refine⟨by simp,?_⟩
  refine Fb (S:=(range 28).map f) (enc:=PV.int) (f:=fun n=>if Ch W M n = w then some (.int n) else none) ?_ (fun d hd Z hZ=>?_)
  rotate_left
  ·walk_at "c"
   walk_at "p"
   rw[Qn]
   walk_at "p"
   by_cases hm:Ch W M d = w
   ·rw[decide_eq_true hm]
    rw[if_pos hm] at hZ
    walk_at "p"
    exact hZ
   ·rw[decide_eq_false hm]
    rw[if_neg hm] at hZ
    walk_at "p"
    exact hZ
  rw[show ((range 28).map f).filterMap (fun n=>if Ch W M n = w then some (PV.int n) else none) = (gpF f W M w).map .int by
   unfold gpF
   generalize (range 28).map f = l
   induction l with
   | nil=>rfl
   | cons x r ih =>
    by_cases z:Ch W M x = w
    ·rw[List.filterMap_cons_some (by rw[if_pos z]),filter_cons_of_pos (by simp [z]),map_cons,ih]
    ·rw[List.filterMap_cons_none (by rw[if_neg z]),filter_cons_of_neg (by simp [z]),ih]]
  walk_at "p"
  rotate_left
  ·rw[length_map,length_take]; omega
  exact⟨_,by rw[Dt hk,map_append]; rfl⟩
 rintro ρ ⟨v4,rfl⟩
 walk_at "mf"
 walk_at "p"
 exact q
def Akr:PSp:=fun ps P=>∃ (gs:List (List Int)) (cs:List Int),ps = [.lst (gs.map fun g=>.lst (g.map .int)),.lst (cs.map .int)]/\(0 < gs.length/\gs.length <= 100)/\(∀ g ∈ gs,0 < g.length/\g.length <= 100)/\cs.length <= 300/\∀ ts:List Int,ts.length = cs.length->(∀ t ∈ ts,∃ g ∈ gs,t ∈ g)->P (.lst (ts.map .int))
theorem Amu (T:Txt K mg t):Binds K t.d_qbu ["_law_groups_here","_law_cells"] []:=T.F_qbu.binds fun _ _ _ _ _ _ us hl=>match us,hl with | [_,_],_=>rfl
theorem AlR (T:Txt K mg t):FnOk P w K mg base CX0 1 t.f_qbu t.d_qbu ["_law_groups_here","_law_cells"] (spOf K t.C_Book [true,true] .fr Akr):=by
 refine T.F_qbu.ok sc_qbu (fun vs H Q E h=>h.len) (fun cdv A outer s H vs Q E hr h=>?_)
 have hu:=Cr hr
 have hu64:=hr.units
 refine⟨_,(Bc (Bm (i:=2) sc_qbu.nd rfl (Or.inl rfl) (Co Bd))
   (Bc (Dk PassesOwn.never rfl (Cu (pv 1)) (Bq (i:=3) sc_qbu.nd rfl (Or.inl rfl))
    (Bc (Bm (i:=4) sc_qbu.nd rfl (Or.inl rfl) (Ci (Ck K) (pv 0) (Br Dg (pv 3) (Ct (Cq K) rfl T.z_len PySem.boot_len (Ba (pv 0) Bd))) (fun _ _=>rfl)))
   (Bi (Cn (Fx plainAttrs_list PySem.F.slot_list_append PySem.F.type_list_append Df (pv 2) (Ba (Ci (Ck K) (pv 4) (Br Dg (Br Fi (pv 3) (Ct (Cq K) rfl T.z_len PySem.boot_len (Ba (pv 0) Bd))) (Ct (Cq K) rfl T.z_len PySem.boot_len (Ba (pv 4) Bd))) (fun _ _=>rfl)) Bd))))))
   (Bi (Ce (pv 2))))),?_⟩
 try dsimp only [Cl,Cb]
 refine Cv h (by decide) (Bk (Dv (Db 0 Bj))
   (Bk (Nx (Ca (top:=5))
    (Bk (Bw (Da Bb (EU.eb (Cp (fun _ _ _=>.int _) Bb (EU.eb (Fo (Bu Bb Bj)))))))
   (Gc (Bp (Da Bb (EU.eb (Cp (fun _ _ _=>.int _) (EU.eb (Cp (fun _ _ _=>.int _) Bb (EU.eb (Fo (Bu Bb Bj))))) (EU.eb (Fo (Bu Bb Bj)))))) Bj))))
   Gv)) (fun ps P hp=>?_)
 clear h hu hu64 hr
 obtain⟨gs,cs,rfl,hg,hg2,hc,q⟩:=hp
 walk_at "s"
 walk_at "p"
 refine⟨fun k ρ=>∃ (ts:List Int) (v3 v4:Sl),ρ = [.sh (.lst (gs.map fun g=>.lst (g.map .int))),.sh (.lst (cs.map .int)),.ow (.lst (ts.map .int)),v3,v4]/\ts.length = k/\∀ t ∈ ts,∃ g ∈ gs,t ∈ g,⟨[],_,_,rfl,rfl,fun t h=>by cases h⟩,?_,?_⟩
 ·rintro k p ρ hp ⟨ts,v3,v4,rfl,tl,ht⟩
  rw[getElem?_map] at hp
  obtain⟨c,hk,rfl⟩:=map_eq_some_iff.mp hp
  have hkl:k < cs.length:=(List.getElem?_eq_some_iff.mp hk).1
  have g1:=emod_nonneg c (show (gs.length:Int) ≠ 0 by omega)
  have g2:=emod_lt_of_pos c (show (0:Int) < (gs.length:Int) by omega)
  have hj:(c % (gs.length:Int)).toNat < gs.length:=by omega
  obtain⟨g,hgm,hgi⟩:∃ g,g ∈ gs/\gs[(c % (gs.length:Int)).toNat]? = some g:=⟨_,getElem_mem hj,getElem?_eq_getElem hj⟩
  obtain⟨gp,gl⟩:=hg2 g hgm
  have g3:=emod_nonneg (c / (gs.length:Int)) (show (g.length:Int) ≠ 0 by omega)
  have g4:=emod_lt_of_pos (c / (gs.length:Int)) (show (0:Int) < (g.length:Int) by omega)
  have hj2:(c / (gs.length:Int) % (g.length:Int)).toNat < g.length:=by omega
  obtain⟨t,htm,hti⟩:∃ t,t ∈ g/\g[(c / (gs.length:Int) % (g.length:Int)).toNat]? = some t:=⟨_,getElem_mem hj2,getElem?_eq_getElem hj2⟩
  walk_at "p"
  all_goals try (simp only [length_map]; omega)
  simp only [length_map]
  refine Ff (l:=gs) (f:=fun g:List Int=>PV.lst (g.map .int)) (j:=(c % (gs.length:Int)).toNat) (a:=g) hgi (by omega) ?_
  walk_at "p"
  all_goals try (first | (simp only [length_map]; omega) | exact⟨by simp only [length_map]; omega,by simp only [length_map]; omega⟩)
  simp only [length_map]
  refine Ff (l:=g) (f:=PV.int) (j:=(c / (gs.length:Int) % (g.length:Int)).toNat) (a:=t) hti (by omega) ?_
  walk_at "p"
  rotate_left
  ·rw[length_map]; omega
  refine⟨ts ++ [t],_,_,by rw[map_append]; rfl,by rw[length_append,tl]; rfl,fun x hx=>?_⟩
  rcases mem_append.mp hx with hx | hx
  ·exact ht x hx
  ·rw[mem_singleton.mp hx]; exact⟨g,hgm,htm⟩
 rintro ρ ⟨ts,v3,v4,rfl,tl,ht⟩
 rw[length_map] at tl
 walk_at "p"
 exact q ts tl ht
theorem hs_nil {mk:Int->Bool} {a:List Int}:hsF mk a = [] ↔ a = []:=by
 cases a with
 | nil=>exact⟨fun _=>rfl,fun _=>rfl⟩
 | cons t r=>exact⟨fun h=>(by cases h),fun h=>(by cases h)⟩
theorem Vs {mk:Int->Bool} {a:List Int} {x:Int} (h:a ≠ []):hsF mk (a ++ [x]) = hsF mk a ++ [x].filter (fun n=>!mk n):=by
 cases a with
 | nil=>exact absurd rfl h
 | cons t r =>
  show t :: (r ++ [x]).filter _ = t :: r.filter _ ++ _
  rw[filter_append]; rfl
theorem Ai9 {mk:Int->Bool} {a b:List Int} (h:hsF mk a = hsF mk b) (x:Int):hsF mk (a ++ [x]) = hsF mk (b ++ [x]):=by
 by_cases z:a = []
 ·subst z
  have:b = []:=hs_nil.mp h.symm
  subst this; rfl
 ·have:b ≠ []:=fun y=>z (hs_nil.mp (h.trans (hs_nil.mpr y)))
  rw[Vs z,Vs this,h]
theorem Ai2 {mk:Int->Bool} {a:List Int} {x:Int} (h:a ≠ []) (hx:mk x = true):hsF mk (a ++ [x]) = hsF mk a:=by
 rw[Vs h,filter_cons_of_neg (p:=fun n=>!mk n) (by rw[hx]; decide)]
 exact append_nil _
def AiI:PSp:=fun ps P=>∃ (ts ms cs:List Int),ps = [.lst (ts.map .int),.lst (ms.map .int),.lst (cs.map .int)]/\ts.length <= 1000/\ts.length <= cs.length/\(0 < ms.length/\ms.length <= 1000)/\cs.length <= 1000/\∀ rs:List Int,rs.length <= 3 * ts.length->(∀ mk:Int->Bool,(∀ m ∈ ms,mk m = true)->hsF mk rs = hsF mk ts)->P (.lst (rs.map .int))
theorem Am6 (T:Txt K mg t):Binds K t.d_qba ["_law_text_here","_law_marks","_law_cells"] []:=T.F_qba.binds fun _ _ _ _ _ _ us hl=>match us,hl with | [_,_,_],_=>rfl
theorem AkX (T:Txt K mg t):FnOk P w K mg base CX0 1 t.f_qba t.d_qba ["_law_text_here","_law_marks","_law_cells"] (spOf K t.C_Book [true,false,true] .fr AiI):=by
 refine T.F_qba.ok sc_qba (fun vs H Q E h=>h.len) (fun cdv A outer s H vs Q E hr h=>?_)
 have hu:=Cr hr
 have hu64:=hr.units
 refine⟨_,(Bc (Bm (i:=3) sc_qba.nd rfl (Or.inl rfl) (Co Bd))
   (Bc (Dk PassesOwn.never rfl (Tf K (pv 0) (pv 2) rfl T.z_zip) (Ga (K':=K) (n:=2) rfl rfl (Cf (Bq (i:=4) sc_qba.nd rfl (Or.inl rfl)) (Cf (Bq (i:=5) sc_qba.nd rfl (Or.inl rfl)) Fa)))
    (Bc (Cn (Fx plainAttrs_list PySem.F.slot_list_append PySem.F.type_list_append Df (pv 3) (Ba (pv 4) Bd)))
   (Bi (Dk PassesOwn.never rfl (Na rfl T.z_range (Ba (Br Fc (Br Fi (Br Dg (pv 5) Be) Be) (Br Fi (Br Dg (pv 5) Be) Be)) Bd)) (Bq (i:=6) sc_qba.nd rfl (Or.inl rfl))
    (Bi (Cn (Fx plainAttrs_list PySem.F.slot_list_append PySem.F.type_list_append Df (pv 3) (Ba (Ci (Ck K) (pv 1) (Br Dg (Br Fi (pv 5) (Br Fc Be (Br Sm Be (pv 6)))) (Ct (Cq K) rfl T.z_len PySem.boot_len (Ba (pv 1) Bd))) (fun _ _=>rfl)) Bd))))))))
   (Bi (Ce (pv 3))))),?_⟩
 try dsimp only [Cl,Cb]
 refine Cv h (by decide) (Bk (Dv (Db 0 Bj))
   (Bk (AbS Bn Bn (Gx (Dc (Ca (top:=7)) (Dc (Ca (top:=7)) Gi)))
    (Bk (Gc (Bp Bn Bj))
   (AbG (Bu (EU.eb (Dr (fun _ _ _=>.int _) (EU.eb (Cp (fun _ _ _=>.int _) (EU.eb (Cp (fun _ _ _=>.int _) Bb (EU.eb Bf))) (EU.eb Bf))) (EU.eb (Cp (fun _ _ _=>.int _) (EU.eb (Cp (fun _ _ _=>.int _) Bb (EU.eb Bf))) (EU.eb Bf))))) Bj) (Ca (top:=7))
    (Gc (Bp (Da Bb (EU.eb (Cp (fun _ _ _=>.int _) (EU.eb (Cp (fun _ _ _=>.int _) Bb (EU.eb (Dr (fun _ _ _=>.int _) (EU.eb Bf) (EU.eb (Cp (fun _ _ _=>.int _) (EU.eb Bf) Bb)))))) (EU.eb (Fo (Bu Bb Bj)))))) Bj)))))
   Gv)) (fun ps P hp=>?_)
 clear h hu hu64 hr
 obtain⟨ts,ms,cs,rfl,h1,h2,h3,h4,q⟩:=hp
 walk_at "s"
 walk_at "p"
 rw[Sz]
 refine⟨fun n ρ=>∃ (A:List Int) (v4 v5 v6:Sl),ρ = [.sh (.lst (ts.map .int)),.bo (.lst (ms.map .int)),.sh (.lst (cs.map .int)),.ow (.lst (A.map .int)),v4,v5,v6]/\A.length <= 3 * n/\∀ mk:Int->Bool,(∀ m ∈ ms,mk m = true)->hsF mk A = hsF mk (ts.take n),⟨[],_,_,_,rfl,Nat.le_refl _,fun _ _=>rfl⟩,?_,?_⟩
 ·rintro n p ρ hp ⟨A,v4,v5,v6,rfl,al,hA⟩
  rw[getElem?_map] at hp
  obtain⟨z,hz,rfl⟩:=map_eq_some_iff.mp hp
  obtain⟨z1,z2⟩:=List.getElem?_zip_eq_some.mp hz
  have hn:n < ts.length:=(List.getElem?_eq_some_iff.mp z1).1
  obtain⟨t,c⟩:=z
  have eA:∀ mk:Int->Bool,(∀ m ∈ ms,mk m = true)->hsF mk (A ++ [t]) = hsF mk (ts.take (n + 1)):=fun mk hm=>by
   rw[Dt z1]
   exact Ai9 (hA mk hm) t
  have c2:0 <= c % 4 / 2 + c % 4 / 3/\c % 4 / 2 + c % 4 / 3 <= 2:=by omega
  walk_at "p"
  all_goals try (first | decide | exact⟨by decide,by decide⟩ | (rw[length_map]; omega) | exact (show -2 ^ 62 <= c % 4 / 2 + c % 4 / 3/\c % 4 / 2 + c % 4 / 3 < 2 ^ 62 from ⟨by omega,by omega⟩) | exact (show Tr (c % 4) 3 from by decide) | exact (show Tr (c % 4) 2 from by decide))
  generalize hw:(c % 4 / 2 + c % 4 / 3).toNat = w
  have w2:w <= 2:=by omega
  refine⟨fun i ρ=>∃ (B:List Int) (v6:Sl),ρ = [.sh (.lst (ts.map .int)),.bo (.lst (ms.map .int)),.sh (.lst (cs.map .int)),.ow (.lst (B.map .int)),.sh (.int t),.sh (.int c),v6]/\B.length <= 3 * n + 1 + i/\B ≠ []/\∀ mk:Int->Bool,(∀ m ∈ ms,mk m = true)->hsF mk B = hsF mk (ts.take (n + 1)),⟨A ++ [t],_,by rw[map_append]; rfl,by rw[length_append]; show A.length + 1 <= _; omega,by simp,eA⟩,?_,?_⟩
  ·rintro i ρ hi ⟨B,v6,rfl,bl,bn,hB⟩
   have ml:((map PV.int ms).length:Int) = (ms.length:Int):=by rw[length_map]
   walk_at "p"
   all_goals try (first | exact (show 0 < ((map PV.int ms).length:Int) by rw[ml]; omega) | exact (show Tr c (4 + 3 * (0 + (i:Int))) from ⟨by omega,by omega⟩) | exact (show CMul 3 (0 + (i:Int)) from .inl ⟨by decide,by decide⟩))
   rw[ml]
   have x1:=emod_nonneg (c / (4 + 3 * (0 + (i:Int)))) (show (ms.length:Int) ≠ 0 by omega)
   have x2:=emod_lt_of_pos (c / (4 + 3 * (0 + (i:Int)))) (show (0:Int) < ms.length by omega)
   generalize c / (4 + 3 * (0 + (i:Int))) % (ms.length:Int) = x at x1 x2
   obtain⟨xn,rfl⟩:∃ xn:Nat,x = (xn:Int):=⟨x.toNat,by omega⟩
   obtain⟨m,hm⟩:∃ m,ms[xn]? = some m:=⟨_,getElem?_eq_getElem (by omega)⟩
   refine Ff (l:=ms) (j:=xn) (a:=m) hm rfl ?_
   walk_at "p"
   rotate_left
   ·rw[length_map]; omega
   refine⟨B ++ [m],_,by rw[map_append]; rfl,by rw[length_append]; show B.length + 1 <= _; omega,by simp,fun mk hmk=>?_⟩
   rw[Ai2 bn (hmk m (mem_of_getElem? hm))]
   exact hB mk hmk
  ·rintro ρ ⟨B,v6,rfl,bl,bn,hB⟩
   exact⟨B,_,_,_,rfl,by omega,hB⟩
 rintro ρ ⟨A,v4,v5,v6,rfl,al,hA⟩
 walk_at "p"
 rw[length_map,length_zip,Nat.min_eq_left h2] at al
 refine q A al fun mk hm=>?_
 have:=hA mk hm
 rw[length_map,length_zip,Nat.min_eq_left h2,take_length] at this
 exact this
theorem Wo {α:Type} {l:List α} {n:Nat} {x:α} (h:l[n]? = some x):l.drop n = x :: l.drop (n + 1):=by
 obtain⟨h1,h2⟩:=List.getElem?_eq_some_iff.mp h
 rw[drop_eq_getElem_cons h1,h2]
def Aje:PSp:=fun ps P=>∃ (W:List Sg) (M:List (Int × Int)) (ts:List Int) (c:Int),ps = [.dk (kkD W M),.lst (ts.map .int),.int c]/\ts.length <= 1000/\P (.lst ((edL (Ch W M) 0 ts ++ replicate (edD (Ch W M) 0 ts) c).map .int))
theorem AmX (T:Txt K mg t):Binds K t.d_qbk ["_law_words_here","_law_signs_here","_law_close"] []:=T.F_qbk.binds fun _ _ _ _ _ _ us hl=>match us,hl with | [_,_,_],_=>rfl
theorem AkN (T:Txt K mg t):FnOk P w K mg base CX0 1 t.f_qbk t.d_qbk ["_law_words_here","_law_signs_here","_law_close"] (spOf K t.C_Book [false,false,true] .fr Aje):=by
 refine T.F_qbk.ok sc_qbk (fun vs H Q E h=>h.len) (fun cdv A outer s H vs Q E hr h=>?_)
 have hu:=Cr hr
 have hu64:=hr.units
 refine⟨_,(Bc (Bm (i:=3) sc_qbk.nd rfl (Or.inl rfl) (Co Bd))
   (Bc (Bm (i:=4) sc_qbk.nd rfl (Or.inl rfl) Be)
   (Bc (Dk PassesOwn.never rfl (Cu (pv 1)) (Bq (i:=5) sc_qbk.nd rfl (Or.inl rfl))
    (Bc (Bm (i:=6) sc_qbk.nd rfl (Or.inl rfl) (Lu hu (pv 0) (pv 5) Bv ⟨rfl,rfl,rfl,rfl⟩))
   (Bc (Dl (Cd (Ji K) (pv 6) (Co (Ba Bv (Ba Bv Bd))) rfl)
    (Bi (Bm (i:=4) sc_qbk.nd rfl (Or.inl rfl) (Br Fc (pv 4) Be)))
    Cw)
   (Bc (Dl (PW.pt (Acp (Cd Acx (pv 6) Bv (Cj _)) (Yz (Cd Uq (pv 4) Be (Cj _)))))
    (Bi (Cn (Fx plainAttrs_list PySem.F.slot_list_append PySem.F.type_list_append Df (pv 3) (Ba (pv 5) Bd))))
    Cw)
   (Bi (Dl (Cd Dp (pv 6) Bv (Cj _))
    (Bi (Bm (i:=4) sc_qbk.nd rfl (Or.inl rfl) (Ct (Wq rfl) rfl T.z_max boot_max (Ba (Br Zv (pv 4) Be) (Ba Be Bd)))))
    Cw))))))
   (Bi (Ce (Br Fv (pv 3) (Gm 1 [2] ["_law_k","_law_close"] ["_law_close"] rfl (Na rfl T.z_range (Ba (pv 4) Bd)) rfl (fun j y e1 i e2=>match j,e1,e2 with | 0,e1,e2=>by cases e1; cases e2; exact⟨rfl,rfl,rfl,by decide +kernel⟩ | _ + 1,_,e2=>by simp at e2) (forall_mem_cons.mpr ⟨rfl,fun _ h=>nomatch h⟩) (by decide +kernel) (fun _ _ _ _=>(Bq (i:=0) (show Nodup (["_law_k","_law_close"]:List Str) by decide +kernel) rfl (Or.inl rfl))) (fun _ _ _ _=>Gh) (fun _ _ _ _=>(pv 1)) rfl (by decide +kernel) rfl (by decide +kernel)))))))),?_⟩
 try dsimp only [Cl,Cb]
 refine Cv h (by decide) (Bk (Dv (Db 0 Bj))
   (Bk (Bw Bf)
   (Bk (Nx (Ca (top:=7))
    (Bk (Bw (Oc Bb Cg))
   (Bk (Ds (Cy (EU.eb (Td Bn (EF.eb (Db 2 (Bp Cg (Bp Cg Bj)))))))
    (Bw (Dr (fun _ _ _=>.int _) Bb (EU.eb Bf)))
    Dj)
   (Bk (Ds (AhL (Cy (EU.eb (Ahw Bb (EU.eb Cg)))) (Cy (EU.eb (Dr (fun _ _ _=>.bl _) Bb (EU.eb Bf)))))
    (Gc (Bp Bn Bj))
    Dj)
   (Ds (Cy (EU.eb (Dz Bb (EU.eb Cg))))
    (Bw (AeP (Bu (EU.eb (Dr (fun _ _ _=>.int _) Bb (EU.eb Bf))) (Bu (EU.eb Bf) Bj))))
    Dj)))))
   (Nu (Gj Bb (EF.eb (Zz (Bu Bb Bj) (Ca (top:=1)) Gr Bn))))))) (fun ps P hp=>?_)
 clear h hu hu64 hr
 obtain⟨W,M,ts,c,rfl,hl,q⟩:=hp
 walk_at "s"
 walk_at "p"
 refine⟨fun n ρ=>∃ (A:List Int) (d:Nat) (v5 v6:Sl),ρ = [.bo (.dk (kkD W M)),.bo (.lst (ts.map .int)),.sh (.int c),.ow (.lst (A.map .int)),.sh (.int d),v5,v6]/\A.length <= n/\d <= n/\A ++ edL (Ch W M) d (ts.drop n) = edL (Ch W M) 0 ts/\edD (Ch W M) d (ts.drop n) = edD (Ch W M) 0 ts,⟨[],0,_,_,rfl,Nat.le_refl _,Nat.le_refl _,rfl,rfl⟩,?_,?_⟩
 ·rintro n p ρ hp ⟨A,d,v5,v6,rfl,al,dl,hA,hd⟩
  rw[getElem?_map] at hp
  obtain⟨t,ht,rfl⟩:=map_eq_some_iff.mp hp
  have hn:n < ts.length:=(List.getElem?_eq_some_iff.mp ht).1
  rw[Wo ht,edL] at hA
  rw[Wo ht,edD] at hd
  walk_at "p"
  rw[Qn]
  walk_at "p"
  refine Aab (L:=bgK) (x:=Ch W M t) ?_
  generalize Ch W M t = k at hA hd
  have al2:(A.map PV.int).length < 100000:=by rw[length_map]; omega
  walk_at "p"
  by_cases h1:k ∈ bgK
  ·have n1:¬ k = "out":=Oa h1
   rw[if_pos h1] at hA hd
   rw[if_pos (.inl n1)] at hA
   rw[decide_eq_true h1]
   walk_at "p"
   rw[decide_eq_false n1]
   walk_at "p"
   rotate_left
   ·exact al2
   refine Np (fun z=>n1 (of_decide_eq_true z)) ?_
   walk_at "p"
   exact⟨A ++ [t],d + 1,_,_,by rw[map_append]; rfl,by rw[length_append]; show A.length + 1 <= _; omega,by omega,by rw[append_assoc]; exact hA,hd⟩
  ·rw[if_neg h1] at hA hd
   rw[decide_eq_false h1]
   walk_at "p"
   by_cases h2:k = "out"
   ·rw[if_pos h2] at hA hd
    subst h2
    rw[decide_eq_true rfl]
    walk_at "p"
    by_cases hd0:0 < d
    ·rw[if_pos (.inr hd0)] at hA
     refine No (decide_eq_true (show (0:Int) < (d:Int) by omega)) ?_
     walk_at "p"
     rotate_left
     ·exact al2
     refine No (decide_eq_true rfl) ?_
     walk_at "p"
     refine⟨A ++ [t],d - 1,_,_,by rw[map_append]; congr 5; congr 2; omega,by rw[length_append]; show A.length + 1 <= _; omega,by omega,by rw[append_assoc]; exact hA,hd⟩
    ·rw[if_neg (fun z=>z.elim (fun y=>y rfl) hd0)] at hA
     refine Np (fun z=>hd0 (by have:=of_decide_eq_true z; omega)) ?_
     walk_at "p"
     refine No (decide_eq_true rfl) ?_
     walk_at "p"
     refine⟨A,d - 1,_,_,by congr 5; congr 2; omega,by omega,by omega,hA,hd⟩
   ·rw[if_neg h2] at hA hd
    rw[if_pos (.inl h2)] at hA
    rw[decide_eq_false h2]
    walk_at "p"
    rotate_left
    ·exact al2
    refine Np (fun z=>h2 (of_decide_eq_true z)) ?_
    walk_at "p"
    exact⟨A ++ [t],d,_,_,by rw[map_append]; rfl,by rw[length_append]; show A.length + 1 <= _; omega,by omega,by rw[append_assoc]; exact hA,hd⟩
 rintro ρ ⟨A,d,v5,v6,rfl,al,dl,hA,hd⟩
 rw[length_map] at al dl
 rw[length_map,drop_length,edL,append_nil] at hA
 rw[length_map,drop_length,edD] at hd
 walk_at "p"
 refine Aaz (n:=d) (f:=fun _=>some (.int c)) (by omega) ?_ (fun k hk Z hZ=>?_)
 rotate_left
 ·walk_at "c"
  walk_at "p"
  exact hZ
 rw[show (range d).filterMap (fun _=>some (PV.int c)) = (replicate d c).map .int by
  rw[List.map_replicate,show (range d).filterMap (fun _=>some (PV.int c)) = (range d).map (fun _=>PV.int c) from congrFun (filterMap_eq_map' (f:=fun _:Nat=>PV.int c)) _,List.map_const',length_range]]
 walk_at "p"
 rotate_left
 ·rw[length_map,length_map,length_replicate]; omega
 rw[<- map_append,hA,hd]
 exact q
def chA:List Str:=["fore","back","num","blank","mark","forein","backin","out","plain","open","shut"]
theorem Afk:∀ w ∈ chA,w = "plain"\/w = "open"\/w = "shut"\/∃ k,k < 8/\toldK[k]? = some w:=by
 have:∀ w ∈ chA,w = "plain"\/w = "open"\/w = "shut"\/w ∈ toldK:=by decide +kernel
 intro w hw
 rcases this w hw with h | h | h | h
 ·exact .inl h
 ·exact .inr (.inl h)
 ·exact .inr (.inr (.inl h))
 ·obtain⟨k,hk⟩:=getElem?_of_mem h
  have:=(List.getElem?_eq_some_iff.mp hk).1
  exact .inr (.inr (.inr ⟨k,this,hk⟩))
theorem Akd {f:Nat->Int} {U R:List Sg} {J:List Jn} {k y:Nat} (ga:G2A f U R J k y):∀ w ∈ chA,0 < (gpF f (upG U R (r0G f U).length) (mtG f y) w).length/\(gpF f (upG U R (r0G f U).length) (mtG f y) w).length <= 28:=by
 intro w hw
 have bk:=Xz ga.jg ga.hk ga.ht ga.ul ga.hf y
 have nd:=bk.nd
 have uix:=(Vf ga.jg ga.hk ga.ht ga.ul ga.hf).2
 have le:(gpF f (upG U R (r0G f U).length) (mtG f y) w).length <= 28:=by
  unfold gpF
  refine Nat.le_trans (length_filter_le _ _) ?_
  rw[length_map,length_range]; exact Nat.le_refl _
 have one:∀ n,n < 28->Ch (upG U R (r0G f U).length) (mtG f y) (f n) = w->0 < (gpF f (upG U R (r0G f U).length) (mtG f y) w).length:=fun n hn h =>
  List.length_pos_of_mem (mem_filter.mpr ⟨mem_map.mpr ⟨n,mem_range.mpr hn,rfl⟩,decide_eq_true h⟩)
 have mm:(f 14,f 15) ∈ mtG f y:=by
  unfold mtG
  rcases ga.hy with rfl | rfl <;> exact .head _
 refine⟨?_,le⟩
 rcases Afk w hw with rfl | rfl | rfl | ⟨i,hi,hw2⟩
 ·refine one 26 (by decide) (Qo (Zk fun z=>?_))
  rcases mem_append.mp z with z | z
  ·obtain⟨u,hu,e⟩:=mem_map.mp z
   obtain⟨⟨a,h1,h2⟩,_⟩:=uix u hu
   have:=ga.hf.inj a 26 (by omega) (by omega) (by rw[<- h2]; exact e)
   omega
  ·obtain⟨a,h1,h2,h3⟩:=Yt f y _ z
   have:=ga.hf.inj 26 a (by omega) (by omega) h3
   omega
 ·exact one 14 (by decide) (Qo (Ai0 nd mm))
 ·exact one 15 (by decide) (Qo (Ajj nd mm))
 ·have hl:i < U.length:=by have:=ga.ul; omega
  obtain⟨s,hs⟩:∃ s,U[i]? = some s:=⟨_,getElem?_eq_getElem hl⟩
  have h1:=ga.ht.wd i s hs hi
  have h2:=(ga.ht.at' i s hs).1
  rw[getElem?_map,getElem?_range (by omega)] at h2
  rw[hw2] at h1
  refine one i (by omega) (Qo ?_)
  have h3:f i = s.1:=Option.some.inj h2
  rw[h3,Option.some.inj h1]
  exact Wb nd (mem_append_left _ (mem_of_getElem? hs))
theorem AfB {f:Nat->Int} {U R:List Sg} {J:List Jn} {k y:Nat} (ga:G2A f U R J k y):Ch (upG U R (r0G f U).length) (mtG f y) (f 26) = "plain":=by
 have uix:=(Vf ga.jg ga.hk ga.ht ga.ul ga.hf).2
 refine Qo (Zk fun z=>?_)
 rcases mem_append.mp z with z | z
 ·obtain⟨u,hu,e⟩:=mem_map.mp z
  obtain⟨⟨a,h1,h2⟩,_⟩:=uix u hu
  have:=ga.hf.inj a 26 (by omega) (by omega) (by rw[<- h2]; exact e)
  omega
 ·obtain⟨a,h1,h2,h3⟩:=Yt f y _ z
  have:=ga.hf.inj 26 a (by omega) (by omega) h3
  omega
def c38:List Str:=["fore","forein","num","back","out","blank","open","backin","shut","mark","plain","out"]
theorem AgV {f:Nat->Int} {W:List Sg} {M:List (Int × Int)} {w:Str} {n:Int} (h:n ∈ gpF f W M w):Ch W M n = w:=by
 unfold gpF at h
 exact of_decide_eq_true (mem_filter.mp h).2
theorem Ank (c m:Int) (h:0 <= m):∃ wd:Str,(∀ P:PV->Prop,P (.str wd)->Wi (.lst [.str "forein",.str "backin"]) (.int (c % 2)) P)/\wd ∈ bgK/\lvF wd 0 (2 + m) = some (2 - c % 2):=by
 by_cases z:c % 2 = 0
 ·refine⟨"forein",fun P q=>?_,by decide +kernel,?_⟩
  ·rw[z]; exact Nk (Gd (j:=0) rfl) q
  ·unfold lvF
   rw[z,show (if ((0:Int) + 1) % 2 = (if ("forein" : Str) = "forein" then 0 else 1) then (0:Int) + 1 else 0 + 2) = 2 by decide +kernel,if_pos (by omega)]; rfl
 ·have z:c % 2 = 1:=by omega
  refine⟨"backin",fun P q=>?_,by decide +kernel,?_⟩
  ·rw[z]; exact Nk (Gd (j:=1) rfl) q
  ·unfold lvF
   rw[z,show (if ((0:Int) + 1) % 2 = (if ("backin" : Str) = "forein" then 0 else 1) then (0:Int) + 1 else 0 + 2) = 1 by decide +kernel,if_pos (by omega)]; rfl
theorem Aj1 (ns:List Int):(Fe ns (some 4) (some 64)).length <= (Fe ns (some 5) (some 64)).length + 1:=by
 rw[show (some (4:Int)) = some ((4:Nat):Int) from rfl,show (some (5:Int)) = some ((5:Nat):Int) from rfl,show (some (64:Int)) = some ((64:Nat):Int) from rfl,Aaj,Aaj,length_drop,length_drop]
 omega
theorem Acd {f:Nat->Int} {W:List Sg} {M:List (Int × Int)} {w:Str}:((range 28).map f).filterMap (fun n=>if Ch W M n = w then some (PV.int n) else none) = (gpF f W M w).map .int:=by
 unfold gpF
 generalize (range 28).map f = l
 induction l with
 | nil=>rfl
 | cons x r ih =>
  by_cases z:Ch W M x = w
  ·rw[List.filterMap_cons_some (by rw[if_pos z]),filter_cons_of_pos (by simp [z]),map_cons,ih]
  ·rw[List.filterMap_cons_none (by rw[if_neg z]),filter_cons_of_neg (by simp [z]),ih]
theorem Ajy {α:Type} (xs:List α):Fe xs none (some (-1)) = xs.take (xs.length - 1):=by
 have e:HT.sIx xs.length xs.length (some (-1)) = xs.length - 1:=by
  show (if (-1:Int) < 0 then (-1 + (xs.length:Int)).toNat else min (-1:Int).toNat xs.length) = _
  rw[if_pos (by omega)]
  omega
 unfold Fe
 rw[HT.sIx_none,e]
 rfl
theorem Afm:∀ w ∈ c38,w ∈ chA:=by decide +kernel
theorem Aop (T:Txt K mg t):Binds K t.d_qcb ["_law_script"] []:=T.F_qcb.binds fun _ _ _ _ _ _ us hl=>match us,hl with | [_],_=>rfl
theorem Akb (T:Txt K mg t):FnOk P w K mg base CX0 8 t.f_qcb t.d_qcb ["_law_script"] (spOf K t.C_Book [false] .sh Abu):=by
 refine T.F_qcb.ok sc_qcb (fun vs H Q E h=>h.len) (fun cdv A outer s H vs Q E hr h=>?_)
 have hu:=Cr hr
 have hu64:=hr.units
 refine⟨_,(@Bc _ _ _ _ _ (Bm (i:=1) sc_qcb.nd rfl (Or.inl rfl) (Bo (Akn T) (hr.mono (by decide)) rfl T.m_qbn T.F_qbn.kp (AnB T) .nil Bx (@Ba _ _ _ _ _ (pv 0) Bd rfl)))
   (@Bc _ _ _ _ _ (Bm (i:=2) sc_qcb.nd rfl (by first | exact Or.inl rfl | exact Or.inr rfl) (Bo (Ajn T) (hr.mono (by decide)) rfl T.m_qbp T.F_qbp.kp (Anb T) .nil Bx (@Ba _ _ _ _ _ (pv 1) Bd rfl)))
   (@Bc _ _ _ _ _ (@Bm _ _ 3 _ _ _ _ sc_qcb.nd rfl (Or.inl rfl) (@Co _ _ _ _ (@De _ _ _ _ _ _ _ Bv (@De _ _ _ _ _ _ _ Bv (@De _ _ _ _ _ _ _ Bv (@De _ _ _ _ _ _ _ Bv (@De _ _ _ _ _ _ _ Bv (@De _ _ _ _ _ _ _ Bv (@De _ _ _ _ _ _ _ Bv (@De _ _ _ _ _ _ _ Bv (@De _ _ _ _ _ _ _ Bv (@De _ _ _ _ _ _ _ Bv (@De _ _ _ _ _ _ _ Bv (@De _ _ _ _ _ _ _ Bv Bd))))))))))))) rfl (by first | exact .inl rfl | exact .inr rfl))
   (@Bc _ _ _ _ _ (Bm (i:=4) sc_qcb.nd rfl (Or.inl rfl) (Bo (AnE T) (hr.mono (by decide)) rfl T.m_qz T.F_qz.kp (Aon T) .nil Bx (@Ba _ _ _ _ _ (pv 1) (@Ba _ _ _ _ _ (pv 2) (@Ba _ _ _ _ _ (pv 3) Bd rfl) rfl) rfl)))
   (@Bc _ _ _ _ _ (Bm (i:=5) sc_qcb.nd rfl (by first | exact Or.inl rfl | exact Or.inr rfl) (Br Dg (Bo (Xv T) (hr.mono (by decide)) rfl T.m_qp T.F_qp.kp (AcG T) .nil Bx (@Ba _ _ _ _ _ (pv 0) (@De _ _ _ _ _ _ _ Be Bd) rfl)) (Br Lc Be Be)))
   (@Bc _ _ _ _ _ (Bm (i:=6) sc_qcb.nd rfl (Or.inl rfl) (AiA T.K_Book (AlM T) (hr.mono (by decide)) rfl T.m_Book (Amw T) .nil Bx (@Ba _ _ _ _ _ (Ow (Jo K) rfl T.z_list PyProof.Rows.boot_list (@Ba _ _ _ _ _ (@Ci _ _ _ _ _ _ _ (Dh K) (pv 1) Be (fun _ _=>rfl)) Bd rfl)) (@Ba _ _ _ _ _ (Ow (Jo K) rfl T.z_list PyProof.Rows.boot_list (@Ba _ _ _ _ _ (@Ci _ _ _ _ _ _ _ (Dh K) (pv 1) Be (fun _ _=>rfl)) Bd rfl)) (@Ba _ _ _ _ _ (Ow (Jo K) rfl T.z_list PyProof.Rows.boot_list (@Ba _ _ _ _ _ (@Ci _ _ _ _ _ _ _ (Dh K) (pv 1) Be (fun _ _=>rfl)) Bd rfl)) Bd rfl) rfl) rfl)))
   (@Bc _ _ _ _ _ (Bm (i:=7) sc_qcb.nd rfl (Or.inl rfl) (Bo (AlR T) (hr.mono (by decide)) rfl T.m_qbu T.F_qbu.kp (Amu T) .nil Bx (@Ba _ _ _ _ _ (pv 4) (@Ba _ _ _ _ _ (Rq 1 ["_law_number"] rfl rfl (Cu (Jg (Jh K) (pv 0) (Gg Be) (Gg Be))) (fun _ _ _ _=>(Bq (i:=0) (show Nodup (["_law_number"]:List Str) by decide +kernel) rfl (Or.inl rfl))) (fun _ _ _ _=>Gh) (fun _ _ _ _=>(Br Dg (pv 0) (Br Lc Be Be))) (by decide +kernel) (by decide +kernel) rfl (by decide +kernel)) Bd rfl) rfl)))
   (@Bc _ _ _ _ _ (Bm (i:=8) sc_qcb.nd rfl (Or.inl rfl) (Br Dg (pv 5) Be))
   (@Bc _ _ _ _ _ (Bm (i:=9) sc_qcb.nd rfl (Or.inl rfl) (Br Dg (Br Fi (pv 5) Be) Be))
   (@Bc _ _ _ _ _ (Dl (Cd Dp (Br Dg (Br Fi (pv 5) Be) Be) Be (Cj _))
    (@Bi _ _ _ (Bm (i:=9) sc_qcb.nd rfl (Or.inl rfl) (Ct (Adu rfl) rfl T.z_min PyProof.Rows.boot_min (@De _ _ _ _ _ _ _ Be (@Ba _ _ _ _ _ (Br Fc (pv 8) (Br Dg (Br Fi (pv 5) Be) Be)) Bd rfl)))))
    Cw)
   (@Bc _ _ _ _ _ (Bm (i:=10) sc_qcb.nd rfl (Or.inl rfl) (Bo (Lx T) (hr.mono (by decide)) rfl T.m_qbq T.F_qbq.kp (Ox T) .nil Bx (@Ba _ _ _ _ _ (pv 6) (@Ba _ _ _ _ _ (pv 7) (@Ba _ _ _ _ _ (pv 8) (@Ba _ _ _ _ _ (pv 9) Bd rfl) rfl) rfl) rfl)))
   (@Bc _ _ _ _ _ (Dl (Aaw (Aaf (Ct (Zc K) rfl T.z_isinstance boot_isinstance (@Ba _ _ _ _ _ (pv 10) (@Ba _ _ _ _ _ (Nt (v:=.ty "list") rfl T.z_list PyProof.Rows.boot_list rfl) Bd rfl) rfl))))
    (@Bi _ _ _ (@Ce _ _ _ _ Tb))
    Cw)
   (@Bc _ _ _ _ _ (Dl (Cd (Tc K hu64) (Bo (Lx T) (hr.mono (by decide)) rfl T.m_qbq T.F_qbq.kp (Ox T) .nil Bx (@Ba _ _ _ _ _ (pv 6) (@Ba _ _ _ _ _ (pv 7) (@Ba _ _ _ _ _ (Br Fc (pv 8) Be) (@Ba _ _ _ _ _ (Br Fc (pv 9) Be) Bd rfl) rfl) rfl) rfl)) (Rq 1 ["_law_level"] rfl rfl (Cu (pv 10)) (fun _ _ _ _=>(Bq (i:=0) (show Nodup (["_law_level"]:List Str) by decide +kernel) rfl (Or.inl rfl))) (fun _ _ _ _=>Gh) (fun _ _ _ _=>(Br Fc (pv 0) Be)) (by decide +kernel) (by decide +kernel) rfl (by decide +kernel)) (Cj _))
    (@Bi _ _ _ (@Ce _ _ _ _ Tb))
    Cw)
   (@Bc _ _ _ _ _ (Ra 1 [2] ["_law_sign","_law_words_here"] ["_law_words_here"] rfl (Cu (@Ci _ _ _ _ _ _ _ (Dh K) (pv 1) Be (fun _ _=>rfl))) rfl (fun j y e1 i e2=>match j,e1,e2 with | 0,e1,e2=>by cases e1; cases e2; exact⟨rfl,rfl,rfl,by decide +kernel⟩ | _ + 1,_,e2=>by simp at e2) (forall_mem_cons.mpr ⟨rfl,fun _ h=>nomatch h⟩) (by decide +kernel) (fun _ _ _ _=>(Bq (i:=0) (show Nodup (["_law_sign","_law_words_here"]:List Str) by decide +kernel) rfl (Or.inl rfl))) (fun _ _ _ _=>(Gz (Cd Dp (Lu hu (pv 1) (pv 0) Bv ⟨rfl,rfl,rfl,rfl⟩) Bv (Cj _)))) (fun _ _ _ _=>(pv 0)) rfl (by decide +kernel) rfl (by decide +kernel) (fun _=>rfl) (i:=11) sc_qcb.nd rfl (Or.inl rfl) rfl)
   (@Bc _ _ _ _ _ (Bm (i:=12) sc_qcb.nd rfl (Or.inl rfl) (Bo (AkX T) (hr.mono (by decide)) rfl T.m_qba T.F_qba.kp (Am6 T) .nil Bx (@Ba _ _ _ _ _ (pv 7) (@Ba _ _ _ _ _ (pv 11) (@Ba _ _ _ _ _ (Rq 1 ["_law_number"] rfl rfl (Cu (Br Fv (Jg (Jh K) (pv 0) (Gg Be) (Gg Be)) (@Co _ _ _ _ (@Ba _ _ _ _ _ (pv 5) Bd rfl)))) (fun _ _ _ _=>(Bq (i:=0) (show Nodup (["_law_number"]:List Str) by decide +kernel) rfl (Or.inl rfl))) (fun _ _ _ _=>Gh) (fun _ _ _ _=>(Br Dg (pv 0) (Br Lc Be Be))) (by decide +kernel) (by decide +kernel) rfl (by decide +kernel)) Bd rfl) rfl) rfl)))
   (@Bc _ _ _ _ _ (Dl (Cd (Tc K hu64) (Bo (Lx T) (hr.mono (by decide)) rfl T.m_qbq T.F_qbq.kp (Ox T) .nil Bx (@Ba _ _ _ _ _ (pv 6) (@Ba _ _ _ _ _ (pv 12) (@Ba _ _ _ _ _ (pv 8) (@Ba _ _ _ _ _ (pv 9) Bd rfl) rfl) rfl) rfl)) (pv 10) (Cj _))
    (@Bi _ _ _ (@Ce _ _ _ _ Tb))
    Cw)
   (@Bc _ _ _ _ _ (Bm (i:=13) sc_qcb.nd rfl (Or.inl rfl) (@Ci _ _ _ _ _ _ _ (Ck K) (Gm 1 [2,5] ["_law_sign","_law_words_here","_law_cell"] ["_law_words_here","_law_cell"] rfl (Cu (@Ci _ _ _ _ _ _ _ (Dh K) (pv 1) Be (fun _ _=>rfl))) rfl (fun j y e1 i e2=>match j,e1,e2 with | 0,e1,e2=>by cases e1; cases e2; exact⟨rfl,rfl,rfl,by decide +kernel⟩ | 1,e1,e2=>by cases e1; cases e2; exact⟨rfl,rfl,rfl,by decide +kernel⟩ | _ + 2,_,e2=>by simp at e2) (forall_mem_cons.mpr ⟨rfl,forall_mem_cons.mpr ⟨rfl,fun _ h=>nomatch h⟩⟩) (by decide +kernel) (fun _ _ _ _=>(Bq (i:=0) (show Nodup (["_law_sign","_law_words_here","_law_cell"]:List Str) by decide +kernel) rfl (Or.inl rfl))) (fun _ _ _ _=>(Gz (Cd Dp (Lu hu (pv 1) (pv 0) Bv ⟨rfl,rfl,rfl,rfl⟩) (@Ci _ _ _ _ _ _ _ (Ck K) (@Co _ _ _ _ (@De _ _ _ _ _ _ _ Bv (@De _ _ _ _ _ _ _ Bv Bd))) (Br Dg (pv 2) Be) (fun _ _=>rfl)) (Cj _)))) (fun _ _ _ _=>(pv 0)) rfl (by decide +kernel) rfl (by decide +kernel)) Be (fun _ _=>rfl)))
   (@Bc _ _ _ _ _ (Bm (i:=14) sc_qcb.nd rfl (Or.inl rfl) (@Ci _ _ _ _ _ _ _ (Ck K) (Gm 1 [2] ["_law_sign","_law_words_here"] ["_law_words_here"] rfl (Cu (@Ci _ _ _ _ _ _ _ (Dh K) (pv 1) Be (fun _ _=>rfl))) rfl (fun j y e1 i e2=>match j,e1,e2 with | 0,e1,e2=>by cases e1; cases e2; exact⟨rfl,rfl,rfl,by decide +kernel⟩ | _ + 1,_,e2=>by simp at e2) (forall_mem_cons.mpr ⟨rfl,fun _ h=>nomatch h⟩) (by decide +kernel) (fun _ _ _ _=>(Bq (i:=0) (show Nodup (["_law_sign","_law_words_here"]:List Str) by decide +kernel) rfl (Or.inl rfl))) (fun _ _ _ _=>(Gz (Cd Dp (Lu hu (pv 1) (pv 0) Bv ⟨rfl,rfl,rfl,rfl⟩) Bv (Cj _)))) (fun _ _ _ _=>(pv 0)) rfl (by decide +kernel) rfl (by decide +kernel)) Be (fun _ _=>rfl)))
   (@Bc _ _ _ _ _ (Bm (i:=15) sc_qcb.nd rfl (Or.inl rfl) (Br Fv (@Co _ _ _ _ (@Ba _ _ _ _ _ (@Ci _ _ _ _ _ _ _ (Ck K) (@Ci _ _ _ _ _ _ _ (Dh K) (pv 1) Be (fun _ _=>rfl)) Be (fun _ _=>rfl)) Bd rfl)) (Bo (AkN T) (hr.mono (by decide)) rfl T.m_qbk T.F_qbk.kp (AmX T) .nil Bx (@Ba _ _ _ _ _ (pv 2) (@Ba _ _ _ _ _ (pv 7) (@Ba _ _ _ _ _ (pv 14) Bd rfl) rfl) rfl))))
   (@Bc _ _ _ _ _ (Bm (i:=16) sc_qcb.nd rfl (Or.inl rfl) (Br Zv Be (Br Dg (pv 5) Be)))
   (@Bc _ _ _ _ _ (Bm (i:=17) sc_qcb.nd rfl (Or.inl rfl) (Bo (Lx T) (hr.mono (by decide)) rfl T.m_qbq T.F_qbq.kp (Ox T) .nil Bx (@Ba _ _ _ _ _ (pv 6) (@Ba _ _ _ _ _ (Br Fv (Br Fv (@Co _ _ _ _ (@Ba _ _ _ _ _ (pv 13) Bd rfl)) (pv 15)) (@Co _ _ _ _ (@Ba _ _ _ _ _ (pv 14) Bd rfl))) (@De _ _ _ _ _ _ _ Be (@Ba _ _ _ _ _ (Br Fc Be (pv 9)) Bd rfl)) rfl) rfl)))
   (@Bc _ _ _ _ _ (Dl (Cd (Tc K hu64) (pv 17) (Br Fv (Br Fv (@Co _ _ _ _ (@De _ _ _ _ _ _ _ Be Bd)) (Bo (Lx T) (hr.mono (by decide)) rfl T.m_qbq T.F_qbq.kp (Ox T) .nil Bx (@Ba _ _ _ _ _ (pv 6) (@Ba _ _ _ _ _ (pv 15) (@Ba _ _ _ _ _ (pv 16) (@Ba _ _ _ _ _ (Br Fc Be (pv 9)) Bd rfl) rfl) rfl) rfl))) (@Co _ _ _ _ (@De _ _ _ _ _ _ _ Be Bd))) (Cj _))
    (@Bi _ _ _ (@Ce _ _ _ _ Tb))
    Cw)
   (@Bc _ _ _ _ _ (Dl (Cd (Tc K hu64) (Bo (Lx T) (hr.mono (by decide)) rfl T.m_qbq T.F_qbq.kp (Ox T) .nil Bx (@Ba _ _ _ _ _ (pv 6) (@Ba _ _ _ _ _ (Br Fv (@Co _ _ _ _ (@Ba _ _ _ _ _ (pv 13) Bd rfl)) (pv 15)) (@De _ _ _ _ _ _ _ Be (@Ba _ _ _ _ _ (Br Fc Be (pv 9)) Bd rfl)) rfl) rfl)) (Jg (Jh K) (pv 17) Tm (Gg (Tj Qt Be))) (Cj _))
    (@Bi _ _ _ (@Ce _ _ _ _ Tb))
    Cw)
   (@Bc _ _ _ _ _ (Bm (i:=18) sc_qcb.nd rfl (Or.inl rfl) (Bo (Lx T) (hr.mono (by decide)) rfl T.m_qbq T.F_qbq.kp (Ox T) .nil Bx (@Ba _ _ _ _ _ (pv 6) (@Ba _ _ _ _ _ (Br Fv (Br Fv (@Co _ _ _ _ (@Ba _ _ _ _ _ (@Ci _ _ _ _ _ _ _ (Ck K) (@Ci _ _ _ _ _ _ _ (Dh K) (pv 1) Be (fun _ _=>rfl)) Be (fun _ _=>rfl)) Bd rfl)) (pv 15)) (@Co _ _ _ _ (@Ba _ _ _ _ _ (@Ci _ _ _ _ _ _ _ (Ck K) (@Ci _ _ _ _ _ _ _ (Dh K) (pv 1) Be (fun _ _=>rfl)) Be (fun _ _=>rfl)) Bd rfl))) (@De _ _ _ _ _ _ _ Be (@De _ _ _ _ _ _ _ Be Bd)) rfl) rfl)))
   (@Bi _ _ _ (@Ce _ _ _ _ (Jk (Aii K hu64) (Bo (Lx T) (hr.mono (by decide)) rfl T.m_qbq T.F_qbq.kp (Ox T) .nil Bx (@Ba _ _ _ _ _ (pv 6) (@Ba _ _ _ _ _ (Br Fv (Br Fv (@Co _ _ _ _ (@Ba _ _ _ _ _ (pv 13) Bd rfl)) (pv 15)) (@Co _ _ _ _ (@Ba _ _ _ _ _ (pv 14) Bd rfl))) (@De _ _ _ _ _ _ _ Be (@De _ _ _ _ _ _ _ Be Bd)) rfl) rfl)) (pv 18) (Cj _)))))))))))))))))))))))))))),?_⟩
 try dsimp only [Cl,Cb]
 refine Cv h (by decide) (Bk (Bw (Fp (Bu Bb Bj)))
   (Bk (Bw (EF.eu (Dm (Bp Bn Bj))))
   (Bk (Bw (EF.eu (Db 12 (Bp Cg (Bp Cg (Bp Cg (Bp Cg (Bp Cg (Bp Cg (Bp Cg (Bp Cg (Bp Cg (Bp Cg (Bp Cg (Bp Cg Bj)))))))))))))))
   (Bk (Bw (EF.eu (Dm (Bu Bb (Bu Bb (Bp Bn Bj))))))
   (Bk (Bw (Cp (fun _ _ _=>.int _) (EU.eb (Fp (Bu Bb (Bu (EU.eb Bf) Bj)))) (EU.eb (Cp (fun _ _ _=>.int _) (EU.eb Bf) (EU.eb Bf)))))
   (Bk (Bw (AmL (Bu (EF.eb (Tg (Bu (EU.eb (Du Bb (EU.eb Bf))) Bj))) (Bu (EF.eb (Tg (Bu (EU.eb (Du Bb (EU.eb Bf))) Bj))) (Bu (EF.eb (Tg (Bu (EU.eb (Du Bb (EU.eb Bf))) Bj))) Bj)))))
   (Bk (Bw (EF.eu (Dm (Bp Bn (Bp (EF.eu (Fu (EF.eb (Nc Bb (Gf (EU.eb Bf)) (Gf (EU.eb Bf)))) (Ca (top:=1)) Gr (Cp (fun _ _ _=>.int _) Bb (EU.eb (Cp (fun _ _ _=>.int _) (EU.eb Bf) (EU.eb Bf)))))) Bj)))))
   (Bk (Bw (Cp (fun _ _ _=>.int _) Bb (EU.eb Bf)))
   (Bk (Bw (Cp (fun _ _ _=>.int _) (EU.eb (Cp (fun _ _ _=>.int _) Bb (EU.eb Bf))) (EU.eb Bf)))
   (Bk (Ds (Cy (EU.eb (Dz (EU.eb (Cp (fun _ _ _=>.int _) (EU.eb (Cp (fun _ _ _=>.int _) Bb (EU.eb Bf))) (EU.eb Bf))) (EU.eb Bf))))
    (Bw (Ali (Bu (EU.eb Bf) (Bu (EU.eb (Dr (fun _ _ _=>.int _) Bb (EU.eb (Cp (fun _ _ _=>.int _) (EU.eb (Cp (fun _ _ _=>.int _) Bb (EU.eb Bf))) (EU.eb Bf))))) Bj))))
    Dj)
   (Bk (Bw (EF.eu (Dm (Bu Bb (Bu Bb (Bp Bn (Bu Bb Bj)))))))
   (Bk (Ds (AlE (Aib (EU.eb (AlJ Bb))))
    (Dw Uu)
    Dj)
   (Bk (Ds (Cy (EU.eb (Sa (EF.eb (Dm (Bu Bb (Bu Bb (Bp (Dr (fun _ _ _=>.int _) Bb (EU.eb Bf)) (Bu (EU.eb (Dr (fun _ _ _=>.int _) Bb (EU.eb Bf))) Bj)))))) (EF.eb (Fu Bb (Ca (top:=1)) Gr (Dr (fun _ _ _=>.int _) Bb (EU.eb Bf)))))))
    (Dw Uu)
    Dj)
   (Bk (Bw (EF.eu (Fu (EU.eb (Du Bb (EU.eb Bf))) (Ca (top:=1)) (Cy (EU.eb (Dz (EU.eb (Oc Bb Cg)) (EU.eb Cg)))) Bn)))
   (Bk (Bw (EF.eu (Dm (Bp Bn (Bu Bb (Bp (EF.eu (Fu (EF.eb (Gj (EF.eb (Nc Bb (Gf (EU.eb Bf)) (Gf (EU.eb Bf)))) (EF.eb (Db 1 (Bp Bn Bj))))) (Ca (top:=1)) Gr (Cp (fun _ _ _=>.int _) Bb (EU.eb (Cp (fun _ _ _=>.int _) (EU.eb Bf) (EU.eb Bf)))))) Bj))))))
   (Bk (Ds (Cy (EU.eb (Sa (EF.eb (Dm (Bu Bb (Bu Bb (Bp Bn (Bu Bb Bj)))))) Bb)))
    (Dw Uu)
    Dj)
   (Bk (Bw (Da (EF.eb (Fu (EU.eb (Du Bb (EU.eb Bf))) (Ca (top:=1)) (Cy (EU.eb (Dz (EU.eb (Oc Bb Cg)) (EU.eb (Da (EF.eb (Db 2 (Bp Cg (Bp Cg Bj)))) (EU.eb (Cp (fun _ _ _=>.int _) Bb (EU.eb Bf)))))))) Bn)) (EU.eb Bf)))
   (Bk (Bw (Da (EF.eb (Fu (EU.eb (Du Bb (EU.eb Bf))) (Ca (top:=1)) (Cy (EU.eb (Dz (EU.eb (Oc Bb Cg)) (EU.eb Cg)))) Bn)) (EU.eb Bf)))
   (Bk (Bw (EF.eu (Gj (EF.eb (Db 1 (Bp (Da (EU.eb (Du Bb (EU.eb Bf))) (EU.eb Bf)) Bj))) (EF.eb (Dm (Bu Bb (Bu Bb (Bp Bn Bj))))))))
   (Bk (Bw (Dr (fun _ _ _=>.int _) (EU.eb Bf) (EU.eb (Cp (fun _ _ _=>.int _) Bb (EU.eb Bf)))))
   (Bk (Bw (EF.eu (Dm (Bu Bb (Bu (EF.eb (Gj (EF.eb (Gj (EF.eb (Db 1 (Bp Bn Bj))) Bb)) (EF.eb (Db 1 (Bp Bn Bj))))) (Bp Bf (Bu (EU.eb (Dr (fun _ _ _=>.int _) (EU.eb Bf) Bb)) Bj)))))))
   (Bk (Ds (Cy (EU.eb (Sa Bb (EF.eb (Gj (EF.eb (Gj (EF.eb (Db 1 (Bp Bf Bj))) (EF.eb (Dm (Bu Bb (Bu Bb (Bp Bn (Bu (EU.eb (Dr (fun _ _ _=>.int _) (EU.eb Bf) Bb)) Bj)))))))) (EF.eb (Db 1 (Bp Bf Bj))))))))
    (Dw Uu)
    Dj)
   (Bk (Ds (Cy (EU.eb (Sa (EF.eb (Dm (Bu Bb (Bu (EF.eb (Gj (EF.eb (Db 1 (Bp Bn Bj))) Bb)) (Bp Bf (Bu (EU.eb (Dr (fun _ _ _=>.int _) (EU.eb Bf) Bb)) Bj)))))) (EF.eb (Nc Bb Ss (Gf (EU.eb (AaD (fun _ _=>.int _) (EU.eb Bf)))))))))
    (Dw Uu)
    Dj)
   (Bk (Bw (EF.eu (Dm (Bu Bb (Bu (EF.eb (Gj (EF.eb (Gj (EF.eb (Db 1 (Bp (Da (EU.eb (Du Bb (EU.eb Bf))) (EU.eb Bf)) Bj))) Bb)) (EF.eb (Db 1 (Bp (Da (EU.eb (Du Bb (EU.eb Bf))) (EU.eb Bf)) Bj))))) (Bp Bf (Bu (EU.eb Bf) Bj)))))))
   (Dw (Sa (EF.eb (Dm (Bu Bb (Bu (EF.eb (Gj (EF.eb (Gj (EF.eb (Db 1 (Bp Bn Bj))) Bb)) (EF.eb (Db 1 (Bp Bn Bj))))) (Bp Bf (Bu (EU.eb Bf) Bj)))))) Bb)))))))))))))))))))))))))) (fun ps P hp=>?_)
 clear h hu hu64 hr
 obtain⟨ns,rfl,hlen,q⟩:=hp
 walk_at "s"
 walk_at "p"
 refine⟨ns,rfl,hlen,fun f U R J k y ga=>?_⟩
 have bk:=Xz ga.jg ga.hk ga.ht ga.ul ga.hf y
 have gne:=Akd ga
 have hsp:=AfB ga
 walk_at "p"
 refine⟨f,U,R,J,k,y,rfl,ga,?_⟩
 walk_at "p"
 unfold g2P
 generalize upG U R (r0G f U).length = W at bk gne hsp
 generalize mtG f y = M at bk gne hsp
 refine⟨f,W,M,J,c38,rfl,by decide,?_⟩
 rw[show (c38.map fun w=>PV.lst ((gpF f W M w).map .int)) = (c38.map (gpF f W M)).map (fun g:List Int=>PV.lst (g.map .int)) by rw[map_map]; rfl]
 have g0:∀ g ∈ c38.map (gpF f W M),0 < g.length/\g.length <= 100:=fun g hg=>by
  obtain⟨w,hw,rfl⟩:=mem_map.mp hg
  have:=gne w (Afm w hw)
  exact⟨this.1,by omega⟩
 have gl:(c38.map (gpF f W M)).length = 12:=by rw[length_map]; rfl
 generalize c38.map (gpF f W M) = gs at g0 gl
 have cl:=Rg ns (some 4) (some 64)
 have cl5:=Rg ns (some 5) (some 64)
 walk_at "x"
 refine Jd ?_
 walk_at "x"
 refine⟨ns,3,rfl,hlen,?_⟩
 walk_at "x"
 walk_at "mc"
 generalize cR ns 3 % 10 ^ toNat 9 = c
 refine Jd ?_
 walk_at "x"
 refine⟨3,_,_,rfl,rfl,Gd (j:=3) rfl,?_⟩
 walk_at "x"
 refine⟨W,M,J,rfl,bk.so,bk.mo,bk.nd,bk.jo,by have:=bk.ln; omega,?_⟩
 walk_at "x"
 refine Jd ?_
 walk_at "x"
 walk_at "me"
 refine Fb (S:=Fe ns (some 4) (some 64)) (enc:=PV.int) (f:=fun c=>some (.int (c % 10 ^ 9))) ?_ (fun d hd Z hZ=>?_)
 rotate_left
 ·walk_at "c"
  walk_at "p"
  walk_at "mc"
  exact hZ
 rw[show (Fe ns (some 4) (some 64)).filterMap (fun c=>some (PV.int (c % 10 ^ 9))) = ((Fe ns (some 4) (some 64)).map fun c=>c % 10 ^ 9).map .int by rw[map_map]; exact congrFun (filterMap_eq_map' (f:=fun c=>PV.int (c % 10 ^ 9))) _]
 walk_at "x"
 refine⟨gs,_,rfl,⟨by omega,by omega⟩,g0,by rw[length_map]; omega,fun ts tl tin=>?_⟩
 rw[length_map] at tl
 have hl:ts.length <= 63:=by omega
 have hl3:ts.length <= 300:=by omega
 obtain⟨kl1,kl2⟩:=Zi W M ts
 refine Jd ?_
 walk_at "x"
 all_goals try decide
 have b0:0 <= c % 59:=by omega
 generalize c % 59 = b at b0
 refine Jd ?_
 walk_at "x"
 walk_at "mb"
 refine Nr (fun ρ=>∃ m:Int,0 <= m/\ρ = [.bo (.scr ns),.sh (.tup [.lst ((range 28).map fun k=>.int (f k)),.lst (W.map sgP),.lst (M.map prP),.lst (J.map jnP)]),.sh (.dk (kkD W M)),.sh (.lst (c38.map .str)),.sh (.lst (gs.map fun g:List Int=>PV.lst (g.map .int))),.sh (.int c),.sh (.bk W M J),.sh (.lst (ts.map .int)),.sh (.int b),.sh (.int m),.un,.un,.un,.un,.un,.un,.un,.un,.un]) (fun ρ h=>?_) ?_
 rotate_left
 ·walk_at "p"
  walk_at "mb"
  refine Ze (fun h=>?_) (fun h=>?_)
  ·walk_at "p"
   walk_at "mb"
   refine .inl ⟨_,?_,rfl⟩
   split <;> omega
  ·walk_at "p"
   exact .inl ⟨_,by omega,rfl⟩
 obtain⟨m,m0,rfl⟩:=h
 walk_at "p"
 refine⟨W,M,J,ts,some b,m,rfl,hl3,?_⟩
 rw[show (some b).getD (obF 0 (knL W M ts)) = b from rfl]
 have l2:=Af2 (mtF M) (knL W M ts) (bsL W M ts) b m
 have ll:(Do (mtF M) (knL W M ts) (bsL W M ts) b m).length <= 63:=by rw[Lm]; omega
 generalize hlv:Do (mtF M) (knL W M ts) (bsL W M ts) b m = lv at l2 ll
 walk_at "p"
 refine⟨W,M,J,ts,some (b + 2),m + 2,rfl,hl3,?_⟩
 rw[show (some (b + 2)).getD (obF 0 (knL W M ts)) = b + 2 from rfl,l2]
 walk_at "p"
 walk_at "me"
 refine Fb (S:=lv) (enc:=PV.int) (f:=fun v=>some (.int (v + 2))) ?_ (fun d hd Z hZ=>?_)
 rotate_left
 ·walk_at "c"
  walk_at "p"
  exact hZ
 rw[show lv.filterMap (fun v=>some (PV.int (v + 2))) = (lv.map (· + 2)).map .int by rw[map_map]; exact congrFun (filterMap_eq_map' (f:=fun v=>PV.int (v + 2))) _]
 refine Ut Od ?_
 walk_at "p"
 refine⟨by simp,?_⟩
 refine Fb (S:=(range 28).map f) (enc:=PV.int) (f:=fun n=>if Ch W M n = "mark" then some (.int n) else none) ?_ (fun d hd Z hZ=>?_)
 rotate_left
 ·walk_at "c"
  walk_at "p"
  rw[Qn]
  walk_at "p"
  by_cases hm:Ch W M d = "mark"
  ·rw[decide_eq_true hm]
   rw[if_pos hm] at hZ
   walk_at "p"
   exact hZ
  ·rw[decide_eq_false hm]
   rw[if_neg hm] at hZ
   walk_at "p"
   exact hZ
 rw[Acd]
 obtain⟨mn1,mn2⟩:=gne "mark" (by decide +kernel)
 walk_at "p"
 rotate_left
 ·rw[length_map]; show _ + 1 <= _; omega
 refine⟨by rw[length_append,length_map]; show _ + 1 <= _; omega,?_⟩
 rw[show map PV.int (Fe ns (some 5) (some 64)) ++ [PV.int c] = (Fe ns (some 5) (some 64) ++ [c]).map .int by rw[map_append]; rfl]
 refine Fb (S:=Fe ns (some 5) (some 64) ++ [c]) (enc:=PV.int) (f:=fun c=>some (.int (c % 10 ^ 9))) ?_ (fun d hd Z hZ=>?_)
 rotate_left
 ·walk_at "c"
  walk_at "p"
  walk_at "mc"
  exact hZ
 rw[show (Fe ns (some 5) (some 64) ++ [c]).filterMap (fun c=>some (PV.int (c % 10 ^ 9))) = ((Fe ns (some 5) (some 64) ++ [c]).map fun c=>c % 10 ^ 9).map .int by rw[map_map]; exact congrFun (filterMap_eq_map' (f:=fun c=>PV.int (c % 10 ^ 9))) _]
 have csl:((Fe ns (some 5) (some 64) ++ [c]).map fun c=>c % 10 ^ 9).length = (Fe ns (some 5) (some 64)).length + 1:=by rw[length_map,length_append]; rfl
 have c45:(Fe ns (some 4) (some 64)).length <= (Fe ns (some 5) (some 64)).length + 1:=Aj1 ns
 generalize ((Fe ns (some 5) (some 64) ++ [c]).map fun c=>c % 10 ^ 9) = cs at csl
 walk_at "p"
 refine⟨ts,gpF f W M "mark",cs,rfl,by omega,by omega,⟨mn1,by omega⟩,by omega,fun rs rl rh=>?_⟩
 have hk:=rh (Dd W M) (fun n hn=>by
  unfold gpF at hn
  have:=of_decide_eq_true (mem_filter.mp hn).2
  exact decide_eq_true this)
 have k1:knL W M rs = knL W M ts:=by rw[(Sv W M rs).1,hk,(Sv W M ts).1]
 have k2:bsL W M rs = bsL W M ts:=by rw[(Sv W M rs).2,hk,(Sv W M ts).2]
 walk_at "p"
 refine⟨W,M,J,rs,some b,m,rfl,by omega,?_⟩
 rw[show (some b).getD (obF 0 (knL W M rs)) = b from rfl,k1,k2,hlv]
 walk_at "p"
 refine Ut Od ?_
 walk_at "p"
 obtain⟨wd,wx,wb,wl⟩:=Ank c m m0
 refine⟨by simp,?_⟩
 refine Fb (S:=(range 28).map f) (enc:=PV.int) (f:=fun n=>if Ch W M n = wd then some (.int n) else none) ?_ (fun d hd Z hZ=>?_)
 rotate_left
 ·walk_at "c"
  walk_at "p"
  rw[Qn]
  walk_at "p"
  all_goals try decide
  refine wx _ ?_
  walk_at "p"
  by_cases hm:Ch W M d = wd
  ·rw[decide_eq_true hm]
   rw[if_pos hm] at hZ
   walk_at "p"
   exact hZ
  ·rw[decide_eq_false hm]
   rw[if_neg hm] at hZ
   walk_at "p"
   exact hZ
 rw[Acd]
 walk_at "p"
 obtain⟨wn1,wn2⟩:=gne wd ((by decide +kernel:∀ x ∈ bgK,x ∈ chA) wd wb)
 obtain⟨on1,on2⟩:=gne "out" (by decide +kernel)
 obtain⟨fs,hfs⟩:∃ x,(gpF f W M wd)[0]? = some x:=⟨_,getElem?_eq_getElem wn1⟩
 obtain⟨cc,hcc⟩:∃ x,(gpF f W M "out")[0]? = some x:=⟨_,getElem?_eq_getElem on1⟩
 have kfs:Ch W M fs = wd:=AgV (mem_of_getElem? hfs)
 have kcc:Ch W M cc = "out":=AgV (mem_of_getElem? hcc)
 refine Ff (l:=gpF f W M wd) (j:=0) (a:=fs) hfs rfl ?_
 walk_at "p"
 refine⟨by simp,?_⟩
 refine Fb (S:=(range 28).map f) (enc:=PV.int) (f:=fun n=>if Ch W M n = "out" then some (.int n) else none) ?_ (fun d hd Z hZ=>?_)
 rotate_left
 ·walk_at "c"
  walk_at "p"
  rw[Qn]
  walk_at "p"
  by_cases hm:Ch W M d = "out"
  ·rw[decide_eq_true hm]
   rw[if_pos hm] at hZ
   walk_at "p"
   exact hZ
  ·rw[decide_eq_false hm]
   rw[if_neg hm] at hZ
   walk_at "p"
   exact hZ
 rw[Acd]
 refine Ff (l:=gpF f W M "out") (j:=0) (a:=cc) hcc rfl ?_
 walk_at "p"
 refine Ff (l:=range 28) (f:=fun k=>PV.int (f k)) (j:=26) (a:=26) rfl rfl ?_
 walk_at "p"
 refine⟨W,M,ts,cc,rfl,by omega,?_⟩
 have el:=Abj (Ch W M) ts 0
 have ed1:=Zs (kd:=Ch W M) (c:=cc) (ke:=[("out" : Str)]) kcc (.inr rfl) ts 0
 have ed0:=Zs (kd:=Ch W M) (c:=cc) (ke:=[]) kcc (.inl rfl) ts 0
 have El:(edL (Ch W M) 0 ts ++ replicate (edD (Ch W M) 0 ts) cc).length <= 126:=by rw[length_append,length_replicate]; omega
 generalize edL (Ch W M) 0 ts ++ replicate (edD (Ch W M) 0 ts) cc = E at ed1 ed0 El
 obtain⟨r1,r2,r3⟩:=Anf (mt:=mtF M) (E:=E) (by rw[kfs]; exact wb) hsp kcc (by rw[kfs]; exact wl) ed1 ed0
 walk_at "p"
 walk_at "ma"
 rw[show PV.int fs :: PV.int (f 26) :: (E.map PV.int ++ [PV.int cc]) = (fs :: f 26 :: (E ++ [cc])).map .int by simp]
 refine⟨W,M,J,fs :: f 26 :: (E ++ [cc]),some 0,2 + m,rfl,by simp only [length_append,length_cons,length_nil]; omega,?_⟩
 rw[show (some (0:Int)).getD (obF 0 (knL W M (fs :: f 26 :: (E ++ [cc])))) = 0 from rfl,r1]
 have il:(Do (mtF M) (knL W M (f 26 :: E)) (bsL W M (f 26 :: E)) (2 - c % 2) (2 + m)).length <= 200:=by rw[Lm]; have:=(Zi W M (f 26 :: E)).1; have h2:=(Zi W M (f 26 :: E)).2; rw[length_cons] at h2; omega
 generalize hiv:Do (mtF M) (knL W M (f 26 :: E)) (bsL W M (f 26 :: E)) (2 - c % 2) (2 + m) = iv at r2 il
 walk_at "p"
 walk_at "ma"
 refine⟨W,M,J,f 26 :: E,some (2 - c % 2),2 + m,rfl,by simp only [length_cons]; omega,?_⟩
 rw[show (some (2 - c % 2)).getD (obF 0 (knL W M (f 26 :: E))) = 2 - c % 2 from rfl,hiv]
 walk_at "p"
 walk_at "ma"
 rw[show (PV.int 0 :: (map PV.int iv ++ [PV.int 0])) = (0 :: (iv ++ [0])).map .int by simp]
 refine Ut Od ?_
 walk_at "p"
 walk_at "ma"
 refine⟨W,M,J,fs :: f 26 :: E,some 0,2 + m,rfl,by simp only [length_cons]; omega,?_⟩
 rw[show (some (0:Int)).getD (obF 0 (knL W M (fs :: f 26 :: E))) = 0 from rfl,r2]
 walk_at "p"
 rw[Oe,Ajy,show (0 :: (iv ++ [0])).take ((0 :: (iv ++ [(0:Int)])).length - 1) = 0 :: iv by simp]
 refine Ut Od ?_
 walk_at "p"
 refine Ff (l:=range 28) (f:=fun k=>PV.int (f k)) (j:=26) (a:=26) rfl rfl ?_
 walk_at "p"
 refine Ff (l:=range 28) (f:=fun k=>PV.int (f k)) (j:=26) (a:=26) rfl rfl ?_
 walk_at "p"
 walk_at "ma"
 rw[show PV.int (f 26) :: PV.int (f 26) :: (E.map PV.int ++ [PV.int (f 26)]) = (f 26 :: f 26 :: (E ++ [f 26])).map .int by simp]
 refine⟨W,M,J,f 26 :: f 26 :: (E ++ [f 26]),some 0,0,rfl,by simp only [length_append,length_cons,length_nil]; omega,?_⟩
 rw[show (some (0:Int)).getD (obF 0 (knL W M (f 26 :: f 26 :: (E ++ [f 26])))) = 0 from rfl,<- r3]
 walk_at "p"
 walk_at "ma"
 rw[show PV.int fs :: PV.int (f 26) :: (E.map PV.int ++ [PV.int cc]) = (fs :: f 26 :: (E ++ [cc])).map .int by simp]
 refine⟨W,M,J,fs :: f 26 :: (E ++ [cc]),some 0,0,rfl,by simp only [length_append,length_cons,length_nil]; omega,?_⟩
 rw[show (some (0:Int)).getD (obF 0 (knL W M (fs :: f 26 :: (E ++ [cc])))) = 0 from rfl]
 walk_at "p"
 refine Al1 Od ?_
 exact q
end
def _root_.PySem.W.Fast.tw10019097637745064669:Nat:=0
def _root_.PySem.W.Fast.tw10344833864391249457:Nat:=0
def _root_.PySem.W.Fast.tw10401943056118694099:Nat:=0
def _root_.PySem.W.Fast.tw1067977423902865445:Nat:=0
def _root_.PySem.W.Fast.tw10814425859195134750:Nat:=0
def _root_.PySem.W.Fast.tw1139353643585850830:Nat:=0
def _root_.PySem.W.Fast.tw11769301912710838218:Nat:=0
def _root_.PySem.W.Fast.tw12060393395731191544:Nat:=0
def _root_.PySem.W.Fast.tw12669875863630326413:Nat:=0
def _root_.PySem.W.Fast.tw12790983403016920999:Nat:=0
def _root_.PySem.W.Fast.tw12993430307176013978:Nat:=0
def _root_.PySem.W.Fast.tw1476550412926981601:Nat:=0
def _root_.PySem.W.Fast.tw15871389530884287694:Nat:=0
def _root_.PySem.W.Fast.tw15948839287765359500:Nat:=0
def _root_.PySem.W.Fast.tw16034268822082317208:Nat:=0
def _root_.PySem.W.Fast.tw16106353790879827386:Nat:=0
def _root_.PySem.W.Fast.tw17038082156656276884:Nat:=0
def _root_.PySem.W.Fast.tw17133972714751310499:Nat:=0
def _root_.PySem.W.Fast.tw17402009809205839964:Nat:=0
def _root_.PySem.W.Fast.tw18003455956899235052:Nat:=0
def _root_.PySem.W.Fast.tw18440495679808361951:Nat:=0
def _root_.PySem.W.Fast.tw2704149086213166357:Nat:=0
def _root_.PySem.W.Fast.tw3393612967115613322:Nat:=0
def _root_.PySem.W.Fast.tw398302477343669191:Nat:=0
def _root_.PySem.W.Fast.tw482713510633217092:Nat:=0
def _root_.PySem.W.Fast.tw5084443212534742824:Nat:=0
def _root_.PySem.W.Fast.tw59775098757740500:Nat:=0
def _root_.PySem.W.Fast.tw6212219493803274181:Nat:=0
def _root_.PySem.W.Fast.tw6332470089130647254:Nat:=0
def _root_.PySem.W.Fast.tw6369779699970414303:Nat:=0
def _root_.PySem.W.Fast.tw6652287291666380:Nat:=0
def _root_.PySem.W.Fast.tw7641131990018518971:Nat:=0
def _root_.PySem.W.Fast.tw7702584879262543017:Nat:=0
def _root_.PySem.W.Fast.tw8003150870679321583:Nat:=0
def _root_.PySem.W.Fast.tw8658430013797299589:Nat:=0
def _root_.PySem.W.Fast.tw8676922905632523719:Nat:=0
def _root_.PySem.W.Fast.tw8824577666202143945:Nat:=0
def _root_.PySem.W.Fast.tw9886554580357332842:Nat:=0
abbrev fnD (x q:Str) (st:Stmt) (dV kV doc pm:Value) (an:Option Addr) (cdv ct:Value):FuncData:=fnOf x q (Jl st) (Gu st) (Bs st) dV kV doc pm an cdv ct
theorem all_mk {l:PySem.W.OpenLaw} {w:World} {K:Frag} {h:Heap} {mg:Str->Option Value} {fa:Addr} (X:K.In h) (G:h.Ns mainGlobals mg) (hfa:mg "law" = some (.ref fa)) {x00 x01 x02 x03 x04 x05 x06 x07 x08 x09 x0a x0b x0c x0d x0e x0f x0g x0h x0i x0j x0k x0l x0m x0n x0o x0p x0q x0r x0s x0t x0u x0v x0w x0x x0y x0z x10 x11 x12 x13 x14 x15 x16 x17 x18 x19 x1a x1b x1c x1d x1e x1f x1g:Addr} {x1h:Addr} {x1i:Value} {x1j:Option Addr} {x1k:Nat} {x1l:Array (Option Value)} {x1m:Addr} {x1n x1o:Value} {x1p:Option Addr} {x1q:Nat} {x1r:Array (Option Value)} {x1s:Option Addr} {x1t:Array Value} {x1u:Nat} {x1v:Array (Option Value)} {x1w:Option Addr} {x1x:Array Value} {x1y:Nat} {x1z:Array (Option Value)} {x20:Option Addr} {x21:Array Value} {x22:Nat} {x23:Array (Option Value)} {x24:Value} {x25:Option Addr} {x26:Array Value} {x27:Nat} {x28:Array (Option Value)} {x29 x2a x2b x2c x2d x2e x2f x2g x2h x2i x2j x2k x2l x2m x2n x2o x2p x2q x2r x2s x2t x2u x2v x2w x2x x2y x2z x30 x31 x32 x33 x34 x35 x36 x37 x38 x39 x3a x3b x3c x3d x3e x3f x3g x3h x3i x3j x3k x3l x3m x3n x3o x3p x3q x3r x3s x3t x3u x3v x3w x3x x3y x3z x40 x41 x42 x43 x44 x45 x46 x47 x48 x49 x4a x4b x4c x4d x4e x4f x4g x4h x4i x4j x4k x4l x4m x4n x4o x4p x4q x4r x4s x4t x4u x4v x4w:Option Addr} {x4x x4y x4z x50 x51 x52 x53 x54 x55 x56 x57 x58 x59 x5a x5b x5c x5d x5e x5f x5g x5h x5i x5j x5k x5l x5m x5n x5o x5p x5q x5r x5s x5t x5u x5v x5w x5x x5y x5z x60 x61 x62 x63 x64 x65 x66 x67 x68:Array (Option Value)} {x69 x6a x6b x6c x6d x6e x6f x6g x6h x6i x6j x6k x6l x6m x6n x6o x6p x6q x6r x6s x6t x6u x6v x6w x6x x6y x6z x70 x71 x72 x73 x74 x75 x76 x77 x78 x79 x7a x7b x7c x7d x7e x7f x7g x7h x7i x7j x7k x7l x7m x7n x7o x7p x7q x7r x7s x7t x7u x7v x7w x7x x7y x7z x80 x81 x82 x83 x84 x85 x86 x87 x88 x89 x8a x8b x8c x8d x8e x8f x8g x8h x8i x8j x8k x8l x8m x8n x8o x8p x8q x8r x8s x8t x8u x8v x8w x8x x8y x8z x90 x91 x92 x93 x94 x95 x96 x97 x98 x99 x9a x9b x9c x9d x9e x9f x9g x9h x9i x9j x9k x9l x9m x9n x9o x9p x9q x9r x9s x9t x9u x9v x9w x9x x9y x9z xa0 xa1 xa2 xa3 xa4 xa5 xa6 xa7 xa8 xa9 xaa xab xac xad xae xaf xag xah xai xaj xak xal xam xan xao xap xaq xar xas xat xau xav xaw xax xay xaz xb0 xb1 xb2 xb3 xb4 xb5 xb6 xb7 xb8 xb9 xba xbb xbc xbd xbe xbf xbg xbh xbi xbj xbk xbl xbm xbn xbo xbp xbq xbr xbs xbt xbu xbv xbw xbx xby xbz xc0 xc1 xc2 xc3 xc4 xc5 xc6 xc7 xc8 xc9 xca xcb xcc xcd xce xcf xcg xch xci xcj xck xcl xcm xcn xco xcp xcq xcr xcs xct xcu xcv xcw xcx xcy xcz xd0 xd1 xd2 xd3 xd4 xd5 xd6 xd7 xd8 xd9 xda xdb xdc xdd xde xdf xdg xdh xdi xdj xdk xdl xdm xdn xdo xdp xdq xdr xds xdt xdu xdv xdw xdx xdy xdz xe0 xe1 xe2 xe3 xe4 xe5 xe6 xe7 xe8:Value}
  (xe9:nsIn K mainGlobals "Book" = some (some (.ref x1c)))
  (xea:nsIn K mainGlobals "_law_signs" = some (some (.ref x00)))
  (xeb:K.lookup x00 = some ⟨x69,x29,.func (fnD "_law_signs" "_law_signs" Xo .none x6a x6b x6c x2a x6d x6e),x4x⟩)
  (xec:codeIn K x6d "_law_signs" = true)
  (xed:keepIn K (.ref x00) = true)
  (xee:nsIn K mainGlobals "_law_told" = some (some (.ref x01)))
  (xef:K.lookup x01 = some ⟨x6f,x2b,.func (fnD "_law_told" "_law_told" Xs .none x6g x6h x6i x2c x6j x6k),x4y⟩)
  (xeg:codeIn K x6j "_law_told" = true)
  (xeh:keepIn K (.ref x01) = true)
  (xei:nsIn K mainGlobals "_law_joins" = some (some (.ref x02)))
  (xej:K.lookup x02 = some ⟨x6l,x2d,.func (fnD "_law_joins" "_law_joins" Yw .none x6m x6n x6o x2e x6p x6q),x4z⟩)
  (xek:codeIn K x6p "_law_joins" = true)
  (xel:keepIn K (.ref x02) = true)
  (xem:nsIn K mainGlobals "_law_cell_at" = some (some (.ref x03)))
  (xen:K.lookup x03 = some ⟨x6r,x2f,.func (fnD "_law_cell_at" "_law_cell_at" Acn .none x6s x6t x6u x2g x6v x6w),x50⟩)
  (xeo:codeIn K x6v "_law_cell_at" = true)
  (xep:keepIn K (.ref x03) = true)
  (xeq:nsIn K mainGlobals "_law_lists" = some (some (.ref x04)))
  (xer:K.lookup x04 = some ⟨x6x,x2h,.func (fnD "_law_lists" "_law_lists" Ya .none x6y x6z x70 x2i x71 x72),x51⟩)
  (xes:codeIn K x71 "_law_lists" = true)
  (xet:keepIn K (.ref x04) = true)
  (xeu:nsIn K mainGlobals "_law_words" = some (some (.ref x05)))
  (xev:K.lookup x05 = some ⟨x73,x2j,.func (fnD "_law_words" "_law_words" Xw .none x74 x75 x76 x2k x77 x78),x52⟩)
  (xew:codeIn K x77 "_law_words" = true)
  (xex:keepIn K (.ref x05) = true)
  (xey:nsIn K mainGlobals "_law_groups" = some (some (.ref x06)))
  (xez:K.lookup x06 = some ⟨x79,x2l,.func (fnD "_law_groups" "_law_groups" AbU .none x7a x7b x7c x2m x7d x7e),x53⟩)
  (xf0:codeIn K x7d "_law_groups" = true)
  (xf1:keepIn K (.ref x06) = true)
  (xf2:nsIn K mainGlobals "refuse_unless" = some (some (.ref x07)))
  (xf3:K.lookup x07 = some ⟨x7f,x2n,.func (fnD "refuse_unless" "refuse_unless" Acq .none x7g x7h x7i x2o x7j x7k),x54⟩)
  (xf4:codeIn K x7j "refuse_unless" = true)
  (xf5:keepIn K (.ref x07) = true)
  (xf6:nsIn K mainGlobals "check_tuples" = some (some (.ref x08)))
  (xf7:K.lookup x08 = some ⟨x7l,x2p,.func (fnD "check_tuples" "check_tuples" Ab5 .none x7m x7n x7o x2q x7p x7q),x55⟩)
  (xf8:codeIn K x7p "check_tuples" = true)
  (xf9:keepIn K (.ref x08) = true)
  (xfa:nsIn K mainGlobals "is_whole_number" = some (some (.ref x09)))
  (xfb:K.lookup x09 = some ⟨x7r,x2r,.func (fnD "is_whole_number" "is_whole_number" AcT .none x7s x7t x7u x2s x7v x7w),x56⟩)
  (xfc:codeIn K x7v "is_whole_number" = true)
  (xfd:keepIn K (.ref x09) = true)
  (xfe:nsIn K mainGlobals "is_sign" = some (some (.ref x0a)))
  (xff:K.lookup x0a = some ⟨x7x,x2t,.func (fnD "is_sign" "is_sign" Xq .none x7y x7z x80 x2u x81 x82),x57⟩)
  (xfg:codeIn K x81 "is_sign" = true)
  (xfh:keepIn K (.ref x0a) = true)
  (xfi:nsIn K mainGlobals "add_kind" = some (some (.ref x0b)))
  (xfj:K.lookup x0b = some ⟨x83,x2v,.func (fnD "add_kind" "add_kind" Yj .none x84 x85 x86 x2w x87 x88),x58⟩)
  (xfk:codeIn K x87 "add_kind" = true)
  (xfl:keepIn K (.ref x0b) = true)
  (xfm:nsIn K mainGlobals "is_told_kind" = some (some (.ref x0c)))
  (xfn:K.lookup x0c = some ⟨x89,x2x,.func (fnD "is_told_kind" "is_told_kind" AbY .none x8a x8b x8c x2y x8d x8e),x59⟩)
  (xfo:codeIn K x8d "is_told_kind" = true)
  (xfp:keepIn K (.ref x0c) = true)
  (xfq:nsIn K mainGlobals "is_rank_of" = some (some (.ref x0d)))
  (xfr:K.lookup x0d = some ⟨x8f,x2z,.func (fnD "is_rank_of" "is_rank_of" Ac8 .none x8g x8h x8i x30 x8j x8k),x5a⟩)
  (xfs:codeIn K x8j "is_rank_of" = true)
  (xft:keepIn K (.ref x0d) = true)
  (xfu:nsIn K mainGlobals "kinds_told" = some (some (.ref x0e)))
  (xfv:K.lookup x0e = some ⟨x8l,x31,.func (fnD "kinds_told" "kinds_told" AcI .none x8m x8n x8o x32 x8p x8q),x5b⟩)
  (xfw:codeIn K x8p "kinds_told" = true)
  (xfx:keepIn K (.ref x0e) = true)
  (xfy:nsIn K mainGlobals "ranks_told" = some (some (.ref x0f)))
  (xfz:K.lookup x0f = some ⟨x8r,x33,.func (fnD "ranks_told" "ranks_told" Ys .none x8s x8t x8u x34 x8v x8w),x5c⟩)
  (xg0:codeIn K x8v "ranks_told" = true)
  (xg1:keepIn K (.ref x0f) = true)
  (xg2:nsIn K mainGlobals "both_ways" = some (some (.ref x0g)))
  (xg3:K.lookup x0g = some ⟨x8x,x35,.func (fnD "both_ways" "both_ways" Yk .none x8y x8z x90 x36 x91 x92),x5d⟩)
  (xg4:codeIn K x91 "both_ways" = true)
  (xg5:keepIn K (.ref x0g) = true)
  (xg6:nsIn K mainGlobals "kind_among" = some (some (.ref x0h)))
  (xg7:K.lookup x0h = some ⟨x93,x37,.func (fnD "kind_among" "kind_among" AcD .none x94 x95 x96 x38 x97 x98),x5e⟩)
  (xg8:codeIn K x97 "kind_among" = true)
  (xg9:keepIn K (.ref x0h) = true)
  (xga:nsIn K mainGlobals "check_join" = some (some (.ref x0i)))
  (xgb:K.lookup x0i = some ⟨x99,x39,.func (fnD "check_join" "check_join" Acz .none x9a x9b x9c x3a x9d x9e),x5f⟩)
  (xgc:codeIn K x9d "check_join" = true)
  (xgd:keepIn K (.ref x0i) = true)
  (xge:nsIn K mainGlobals "ends_in_time" = some (some (.ref x0j)))
  (xgf:K.lookup x0j = some ⟨x9f,x3b,.func (fnD "ends_in_time" "ends_in_time" Acg .none x9g x9h x9i x3c x9j x9k),x5g⟩)
  (xgg:codeIn K x9j "ends_in_time" = true)
  (xgh:keepIn K (.ref x0j) = true)
  (xgi:nsIn K mainGlobals "pairs_told" = some (some (.ref x0k)))
  (xgj:K.lookup x0k = some ⟨x9l,x3d,.func (fnD "pairs_told" "pairs_told" Yi .none x9m x9n x9o x3e x9p x9q),x5h⟩)
  (xgk:codeIn K x9p "pairs_told" = true)
  (xgl:keepIn K (.ref x0k) = true)
  (xgm:nsIn K mainGlobals "wholes_told" = some (some (.ref x0l)))
  (xgn:K.lookup x0l = some ⟨x9r,x3f,.func (fnD "wholes_told" "wholes_told" Ac3 .none x9s x9t x9u x3g x9v x9w),x5i⟩)
  (xgo:codeIn K x9v "wholes_told" = true)
  (xgp:keepIn K (.ref x0l) = true)
  (xgq:findIn K (.ref x1c) "__init__" = some (some (.ref x0m)))
  (xgr:isFn K (.ref x0m) = true)
  (xgs:K.lookup x0m = some ⟨x9x,x3h,.func (fnD "__init__" "Book.__init__" Xx .none x9y x9z xa0 x3i xa1 xa2),x5j⟩)
  (xgt:codeIn K xa1 "Book.__init__" = true)
  (xgu:keepIn K (.ref x0m) = true)
  (xgv:nsIn K mainGlobals "_law_text" = some (some (.ref x0n)))
  (xgw:K.lookup x0n = some ⟨xa3,x3j,.func (fnD "_law_text" "_law_text" Yr .none xa4 xa5 xa6 x3k xa7 xa8),x5k⟩)
  (xgx:codeIn K xa7 "_law_text" = true)
  (xgy:keepIn K (.ref x0n) = true)
  (xgz:findIn K (.ref x1c) "kind" = some (some (.ref x0o)))
  (xh0:isFn K (.ref x0o) = true)
  (xh1:K.lookup x0o = some ⟨xa9,x3l,.func (fnD "kind" "Book.kind" Yg .none xaa xab xac x3m xad xae),x5l⟩)
  (xh2:codeIn K xad "Book.kind" = true)
  (xh3:keepIn K (.ref x0o) = true)
  (xh4:nsIn K mainGlobals "wholes_of" = some (some (.ref x0p)))
  (xh5:K.lookup x0p = some ⟨xaf,x3n,.func (fnD "wholes_of" "wholes_of" Xk .none xag xah xai x3o xaj xak),x5m⟩)
  (xh6:codeIn K xaj "wholes_of" = true)
  (xh7:keepIn K (.ref x0p) = true)
  (xh8:nsIn K mainGlobals "kind_of_whole" = some (some (.ref x0q)))
  (xh9:K.lookup x0q = some ⟨xal,x3p,.func (fnD "kind_of_whole" "kind_of_whole" Acy .none xam xan xao x3q xap xaq),x5n⟩)
  (xha:codeIn K xap "kind_of_whole" = true)
  (xhb:keepIn K (.ref x0q) = true)
  (xhc:nsIn K mainGlobals "kinds_of" = some (some (.ref x0r)))
  (xhd:K.lookup x0r = some ⟨xar,x3r,.func (fnD "kinds_of" "kinds_of" Xr .none xas xat xau x3s xav xaw),x5o⟩)
  (xhe:codeIn K xav "kinds_of" = true)
  (xhf:keepIn K (.ref x0r) = true)
  (xhg:nsIn K mainGlobals "own_base" = some (some (.ref x0s)))
  (xhh:K.lookup x0s = some ⟨xax,x3t,.func (fnD "own_base" "own_base" Xu .none xay xaz xb0 x3u xb1 xb2),x5p⟩)
  (xhi:codeIn K xb1 "own_base" = true)
  (xhj:keepIn K (.ref x0s) = true)
  (xhk:nsIn K mainGlobals "base_or_own" = some (some (.ref x0t)))
  (xhl:K.lookup x0t = some ⟨xb3,x3v,.func (fnD "base_or_own" "base_or_own" Ab7 .none xb4 xb5 xb6 x3w xb7 xb8),x5q⟩)
  (xhm:codeIn K xb7 "base_or_own" = true)
  (xhn:keepIn K (.ref x0t) = true)
  (xho:nsIn K mainGlobals "level_within" = some (some (.ref x0u)))
  (xhp:K.lookup x0u = some ⟨xb9,x3x,.func (fnD "level_within" "level_within" AcV .none xba xbb xbc x3y xbd xbe),x5r⟩)
  (xhq:codeIn K xbd "level_within" = true)
  (xhr:keepIn K (.ref x0u) = true)
  (xhs:nsIn K mainGlobals "nests_of" = some (some (.ref x0v)))
  (xht:K.lookup x0v = some ⟨xbf,x3z,.func (fnD "nests_of" "nests_of" Yl (.ref x1h) xbg xbh xbi x40 xbj xbk),x5s⟩)
  (xhu:codeIn K xbj "nests_of" = true)
  (xhv:keepIn K (.ref x0v) = true)
  (xhw:K.lookup x1h = some ⟨.type "tuple",x1j,.seq [x1i].toArray x1k,x1l⟩)
  (xhx:Vals [.int 20] [x1i])
  (xhy:nsIn K mainGlobals "stretch_rows" = some (some (.ref x0w)))
  (xhz:K.lookup x0w = some ⟨xbl,x41,.func (fnD "stretch_rows" "stretch_rows" Adb .none xbm xbn xbo x42 xbp xbq),x5t⟩)
  (xi0:codeIn K xbp "stretch_rows" = true)
  (xi1:keepIn K (.ref x0w) = true)
  (xi2:nsIn K mainGlobals "leading_ways" = some (some (.ref x0x)))
  (xi3:K.lookup x0x = some ⟨xbr,x43,.func (fnD "leading_ways" "leading_ways" Ab4 .none xbs xbt xbu x44 xbv xbw),x5u⟩)
  (xi4:codeIn K xbv "leading_ways" = true)
  (xi5:keepIn K (.ref x0x) = true)
  (xi6:findIn K (.ref x1c) "mate" = some (some (.ref x0y)))
  (xi7:isFn K (.ref x0y) = true)
  (xi8:K.lookup x0y = some ⟨xbx,x45,.func (fnD "mate" "Book.mate" Yf .none xby xbz xc0 x46 xc1 xc2),x5v⟩)
  (xi9:codeIn K xc1 "Book.mate" = true)
  (xia:keepIn K (.ref x0y) = true)
  (xib:nsIn K mainGlobals "pairs_in" = some (some (.ref x0z)))
  (xic:K.lookup x0z = some ⟨xc3,x47,.func (fnD "pairs_in" "pairs_in" Yu .none xc4 xc5 xc6 x48 xc7 xc8),x5w⟩)
  (xid:codeIn K xc7 "pairs_in" = true)
  (xie:keepIn K (.ref x0z) = true)
  (xif:nsIn K mainGlobals "last_ways" = some (some (.ref x10)))
  (xig:K.lookup x10 = some ⟨xc9,x49,.func (fnD "last_ways" "last_ways" Xj .none xca xcb xcc x4a xcd xce),x5x⟩)
  (xih:codeIn K xcd "last_ways" = true)
  (xii:keepIn K (.ref x10) = true)
  (xij:nsIn K mainGlobals "ways_filled" = some (some (.ref x11)))
  (xik:K.lookup x11 = some ⟨xcf,x4b,.func (fnD "ways_filled" "ways_filled" Ada .none xcg xch xci x4c xcj xck),x5y⟩)
  (xil:codeIn K xcj "ways_filled" = true)
  (xim:keepIn K (.ref x11) = true)
  (xin:nsIn K mainGlobals "way_of_pair" = some (some (.ref x12)))
  (xio:K.lookup x12 = some ⟨xcl,x4d,.func (fnD "way_of_pair" "way_of_pair" Acr .none xcm xcn xco x4e xcp xcq),x5z⟩)
  (xip:codeIn K xcp "way_of_pair" = true)
  (xiq:keepIn K (.ref x12) = true)
  (xir:nsIn K mainGlobals "ways_with_pairs" = some (some (.ref x13)))
  (xis:K.lookup x13 = some ⟨xcr,x4f,.func (fnD "ways_with_pairs" "ways_with_pairs" AcK .none xcs xct xcu x4g xcv xcw),x60⟩)
  (xit:codeIn K xcv "ways_with_pairs" = true)
  (xiu:keepIn K (.ref x13) = true)
  (xiv:nsIn K mainGlobals "ways_in_row" = some (some (.ref x14)))
  (xiw:K.lookup x14 = some ⟨xcx,x4h,.func (fnD "ways_in_row" "ways_in_row" Ab6 .none xcy xcz xd0 x4i xd1 xd2),x61⟩)
  (xix:codeIn K xd1 "ways_in_row" = true)
  (xiy:keepIn K (.ref x14) = true)
  (xiz:nsIn K mainGlobals "way_of_level" = some (some (.ref x15)))
  (xj0:K.lookup x15 = some ⟨xd3,x4j,.func (fnD "way_of_level" "way_of_level" AcY .none xd4 xd5 xd6 x4k xd7 xd8),x62⟩)
  (xj1:codeIn K xd7 "way_of_level" = true)
  (xj2:keepIn K (.ref x15) = true)
  (xj3:nsIn K mainGlobals "level_by_way" = some (some (.ref x16)))
  (xj4:K.lookup x16 = some ⟨xd9,x4l,.func (fnD "level_by_way" "level_by_way" AcH .none xda xdb xdc x4m xdd xde),x63⟩)
  (xj5:codeIn K xdd "level_by_way" = true)
  (xj6:keepIn K (.ref x16) = true)
  (xj7:nsIn K mainGlobals "levels_in_row" = some (some (.ref x17)))
  (xj8:K.lookup x17 = some ⟨xdf,x4n,.func (fnD "levels_in_row" "levels_in_row" AcJ .none xdg xdh xdi x4o xdj xdk),x64⟩)
  (xj9:codeIn K xdj "levels_in_row" = true)
  (xja:keepIn K (.ref x17) = true)
  (xjb:nsIn K mainGlobals "levels_of" = some (some (.ref x18)))
  (xjc:K.lookup x18 = some ⟨xdl,x4p,.func (fnD "levels_of" "levels_of" Yn (.ref x1m) xdm xdn xdo x4q xdp xdq),x65⟩)
  (xjd:codeIn K xdp "levels_of" = true)
  (xje:keepIn K (.ref x18) = true)
  (xjf:K.lookup x1m = some ⟨.type "tuple",x1p,.seq [x1n,x1o].toArray x1q,x1r⟩)
  (xjg:Vals [.non] [x1n])
  (xjh:Vals [.int 20] [x1o])
  (xji:nsIn K mainGlobals "_law_marked" = some (some (.ref x19)))
  (xjj:K.lookup x19 = some ⟨xdr,x4r,.func (fnD "_law_marked" "_law_marked" Xy .none xds xdt xdu x4s xdv xdw),x66⟩)
  (xjk:codeIn K xdv "_law_marked" = true)
  (xjl:keepIn K (.ref x19) = true)
  (xjm:nsIn K mainGlobals "_law_ended" = some (some (.ref x1a)))
  (xjn:K.lookup x1a = some ⟨xdx,x4t,.func (fnD "_law_ended" "_law_ended" Yh .none xdy xdz xe0 x4u xe1 xe2),x67⟩)
  (xjo:codeIn K xe1 "_law_ended" = true)
  (xjp:keepIn K (.ref x1a) = true)
  (xjq:nsIn K mainGlobals "law" = some (some (.ref x1b)))
  (xjr:K.lookup x1b = some ⟨xe3,x4v,.func (fnD "law" "law" Vc .none xe4 xe5 xe6 x4w xe7 xe8),x68⟩)
  (xjs:codeIn K xe7 "law" = true)
  (xjt:keepIn K (.ref x1b) = true)
  (xju:plainGet K x1c Str.empty = true)
  (xjv:hasDictIn K x1c = true)
  (xjw:plainOver K x1c = true)
  (xjx:findIn K (.ref x1c) "__setattr__" = some (some (.builtin "object.__setattr__")))
  (xjy:makesIn K x1c = true)
  (xjz:keepIn K (.ref x1c) = true)
  (xk0:findIn K (.ref x1c) "kinds" = some none)
  (xk1:findIn K (.ref x1c) "ranks" = some none)
  (xk2:findIn K (.ref x1c) "mates" = some none)
  (xk3:findIn K (.ref x1c) "pairs" = some none)
  (xk4:findIn K (.ref x1c) "wholes" = some none)
  (xk5:nsIn K mainGlobals "bool" = some none)
  (xk6:nsIn K mainGlobals "enumerate" = some none)
  (xk7:nsIn K mainGlobals "int" = some none)
  (xk8:nsIn K mainGlobals "isinstance" = some none)
  (xk9:nsIn K mainGlobals "len" = some none)
  (xka:nsIn K mainGlobals "list" = some none)
  (xkb:nsIn K mainGlobals "max" = some none)
  (xkc:nsIn K mainGlobals "min" = some none)
  (xkd:nsIn K mainGlobals "range" = some none)
  (xke:nsIn K mainGlobals "reversed" = some none)
  (xkf:nsIn K mainGlobals "str" = some none)
  (xkg:nsIn K mainGlobals "tuple" = some none)
  (xkh:nsIn K mainGlobals "zip" = some none)
  (xki:nsIn K mainGlobals "BEGINNINGS" = some (some (.ref x1d)))
  (xkj:K.lookup x1d = some ⟨.type "tuple",x1s,.seq x1t x1u,x1v⟩)
  (xkk:x1t.size <= sizeLine)
  (xkl:Vals [.str "forein",.str "backin"] x1t.toList)
  (xkm:nsIn K mainGlobals "JOINED_KINDS" = some (some (.ref x1e)))
  (xkn:K.lookup x1e = some ⟨.type "tuple",x1w,.seq x1x x1y,x1z⟩)
  (xko:x1x.size <= sizeLine)
  (xkp:Vals [.str "fore",.str "back",.str "num",.str "blank",.str "plain"] x1x.toList)
  (xkq:nsIn K mainGlobals "LEADING_KINDS" = some (some (.ref x1f)))
  (xkr:K.lookup x1f = some ⟨.type "tuple",x20,.seq x21 x22,x23⟩)
  (xks:x21.size <= sizeLine)
  (xkt:Vals [.str "fore",.str "back",.str "num"] x21.toList)
  (xku:nsIn K mainGlobals "MOST_GOINGS" = some (some x24))
  (xkv:RelV (.int 7) x24)
  (xkw:nsIn K mainGlobals "TOLD_KINDS" = some (some (.ref x1g)))
  (xkx:K.lookup x1g = some ⟨.type "tuple",x25,.seq x26 x27,x28⟩)
  (xky:x26.size <= sizeLine)
  (xkz:Vals [.str "fore",.str "back",.str "num",.str "blank",.str "mark",.str "forein",.str "backin",.str "out"] x26.toList)
  : ∃ fd:FuncData,(∀ (s:Shared) (v:Value),BindsTo s fd ⟨[v],[]⟩ [("_law_script",v)])/\∀ base:Heap,K.In base->base.Ns mainGlobals mg->FnOk l.prog w K mg base CX0 8 fa fd ["_law_script"] (Ur K):=by
 have e:=hfa.symm.trans (mg_of X G xjq)
 cases e
 have T:Txt K mg ⟨x00,_,x01,_,x02,_,x03,_,x04,_,x05,_,x06,_,x07,_,x08,_,x09,_,x0a,_,x0b,_,x0c,_,x0d,_,x0e,_,x0f,_,x0g,_,x0h,_,x0i,_,x0j,_,x0k,_,x0l,_,x0m,_,x0n,_,x0o,_,x0p,_,x0q,_,x0r,_,x0s,_,x0t,_,x0u,_,x0v,_,x1h,x1i,x0w,_,x0x,_,x0y,_,x0z,_,x10,_,x11,_,x12,_,x13,_,x14,_,x15,_,x16,_,x17,_,x18,_,x1m,x1n,x1o,x19,_,x1a,_,fa,_,x1c,x1d,x1e,x1f,x1g⟩:={
  F_qbo:=Cm (st:=Xo) xeb xec xed
  m_qbo:=mg_of X G xea
  F_qbv:=Cm (st:=Xs) xef xeg xeh
  m_qbv:=mg_of X G xee
  F_qbl:=Cm (st:=Yw) xej xek xel
  m_qbl:=mg_of X G xei
  F_qp:=Cm (st:=Acn) xen xeo xep
  m_qp:=mg_of X G xem
  F_qbn:=Cm (st:=Ya) xer xes xet
  m_qbn:=mg_of X G xeq
  F_qbp:=Cm (st:=Xw) xev xew xex
  m_qbp:=mg_of X G xeu
  F_qz:=Cm (st:=AbU) xez xf0 xf1
  m_qz:=mg_of X G xey
  F_qe:=Cm (st:=Acq) xf3 xf4 xf5
  m_qe:=mg_of X G xf2
  F_qf:=Cm (st:=Ab5) xf7 xf8 xf9
  m_qf:=mg_of X G xf6
  F_qa:=Cm (st:=AcT) xfb xfc xfd
  m_qa:=mg_of X G xfa
  F_qbz:=Cm (st:=Xq) xff xfg xfh
  m_qbz:=mg_of X G xfe
  F_qbs:=Cm (st:=Yj) xfj xfk xfl
  m_qbs:=mg_of X G xfi
  F_qh:=Cm (st:=AbY) xfn xfo xfp
  m_qh:=mg_of X G xfm
  F_qw:=Cm (st:=Ac8) xfr xfs xft
  m_qw:=mg_of X G xfq
  F_qy:=Cm (st:=AcI) xfv xfw xfx
  m_qy:=mg_of X G xfu
  F_qbd:=Cm (st:=Ys) xfz xg0 xg1
  m_qbd:=mg_of X G xfy
  F_qbi:=Cm (st:=Yk) xg3 xg4 xg5
  m_qbi:=mg_of X G xg2
  F_qx:=Cm (st:=AcD) xg7 xg8 xg9
  m_qx:=mg_of X G xg6
  F_qv:=Cm (st:=Acz) xgb xgc xgd
  m_qv:=mg_of X G xga
  F_qg:=Cm (st:=Acg) xgf xgg xgh
  m_qg:=mg_of X G xge
  F_qbc:=Cm (st:=Yi) xgj xgk xgl
  m_qbc:=mg_of X G xgi
  F_qt:=Cm (st:=Ac3) xgn xgo xgp
  m_qt:=mg_of X G xgm
  F_qbe:=Cm (st:=Xx) xgs xgt xgu
  F_qbu:=Cm (st:=Yr) xgw xgx xgy
  m_qbu:=mg_of X G xgv
  F_qbf:=Cm (st:=Yg) xh1 xh2 xh3
  M_qbf:=⟨xgz,xh0,xh3⟩
  F_qbr:=Cm (st:=Xk) xh5 xh6 xh7
  m_qbr:=mg_of X G xh4
  F_qc:=Cm (st:=Acy) xh9 xha xhb
  m_qc:=mg_of X G xh8
  F_qbt:=Cm (st:=Xr) xhd xhe xhf
  m_qbt:=mg_of X G xhc
  F_qbx:=Cm (st:=Xu) xhh xhi xhj
  m_qbx:=mg_of X G xhg
  F_qo:=Cm (st:=Ab7) xhl xhm xhn
  m_qo:=mg_of X G xhk
  F_qk:=Cm (st:=AcV) xhp xhq xhr
  m_qk:=mg_of X G xho
  F_qbw:=Aby (st:=Yl) xht xhu xhv xhw
  w_nests_of_0:=xhx
  m_qbw:=mg_of X G xhs
  F_ql:=Cm (st:=Adb) xhz xi0 xi1
  m_ql:=mg_of X G xhy
  F_qi:=Cm (st:=Ab4) xi3 xi4 xi5
  m_qi:=mg_of X G xi2
  F_qbg:=Cm (st:=Yf) xi8 xi9 xia
  M_qbg:=⟨xi6,xi7,xia⟩
  F_qby:=Cm (st:=Yu) xic xid xie
  m_qby:=mg_of X G xib
  F_qbj:=Cm (st:=Xj) xig xih xii
  m_qbj:=mg_of X G xif
  F_qr:=Cm (st:=Ada) xik xil xim
  m_qr:=mg_of X G xij
  F_qq:=Cm (st:=Acr) xio xip xiq
  m_qq:=mg_of X G xin
  F_qb:=Cm (st:=AcK) xis xit xiu
  m_qb:=mg_of X G xir
  F_qs:=Cm (st:=Ab6) xiw xix xiy
  m_qs:=mg_of X G xiv
  F_qm:=Cm (st:=AcY) xj0 xj1 xj2
  m_qm:=mg_of X G xiz
  F_qj:=Cm (st:=AcH) xj4 xj5 xj6
  m_qj:=mg_of X G xj3
  F_qd:=Cm (st:=AcJ) xj8 xj9 xja
  m_qd:=mg_of X G xj7
  F_qbq:=Aby (st:=Yn) xjc xjd xje xjf
  w_levels_of_0:=xjg
  w_levels_of_1:=xjh
  m_qbq:=mg_of X G xjb
  F_qba:=Cm (st:=Xy) xjj xjk xjl
  m_qba:=mg_of X G xji
  F_qbk:=Cm (st:=Yh) xjn xjo xjp
  m_qbk:=mg_of X G xjm
  F_qcb:=Cm (st:=Vc) xjr xjs xjt
  m_qcb:=mg_of X G xjq
  m_Book:=mg_of X G xe9
  cl_Book:=⟨xju,xjv,xjw,xjx⟩
  K_Book:=⟨xjy,xgq,xgr,xjz⟩
  n_Book_kinds:=xk0
  n_Book_ranks:=xk1
  n_Book_mates:=xk2
  n_Book_pairs:=xk3
  n_Book_wholes:=xk4
  z_bool:=mg_none_of X G xk5
  z_enumerate:=mg_none_of X G xk6
  z_int:=mg_none_of X G xk7
  z_isinstance:=mg_none_of X G xk8
  z_len:=mg_none_of X G xk9
  z_list:=mg_none_of X G xka
  z_max:=mg_none_of X G xkb
  z_min:=mg_none_of X G xkc
  z_range:=mg_none_of X G xkd
  z_reversed:=mg_none_of X G xke
  z_str:=mg_none_of X G xkf
  z_tuple:=mg_none_of X G xkg
  z_zip:=mg_none_of X G xkh
  g_BEGINNINGS:=mg_of X G xki
  q_BEGINNINGS:=fun _=>.inr ⟨_,_,_,xkj,rfl,rfl,xkk,xkl⟩
  g_JOINED_KINDS:=mg_of X G xkm
  q_JOINED_KINDS:=fun _=>.inr ⟨_,_,_,xkn,rfl,rfl,xko,xkp⟩
  g_LEADING_KINDS:=mg_of X G xkq
  q_LEADING_KINDS:=fun _=>.inr ⟨_,_,_,xkr,rfl,rfl,xks,xkt⟩
  g_MOST_GOINGS:=⟨_,mg_of X G xku,xkv⟩
  g_TOLD_KINDS:=mg_of X G xkw
  q_TOLD_KINDS:=fun _=>.inr ⟨_,_,_,xkx,rfl,rfl,xky,xkz⟩ }
 exact⟨fnD "law" "law" Vc .none xe4 xe5 xe6 x4w xe7 xe8,fun s v=>.of_eq rfl,fun base _ _=>(Akb T).imp Ais⟩
theorem walk {l:PySem.W.OpenLaw} {q:Program} {loose:List Str} {XP:(Str->Option Value)->Heap->Prop} {YP:World->Heap->Prop} {d:DefRec} {K:Params->Frag} (hn:l.most = some 63) (hdf:d.params.defaults = [])
  (hY:∀ (w:World) (h:Heap),YP w h->(K w.params).In h)
  (F:∀ (w:World) (mg:Str->Option Value) (fa:Addr) (h:Heap),(K w.params).In h->h.Ns mainGlobals mg->mg d.name = some (.ref fa) ->
   ∃ fd:FuncData,(∀ (s:Shared) (u:Value),BindsTo s fd ⟨[u],[]⟩ [("_law_script",u)])/\∀ base:Heap,(K w.params).In base->base.Ns mainGlobals mg->FnOk l.prog w (K w.params) mg base CX0 8 fa fd ["_law_script"] (Ur (K w.params))) :
  PySem.W.WalkO q loose XP YP l.row.toRowW d [] (fun f vs=>PySem.call f vs) :=
 L2.Aoo (n:=63) (k:=8) (x:="_law_script") (CX:=fun w=>CX0) (sp:=fun w=>Ur (K w.params)) hn (by decide) hdf ⟨rfl,by decide,by decide⟩ hY F (fun _ _ a ns hl _ hS=>⟨a,ns,rfl,hS,hl,fun _=>rfl⟩) fun _ _ _ _ _ z=>z
end My
open PySem PySem.W PyProof.Rows
set_option maxRecDepth 100000 in
set_option maxHeartbeats 0 in
theorem PySem.Challenge.cw_bothhands_k38_raised_by_two_holds : PySem.Challenge.rw_bothhands_k38_raised_by_two.Holds := by
 w_on; o_law; k_head; (case hw=>w_witness2)
 k_fill
 refine My.walk (l:=PySem.Challenge.rw_bothhands_k38_raised_by_two) rfl rfl (fun w h Y=>kIn_of Y) ?F
 case F =>
  intro w mg fa h KX G hmg
  refine' My.all_mk KX G hmg ?xe9 ?xea ?xeb ?xec ?xed ?xee ?xef ?xeg ?xeh ?xei ?xej ?xek ?xel ?xem ?xen ?xeo ?xep ?xeq ?xer ?xes ?xet ?xeu ?xev ?xew ?xex ?xey ?xez ?xf0 ?xf1 ?xf2 ?xf3 ?xf4 ?xf5 ?xf6 ?xf7 ?xf8 ?xf9 ?xfa ?xfb ?xfc ?xfd ?xfe ?xff ?xfg ?xfh ?xfi ?xfj ?xfk ?xfl ?xfm ?xfn ?xfo ?xfp ?xfq ?xfr ?xfs ?xft ?xfu ?xfv ?xfw ?xfx ?xfy ?xfz ?xg0 ?xg1 ?xg2 ?xg3 ?xg4 ?xg5 ?xg6 ?xg7 ?xg8 ?xg9 ?xga ?xgb ?xgc ?xgd ?xge ?xgf ?xgg ?xgh ?xgi ?xgj ?xgk ?xgl ?xgm ?xgn ?xgo ?xgp ?xgq ?xgr ?xgs ?xgt ?xgu ?xgv ?xgw ?xgx ?xgy ?xgz ?xh0 ?xh1 ?xh2 ?xh3 ?xh4 ?xh5 ?xh6 ?xh7 ?xh8 ?xh9 ?xha ?xhb ?xhc ?xhd ?xhe ?xhf ?xhg ?xhh ?xhi ?xhj ?xhk ?xhl ?xhm ?xhn ?xho ?xhp ?xhq ?xhr ?xhs ?xht ?xhu ?xhv ?xhw ?xhx ?xhy ?xhz ?xi0 ?xi1 ?xi2 ?xi3 ?xi4 ?xi5 ?xi6 ?xi7 ?xi8 ?xi9 ?xia ?xib ?xic ?xid ?xie ?xif ?xig ?xih ?xii ?xij ?xik ?xil ?xim ?xin ?xio ?xip ?xiq ?xir ?xis ?xit ?xiu ?xiv ?xiw ?xix ?xiy ?xiz ?xj0 ?xj1 ?xj2 ?xj3 ?xj4 ?xj5 ?xj6 ?xj7 ?xj8 ?xj9 ?xja ?xjb ?xjc ?xjd ?xje ?xjf ?xjg ?xjh ?xji ?xjj ?xjk ?xjl ?xjm ?xjn ?xjo ?xjp ?xjq ?xjr ?xjs ?xjt ?xju ?xjv ?xjw ?xjx ?xjy ?xjz ?xk0 ?xk1 ?xk2 ?xk3 ?xk4 ?xk5 ?xk6 ?xk7 ?xk8 ?xk9 ?xka ?xkb ?xkc ?xkd ?xke ?xkf ?xkg ?xkh ?xki ?xkj ?xkk ?xkl ?xkm ?xkn ?xko ?xkp ?xkq ?xkr ?xks ?xkt ?xku ?xkv ?xkw ?xkx ?xky ?xkz
  (case xe9 | xea | xeb | xec | xed | xee | xef | xeg | xeh | xei | xej | xek | xel | xem | xen | xeo | xep | xeq | xer | xes | xet | xeu | xev | xew | xex | xey | xez | xf0 | xf1 | xf2 | xf3 | xf4 | xf5 | xf6 | xf7 | xf8 | xf9 | xfa | xfb | xfc | xfd | xfe | xff | xfg | xfh | xfi | xfj | xfk | xfl | xfm | xfn | xfo | xfp | xfq | xfr | xfs | xft | xfu | xfv | xfw | xfx | xfy | xfz | xg0 | xg1 | xg2 | xg3 | xg4 | xg5 | xg6 | xg7 | xg8 | xg9 | xga | xgb | xgc | xgd | xge | xgf | xgg | xgh | xgi | xgj | xgk | xgl | xgm | xgn | xgo | xgp | xgq | xgr | xgs | xgt | xgu | xgv | xgw | xgx | xgy | xgz | xh0 | xh1 | xh2 | xh3 | xh4 | xh5 | xh6 | xh7 | xh8 | xh9 | xha | xhb | xhc | xhd | xhe | xhf | xhg | xhh | xhi | xhj | xhk | xhl | xhm | xhn | xho | xhp | xhq | xhr | xhs | xht | xhu | xhv | xhw=>k_is)
  (case xhx=>exact .cons ⟨_,rfl⟩ .nil)
  (case xhy | xhz | xi0 | xi1 | xi2 | xi3 | xi4 | xi5 | xi6 | xi7 | xi8 | xi9 | xia | xib | xic | xid | xie | xif | xig | xih | xii | xij | xik | xil | xim | xin | xio | xip | xiq | xir | xis | xit | xiu | xiv | xiw | xix | xiy | xiz | xj0 | xj1 | xj2 | xj3 | xj4 | xj5 | xj6 | xj7 | xj8 | xj9 | xja | xjb | xjc | xjd | xje | xjf=>k_is)
  (case xjg=>exact .cons rfl .nil)
  (case xjh=>exact .cons ⟨_,rfl⟩ .nil)
  (case xji | xjj | xjk | xjl | xjm | xjn | xjo | xjp | xjq | xjr | xjs | xjt | xju | xjv | xjw | xjx | xjy | xjz | xk0 | xk1 | xk2 | xk3 | xk4 | xk5 | xk6 | xk7 | xk8 | xk9 | xka | xkb | xkc | xkd | xke | xkf | xkg | xkh | xki | xkj=>k_is)
  (case xkk=>decide)
  (case xkl=>exact .cons ⟨_,rfl⟩ (.cons ⟨_,rfl⟩ (.nil)))
  (case xkm | xkn=>k_is)
  (case xko=>decide)
  (case xkp=>exact .cons ⟨_,rfl⟩ (.cons ⟨_,rfl⟩ (.cons ⟨_,rfl⟩ (.cons ⟨_,rfl⟩ (.cons ⟨_,rfl⟩ (.nil))))))
  (case xkq | xkr=>k_is)
  (case xks=>decide)
  (case xkt=>exact .cons ⟨_,rfl⟩ (.cons ⟨_,rfl⟩ (.cons ⟨_,rfl⟩ (.nil))))
  (case xku=>k_is)
  (case xkv=>exact⟨_,rfl⟩)
  (case xkw | xkx=>k_is)
  (case xky=>decide)
  (case xkz=>exact .cons ⟨_,rfl⟩ (.cons ⟨_,rfl⟩ (.cons ⟨_,rfl⟩ (.cons ⟨_,rfl⟩ (.cons ⟨_,rfl⟩ (.cons ⟨_,rfl⟩ (.cons ⟨_,rfl⟩ (.cons ⟨_,rfl⟩ (.nil)))))))))
