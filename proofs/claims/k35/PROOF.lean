import PyProof.Rows.All
import Wide.All
import OpenK.AllK
import Wide.FinOn
import Lean
import PyProof.EqAt
import PyProof.EqKinds
import PyProof.TupleCall
import PyProof.NeKinds
import PyProof.DictItems
import PyProof.DictWalks
import KE.KTurnsDict
import KE.KDictSum
import KE.KSortKey
import KE.KBoundM
import KE.KMinKey
import KE.KRevIter
import KE.KFind
import KE.LcSums
import PyProof.ListRange
import PyProof.CollectIter
import PyProof.ConsumeWalk
import PyProof.ZipIter
import PySem.Challenge.RW_bothhands_k35_whole_rows_by_themselves
open PySem.W (instObj methodObj lookIn plainGet hasDictIn findIn handedIn plainGet_of isFn plainOver takerIn Looks makesIn typeIn emptyDict keepIn mroIn kitOne kia_one kitx_list kitx_dict callWith_K cellsFrom_some kIn_of mg_of kitMeta mg_none_of Frag fnOf nsIn codeIn)
open PySem.Heap (lt_size SameBut get?_push_of_some get?_push_size Ns1)
open Nat (ne_of_lt zero_le lt_succ_self le_succ lt_succ_of_lt le_add_right succ_le_succ)
open List (range mem_filter mem_range filterMap_cons mem_cons_self mem_cons_of_mem mem_cons mem_append mem_append_left getElem?_set_self getElem?_set_ne mem_filterMap mem_append_right length_cons map_cons length_map append_nil nodup_cons of_mem_zip replicate length length_take getElem?_append_right getElem?_replicate getElem?_append_left getElem?_map mem_of_getElem? length_append length_replicate length_drop size_toArray length_set all_cons any_cons replicate_succ flatten_cons foldl foldl_cons length_singleton nil_append find?_cons length_nil map_nil nodup_nil Pairwise any_eq_true mem_map mem_singleton lookup_cons all_eq_true getElem_mem not_mem_nil map_append getElem?_take getElem?_of_mem take_append_drop drop_eq_getElem_cons nodup_append map_take zipWith take_length getElem?_mapIdx length_mapIdx length_reverse zip set_set eq_nil_or_concat concat_eq_append getElem?_range Nodup Sublist drop_of_length_le length_filter_le filter_append filter_cons_of_pos filter_cons_of_neg drop_length map getElem?_set length_range range' foldl_nil cons_append any_map forall_mem_cons map_set take_nil filterMap_eq_map' getElem?_eq_getElem map_map append_assoc getElem?_eq_none ext_getElem?)
open Int (toNat_natCast emod_nonneg emod_lt_of_pos toNat)
open Option (getD_none isSome_some isSome_map map_eq_some_iff getD_some)
open Bool (and_eq_true)
open PySem.F (slot_dict_get entry_dict_get plainAttrs_dict type_dict_get plainAttrs_list)
open PyProof.Rows (boot_isinstance boot_int boot_bool boot_tuple boot_str boot_max boot_all)
set_option Elab.async false
set_option linter.all false
set_option maxRecDepth 100000
namespace L2
open PySem PySem.Spec PyProof.Rows
abbrev Key:=Sum Int Str
def Tb:Key->Value->Bool
 | .inl k,v=>Value.isInt k v
 | .inr x,v=>Value.isStrOf x v
def An2 (w:World):Key->Int
 | .inl k=>hashInt k
 | .inr x=>hashStr w x
theorem Fh:∀ {k:Key} {v:Value},Tb k v = true->(∃ i t,k = Sum.inl i/\v = Value.int i t)\/(∃ x t,k = Sum.inr x/\v = Value.str x t)
 | .inl i,v,h=>by
  obtain⟨t,e⟩:=Value.isInt_shape (k:=i) (v:=v) h
  exact .inl ⟨i,t,rfl,e⟩
 | .inr x,v,h=>by
  obtain⟨t,e⟩:=Value.isStrOf_shape (x:=x) (v:=v) h
  exact .inr ⟨x,t,rfl,e⟩
theorem Aet (i:Int) (t:Tok):Tb (.inl i) (.int i t) = true:=by simp [Tb,Value.isInt]
theorem Adl (x:Str) (t:Tok):Tb (.inr x) (.str x t) = true:=by simp [Tb,Value.isStrOf]
theorem Akj (a b:Int):decide ((Sum.inl a:Key) = Sum.inl b) = (a == b):=by
 by_cases e:a = b
 ·subst e; simp
 ·have h:¬ (Sum.inl a:Key) = Sum.inl b:=fun q=>e (Sum.inl.inj q)
  rw[decide_eq_false h]
  exact (beq_eq_false_iff_ne.mpr e).symm
theorem Ajq (a b:Str):decide ((Sum.inr a:Key) = Sum.inr b) = decide (a = b):=by
 by_cases e:a = b
 ·subst e; simp
 ·have h:¬ (Sum.inr a:Key) = Sum.inr b:=fun q=>e (Sum.inr.inj q)
  rw[decide_eq_false h,decide_eq_false e]
theorem AkM (a:Int) (b:Str):decide ((Sum.inl a:Key) = Sum.inr b) = false:=decide_eq_false (fun q=>nomatch q)
theorem Alt (a:Str) (b:Int):decide ((Sum.inr a:Key) = Sum.inl b) = false:=decide_eq_false (fun q=>nomatch q)
def Dp (prog:Program) (w:World):PySem.KeyKind prog w Key where
 is:=Tb
 hash:=An2 w
 inj:=fun v a b ha hb=>by
  rcases Fh ha with ⟨i,t,rfl,rfl⟩ | ⟨x,t,rfl,rfl⟩
  ·rcases Fh hb with ⟨j,u,rfl,e⟩ | ⟨y,u,rfl,e⟩
   ·injection e with e1 _; rw[e1]
   ·exact nomatch e
  ·rcases Fh hb with ⟨j,u,rfl,e⟩ | ⟨y,u,rfl,e⟩
   ·exact nomatch e
   ·injection e with e1 _; rw[e1]
 byValue:=fun k v h=>by
  rcases Fh h with ⟨i,t,rfl,rfl⟩ | ⟨x,t,rfl,rfl⟩ <;> rfl
 pyHash:=fun hv h=>by
  rcases Fh hv with ⟨i,t,rfl,rfl⟩ | ⟨x,t,rfl,rfl⟩
  ·exact wpAny_pyHash_int h
  ·exact wpAny_pyHash_str h
 eqBool:=fun hu hv h=>by
  rcases Fh hu with ⟨i,t,rfl,rfl⟩ | ⟨x,t,rfl,rfl⟩
  ·rcases Fh hv with ⟨j,u,rfl,rfl⟩ | ⟨y,u,rfl,rfl⟩
   ·rw[Akj] at h; exact wpAny_eqBool_int h
   ·rw[AkM] at h; exact SeqAt.EqAt.int_str i t y u _ _ _ _ h
  ·rcases Fh hv with ⟨j,u,rfl,rfl⟩ | ⟨y,u,rfl,rfl⟩
   ·rw[Alt] at h; exact SeqAt.EqAt.str_int x t j u _ _ _ _ h
   ·rw[Ajq] at h; exact wpAny_eqBool_str h
 «strs»:=fun k x t v h=>by
  rcases Fh h with ⟨i,u,rfl,e⟩ | ⟨y,u,rfl,e⟩
  ·exact nomatch e
  ·injection e with e1 _
   subst e1
   cases v <;> rfl
theorem AaM (prog:Program) (w:World) (i:Int) (t:Tok):(Dp prog w).is (.inl i) (.int i t) = true:=Aet i t
theorem AaN (prog:Program) (w:World) (x:Str) (t:Tok):(Dp prog w).is (.inr x) (.str x t) = true:=Adl x t
end L2
namespace L2
open PySem PySem.Spec PyProof.Rows
inductive V where
 | non | bl (b:Bool) | int (i:Int) | str (x:Str) | byt (b:Array UInt8) | flt (b:UInt64) | ref (a:Addr) | ty (n:String)
 deriving DecidableEq
def RelV:V->Value->Prop
 | .non,u=>u = Value.none
 | .bl b,u=>u = Value.bool b
 | .int i,u=>∃ t,u = Value.int i t
 | .str x,u=>∃ t,u = Value.str x t
 | .byt b,u=>∃ t,u = Value.bytes b t
 | .flt b,u=>∃ t,u = Value.float b t
 | .ref a,u=>u = Value.ref a
 | .ty n,u=>u = Value.type n
abbrev Vals:List V->List Value->Prop:=Paired RelV
theorem Vals.length {xs:List V} {us:List Value} (r:Vals xs us):xs.length = us.length:=Paired.length r
theorem Vals.get:∀ {xs:List V} {us:List Value} {i:Nat} {x:V},Vals xs us->xs[i]? = some x->∃ u,us[i]? = some u/\RelV x u
 | _,_,_,_,.nil,e=>by simp at e
 | _,_,0,_,.cons r _,e=>by simp at e; subst e; exact⟨_,rfl,r⟩
 | _,_,i + 1,x,.cons _ t,e=>by
  obtain⟨u,h1,h2⟩:=Vals.get (i:=i) (x:=x) t (by simpa using e)
  exact⟨u,by simpa using h1,h2⟩
theorem Vals.set {x:V} {u:Value} (r:RelV x u):∀ {xs:List V} {us:List Value} (i:Nat),Vals xs us->Vals (xs.set i x) (us.set i u)
 | _,_,_,.nil=>.nil
 | _,_,0,.cons _ t=>.cons r t
 | _,_,i + 1,.cons q t=>.cons q (Vals.set r i t)
theorem Vals.append:∀ {xs ys:List V} {us ws:List Value},Vals xs us->Vals ys ws->Vals (xs ++ ys) (us ++ ws)
 | _,_,_,_,.nil,s=>s
 | _,_,_,_,.cons r t,s=>.cons r (Vals.append t s)
theorem Vals.take:∀ {xs:List V} {us:List Value} (n:Nat),Vals xs us->Vals (xs.take n) (us.take n)
 | _,_,0,_=>.nil
 | _,_,_ + 1,.nil=>.nil
 | _,_,n + 1,.cons r t=>.cons r (Vals.take n t)
theorem Vals.drop:∀ {xs:List V} {us:List Value} (n:Nat),Vals xs us->Vals (xs.drop n) (us.drop n)
 | _,_,0,r=>r
 | _,_,_ + 1,.nil=>.nil
 | _,_,n + 1,.cons _ t=>Vals.drop n t
def RelO:Option V->Option Value->Prop
 | some v,some u=>RelV v u
 | none,none=>True
 | _,_=>False
def KV {κ:Type}:List (κ × V)->List (κ × Value)->Prop:=Paired fun (p:κ × V) (q:κ × Value)=>p.1 = q.1/\RelV p.2 q.2
def kV:Key->V
 | .inl i=>.int i
 | .inr x=>.str x
inductive HO where
 | lst (xs:List V)
 | tup (xs:List V)
 | dK (kvs:List (Key × V)) | dT (kvs:List (List Key × V))
 | set (S:Int->Bool) (n:Nat)
 | ins (C dx:Addr) (fs:List (Str × V))
 | own (x:Addr)
 | xd (fs:List (Str × V))
 | met (f x:Addr)
 | rng (lo hi:Int)
 | frz (o:Obj) (u:HO)
 | tbl (ps:Array Value)
 | ext (φ:Heap->Prop)
abbrev Hp:=Addr->Option HO
def upd (H:Hp) (a:Addr) (o:HO):Hp:=fun b=>if b = a then some o else H b
theorem Bm {H:Hp} {a:Addr} {o:HO}:upd H a o a = some o:=by unfold upd; rw[if_pos rfl]
theorem Bj {H:Hp} {a b:Addr} {o:HO} (h:b ≠ a):upd H a o b = H b:=by unfold upd; rw[if_neg h]
theorem Gj {H:Hp} {a:Addr} {o u:HO}:upd (upd H a o) a u = upd H a u:=by
 funext b; unfold upd; split <;> rfl
theorem Fb {H:Hp} {a b:Addr} {o u:HO} (h:H a = some o) (h':H b = some u) (d:o ≠ u):a ≠ b:=by
 intro e; subst e; rw[h] at h'; exact d (Option.some.inj h')
theorem Bv {H:Hp} {a b:Addr} {o:HO} (h:H a = some o) (h':H b = none):a ≠ b:=by
 intro e; subst e; rw[h] at h'; cases h'
section
variable (P:Program) (w:World)
def ObjOk (H:Hp) (h:Heap) (a:Addr):HO->Prop
 | .lst xs=>xs.length <= sizeLine/\∃ (its:List Value) (n:Nat),Vals xs its/\h.get? a = some { cls:=.type "list",data:=.seq its.toArray n }
 | .tup xs=>xs.length <= sizeLine/\∃ its:List Value,Vals xs its/\IsTup h a its.toArray
 | .dK kvs=>kvs.length <= sizeLine/\(a == sysModules) = false/\∃ vs,KV kvs vs/\h.DictOf (Dp P w) a vs
 | .dT kvs=>kvs.length <= sizeLine/\(a == sysModules) = false/\∃ xs:List (List Key × Addr × Value),
   Paired (fun (p:List Key × V) (q:List Key × Addr × Value)=>p.1 = q.1/\H q.2.1 = some (.tup (p.1.map kV))/\RelV p.2 q.2.2) kvs xs /\
   ∃ o es ep,h.get? a = some o/\o.ExactDict/\o.data = .dict es ep/\es.toList = xs.map (entryOfKey (tupleKind (Dp P w)))/\(xs.map (·.1)).Nodup
 | .set S n=>h.SetOf (intKind P w) a S n
 | .ins C dx fs=>H dx = some (.own a)/\fs.length <= 1000/\dx ≠ a/\h.get? a = some (instObj C dx) /\
   ∃ mA,h.Ns1 dx mA/\(∀ f,RelO (fs.lookup f) (mA f))/\PySem.Within mA (fs.map (·.1))
 | .own _=>∃ o,h.get? a = some o
 | .xd fs=>∃ mA,h.Ns1 a mA/\∀ f,RelO (fs.lookup f) (mA f)
 | .rng lo hi=>∃ t u v,h.get? a = some { cls:=.type "range",data:=.fields #[.int lo t,.int hi u,.int 1 v] }
 | .frz o u=>h.get? a = some o/\ObjOk H h a u
 | .tbl ps=>h.get? a = some { cls:=.none,data:=.fields ps }
 | .met f x=>h.get? a = some (methodObj (.ref f) (.ref x))
 | .ext φ=>φ h/\(∃ o,h.get? a = some o)/\∀ h1 h2:Heap,φ h1->(∀ o,h1.get? a = some o->h2.get? a = some o)->φ h2
def HOk (H:Hp) (h:Heap):Prop:=∀ a o,H a = some o->ObjOk P w H h a o
end
section
variable {P:Program} {w:World} {H H':Hp} {h h':Heap} {a:Addr} {o:HO}
theorem ObjOk.lt (x:ObjOk P w H h a o):a < h.objs.size:=by
 cases o with
 | lst xs=>obtain⟨_,_,_,_,e⟩:=x; exact lt_size e
 | tup xs=>obtain⟨_,_,_,p⟩:=x; exact p.lt
 | dK kvs=>obtain⟨_,_,_,_,o,_,_,e,_⟩:=x; exact lt_size e
 | dT kvs=>obtain⟨_,_,_,_,o,_,_,e,_⟩:=x; exact lt_size e
 | set S n=>obtain⟨o,_,_,_,e,_⟩:=x; exact lt_size e
 | ins C dx fs=>obtain⟨_,_,_,e,_⟩:=x; exact lt_size e
 | own y=>obtain⟨_,e⟩:=x; exact lt_size e
 | xd fs=>obtain⟨_,⟨_,_,_,e,_⟩,_⟩:=x; exact lt_size e
 | rng lo hi=>obtain⟨_,_,_,e⟩:=x; exact lt_size e
 | frz ob u=>obtain⟨e,_⟩:=x; exact lt_size e
 | tbl ps=>exact lt_size (show h.get? a = some _ from x)
 | met f y=>exact lt_size (show h.get? a = some _ from x)
 | ext φ=>obtain⟨_,⟨_,e⟩,_⟩:=x; exact lt_size e
theorem Paired.mapP {α β:Type} {F G:α->β->Prop}:∀ {l₁:List α} {l₂:List β},Paired F l₁ l₂->(∀ a b,F a b->G a b)->Paired G l₁ l₂
 | _,_,.nil,_=>.nil
 | _,_,.cons r t,f=>.cons (f _ _ r) (Paired.mapP t f)
theorem ObjOk.stay (x:ObjOk P w H h a o) (k:∀ b u,(b = a\/H b = some (.own a))->h.get? b = some u->h'.get? b = some u)
  (ho:∀ b,H b = some (.own a)->H' b = some (.own a)) (ht:∀ b xs,H b = some (.tup xs)->H' b = some (.tup xs)):ObjOk P w H' h' a o:=by
 induction o with
 | lst xs=>obtain⟨z,its,n,r,e⟩:=x; exact⟨z,its,n,r,k _ _ (.inl rfl) e⟩
 | tup xs=>obtain⟨z,its,r,ob,e,c⟩:=x; exact⟨z,its,r,ob,k _ _ (.inl rfl) e,c⟩
 | dK kvs=>obtain⟨z,y,vs,r,ob,es,ep,e,c⟩:=x; exact⟨z,y,vs,r,ob,es,ep,k _ _ (.inl rfl) e,c⟩
 | dT kvs =>
  obtain⟨z,y,xs,r,ob,es,ep,e,c⟩:=x
  exact⟨z,y,xs,Paired.mapP r fun p q z=>⟨z.1,ht _ _ z.2.1,z.2.2⟩,ob,es,ep,k _ _ (.inl rfl) e,c⟩
 | set S n=>obtain⟨ob,es,ep,t,e,c⟩:=x; exact⟨ob,es,ep,t,k _ _ (.inl rfl) e,c⟩
 | ins C dx fs =>
  obtain⟨d,z,ne,e,mA,⟨od,es,ep,e2,c⟩,r⟩:=x
  exact⟨ho _ d,z,ne,k _ _ (.inl rfl) e,mA,⟨od,es,ep,k _ _ (.inr d) e2,c⟩,r⟩
 | own y=>obtain⟨ob,e⟩:=x; exact⟨ob,k _ _ (.inl rfl) e⟩
 | xd fs=>obtain⟨mA,⟨od,es,ep,e,c⟩,r⟩:=x; exact⟨mA,⟨od,es,ep,k _ _ (.inl rfl) e,c⟩,r⟩
 | rng lo hi=>obtain⟨t,u,v,e⟩:=x; exact⟨t,u,v,k _ _ (.inl rfl) e⟩
 | frz ob u ih=>obtain⟨e,q⟩:=x; exact⟨k _ _ (.inl rfl) e,ih q⟩
 | tbl ps =>
  have e:h.get? a = some { cls:=.none,data:=.fields ps }:=x
  show h'.get? a = some { cls:=.none,data:=.fields ps }
  exact k a _ (.inl rfl) e
 | met f y =>
  have e:h.get? a = some (methodObj (.ref f) (.ref y)):=x
  show h'.get? a = some (methodObj (.ref f) (.ref y))
  exact k a _ (.inl rfl) e
 | ext φ=>obtain⟨p,⟨o,e⟩,st⟩:=x; exact⟨st _ _ p fun o q=>k _ _ (.inl rfl) q,⟨o,k _ _ (.inl rfl) e⟩,st⟩
theorem HOk.lt (x:HOk P w H h) (e:H a = some o):a < h.objs.size:=(x a o e).lt
theorem HOk.fresh (x:HOk P w H h) (e:h.objs.size <= a):H a = none:=by
 cases q:H a with
 | none=>rfl
 | some u=>exact absurd (Nat.lt_of_lt_of_le (x.lt q) e) (Nat.lt_irrefl _)
theorem HOk.kept (x:HOk P w H h) (k:∀ b u,h.get? b = some u->h'.get? b = some u):HOk P w H h':=fun a o e =>
 (x a o e).stay (fun b u _ q=>k b u q) (fun _ q=>q) fun _ _ q=>q
theorem HOk.laid (x:HOk P w H h) (k:∀ b u,h.get? b = some u->h'.get? b = some u) (hp:h.objs.size <= a) (new:ObjOk P w (upd H a o) h' a o):HOk P w (upd H a o) h':=fun b u e=>by
 have hn:=x.fresh hp
 by_cases hb:b = a
 ·subst hb; rw[Bm] at e; cases e; exact new
 ·rw[Bj hb] at e
  exact (x b u e).stay (fun c v _ q=>k c v q) (fun c q=>by rw[Bj (Bv q hn)]; exact q) fun c xs q=>by rw[Bj (Bv q hn)]; exact q
end
def Rd (H:Hp) (a:Addr) (u:HO):Prop:=H a = some u\/∃ o,H a = some (.frz o u)
theorem Rd.ok {P:Program} {w:World} {H:Hp} {h:Heap} {a:Addr} {u:HO} (r:Rd H a u) (x:HOk P w H h):ObjOk P w H h a u:=by
 rcases r with r | ⟨o,r⟩
 ·exact x a u r
 ·obtain⟨_,q⟩:=x a _ r
  exact q
def Mut:Option HO->Prop
 | some (.lst _)=>True
 | some (.dK _)=>True
 | some (.dT _)=>True
 | some (.set _ _)=>True
 | some (.ins _ _ _)=>True
 | some (.ext _)=>True
 | _=>False
section
variable {P:Program} {w:World} {H:Hp} {h h':Heap} {x e:Addr} {o':HO}
theorem HOk.write (ok:HOk P w H h) (mu:Mut (H x)) (he:e = x\/H e = some (.own x)) (k:∀ b u,b ≠ e->h.get? b = some u->h'.get? b = some u) (heo:∃ u,h'.get? e = some u)
  (new:ObjOk P w (upd H x o') h' x o'):HOk P w (upd H x o') h':=fun b u q=>by
 have nown:∀ c y,H c = some (.own y)->c ≠ x:=fun c y r z=>by subst z; rw[r] at mu; exact mu
 have ntup:∀ c xs,H c = some (.tup xs)->c ≠ x:=fun c xs r z=>by subst z; rw[r] at mu; exact mu
 by_cases hb:b = x
 ·subst hb; rw[Bm] at q; cases q; exact new
 ·rw[Bj hb] at q
  by_cases hbe:b = e
  ·have q':H b = some (.own x):=by
    rcases he with z | z
    ·exact absurd (hbe.trans z) hb
    ·rw[hbe]; exact z
   rw[q] at q'; cases q'
   obtain⟨v,hv⟩:=heo
   exact⟨v,by rw[hbe]; exact hv⟩
  ·refine (ok b u q).stay (fun c v hc r=>k c v ?_ r) (fun c r=>by rw[Bj (nown c b r)]; exact r) fun c xs r=>by rw[Bj (ntup c xs r)]; exact r
   rcases hc with rfl | hc
   ·exact hbe
   ·rintro rfl
    rcases he with z | z
    ·exact nown c b hc z
    ·rw[hc] at z; cases z; exact hb rfl
end
structure Un (fs ex:List Addr) (H H':Hp) (h h':Heap):Prop where
 keep:∀ b o,h.get? b = some o->H b = none->b ∉ fs->b ∉ ex->h'.get? b = some o
 slot:∀ b o,h.get? b = some o->H b = none->b ∈ fs->b ∉ ex->∃ sl,h'.get? b = some { o with slots:=sl }
 free:∀ b o,h.get? b = some o->H b = none->b ∉ ex->H' b = none
 there:∀ b o,h.get? b = some o->b ∉ ex->∃ o',h'.get? b = some o'
 tups:∀ b xs,H b = some (.tup xs)->H' b = some (.tup xs)
 frzs:∀ b o u,H b = some (.frz o u)->H' b = some (.frz o u)
 tbls:∀ b ps,H b = some (.tbl ps)->∃ more,H' b = some (.tbl (ps ++ more))
section
variable {fs fs' ex ex':List Addr} {H H1 H2:Hp} {h h1 h2 h':Heap} {a x e:Addr} {o:HO}
theorem Un.any (u:Un fs ex H H1 h h1) {b:Addr} {ob:Obj} (q:h.get? b = some ob) (n:H b = none) (hx:b ∉ ex):∃ sl,h1.get? b = some { ob with slots:=sl }:=by
 by_cases hb:b ∈ fs
 ·exact u.slot b ob q n hb hx
 ·exact⟨ob.slots,u.keep b ob q n hb hx⟩
theorem Un.kept (k:∀ b u,h.get? b = some u->h'.get? b = some u):Un fs ex H H h h' :=
 ⟨fun b ob q _ _ _=>k b ob q,fun b ob q _ _ _=>⟨ob.slots,k b ob q⟩,fun _ _ _ n _=>n,fun b ob q _=>⟨ob,k b ob q⟩,fun _ _ q=>q,fun _ _ _ q=>q,fun _ ps q=>⟨#[],by rw[q]; simp⟩⟩
theorem Un.refl:Un fs ex H H h h:=Un.kept fun _ _ q=>q
theorem Un.laid (k:∀ b u,h.get? b = some u->h'.get? b = some u) (hp:h.objs.size <= a) (hn:H a = none):Un fs ex H (upd H a o) h h' where
 keep:=fun b u q _ _ _=>k b u q
 slot:=fun b u q _ _ _=>⟨u.slots,k b u q⟩
 free:=fun b u q n _=>by rw[Bj (ne_of_lt (Nat.lt_of_lt_of_le (lt_size q) hp))]; exact n
 there:=fun b u q _=>⟨u,k b u q⟩
 tups:=fun b xs q=>by rw[Bj (Bv q hn)]; exact q
 frzs:=fun b u xs q=>by rw[Bj (Bv q hn)]; exact q
 tbls:=fun b ps q=>⟨#[],by rw[Bj (Bv q hn),q]; simp⟩
theorem Un.write (mu:Mut (H x)) (he:e = x\/H e = some (.own x)) (k:∀ b u,b ≠ e->h.get? b = some u->h'.get? b = some u) (heo:∃ u,h'.get? e = some u):Un fs ex H (upd H x o) h h':=by
 have hx:∀ b,H b = none->b ≠ x:=fun b n z=>by subst z; rw[n] at mu; exact mu
 have hb:∀ b,H b = none->b ≠ e:=fun b n z=>by
  subst z
  rcases he with r | r
  ·exact hx b n r
  ·rw[n] at r; cases r
 have hm:∀ b u,H b = some u->¬ Mut (some u)->b ≠ x:=fun b u q nm z=>by subst z; rw[q] at mu; exact nm mu
 refine⟨fun b u q n _ _=>k b u (hb b n) q,fun b u q n _ _=>⟨u.slots,k b u (hb b n) q⟩,fun b u q n _=>by rw[Bj (hx b n)]; exact n,fun b u q _=>?_,
  fun b xs q=>by rw[Bj (hm b _ q fun z=>z)]; exact q,fun b u xs q=>by rw[Bj (hm b _ q fun z=>z)]; exact q,fun b ps q=>⟨#[],by rw[Bj (hm b _ q fun z=>z),q]; simp⟩⟩
 by_cases hbe:b = e
 ·subst hbe; exact heo
 ·exact⟨u,k b u hbe q⟩
end
def trk (h:Heap) (H:Hp):List Addr:=(range h.objs.size).filter fun a=>(H a).isSome
def Rs (h:Heap) (H:Hp):Heap:=PySem.W.hideAll h (trk h H)
theorem Ac0 (h:Heap) (H:Hp):(Rs h H).objs.size = h.objs.size:=PySem.W.hideAll_size _ _
theorem Afk {h:Heap} {H:Hp} {b:Addr} {o:Obj} (e:h.get? b = some o) (n:H b = none):(Rs h H).get? b = some o :=
 PySem.W.hideAll_get _ e fun hm=>by
  have q:(H b).isSome = true:=(mem_filter.mp hm).2
  rw[n] at q; simp at q
theorem AiC {h:Heap} {H:Hp} {b:Addr} {o:Obj} (e:(Rs h H).get? b = some o):h.get? b = some o/\H b = none:=by
 have e':h.get? b = some o:=PySem.W.of_hideAll (trk h H) e
 refine⟨e',?_⟩
 cases q:H b with
 | none=>rfl
 | some x =>
  have hm:b ∈ trk h H:=mem_filter.mpr ⟨mem_range.mpr (lt_size e'),by simp [q]⟩
  have z:(Rs h H).get? b = none:=PySem.W.hideAll_none (trk h H) hm
  rw[z] at e; cases e
end L2
namespace L2
open PySem PySem.Spec PyProof.Rows
structure Mod (K:Frag) (mg:Str->Option Value) (base:Heap):Prop where
 kin:K.In base
 glob:base.Ns mainGlobals mg
 blt:∃ mb,base.Ns builtinsNs mb/\∀ x:Str,x ≠ "__name__"->mb x = bootBuiltins x
 nolimit:base.NoLimit
structure Cx where
 prog:Program
 w:World
 K:Frag
 mg:Str->Option Value
 base:Heap
 A:Around
 N:List Str
 s₀:Shared
 H₀:Hp
 env:Env
 outer:List Env
 stack:List Env
 ex:List Addr
 fn:Str->Bool
 calm:Bool
 pn:List (Addr × Obj)
 xe:Value->Shared->Prop
def frs (l:List Env):List Addr:=l.filterMap (·.frame)
abbrev Cx.fs (X:Cx):List Addr:=frs X.outer
def Vis (sc:Scope) (x:Str):Prop:=sc.names.lookup x = some .local\/sc.names.lookup x = some .cell\/sc.names.lookup x = some .free
def Loc (sc:Scope) (x:Str):Prop:=sc.names.lookup x = some .local\/sc.names.lookup x = some .cell
def AnN (env:Env) (h:Heap) (m:Str->Option Value) (x:Str) (u:Value):Prop :=
 (env.kindOf x = some .local/\m x = some u)\/((env.kindOf x = some .cell\/env.kindOf x = some .free)/\∃ c,env.cells.lookup x = some c/\h.IsCell c (some u))
structure Cx.Ok (X:Cx):Prop where
 mod:Mod X.K X.mg X.base
 kind:X.env.scope.kind = .function
 glob:X.env.globals = mainGlobals
 blt:X.env.builtins = builtinsNs
 above:X.s₀.heap.objs.size <= X.env.locals
 inj:∀ x y c,X.env.cells.lookup x = some c->X.env.cells.lookup y = some c->x = y
 has:∀ x,(X.env.kindOf x = some .cell\/X.env.kindOf x = some .free)->∃ c,X.env.cells.lookup x = some c
 cab:∀ x c,X.fn x = true->X.env.cells.lookup x = some c->X.s₀.heap.objs.size <= c
 hd:X.calm = true->X.A.handled = none
 frames:X.A.frames = some X.stack
 stk:X.stack = X.outer\/(X.stack = X.env :: X.outer/\X.env.frame = some X.env.locals)
 exf:∀ b ∈ X.ex,b ≠ X.env.locals/\∀ x c,X.env.cells.lookup x = some c->c ≠ b
 bs:∀ b o,X.base.get? b = some o->X.s₀.heap.get? b = some o/\X.H₀ b = none
 bsz:X.base.objs.size <= X.s₀.heap.objs.size
 noex:∀ b o,X.base.get? b = some o->b ∉ X.ex
 exfs:∀ b ∈ X.ex,b ∉ X.fs
 funs:X.s₀.heap.FunFrames X.base X.outer
 frf:∀ b ∈ X.fs,X.H₀ b = none
structure Inv (X:Cx) (pins:List (Addr × Obj)) (σ:List (Option V)) (H:Hp) (s:Shared):Prop where
 ok:X.Ok
 os:s.os = X.s₀.os
 bare:AllBare s.gens
 base:Un X.fs X.ex X.H₀ H X.s₀.heap s.heap
 loc:∃ m,s.heap.Ns X.env.locals m/\∀ (i:Nat) (x:Str) (v:V),X.N[i]? = some x->σ[i]? = some (some v)->Vis X.env.scope x->∃ u,RelV v u/\AnN X.env s.heap m x u
 cell:∀ x c,X.env.cells.lookup x = some c->∃ v,s.heap.IsCell c v
 free:H X.env.locals = none
 freeC:∀ x c,X.env.cells.lookup x = some c->H c = none
 pin:∀ p ∈ X.pn ++ pins,s.heap.get? p.1 = some p.2/\H p.1 = none/\p.1 ≠ X.env.locals/\p.1 ∉ X.fs/\∀ v,p.2.data ≠ .cell v
 hok:HOk X.prog X.w H s.heap
 len:σ.length = X.N.length
section
variable {X:Cx} {pins:List (Addr × Obj)} {σ:List (Option V)} {H H':Hp} {s:Shared} {h':Heap}
theorem Cx.Ok.nofr (ok:X.Ok) {b:Addr} {o:Obj} (e:X.base.get? b = some o):b ∉ X.fs:=fun hb=>by
 have:=(ok.funs.mem hb).1
 rw[e] at this; cases this
theorem Inv.bs (I:Inv X pins σ H s):∀ b o,X.base.get? b = some o->s.heap.get? b = some o/\H b = none:=fun b o e =>
 ⟨I.base.keep b o (I.ok.bs b o e).1 (I.ok.bs b o e).2 (I.ok.nofr e) (I.ok.noex b o e),I.base.free b o (I.ok.bs b o e).1 (I.ok.bs b o e).2 (I.ok.noex b o e)⟩
theorem Inv.bk (I:Inv X pins σ H s):∀ b o,X.base.get? b = some o->s.heap.get? b = some o:=fun b o e=>(I.bs b o e).1
theorem Inv.mod (I:Inv X pins σ H s):Mod X.K X.mg X.base:=I.ok.mod
theorem Inv.kIn (I:Inv X pins σ H s):X.K.In s.heap:=I.ok.mod.kin.keeps I.bk
theorem Inv.lt (I:Inv X pins σ H s):X.env.locals < s.heap.objs.size:=let ⟨_,hn,_⟩:=I.loc; hn.lt
theorem Inv.sz (I:Inv X pins σ H s):X.s₀.heap.objs.size <= s.heap.objs.size:=Nat.le_trans I.ok.above (Nat.le_of_lt I.lt)
theorem Inv.nofs (I:Inv X pins σ H s) {a:Addr} (h:s.heap.objs.size <= a):a ∉ X.fs:=fun hb=>by
 obtain⟨_,o,ho,_⟩:=I.ok.funs.mem hb
 exact absurd (Nat.lt_of_lt_of_le (lt_size ho) (Nat.le_trans I.sz h)) (Nat.lt_irrefl _)
theorem Inv.cne (I:Inv X pins σ H s):∀ x c,X.env.cells.lookup x = some c->c ≠ X.env.locals:=fun x c e z=>by
 obtain⟨v,o,ho,hd⟩:=I.cell x c e
 obtain⟨m,⟨o',es,ep,ho',hd',_⟩,_⟩:=I.loc
 rw[z,ho'] at ho; cases ho; rw[hd'] at hd; cases hd
theorem Inv.funs (I:Inv X pins σ H s):s.heap.FunFrames X.base X.outer:=by
 have all:∀ (l:List Env),(∀ b ∈ frs l,b ∈ X.fs)->X.s₀.heap.FunFrames X.base l->s.heap.FunFrames X.base l:=by
  intro l
  induction l with
  | nil=>intro _ _; trivial
  | cons env r ih =>
   intro hs hl
   obtain⟨hk,⟨L,o,hf,hn,ho,hd⟩,hr⟩:=hl
   have hL:L ∈ X.fs:=hs L (by unfold frs; rw[filterMap_cons,hf]; exact mem_cons_self)
   obtain⟨sl,e⟩:=I.base.slot L o ho (I.ok.frf L hL) hL fun z=>I.ok.exfs L z hL
   exact⟨hk,⟨L,_,hf,hn,e,hd⟩,ih (fun b hb=>hs b (by unfold frs; rw[filterMap_cons,hf]; exact mem_cons_of_mem _ hb)) hr⟩
 exact all X.outer (fun _ hb=>hb) I.ok.funs
theorem Inv.stack (I:Inv X pins σ H s):s.heap.FunFrames X.base X.stack:=by
 rcases I.ok.stk with e | ⟨e,hf⟩
 ·rw[e]; exact I.funs
 ·rw[e]
  obtain⟨m,hn,_⟩:=I.loc
  refine .cons (by rw[I.ok.kind]; decide) hf hn ?_ I.funs
  exact Heap.get?_none_of_le (Nat.le_trans I.ok.bsz I.ok.above)
theorem Inv.stkSub (I:Inv X pins σ H s):∀ b ∈ frs X.stack,b ∈ X.env.locals :: X.fs:=fun b hb=>by
 rcases I.ok.stk with e | ⟨e,hf⟩
 ·rw[e] at hb; exact mem_cons_of_mem _ hb
 ·rw[e] at hb
  unfold frs at hb
  rw[filterMap_cons,hf] at hb
  exact hb
theorem Inv.stkFree (I:Inv X pins σ H s):∀ b ∈ frs X.stack,H b = none:=fun b hb=>by
 rcases mem_cons.mp (I.stkSub b hb) with e | hb
 ·rw[e]; exact I.free
 ·obtain⟨_,o,ho,_⟩:=I.ok.funs.mem hb
  exact I.base.free b o ho (I.ok.frf b hb) fun z=>I.ok.exfs b z hb
theorem Inv.step {g':Array GenState} {t':Nat} {d':Drawn} {ch:List Addr} (I:Inv X pins σ H s)
  (hch:∀ b ∈ ch,(b ∈ X.ex\/X.s₀.heap.objs.size <= b)/\b ≠ X.env.locals/\(∀ x c,X.env.cells.lookup x = some c->c ≠ b)/\∀ p ∈ X.pn ++ pins,p.1 ≠ b)
  (keep:∀ b o,b ≠ X.env.locals->b ∉ X.fs->b ∉ ch->s.heap.get? b = some o->H b = none->h'.get? b = some o)
  (slot:∀ b o,b ≠ X.env.locals->b ∈ X.fs->b ∉ ch->s.heap.get? b = some o->H b = none->∃ sl,h'.get? b = some { o with slots:=sl }) (free:∀ b o,b ∉ ch->s.heap.get? b = some o->H b = none->H' b = none)
  (there:∀ b o,b ∉ ch->s.heap.get? b = some o->∃ o',h'.get? b = some o')
  (tups:∀ b xs,H b = some (.tup xs)->H' b = some (.tup xs)) (frzs:∀ b o u,H b = some (.frz o u)->H' b = some (.frz o u)) (tbls:∀ b ps,H b = some (.tbl ps)->∃ more,H' b = some (.tbl (ps ++ more)))
  (ns:∀ m,s.heap.Ns X.env.locals m->h'.Ns X.env.locals m) (hok:HOk X.prog X.w H' h') (hg:AllBare g') :
  Inv X pins σ H' { s with heap:=h',gens:=g',drawn:=d',toks:=t' }:=by
 have neL:∀ b o,X.s₀.heap.get? b = some o->b ≠ X.env.locals:=fun b o e=>ne_of_lt (Nat.lt_of_lt_of_le (lt_size e) I.ok.above)
 have neC:∀ b o,X.s₀.heap.get? b = some o->b ∉ X.ex->b ∉ ch:=fun b o e hx hb=>by
  rcases (hch b hb).1 with z | z
  ·exact hx z
  ·exact absurd (Nat.lt_of_lt_of_le (lt_size e) z) (Nat.lt_irrefl _)
 have cellK:∀ x c,X.env.cells.lookup x = some c->∀ v,s.heap.IsCell c v->h'.IsCell c v:=fun x c e v ⟨o,ho,hd⟩=>by
  have nch:c ∉ ch:=fun z=>(hch c z).2.2.1 x c e rfl
  by_cases hc:c ∈ X.fs
  ·obtain⟨sl,q⟩:=slot c o (I.cne x c e) hc nch ho (I.freeC x c e)
   exact⟨_,q,hd⟩
  ·exact⟨o,keep c o (I.cne x c e) hc nch ho (I.freeC x c e),hd⟩
 refine⟨I.ok,I.os,hg,⟨fun b o e n hb hx=>?_,fun b o e n hb hx=>?_,fun b o e n hx=>?_,fun b o e hx=>?_,fun b xs e=>tups b xs (I.base.tups b xs e),fun b o xs e=>frzs b o xs (I.base.frzs b o xs e),fun b ps e=>?_⟩,?_,fun x c e=>?_,?_,fun x c e=>?_,fun p hp=>?_,hok,I.len⟩
 ·exact keep b o (neL b o e) hb (neC b o e hx) (I.base.keep b o e n hb hx) (I.base.free b o e n hx)
 ·obtain⟨sl,e1⟩:=I.base.slot b o e n hb hx
  obtain⟨sl',e2⟩:=slot b _ (neL b o e) hb (neC b o e hx) e1 (I.base.free b o e n hx)
  exact⟨sl',e2⟩
 ·obtain⟨o',e1⟩:=I.base.there b o e hx
  exact free b o' (neC b o e hx) e1 (I.base.free b o e n hx)
 ·obtain⟨o',e1⟩:=I.base.there b o e hx
  exact there b o' (neC b o e hx) e1
 ·obtain⟨m1,e1⟩:=I.base.tbls b ps e
  obtain⟨m2,e2⟩:=tbls b _ e1
  exact⟨m1 ++ m2,by rw[e2,Array.append_assoc]⟩
 ·obtain⟨m,hn,hl⟩:=I.loc
  refine⟨m,ns m hn,fun i x v e1 e2 e3=>?_⟩
  obtain⟨u,r,l⟩:=hl i x v e1 e2 e3
  refine⟨u,r,?_⟩
  rcases l with l | ⟨k,c,e,z⟩
  ·exact .inl l
  ·exact .inr ⟨k,c,e,cellK x c e _ z⟩
 ·obtain⟨v,z⟩:=I.cell x c e
  exact⟨v,cellK x c e v z⟩
 ·obtain⟨m,⟨o,_,_,ho,_⟩,_⟩:=I.loc
  exact free _ o (fun z=>(hch _ z).2.1 rfl) ho I.free
 ·obtain⟨v,o,ho,hd⟩:=I.cell x c e
  exact free c o (fun z=>(hch c z).2.2.1 x c e rfl) ho (I.freeC x c e)
 ·obtain⟨e,n,ne,nf,d⟩:=I.pin p hp
  have nch:p.1 ∉ ch:=fun z=>(hch p.1 z).2.2.2 p hp rfl
  exact⟨keep p.1 p.2 ne nf nch e n,free p.1 p.2 nch e n,ne,nf,d⟩
theorem Inv.un {t':Nat} (I:Inv X pins σ H s) (u:Un X.fs [] H H' s.heap h') (hok:HOk X.prog X.w H' h'):Inv X pins σ H' { s with heap:=h',toks:=t' }:=by
 obtain⟨m,⟨o,es,ep,ho,r⟩,_⟩:=id I.loc
 obtain⟨sl,hL⟩:=u.any ho I.free (by simp)
 exact I.step (g':=s.gens) (d':=s.drawn) (ch:=[]) (fun _ z=>nomatch z) (fun b o _ hb _ e n=>u.keep b o e n hb (by simp)) (fun b o _ hb _ e n=>u.slot b o e n hb (by simp)) (fun b o _ e n=>u.free b o e n (by simp)) (fun b o _ e=>u.there b o e (by simp)) u.tups u.frzs u.tbls (fun m' hm=>by
  obtain⟨o',es',ep',ho',r'⟩:=hm
  rw[ho] at ho'; cases ho'
  exact⟨_,es',ep',hL,r'⟩) hok I.bare
theorem Inv.call {g':Array GenState} {t':Nat} {d':Drawn} {ch:List Addr} (I:Inv X pins σ H s) (u:Un (frs X.stack) ch H H' s.heap h') (hok:HOk X.prog X.w H' h') (hg:AllBare g')
  (hch:∀ b ∈ ch,(b ∈ X.ex\/X.s₀.heap.objs.size <= b)/\b ≠ X.env.locals/\(∀ x c,X.env.cells.lookup x = some c->c ≠ b)/\∀ p ∈ X.pn ++ pins,p.1 ≠ b) :
  Inv X pins σ H' { s with heap:=h',gens:=g',drawn:=d',toks:=t' }:=by
 obtain⟨m,⟨o,es,ep,ho,r⟩,_⟩:=id I.loc
 obtain⟨sl,hL⟩:=u.any ho I.free fun z=>(hch _ z).2.1 rfl
 exact I.step (ch:=ch) hch (fun b o hL hb hc e n=>u.keep b o e n (fun z=>(mem_cons.mp (I.stkSub b z)).elim hL hb) hc) (fun b o _ _ hc e n=>u.any e n hc) (fun b o hc e n=>u.free b o e n hc) (fun b o hc e=>u.there b o e hc) u.tups u.frzs u.tbls (fun m' hm=>by
  obtain⟨o',es',ep',ho',r'⟩:=hm
  rw[ho] at ho'; cases ho'
  exact⟨_,es',ep',hL,r'⟩) hok hg
theorem Inv.turned {t':Nat} {it:Addr} (I:Inv X pins σ H s) (k:∀ b o,b ≠ it->s.heap.get? b = some o->h'.get? b = some o) (hn:H it = none) (hL:it ≠ X.env.locals)
  (h1:it ∈ X.ex\/X.s₀.heap.objs.size <= it) (h2:∀ x c,X.env.cells.lookup x = some c->c ≠ it) (h3:∀ p ∈ X.pn ++ pins,p.1 ≠ it):Inv X pins σ H { s with heap:=h',toks:=t' }:=by
 have nit:∀ b u,H b = some u->b ≠ it:=fun b u e z=>by rw[z,hn] at e; cases e
 refine I.step (g':=s.gens) (d':=s.drawn) (ch:=[it]) (fun b hb=>?_) (fun b o _ _ hc e _=>k b o (fun z=>hc (by simp [z])) e) (fun b o _ _ hc e _=>⟨o.slots,k b o (fun z=>hc (by simp [z])) e⟩) (fun _ _ _ _ n=>n)
  (fun b o hc e=>⟨o,k b o (fun z=>hc (by simp [z])) e⟩) (fun _ _ e=>e) (fun _ _ _ e=>e) (fun b ps e=>⟨#[],by rw[e]; simp⟩) (fun m hm=>?_) (fun b u e=>?_) I.bare
 ·have e:b = it:=by simpa using hb
  subst e
  exact⟨h1,hL,h2,h3⟩
 ·obtain⟨o,es,ep,ho,r⟩:=hm
  exact⟨o,es,ep,k _ o (Ne.symm hL) ho,r⟩
 ·refine (I.hok b u e).stay (fun c v hc q=>k c v ?_ q) (fun _ q=>q) fun _ _ q=>q
  rcases hc with z | z
  ·rw[z]; exact nit b u e
  ·exact nit c _ z
theorem Inv.tok (I:Inv X pins σ H s) (t:Nat):Inv X pins σ H { s with toks:=t }:=I.un (h':=s.heap) (t':=t) Un.refl I.hok
theorem Inv.kept {t':Nat} (I:Inv X pins σ H s) (k:∀ b u,s.heap.get? b = some u->h'.get? b = some u):Inv X pins σ H { s with heap:=h',toks:=t' }:=I.un (Un.kept k) (I.hok.kept k)
theorem Inv.laid {a:Addr} {o:HO} {t':Nat} (I:Inv X pins σ H s) (k:∀ b u,s.heap.get? b = some u->h'.get? b = some u) (hp:s.heap.objs.size <= a) (new:ObjOk X.prog X.w (upd H a o) h' a o) :
  Inv X pins σ (upd H a o) { s with heap:=h',toks:=t' }:=I.un (Un.laid k hp (I.hok.fresh hp)) (I.hok.laid k hp new)
theorem Inv.write {x e:Addr} {o:HO} {t':Nat} (I:Inv X pins σ H s) (mu:Mut (H x)) (he:e = x\/H e = some (.own x)) (k:∀ b u,b ≠ e->s.heap.get? b = some u->h'.get? b = some u) (heo:∃ u,h'.get? e = some u)
  (new:ObjOk X.prog X.w (upd H x o) h' x o):Inv X pins σ (upd H x o) { s with heap:=h',toks:=t' }:=I.un (Un.write mu he k heo) (I.hok.write mu he k heo new)
theorem Inv.weak {σ':List (Option V)} (I:Inv X pins σ H s) (hl:σ'.length = σ.length) (w:∀ (i:Nat) v,σ'[i]? = some (some v)->σ[i]? = some (some v)):Inv X pins σ' H s :=
 ⟨I.ok,I.os,I.bare,I.base,let ⟨m,hn,hl'⟩:=I.loc; ⟨m,hn,fun i x v e1 e2 e3=>hl' i x v e1 (w i v e2) e3⟩,I.cell,I.free,I.freeC,I.pin,I.hok,hl.trans I.len⟩
theorem Inv.pins_of {pins':List (Addr × Obj)} (I:Inv X pins σ H s) (h:∀ p ∈ pins',s.heap.get? p.1 = some p.2/\H p.1 = none/\p.1 ≠ X.env.locals/\p.1 ∉ X.fs/\∀ v,p.2.data ≠ .cell v):Inv X pins' σ H s :=
 ⟨I.ok,I.os,I.bare,I.base,I.loc,I.cell,I.free,I.freeC,fun p hp=>(mem_append.mp hp).elim (fun z=>I.pin p (mem_append_left _ z)) (h p),I.hok,I.len⟩
theorem Lp {N:List Str} (hN:N.Nodup) {i j:Nat} {x:Str} (a:N[i]? = some x) (b:N[j]? = some x):i = j:=by
 obtain⟨h1,e1⟩:=List.getElem?_eq_some_iff.mp a
 obtain⟨h2,e2⟩:=List.getElem?_eq_some_iff.mp b
 exact (List.getElem_inj hN).mp (e1.trans e2.symm)
theorem Ww {M:Model} {A:Around} {E:Value->Shared->Prop} {i:Nat} {x:Str} {v:V} {u:Value} {Q:Unit->Shared->Prop} (I:Inv X pins σ H s) (hN:X.N.Nodup) (hi:X.N[i]? = some x) (hx:Loc X.env.scope x) (r:RelV v u)
  (h:∀ s',Inv X pins (σ.set i (some v)) H s'->(∃ a,SameBut a s.heap s'.heap/\(a = X.env.locals\/X.env.cells.lookup x = some a))->Q () s') (hf:X.fn x = true\/X.env.scope.names.lookup x = some .local:=by first | exact .inl rfl | exact .inr rfl | assumption):wpAny M A (storeName X.env x u) Q E s:=by
 obtain⟨m,hn,hl⟩:=id I.loc
 have hcls:(X.env.scope.kind == .class || (X.env.scope.kind == .module && X.env.locals != X.env.globals)) = false:=by rw[I.ok.kind]; rfl
 have hiσ:i < σ.length:=by rw[I.len]; exact (List.getElem?_eq_some_iff.mp hi).1
 have cne:=I.cne
 have tracked:∀ {a:Addr} {h':Heap},(∃ o,s.heap.get? a = some o/\H a = none)->SameBut a s.heap h'->HOk X.prog X.w H h':=fun {a h'} ha hs b ob e=>by
  obtain⟨_,_,hfree⟩:=ha
  refine (I.hok b ob e).stay (fun c w' hc q=>(hs.2 c ?_).trans q) (fun _ q=>q) fun _ _ q=>q
  rintro rfl
  rcases hc with rfl | hc
  ·rw[hfree] at e; cases e
  ·rw[hfree] at hc; cases hc
 rcases hx with hk | hk
 ·refine wpAny_storeName_local hk hn (fun h' hn' hs=>?_) hcls
  obtain⟨oL,_,_,hoL,_⟩:=id hn
  refine h _ ⟨I.ok,I.os,I.bare,⟨fun b o e n hb hx=>?_,fun b o e n hb hx=>?_,I.base.free,fun b o e hx=>?_,I.base.tups,I.base.frzs,I.base.tbls⟩,⟨_,hn',fun j y v' e1 e2 e3=>?_⟩,fun y c e=>?_,I.free,I.freeC,fun p hp=>?_,tracked ⟨oL,hoL,I.free⟩ hs,by simpa using I.len⟩ ⟨_,hs,.inl rfl⟩
  ·exact (hs.2 b (ne_of_lt (Nat.lt_of_lt_of_le (lt_size e) I.ok.above))).trans (I.base.keep b o e n hb hx)
  ·obtain⟨sl,e1⟩:=I.base.slot b o e n hb hx
   exact⟨sl,(hs.2 b (ne_of_lt (Nat.lt_of_lt_of_le (lt_size e) I.ok.above))).trans e1⟩
  ·obtain⟨o',e1⟩:=I.base.there b o e hx
   exact⟨o',(hs.2 b (ne_of_lt (Nat.lt_of_lt_of_le (lt_size e) I.ok.above))).trans e1⟩
  ·by_cases hj:j = i
   ·subst hj
    rw[hi] at e1; cases e1
    rw[getElem?_set_self hiσ] at e2
    cases e2
    exact⟨u,r,.inl ⟨hk,by simp⟩⟩
   ·rw[getElem?_set_ne (Ne.symm hj)] at e2
    obtain⟨u',r',q⟩:=hl j y v' e1 e2 e3
    refine⟨u',r',?_⟩
    rcases q with ⟨k,e⟩ | ⟨k,c,e,z⟩
    ·refine .inl ⟨k,?_⟩
     have:y ≠ x:=fun e=>hj (Lp hN e1 (e ▸ hi))
     simp [this,e]
    ·exact .inr ⟨k,c,e,z.sameBut hs (cne y c e)⟩
  ·obtain⟨w',z⟩:=I.cell y c e
   exact⟨w',z.sameBut hs (cne y c e)⟩
  ·obtain⟨e,n,ne,nf,d⟩:=I.pin p hp
   exact⟨(hs.2 p.1 ne).trans e,n,ne,nf,d⟩
 ·have hfn:X.fn x = true:=by
   rcases hf with z | z
   ·exact z
   ·rw[z] at hk; cases hk
  obtain⟨c,hc⟩:=I.ok.has x (.inl hk)
  obtain⟨w',z⟩:=I.cell x c hc
  refine wpAny_storeName_cell I.ok.kind hk hc z (fun h' hc' hs=>?_)
  obtain⟨oc,hoc,hocd⟩:=id z
  refine h { s with heap:=h' } ⟨I.ok,I.os,I.bare,⟨fun b o e n hb hx=>?_,fun b o e n hb hx=>?_,I.base.free,fun b o e hx=>?_,I.base.tups,I.base.frzs,I.base.tbls⟩,⟨m,hn.sameBut hs (Ne.symm (cne x c hc)),fun j y v' e1 e2 e3=>?_⟩,fun y c' e=>?_,I.free,I.freeC,fun p hp=>?_,tracked ⟨oc,hoc,I.freeC x c hc⟩ hs,by simpa using I.len⟩ ⟨c,hs,.inr hc⟩
  ·exact (hs.2 b (ne_of_lt (Nat.lt_of_lt_of_le (lt_size e) (I.ok.cab x c hfn hc)))).trans (I.base.keep b o e n hb hx)
  ·obtain⟨sl,e1⟩:=I.base.slot b o e n hb hx
   exact⟨sl,(hs.2 b (ne_of_lt (Nat.lt_of_lt_of_le (lt_size e) (I.ok.cab x c hfn hc)))).trans e1⟩
  ·obtain⟨o',e1⟩:=I.base.there b o e hx
   exact⟨o',(hs.2 b (ne_of_lt (Nat.lt_of_lt_of_le (lt_size e) (I.ok.cab x c hfn hc)))).trans e1⟩
  ·by_cases hj:j = i
   ·subst hj
    rw[hi] at e1; cases e1
    rw[getElem?_set_self hiσ] at e2
    cases e2
    exact⟨u,r,.inr ⟨.inl hk,c,hc,hc'⟩⟩
   ·rw[getElem?_set_ne (Ne.symm hj)] at e2
    obtain⟨u',r',q⟩:=hl j y v' e1 e2 e3
    refine⟨u',r',?_⟩
    rcases q with q | ⟨k,c',e,z'⟩
    ·exact .inl q
    ·refine .inr ⟨k,c',e,z'.sameBut hs ?_⟩
     rintro rfl
     exact hj (Lp hN e1 (I.ok.inj _ _ _ e hc ▸ hi))
  ·by_cases hcc:c' = c
   ·subst hcc; exact⟨_,hc'⟩
   ·obtain⟨w2,z2⟩:=I.cell y c' e
    exact⟨w2,z2.sameBut hs hcc⟩
  ·obtain⟨e,n,ne,nf,d⟩:=I.pin p hp
   refine⟨(hs.2 p.1 ?_).trans e,n,ne,nf,d⟩
   intro q
   rw[q,hoc] at e
   have q':oc = p.2:=Option.some.inj e
   exact d w' (by rw[<- q']; exact hocd)
theorem To {M:Model} {A:Around} {E:Value->Shared->Prop} {i:Nat} {x:Str} {v:V} {u:Value} {Q:Unit->Shared->Prop} (I:Inv X pins σ H s) (hN:X.N.Nodup) (hi:X.N[i]? = some x) (hx:Loc X.env.scope x) (r:RelV v u)
  (h:∀ s',Inv X pins (σ.set i (some v)) H s'->Q () s') (hf:X.fn x = true\/X.env.scope.names.lookup x = some .local:=by first | exact .inl rfl | exact .inr rfl | assumption):wpAny M A (storeName X.env x u) Q E s :=
 Ww I hN hi hx r (fun s' I' _=>h s' I') hf
end
abbrev XK:=Value->Option Addr->Hp->Prop
abbrev St:=List (Option V)
abbrev VK:=V->Hp->Prop
abbrev TE:=St->Hp->VK->Prop
abbrev TT:=St->Hp->(Bool->Hp->Prop)->Prop
abbrev TA:=St->Hp->(List V->Hp->Prop)->Prop
structure Ends where
 nx:St->Hp->Prop
 rt:VK
 bk:St->Hp->Prop:=fun _ _=>False
 ct:St->Hp->Prop:=fun _ _=>False
abbrev TS:=Ends->St->Hp->Prop
def EP (X:Cx) (pins:List (Addr × Obj)) (σ:St) (Q:VK) (u:Value) (s':Shared):Prop:=∃ v H',Inv X pins σ H' s'/\RelV v u/\Q v H'
def TP (X:Cx) (pins:List (Addr × Obj)) (σ:St) (Q:Bool->Hp->Prop) (b:Bool) (s':Shared):Prop:=∃ H',Inv X pins σ H' s'/\Q b H'
def AP (X:Cx) (pins:List (Addr × Obj)) (σ:St) (Q:List V->Hp->Prop) (us:List Value) (s':Shared):Prop:=∃ vs H',Inv X pins σ H' s'/\Vals vs us/\Q vs H'
def SP (X:Cx) (pins:List (Addr × Obj)) (D:Ends) (f:Flow) (s':Shared):Prop :=
 match f with
 | .next=>∃ σ' H',Inv X pins σ' H' s'/\D.nx σ' H'
 | .brk=>∃ σ' H',Inv X pins σ' H' s'/\D.bk σ' H'
 | .cont=>∃ σ' H',Inv X pins σ' H' s'/\D.ct σ' H'
 | .ret u=>∃ v σ' H',Inv X pins σ' H' s'/\RelV v u/\D.rt v H'
def PE (X:Cx) (e:Expr) (t:TE):Prop :=
 ∀ (pins:List (Addr × Obj)) (s:Shared) (σ:St) (H:Hp) (Q:VK),Inv X pins σ H s->t σ H Q->wpAny (model X.prog X.w) X.A (eval e X.env) (EP X pins σ Q) X.xe s
def PT (X:Cx) (e:Expr) (t:TT):Prop :=
 ∀ (pins:List (Addr × Obj)) (s:Shared) (σ:St) (H:Hp) (Q:Bool->Hp->Prop),Inv X pins σ H s->t σ H Q->wpAny (model X.prog X.w) X.A (isTrue e X.env (eval e X.env)) (TP X pins σ Q) X.xe s
def PW (X:Cx) (e:Expr) (t:TT):Prop :=
 ∀ (whole:Sem Value) (pins:List (Addr × Obj)) (s:Shared) (σ:St) (H:Hp) (Q:Bool->Hp->Prop),Inv X pins σ H s->t σ H Q->wpAny (model X.prog X.w) X.A (isTrue e X.env whole) (TP X pins σ Q) X.xe s
theorem PW.pt {X:Cx} {e:Expr} {t:TT} (h:PW X e t):PT X e t:=h _
def PA (X:Cx) (es:List Expr) (t:TA):Prop :=
 ∀ (pos:Pos) (pins:List (Addr × Obj)) (s:Shared) (σ:St) (H:Hp) (Q:List V->Hp->Prop),Inv X pins σ H s->t σ H Q->wpAny (model X.prog X.w) X.A (spliced (backTo pos (starEach es X.env))) (AP X pins σ Q) X.xe s
def PS (X:Cx) (st:Stmt) (t:TS):Prop :=
 ∀ (pins:List (Addr × Obj)) (s:Shared) (σ:St) (H:Hp) (D:Ends),Inv X pins σ H s->t D σ H->wpAny (model X.prog X.w) X.A (exec st X.env) (SP X pins D) X.xe s
def PSs (X:Cx) (st:List Stmt) (t:TS):Prop :=
 ∀ (pins:List (Addr × Obj)) (s:Shared) (σ:St) (H:Hp) (D:Ends),Inv X pins σ H s->t D σ H->wpAny (model X.prog X.w) X.A (execs st X.env) (SP X pins D) X.xe s
theorem thn {α:Type} {t:Sem α} {Q Q':α->Shared->Prop} {M:Model} {A:Around} {E:Value->Shared->Prop} {s:Shared} (h:wpAny M A t Q E s) (hQ:∀ a s,Q a s->Q' a s):wpAny M A t Q' E s:=wpAny_mono h hQ fun _ _ x=>x
end L2
namespace L2
open PySem PySem.Spec PyProof.Rows
section
variable {X:Cx}
def Fg (i:Nat):TE:=fun σ H Q=>∃ v,σ[i]? = some (some v)/\Q v H
def tC (v:V):TE:=fun _ H Q=>Q v H
theorem AlW {i:Nat} {x:Str} {pos:Pos} (hN:X.N[i]? = some x) (hv:Vis X.env.scope x) (hd:(x == ("__debug__" : Str)) = false:=by decide) (hcd:(x == ("__classdict__" : Str)) = false:=by decide):PE X (.Name x pos) (Fg i):=by
 intro pins s σ H Q I h
 obtain⟨v,e,h⟩:=h
 obtain⟨m,hn,hl⟩:=I.loc
 obtain⟨u,r,l⟩:=hl i x v hN e hv
 have fin:EP X pins σ Q u s:=⟨v,H,I,r,h⟩
 rcases l with ⟨hk,hm⟩ | ⟨hk,c,hc,hcell⟩
 ·exact wpAny_Name (wpAny_loadName_local I.ok.kind hk hn hm fin) hd
 ·rcases hk with hk | hk
  ·exact wpAny_Name (wpAny_loadName_cell I.ok.kind hk hc hcell fin) hd
  ·exact wpAny_Name (wpAny_loadName_free I.ok.kind hk hc hcell fin hcd) hd
theorem Be {i j pos}:PE X (.Constant (.int i) j pos) (tC (.int i)):=fun _ _ _ H _ I h=>wpAny_Constant_int ⟨.int i,H,I.tok _,⟨_,rfl⟩,h⟩
theorem Ow {b j pos}:PE X (.Constant (.bool b) j pos) (tC (.bl b)):=fun _ _ _ H _ I h=>Constant_bool ⟨.bl b,H,I,rfl,h⟩
theorem Ux {j pos}:PE X (.Constant .none j pos) (tC .non):=fun _ _ _ H _ I h=>Constant_none ⟨.non,H,I,rfl,h⟩
theorem Bw {x j pos}:PE X (.Constant (.str x) j pos) (tC (.str x)):=fun _ _ _ H _ I h=>Calls.Constant_str ⟨.str x,H,I.tok _,⟨_,rfl⟩,h⟩
def Gl (X:Cx) (x:Str):Prop:=X.env.kindOf x = some .globalImplicit
theorem Vs {E:Value->Shared->Prop} {pins:List (Addr × Obj)} {s:Shared} {σ:St} {H:Hp} {x:Str} {u:Value} {pos:Pos} {Q:Value->Shared->Prop} (I:Inv X pins σ H s) (hg:Gl X x) (hm:X.mg x = some u) (h:Q u s)
  (hd:(x == ("__debug__" : Str)) = false:=by decide):wpAny (model X.prog X.w) X.A (eval (.Name x pos) X.env) Q E s :=
 Calls.Name_function_global I.ok.kind hg (Calls.loadGlobal_global (by rw[I.ok.glob]; exact I.mod.glob.keeps I.bk) hm h) hd
theorem Lj {E:Value->Shared->Prop} {pins:List (Addr × Obj)} {s:Shared} {σ:St} {H:Hp} {x:Str} {u:Value} {pos:Pos} {Q:Value->Shared->Prop} (I:Inv X pins σ H s) (hg:Gl X x) (hm:X.mg x = none) (hv:bootBuiltins x = some u) (h:Q u s)
  (hn:x ≠ "__name__":=by decide) (hd:(x == ("__debug__" : Str)) = false:=by decide):wpAny (model X.prog X.w) X.A (eval (.Name x pos) X.env) Q E s:=by
 obtain⟨mb,h1,h2⟩:=I.mod.blt
 exact Calls.Name_function_global I.ok.kind hg (Calls.loadGlobal_builtin (by rw[I.ok.glob]; exact I.mod.glob.keeps I.bk) hm (by rw[I.ok.blt]; exact h1.keeps I.bk) ((h2 x hn).trans hv) h) hd
theorem Of {x:Str} {v:V} {u:Value} {pos:Pos} (hg:Gl X x) (hm:X.mg x = some u) (r:RelV v u) (hd:(x == ("__debug__" : Str)) = false:=by decide):PE X (.Name x pos) (tC v) :=
 fun _ _ _ H _ I h=>Vs I hg hm ⟨v,H,I,r,h⟩ hd
theorem Gw {x:Str} {v:V} {u:Value} {pos:Pos} (hg:Gl X x) (hm:X.mg x = none) (hv:bootBuiltins x = some u) (r:RelV v u) (hn:x ≠ "__name__":=by decide) (hd:(x == ("__debug__" : Str)) = false:=by decide):PE X (.Name x pos) (tC v) :=
 fun _ _ _ H _ I h=>Lj I hg hm hv ⟨v,H,I,r,h⟩ hn hd
variable {a b:Expr} {ta tb:TE} {pos:Pos}
def PC (X:Cx) (op:CmpOp) (a b:Expr) (t:TE):Prop :=
 ∀ (pins:List (Addr × Obj)) (s:Shared) (σ:St) (H:Hp) (Q:VK),Inv X pins σ H s->t σ H Q ->
  wpAny (model X.prog X.w) X.A (eval a X.env) (fun v s₁=>wpAny (model X.prog X.w) X.A (eval b X.env) (fun u s₂=>wpAny (model X.prog X.w) X.A (compareOp op v u) (EP X pins σ Q) X.xe s₂) X.xe s₁) X.xe s
theorem Zy (b:Expr) {op:CmpOp} (h:op ≠ .In) (h2:op ≠ .NotIn):behindInMarks op b = false:=by
 have e1:(op == CmpOp.In) = false:=by cases op <;> first | rfl | exact absurd rfl h
 have e2:(op == CmpOp.NotIn) = false:=by cases op <;> first | rfl | exact absurd rfl h2
 cases b <;> simp [behindInMarks,e1,e2]
def AlQ (ta:TE):TE:=fun σ H Q=>ta σ H fun x H1=>Q (.bl (decide (x = .non))) H1
def Ahh (ta:TE):TE:=fun σ H Q=>ta σ H fun x H1=>Q (.bl (!decide (x = .non))) H1
theorem RelV.none_iff {x:V} {v:Value} (r:RelV x v):(v == Value.none) = decide (x = .non):=by
 cases x with
 | non=>cases r; rfl
 | bl _=>cases r; rfl
 | int _=>obtain⟨t,rfl⟩:=r; rfl
 | str _=>obtain⟨t,rfl⟩:=r; rfl
 | byt _=>obtain⟨t,rfl⟩:=r; rfl
 | flt _=>obtain⟨t,rfl⟩:=r; rfl
 | ref _=>cases r; rfl
 | ty _=>cases r; rfl
theorem AkP {j pos'} (ha:PE X a ta):PC X .Is a (.Constant .none j pos') (AlQ ta):=by
 intro pins s σ H Q I h
 refine thn (ha pins s σ H _ I h) fun v s1 ⟨x,H1,I1,r1,q1⟩=>?_
 exact Constant_none (is_none_gen ⟨.bl _,H1,I1,by rw[r1.none_iff]; rfl,q1⟩)
theorem Lz {j pos'} (ha:PE X a ta):PC X .IsNot a (.Constant .none j pos') (Ahh ta):=by
 intro pins s σ H Q I h
 refine thn (ha pins s σ H _ I h) fun v s1 ⟨x,H1,I1,r1,q1⟩=>?_
 exact Constant_none (isnot_none_gen ⟨.bl _,H1,I1,by rw[r1.none_iff]; rfl,q1⟩)
def tB (t:TE):TT:=fun σ H Q=>t σ H fun x H1=>∃ c,x = .bl c/\Q c H1
theorem Uu {op:CmpOp} {t:TE} (h:PC X op a b t) (h1:behindInMarks op b = false:=by first | exact Zy _ (by decide) (by decide) | rfl):PE X (.Compare a [op] [b] pos) t:=fun pins s σ H Q I hw=>wpAny_Compare1 (h pins s σ H Q I hw) h1
theorem Jm {op:CmpOp} {t:TE} (h:PC X op a b t) (h1:behindInMarks op b = false:=by first | exact Zy _ (by decide) (by decide) | rfl):PT X (.Compare a [op] [b] pos) (tB t):=by
 intro pins s σ H Q I hw
 refine wpAny_isTrue_Compare1 (thn (h pins s σ H _ I hw) fun v s1 h1=>thn h1 fun u s2 h2=>thn h2 fun c s3 ⟨x,H1,I1,r1,q1⟩=>?_) h1
 obtain⟨d,rfl,q⟩:=q1
 cases r1
 exact wpAny_truthy_bool ⟨H1,I1,q⟩
theorem Jk {e:Expr} {t:TE} (h:PE X e t) (he:∀ whole,isTrue e X.env whole = (do let v <- whole; standAt e.pos; holding [v] (truthy v)):=by intro _; rfl):PT X e (tB t):=by
 intro pins s σ H Q I hw
 refine isTrue_plain (thn (h pins s σ H _ I hw) fun v s1 ⟨x,H1,I1,r1,q1⟩=>?_) (he _)
 obtain⟨d,rfl,q⟩:=q1
 cases r1
 exact wpAny_truthy_bool ⟨H1,I1,q⟩
variable {tA tB':TT} {rest:List Expr}
def Agi (t u:TT):TT:=fun σ H Q=>t σ H fun c H1=>if c = true then u σ H1 Q else Q false H1
def tOr (t u:TT):TT:=fun σ H Q=>t σ H fun c H1=>if c = true then Q true H1 else u σ H1 Q
def AfG (t:TT):TT:=fun σ H Q=>t σ H fun c H1=>Q (!c) H1
theorem Qs (ha:PT X a tA):PW X (.BoolOp .And [a] pos) tA:=by
 intro wh pins s σ H Q I h
 refine isTrue_and (thn (ha pins s σ H Q I h) fun c s1 e=>?_)
 cases c with
 | true=>exact isTrue_and_nil e
 | false=>exact e
theorem Qn (ha:PT X a tA):PW X (.BoolOp .Or [a] pos) tA:=by
 intro wh pins s σ H Q I h
 refine isTrue_or (thn (ha pins s σ H Q I h) fun c s1 e=>?_)
 cases c with
 | false=>exact isTrue_or_nil e
 | true=>exact e
theorem Sq (ha:PT X a tA) (hb:PW X (.BoolOp .And (b :: rest) pos) tB'):PW X (.BoolOp .And (a :: b :: rest) pos) (Agi tA tB'):=by
 intro wh pins s σ H Q I h
 refine isTrue_and (thn (ha pins s σ H _ I h) fun c s1 ⟨H1,I1,q1⟩=>?_)
 cases c with
 | true=>exact hb wh pins s1 σ H1 Q I1 q1
 | false=>exact⟨H1,I1,q1⟩
theorem Lo (ha:PT X a tA) (hb:PW X (.BoolOp .Or (b :: rest) pos) tB'):PW X (.BoolOp .Or (a :: b :: rest) pos) (tOr tA tB'):=by
 intro wh pins s σ H Q I h
 refine isTrue_or (thn (ha pins s σ H _ I h) fun c s1 ⟨H1,I1,q1⟩=>?_)
 cases c with
 | true=>exact⟨H1,I1,q1⟩
 | false=>exact hb wh pins s1 σ H1 Q I1 q1
theorem Jl (ha:PT X a tA):PT X (.UnaryOp .Not a pos) (AfG tA):=by
 intro pins s σ H Q I h
 exact isTrue_not (ha pins s σ H (fun c H1=>Q (!c) H1) I h)
def AcV (ta tb:TE):TE:=fun σ H Q=>ta σ H fun x H1=>∃ c,x = .bl c/\if c = true then tb σ H1 Q else Q (.bl false) H1
def Ab6 (ta:TE):TE:=fun σ H Q=>ta σ H fun x H1=>∃ c,x = .bl c/\Q (.bl (!c)) H1
theorem Qr {op} {t:TE} (h:PE X a t):PE X (.BoolOp op [a] pos) t:=fun pins s σ H Q I hw=>BoolOp_one (h pins s σ H Q I hw)
theorem Op (ha:PE X a ta) (hb:PE X (.BoolOp .And (b :: rest) pos) tb):PE X (.BoolOp .And (a :: b :: rest) pos) (AcV ta tb):=by
 intro pins s σ H Q I h
 refine BoolOp_and (thn (ha pins s σ H _ I h) fun v s1 ⟨x,H1,I1,r1,q1⟩=>?_)
 obtain⟨c,rfl,q1⟩:=q1
 cases r1
 refine wpAny_truthy_bool ?_
 cases c with
 | true=>exact hb pins s1 σ H1 Q I1 q1
 | false=>exact⟨.bl false,H1,I1,rfl,q1⟩
theorem Afa (ha:PE X a ta):PE X (.UnaryOp .Not a pos) (Ab6 ta):=by
 intro pins s σ H Q I h
 refine UnaryOp_ (thn (ha pins s σ H _ I h) fun v s1 ⟨x,H1,I1,r1,q1⟩=>?_)
 obtain⟨c,rfl,q1⟩:=q1
 cases r1
 exact not_of (wpAny_truthy_bool ⟨.bl (!c),H1,I1,rfl,q1⟩)
def tIf (t:TT) (ta tb:TE):TE:=fun σ H Q=>t σ H fun c H1=>if c = true then ta σ H1 Q else tb σ H1 Q
theorem Gs {c:Expr} (hc:PT X c tA) (ha:PE X a ta) (hb:PE X b tb):PE X (.IfExp c a b pos) (tIf tA ta tb):=by
 intro pins s σ H Q I h
 refine wpAny_IfExp (thn (hc pins s σ H _ I h) fun d s1 ⟨H1,I1,q1⟩=>?_)
 cases d with
 | true=>exact ha pins s1 σ H1 Q I1 q1
 | false=>exact hb pins s1 σ H1 Q I1 q1
end
end L2
namespace L2
open PySem PySem.Spec PyProof.Rows
def SqL (K:Frag) (H:Hp) (a:Addr) (xs:List V):Prop :=
 Rd H a (.lst xs) \/
  ∃ (o:Obj) (its:Array Value) (n:Nat),K.lookup a = some o/\o.cls = .type "list"/\o.dict = none/\o.data = .seq its n/\its.size <= sizeLine/\Vals xs its.toList
def SqT (K:Frag) (H:Hp) (a:Addr) (xs:List V):Prop :=
 Rd H a (.tup xs) \/
  ∃ (o:Obj) (its:Array Value) (n:Nat),K.lookup a = some o/\o.cls = .type "tuple"/\o.data = .seq its n/\its.size <= sizeLine/\Vals xs its.toList
def AnH:Value->Option V
 | .none=>some .non
 | .bool b=>some (.bl b)
 | .int i _=>some (.int i)
 | .str x _=>some (.str x)
 | .bytes b _=>some (.byt b)
 | .float b _=>some (.flt b)
 | .ref a=>some (.ref a)
 | .type n=>some (.ty n)
 | _=>none
theorem RelV.abs {x:V} {u:Value} (r:RelV x u):AnH u = some x:=by
 cases x with
 | non=>cases r; rfl
 | bl _=>cases r; rfl
 | int _=>obtain⟨t,rfl⟩:=r; rfl
 | str _=>obtain⟨t,rfl⟩:=r; rfl
 | byt _=>obtain⟨t,rfl⟩:=r; rfl
 | flt _=>obtain⟨t,rfl⟩:=r; rfl
 | ref _=>cases r; rfl
 | ty _=>cases r; rfl
theorem RelV.inj {x y:V} {u:Value} (r:RelV x u) (q:RelV y u):x = y:=Option.some.inj (r.abs.symm.trans q.abs)
theorem Vals.inj:∀ {xs ys:List V} {us:List Value},Vals xs us->Vals ys us->xs = ys
 | _,_,_,.nil,.nil=>rfl
 | _,_,_,.cons r t,.cons r' t'=>by rw[r.inj r',Vals.inj t t']
section
variable {X:Cx} {pins:List (Addr × Obj)} {σ:St} {H:Hp} {s:Shared} {a:Addr} {xs ys:List V}
theorem SqL.of {K:Frag} (h:H a = some (.lst xs)):SqL K H a xs:=.inl (.inl h)
theorem SqT.of {K:Frag} (h:H a = some (.tup xs)):SqT K H a xs:=.inl (.inl h)
theorem Inv.list (I:Inv X pins σ H s) (h:SqL X.K H a xs):∃ its:List Value,Vals xs its/\PlainL s.heap a its.toArray/\xs.length <= sizeLine:=by
 rcases h with h | ⟨o,its,n,hk,hc,hd,hs,hz,r⟩
 ·obtain⟨z,its,n,r,e⟩:=h.ok I.hok
  exact⟨its,r,⟨_,n,e,rfl,rfl,rfl⟩,z⟩
 ·refine⟨its.toList,r,⟨o,n,I.kIn a o hk,hc,hd,by simpa using hs⟩,?_⟩
  have e:=r.length
  simp only [Array.length_toList] at e
  omega
theorem Inv.tuple (I:Inv X pins σ H s) (h:SqT X.K H a xs):∃ its:List Value,Vals xs its/\IsTup s.heap a its.toArray/\xs.length <= sizeLine:=by
 rcases h with h | ⟨o,its,n,hk,hc,hs,hz,r⟩
 ·obtain⟨z,its,r,p⟩:=h.ok I.hok
  exact⟨its,r,p,z⟩
 ·refine⟨its.toList,r,⟨o,I.kIn a o hk,hc,n,by simpa using hs⟩,?_⟩
  have e:=r.length
  simp only [Array.length_toList] at e
  omega
theorem Inv.list_inj (I:Inv X pins σ H s) (h:SqL X.K H a xs) (h':SqL X.K H a ys):xs = ys:=by
 obtain⟨its,r,⟨o,n,e,_,_,d⟩,_⟩:=I.list h
 obtain⟨its',r',⟨o',n',e',_,_,d'⟩,_⟩:=I.list h'
 rw[e] at e'; cases e'
 rw[d] at d'
 injection d' with d1 _
 have:its = its':=by simpa using congrArg Array.toList d1
 subst this
 exact r.inj r'
end
abbrev Cx.wish (X:Cx) (E:Value->Shared->Prop):Cx:={ X with xe:=E }
abbrev Cx.nox (X:Cx):Cx:=X.wish fun _ _=>False
theorem Cx.Ok.wish {X:Cx} (ok:X.Ok) (E:Value->Shared->Prop):(X.wish E).Ok :=
 ⟨ok.mod,ok.kind,ok.glob,ok.blt,ok.above,ok.inj,ok.has,ok.cab,ok.hd,ok.frames,ok.stk,ok.exf,ok.bs,ok.bsz,ok.noex,ok.exfs,ok.funs,ok.frf⟩
theorem Cx.Ok.unwish {X:Cx} {E:Value->Shared->Prop} (ok:(X.wish E).Ok):X.Ok :=
 ⟨ok.mod,ok.kind,ok.glob,ok.blt,ok.above,ok.inj,ok.has,ok.cab,ok.hd,ok.frames,ok.stk,ok.exf,ok.bs,ok.bsz,ok.noex,ok.exfs,ok.funs,ok.frf⟩
section
variable {X:Cx} {pins:List (Addr × Obj)} {σ:St} {H:Hp} {s:Shared} {E:Value->Shared->Prop}
theorem Inv.wish (I:Inv X pins σ H s) (E:Value->Shared->Prop):Inv (X.wish E) pins σ H s:=⟨I.ok.wish E,I.os,I.bare,I.base,I.loc,I.cell,I.free,I.freeC,I.pin,I.hok,I.len⟩
theorem Inv.unwish (I:Inv (X.wish E) pins σ H s):Inv X pins σ H s:=⟨I.ok.unwish,I.os,I.bare,I.base,I.loc,I.cell,I.free,I.freeC,I.pin,I.hok,I.len⟩
theorem SP.unwish {D:Ends} {f:Flow} {s':Shared} (h:SP (X.wish E) pins D f s'):SP X pins D f s':=by
 cases f with
 | next=>obtain⟨σ',H',I,q⟩:=h; exact⟨σ',H',I.unwish,q⟩
 | brk=>obtain⟨σ',H',I,q⟩:=h; exact⟨σ',H',I.unwish,q⟩
 | cont=>obtain⟨σ',H',I,q⟩:=h; exact⟨σ',H',I.unwish,q⟩
 | ret u=>obtain⟨v,σ',H',I,r,q⟩:=h; exact⟨v,σ',H',I.unwish,r,q⟩
theorem PSs.nox {st:List Stmt} {t:TS} (h:PSs X.nox st t):PSs X st t:=fun pins s σ H D I hw =>
 wpAny_mono (h pins s σ H D (I.wish _) hw) (fun _ _ q=>q.unwish) fun _ _ z=>False.elim z
end
section
variable {X:Cx} {st:Stmt} {rest:List Stmt} {t u:TS} {e:Expr} {te:TE} {pos:Pos}
def AcL:TS:=fun D σ H=>D.nx σ H
def Wk (t u:TS):TS:=fun D σ H=>t { D with nx:=u D } σ H
theorem Ct:PSs X [] AcL:=fun _ _ σ H _ I h=>wpAny_execs_nil ⟨σ,H,I,h⟩
theorem Bc (h1:PS X st t) (h2:PSs X rest u):PSs X (st :: rest) (Wk t u):=by
 intro pins s σ H D I h
 refine wpAny_execs_cons (thn (h1 pins s σ H { D with nx:=u D } I h) fun f s1 q=>?_)
 cases f with
 | next =>
  obtain⟨σ',H',I',q⟩:=q
  exact h2 pins s1 σ' H' D I' q
 | ret v=>exact q
 | brk=>exact q
 | cont=>exact q
theorem Bf (h1:PS X st t):PSs X [st] t:=by
 intro pins s σ H D I h
 refine wpAny_execs_cons (thn (h1 pins s σ H D I h) fun f s1 q=>?_)
 cases f with
 | next=>exact wpAny_execs_nil q
 | ret v=>exact q
 | brk=>exact q
 | cont=>exact q
theorem Inv.quiet {pins:List (Addr × Obj)} {σ:St} {H:Hp} {s:Shared} (I:Inv X pins σ H s):interactive X.env = false:=by simp [interactive,I.ok.kind]
def Uy (te:TE):TS:=fun D σ H=>te σ H fun _ H1=>D.nx σ H1
theorem Co (he:PE X e te) (hs:swapsWith e none pos.line X.env = pure false:=by rfl):PS X (.Expr e pos) (Uy te):=by
 intro pins s σ H D I h
 exact wpAny_Expr_any (thn (he pins s σ H _ I h) fun v s1 ⟨x,H1,I1,r1,q1⟩=>⟨σ,H1,I1,q1⟩) I.quiet hs
def Ty (te:TE):TS:=fun D σ H=>te σ H D.rt
theorem Cc (he:PE X e te):PS X (.Return (some e) pos) (Ty te):=by
 intro pins s σ H D I h
 exact wpAny_Return_some (thn (he pins s σ H _ I h) fun v s1 ⟨x,H1,I1,r1,q1⟩=>⟨x,σ,H1,I1,r1,q1⟩)
def Af0 (c:TT) (t u:TS):TS:=fun D σ H=>c σ H fun b H1=>if b = true then t D σ H1 else u D σ H1
theorem De {c:Expr} {a b:List Stmt} {tc:TT} (hc:PT X c tc) (ha:PSs X a t) (hb:PSs X b u):PS X (.If c a b pos) (Af0 tc t u):=by
 intro pins s σ H D I h
 refine wpAny_If (thn (hc pins s σ H _ I h) fun d s1 ⟨H1,I1,q1⟩=>?_)
 cases d with
 | true=>exact ha pins s1 σ H1 D I1 q1
 | false=>exact hb pins s1 σ H1 D I1 q1
def Aj7:TS:=fun _ _ _=>False
theorem Adq {sts:List Stmt}:PSs X sts Aj7:=fun _ _ _ _ _ _ h=>h.elim
end
abbrev TG:=V->St->Hp->(St->Hp->Prop)->Prop
abbrev TGs:=List V->St->Hp->(St->Hp->Prop)->Prop
def PG (X:Cx) (target:Expr) (t:TG):Prop :=
 ∀ (pins:List (Addr × Obj)) (s:Shared) (σ:St) (H:Hp) (v:V) (u:Value) (Q:St->Hp->Prop),Inv X pins σ H s->RelV v u->t v σ H Q ->
  wpAny (model X.prog X.w) X.A (assign target X.env u) (fun _ s'=>∃ σ' H',Inv X pins σ' H' s'/\Q σ' H') X.xe s
def PGs (X:Cx) (ts:List Expr) (t:TGs):Prop :=
 ∀ (pins:List (Addr × Obj)) (s:Shared) (σ:St) (H:Hp) (vs:List V) (us:List Value) (Q:St->Hp->Prop),Inv X pins σ H s->Vals vs us->t vs σ H Q ->
  wpAny (model X.prog X.w) X.A (assignInOrder ((assignEach ts X.env).map (·.2)) us) (fun _ s'=>∃ σ' H',Inv X pins σ' H' s'/\Q σ' H') X.xe s
abbrev Afx:=V->V->V->Hp->(Hp->Prop)->Prop
def AfN (X:Cx) (t:Afx):Prop :=
 ∀ (pins:List (Addr × Obj)) (s:Shared) (σ:St) (H:Hp) (o i v:V) (ov iv u:Value) (Q:Hp->Prop),Inv X pins σ H s->RelV o ov->RelV i iv->RelV v u->t o i v H Q ->
  wpAny (model X.prog X.w) X.A (setItem ov iv u) (fun _ s'=>∃ H',Inv X pins σ H' s'/\Q H') X.xe s
abbrev TIp:=V->V->Hp->VK->Prop
def PIp (X:Cx) (op:Operator) (t:TIp):Prop :=
 ∀ (pins:List (Addr × Obj)) (s:Shared) (σ:St) (H:Hp) (x y:V) (v u:Value) (Q:VK),Inv X pins σ H s->RelV x v->RelV y u->t x y H Q ->
  wpAny (model X.prog X.w) X.A (inplaceOp op v u) (EP X pins σ Q) X.xe s
section
variable {X:Cx} {pos:Pos}
def Gf (i:Nat):TG:=fun v σ H Q=>Q (σ.set i (some v)) H
theorem Bo {i:Nat} {x:Str} (hN:X.N.Nodup) (hi:X.N[i]? = some x) (hx:Loc X.env.scope x) (hf:X.fn x = true\/X.env.scope.names.lookup x = some .local:=by first | exact .inl rfl | exact .inr rfl | assumption):PG X (.Name x pos) (Gf i):=by
 intro pins s σ H v u Q I r h
 exact wpAny_assign_Name (To I hN hi hx r (fun s' I'=>⟨_,H,I',h⟩) hf)
def Acn:TGs:=fun vs σ H Q=>vs = []/\Q σ H
def Vh (t:TG) (u:TGs):TGs:=fun vs σ H Q=>∃ v r,vs = v :: r/\t v σ H fun σ' H'=>u r σ' H' Q
theorem Dw:PGs X [] Acn:=by
 intro pins s σ H vs us Q I r h
 obtain⟨e,h⟩:=h
 subst e
 cases r
 exact assignInOrder_nil ⟨σ,H,I,h⟩
theorem Cf {e:Expr} {es:List Expr} {t:TG} {u:TGs} (h1:PG X e t) (h2:PGs X es u)
  (hs:(assignEach (e :: es) X.env).map (·.2) = assign e X.env :: (assignEach es X.env).map (·.2):=by rfl):PGs X (e :: es) (Vh t u):=by
 intro pins s σ H vs us Q I r h
 obtain⟨v,vr,e1,h⟩:=h
 subst e1
 cases r with
 | cons r rr =>
  rw[hs]
  refine assignInOrder_cons (thn (h1 pins s σ H _ _ _ I r h) fun _ s1 ⟨σ1,H1,I1,q1⟩=>?_)
  exact h2 pins s1 σ1 H1 _ _ Q I1 rr q1
def Vv (K:Frag) (n:Nat) (t:TGs):TG:=fun v σ H Q=>∃ a xs,v = .ref a/\SqT K H a xs/\xs.length = n/\t xs σ H Q
theorem Oi {es:List Expr} {k:Nat} {t:TGs} {n:Nat} (hc:X.calm = true) (h:PGs X es t)
  (hn:(assignEach es X.env).length = n:=by rfl) (hst:(assignEach es X.env).findIdx? (·.1) = none:=by rfl):PG X (.Tuple es k pos) (Vv X.K n t):=by
 intro pins s σ H v u Q I r hw
 obtain⟨a,xs,e1,hq,hl,hw⟩:=hw
 subst e1
 cases r
 obtain⟨its,rv,ht,hz⟩:=I.tuple hq
 refine assign_Tuple_tuple (I.ok.hd hc) ht (by simp [hn,<- hl,rv.length]) hst fun h' hx=>?_
 have I1:Inv X pins σ H { s with heap:=h' }:=I.kept (t':=s.toks) fun b o e=>hx b o (ne_of_lt (lt_size e)) e
 exact h pins _ σ H xs _ Q I1 (by simpa using rv) hw
def Ak1 (to ti:TE) (t:Afx):TG:=fun v σ H Q=>to σ H fun o H1=>ti σ H1 fun i H2=>t o i v H2 fun H3=>Q σ H3
theorem Qm {o i:Expr} {to ti:TE} {t:Afx} (ho:PE X o to) (hi:PE X i ti) (hs:AfN X t)
  (ha:∀ v,assign (.Subscript o i pos) X.env v = (do
   let ov <- holding [v] (eval o X.env)
   let iv <- holding [v,ov] (eval i X.env)
   standAt pos
   holding [v,ov,iv] (setItem ov iv v)
   release [v,ov,iv] []):=by intro _; rfl):PG X (.Subscript o i pos) (Ak1 to ti t):=by
 intro pins s σ H v u Q I r h
 rw[ha]
 refine wpAny_bind (wpAny_holding (thn (ho pins s σ H _ I h) fun ov s1 ⟨x,H1,I1,r1,q1⟩=>?_))
 refine wpAny_bind (wpAny_holding (thn (hi pins s1 σ H1 _ I1 q1) fun iv s2 ⟨y,H2,I2,r2,q2⟩=>?_))
 refine wpAny_bind (wpAny_standAt (wpAny_bind (wpAny_holding (thn (hs pins s2 σ H2 x y v ov iv u _ I2 r1 r2 r q2) fun _ s3 ⟨H3,I3,q3⟩=>?_))))
 exact wpAny_release ⟨σ,H3,I3,q3⟩
def Ld (te:TE) (g:TG):TS:=fun D σ H=>te σ H fun x H1=>g x σ H1 D.nx
theorem Ot {tg e:Expr} {te:TE} {g:TG} (he:PE X e te) (hg:PG X tg g) (hs:swapsWithSole [tg] e pos.line X.env = pure false:=by rfl) (hw:swappedStores [tg] e X.env = pure none:=by rfl)
  (h1:(assignEach [tg] X.env).map (·.2) = [assign tg X.env]:=by rfl):PS X (.Assign [tg] e pos) (Ld te g):=by
 intro pins s σ H D I h
 refine wpAny_Assign_stores (thn (he pins s σ H _ I h) fun v s1 ⟨x,H1,I1,r1,q1⟩=>?_) hs hw
 rw[h1]
 exact thn (hg pins s1 σ H1 x v _ I1 r1 q1) fun _ s2 q=>q
theorem Bl {i:Nat} {x:Str} {e:Expr} {te:TE} {pos':Pos} (hN:X.N.Nodup) (hi:X.N[i]? = some x) (hx:Loc X.env.scope x) (he:PE X e te) (hs:swapsWith e (some (.Name x pos')) pos.line X.env = pure false:=by rfl) (hf:X.fn x = true\/X.env.scope.names.lookup x = some .local:=by first | exact .inl rfl | exact .inr rfl | assumption) :
  PS X (.Assign [.Name x pos'] e pos) (Ld te (Gf i)):=by
 intro pins s σ H D I h
 refine wpAny_Assign_Name (thn (he pins s σ H _ I h) fun v s1 ⟨y,H1,I1,r1,q1⟩=>?_) hs
 exact To I1 hN hi hx r1 (fun s2 I2=>⟨_,H1,I2,q1⟩) hf
def AkJ (i:Nat) (te:TE) (ti:TIp):TS:=fun D σ H=>∃ x,σ[i]? = some (some x)/\te σ H fun y H1=>ti x y H1 fun z H2=>D.nx (σ.set i (some z)) H2
theorem AdQ {i:Nat} {x:Str} {e:Expr} {te:TE} {op:Operator} {ti:TIp} {pos':Pos} (hN:X.N.Nodup) (hi:X.N[i]? = some x) (hx:Loc X.env.scope x) (he:PE X e te) (ho:PIp X op ti) (hf:X.fn x = true\/X.env.scope.names.lookup x = some .local:=by first | exact .inl rfl | exact .inr rfl | assumption) :
  PS X (.AugAssign (.Name x pos') op e pos) (AkJ i te ti):=by
 intro pins s σ H D I h
 obtain⟨v,e1,h⟩:=h
 obtain⟨m,hn,hl⟩:=I.loc
 have vis:Vis X.env.scope x:=by rcases hx with k | k; exact .inl k; exact .inr (.inl k)
 obtain⟨u,r,l⟩:=hl i x v hi e1 vis
 refine wpAny_AugAssign_Name ?_
 have go:wpAny (model X.prog X.w) X.A (eval e X.env) (fun w s₂=>wpAny (model X.prog X.w) X.A (inplaceOp op u w) (fun r s₃=>wpAny (model X.prog X.w) X.A (storeName X.env x r) (fun _=>SP X pins D .next) X.xe s₃) X.xe s₂) X.xe s:=by
  refine thn (he pins s σ H _ I h) fun w s1 ⟨y,H1,I1,r1,q1⟩=>?_
  refine thn (ho pins s1 σ H1 v y u w _ I1 r r1 q1) fun z s2 ⟨zv,H2,I2,r2,q2⟩=>?_
  exact To I2 hN hi hx r2 (fun s3 I3=>⟨_,H2,I3,q2⟩) hf
 rcases l with ⟨hk,hm⟩ | ⟨hk,c,hc,hcell⟩
 ·exact wpAny_loadName_local I.ok.kind hk hn hm go
 ·rcases hk with hk | hk
  ·exact wpAny_loadName_cell I.ok.kind hk hc hcell go
  ·rcases hx with k | k
   ·have:X.env.scope.names.lookup x = some .free:=hk
    rw[k] at this; cases this
   ·have:X.env.scope.names.lookup x = some .free:=hk
    rw[k] at this; cases this
def ipI (f:Int->Int->Int):TIp:=fun x y H Q=>∃ i j,x = .int i/\y = .int j/\Q (.int (f i j)) H
theorem Aeb:PIp X .Add (ipI fun i j=>i + j):=by
 intro pins s σ H x y v u Q I r1 r2 h
 obtain⟨i,j,e1,e2,q⟩:=h
 subst e1; subst e2
 obtain⟨t,rfl⟩:=r1
 obtain⟨t',rfl⟩:=r2
 exact iadd_int ⟨.int _,H,I.tok _,⟨_,rfl⟩,q⟩
end
section
variable {X:Cx} {pos:Pos}
end
structure It where
 go:Nat->Hp->Prop
 yld:Nat->Hp->V->Hp->Prop
 stop:Nat->Hp->Prop
def So (X:Cx) (pins:List (Addr × Obj)) (H:Hp) (b:Addr):Prop :=
 H b = none/\b ≠ X.env.locals/\b ∉ X.fs/\(b ∈ X.ex\/X.s₀.heap.objs.size <= b)/\(∀ x c,X.env.cells.lookup x = some c->c ≠ b)/\∀ p ∈ X.pn ++ pins,p.1 ≠ b
theorem Inv.fpOk {X:Cx} {pins:List (Addr × Obj)} {σ:St} {H H':Hp} {s:Shared} {b:Addr} (I:Inv X pins σ H s) (hb:s.heap.objs.size <= b) (hn:H' b = none):So X pins H' b:=by
 refine⟨hn,Nat.ne_of_gt (Nat.lt_of_lt_of_le I.lt hb),I.nofs hb,.inr (Nat.le_trans I.sz hb),fun x c e z=>?_,fun p hp z=>?_⟩
 ·obtain⟨v,q⟩:=I.cell x c e
  exact absurd (Nat.lt_of_lt_of_le q.lt (by rw[z]; exact hb)) (Nat.lt_irrefl _)
 ·exact absurd (Nat.lt_of_lt_of_le (lt_size (I.pin p hp).1) (by rw[z]; exact hb)) (Nat.lt_irrefl _)
structure Tn (P:Program) (w:World) (K:Frag) (tg:Expr) (J:It) (fp:List Addr) (it:Addr) (tn:Nat->Heap->Prop):Prop where
 mem:it ∈ fp
 obj:∀ i h,tn i h->∀ b ∈ fp,∃ o,h.get? b = some o/\∀ v,o.data ≠ .cell v
 keep:∀ i h h',tn i h->(∀ b ∈ fp,∀ o,h.get? b = some o->h'.get? b = some o)->tn i h'
 item:∀ (X:Cx),X.prog = P->X.w = w->X.K = K->X.calm = true->∀ (i:Nat) (pins:List (Addr × Obj)) (s:Shared) (σ:St) (H:Hp) (E:Value->Shared->Prop),Inv X pins σ H s->(∀ b ∈ fp,So X pins H b)->tn i s.heap->J.go i H ->
  wpAny (model P w) X.A (pyNext (.ref it)) (fun r s1=>∃ u,r = some u /\
   wpAny (model P w) X.A (letOwnedTupleGo tg (.ref it) u) (fun _ s2=>∃ x H',Inv X pins σ H' s2/\RelV x u/\J.yld i H x H'/\tn (i + 1) s2.heap/\∀ b ∈ fp,H' b = none) E s1) E s
 done:∀ (X:Cx),X.prog = P->X.w = w->X.K = K->X.calm = true->∀ (i:Nat) (pins:List (Addr × Obj)) (s:Shared) (σ:St) (H:Hp) (E:Value->Shared->Prop),Inv X pins σ H s->(∀ b ∈ fp,So X pins H b)->tn i s.heap->J.stop i H ->
  wpAny (model P w) X.A (pyNext (.ref it)) (fun r s1=>r = none/\Inv X pins σ H s1) E s
 self:∀ (A:Around) (i:Nat) (s:Shared) (Q:Value->Shared->Prop) (E:Value->Shared->Prop),tn i s.heap->Q (.ref it) s->wpAny (model P w) A (pyIter (.ref it)) Q E s
abbrev TI:=St->Hp->(It->Hp->Prop)->Prop
def PIE (X:Cx) (pins:List (Addr × Obj)) (σ:St) (tg:Expr) (R:It->Hp->Prop) (itv:Value) (s2:Shared):Prop :=
 ∃ (it:Addr) (fp:List Addr) (tn:Nat->Heap->Prop) (J:It) (H':Hp),itv = .ref it/\Inv X pins σ H' s2/\Tn X.prog X.w X.K tg J fp it tn/\tn 0 s2.heap/\(∀ b ∈ fp,So X pins H' b)/\R J H'
def PI (X:Cx) (tg iter:Expr) (wi:TI):Prop :=
 ∀ (pins:List (Addr × Obj)) (s:Shared) (σ:St) (H:Hp) (R:It->Hp->Prop),Inv X pins σ H s->wi σ H R ->
  wpAny (model X.prog X.w) X.A (eval iter X.env) (fun v s1=>wpAny (model X.prog X.w) X.A (pyIter v) (PIE X pins σ tg R) X.xe s1) X.xe s
theorem Acb {M:Model} {A:Around} {E:Value->Shared->Prop} {s:Shared} {tg:Expr} {it:Addr} {u:Value} {o:Obj} {n:String} {vs:Array Value} {Q:Unit->Shared->Prop} (ho:s.heap.get? it = some o) (hc:o.cls = .type n) (hd:o.data = .fields vs)
  (hn:["enumerate","zip","dict_itemiterator","dict_reverseitemiterator","odict_iterator","itertools.zip_longest","itertools.pairwise"].contains n = false) (hQ:Q () s):wpAny M A (letOwnedTupleGo tg (.ref it) u) Q E s:=by
 unfold letOwnedTupleGo
 cases tg <;> first
  | exact wpAny_pure hQ
  | (cases u <;> first
    | exact wpAny_pure hQ
    | (refine wpAny_bind (wpAny_load ho ?_); rw[hc,hd]; show wpAny M A (if (["enumerate","zip","dict_itemiterator","dict_reverseitemiterator","odict_iterator","itertools.zip_longest","itertools.pairwise"].contains n && vs[0]? == some (rawInt _)) = true then _ else _) Q E s; rw[if_neg (by intro h; rw[hn,Bool.false_and] at h; cases h)]; exact wpAny_pure hQ))
def Itl (K:Frag) (a:Addr):It :=
 ⟨fun i H=>∃ xs x,SqL K H a xs/\xs[i]? = some x,fun i H x H'=>H' = H/\∀ xs,SqL K H a xs->xs[i]? = some x,fun i H=>∃ xs,SqL K H a xs/\xs.length <= i⟩
def Itr (lo:Int) (n:Nat):It:=⟨fun i _=>i < n,fun i H x H'=>H' = H/\x = .int (lo + i),fun i _=>n <= i⟩
theorem AdD {P:Program} {w:World} {K:Frag} {tg:Expr} (a it:Addr):Tn P w K tg (Itl K a) [it] it (fun i h=>h.IsListIter it a i) where
 mem:=by simp
 obj:=fun i h st b hb=>by
  have e:b = it:=by simpa using hb
  subst e
  obtain⟨o,e,c,d⟩:=st
  exact⟨o,e,fun v z=>by rw[d] at z; cases z⟩
 keep:=fun i h h' st k=>st.at fun o e=>k it (by simp) o e
 item:=by
  intro X hP hw hK hc i pins s σ H E I hf st hg
  subst hP hw hK
  obtain⟨xs,x,hq,hx⟩:=hg
  obtain⟨its,rv,p,hz⟩:=I.list hq
  obtain⟨u,hu,ru⟩:=rv.get hx
  obtain⟨f0,f1,f2,f3,f4,f5⟩:=hf it (by simp)
  refine wpAny_pyNext_list_item st p.isList (x:=u) (by simpa using hu) fun h' st' sb=>?_
  have I1:Inv X pins σ H { s with heap:=h' }:=I.turned (t':=s.toks) (fun b o hb e=>(sb.2 b hb).trans e) f0 f1 f3 f4 f5
  obtain⟨o,e,c,d⟩:=id st'
  exact⟨u,rfl,Acb (s:={ s with heap:=h' }) e c d (by decide) ⟨x,H,I1,ru,⟨rfl,fun ys hy=>by rw[I.list_inj hy hq]; exact hx⟩,st',fun b hb=>(hf b hb).1⟩⟩
 done:=by
  intro X hP hw hK hc i pins s σ H E I hf st hg
  subst hP hw hK
  obtain⟨xs,hq,hx⟩:=hg
  obtain⟨its,rv,p,hz⟩:=I.list hq
  obtain⟨f0,f1,f2,f3,f4,f5⟩:=hf it (by simp)
  have hl:=rv.length
  exact wpAny_pyNext_list_end (I.ok.hd hc) st p.isList (by simp; omega) fun h' eb=>⟨rfl,I.turned (t':=s.toks) (fun b o hb e=>eb b o hb e) f0 f1 f3 f4 f5⟩
 self:=fun _ _ _ _ _ st h=>wpAny_pyIter_listiter st h
theorem AcA {P:Program} {w:World} {K:Frag} {tg:Expr} (it:Addr) (lo:Int) (n:Nat):Tn P w K tg (Itr lo n) [it] it (fun i h=>IsRangeIter h it (lo + (i:Nat) * 1) ((n:Int) - (i:Nat)) 1) where
 mem:=by simp
 obj:=fun i h st b hb=>by
  have e:b = it:=by simpa using hb
  subst e
  exact⟨_,st,fun v z=>by
   have z':Data.fields _ = Data.cell v:=z
   cases z'⟩
 keep:=fun i h h' st k=>k it (by simp) _ st
 item:=by
  intro X hP hw hK hc i pins s σ H E I hf st hg
  subst hP hw hK
  obtain⟨f0,f1,f2,f3,f4,f5⟩:=hf it (by simp)
  have W:=Walks.range (prog:=X.prog) (w:=X.w) (I.ok.hd hc) it lo 1 n
  refine W.item i s _ _ hg st fun v h' tk hv st' kk=>?_
  obtain⟨t,rfl⟩:=hv
  have I1:Inv X pins σ H { s with heap:=h',toks:=tk }:=I.turned (fun b o hb e=>kk b o (by simpa using hb) e) f0 f1 f3 f4 f5
  refine⟨_,rfl,Acb (s:={ s with heap:=h',toks:=tk }) (n:="range_iterator") st' rfl rfl (by decide) ⟨.int (lo + i),H,I1,⟨t,?_⟩,⟨rfl,rfl⟩,st',fun b hb=>(hf b hb).1⟩⟩
  rw[Int.mul_one]
 done:=by
  intro X hP hw hK hc i pins s σ H E I hf st hg
  subst hP hw hK
  obtain⟨f0,f1,f2,f3,f4,f5⟩:=hf it (by simp)
  exact wpAny_pyNext_range_end (I.ok.hd hc) st (by have:n <= i:=hg; omega) fun h' eb=>⟨rfl,I.turned (t':=s.toks) (fun b o hb e=>eb b o hb e) f0 f1 f3 f4 f5⟩
 self:=fun _ _ _ _ _ st h=>wpAny_pyIter_rangeiter st h
end L2
namespace L2
open PySem PySem.Spec PyProof.Rows
section
variable {X:Cx} {tg:Expr}
def Qf (K:Frag) (tl:TE):TI:=fun σ H R=>tl σ H fun x H1=>∃ a,x = .ref a/\(∃ xs,SqL K H1 a xs)/\R (Itl K a) H1
theorem Cs {l:Expr} {tl:TE} (hl:PE X l tl):PI X tg l (Qf X.K tl):=by
 intro pins s σ H R I h
 refine thn (hl pins s σ H _ I h) fun v s1 ⟨x,H1,I1,r1,q1⟩=>?_
 obtain⟨a,e,⟨xs,hq⟩,q⟩:=q1
 subst e
 cases r1
 obtain⟨its,rv,p,hz⟩:=I1.list hq
 refine wpAny_pyIter_list p.isList ?_
 refine⟨s1.heap.objs.size,[s1.heap.objs.size],_,_,H1,rfl,I1.kept (t':=s1.toks) fun b o e=>get?_push_of_some _ e,AdD a _,⟨_,get?_push_size _ rfl,rfl,rfl⟩,fun b hb=>?_,q⟩
 have e:b = s1.heap.objs.size:=by simpa using hb
 subst e
 exact I1.fpOk (Nat.le_refl _) (I1.hok.fresh (Nat.le_refl _))
theorem Zf {pins:List (Addr × Obj)} {σ:St} {H:Hp} {s:Shared} {R:It->Hp->Prop} {E:Value->Shared->Prop} {lo hi:Int} {t u v:Tok} {tk:Nat} (I:Inv X pins σ H s) (h1:-(2 ^ 62) <= lo) (h2:lo < 2 ^ 62) (h3:-(2 ^ 62) <= hi) (h4:hi < 2 ^ 62)
  (q:R (Itr lo (hi - lo).toNat) H):wpAny (model X.prog X.w) X.A (pyIter (.ref s.heap.objs.size)) (PIE X pins σ tg R) E { s with heap:=s.heap.push { cls:=.type "range",data:=.fields #[.int lo t,.int hi u,.int 1 v] },toks:=tk }:=by
 refine wpAny_pyIter_range (IsRange.new ..) (small_one h1 h2 h3 h4) ?_
 have I1:Inv X pins σ H { s with heap:=s.heap.push { cls:=.type "range",data:=.fields #[.int lo t,.int hi u,.int 1 v] },toks:=tk }:=I.kept fun b o e=>get?_push_of_some _ e
 refine⟨(s.heap.push { cls:=.type "range",data:=.fields #[.int lo t,.int hi u,.int 1 v] }).objs.size,[(s.heap.push { cls:=.type "range",data:=.fields #[.int lo t,.int hi u,.int 1 v] }).objs.size],_,_,H,rfl,
  I1.kept (t':=tk) fun b o e=>get?_push_of_some _ e,AcA _ lo (hi - lo).toNat,?_,fun b hb=>?_,q⟩
 ·have e1:lo + ((0:Nat):Int) * 1 = lo:=by simp
  have e2:(((hi - lo).toNat:Nat):Int) - ((0:Nat):Int) = Builtin.Range.rangeSize lo hi 1:=by rw[rangeSize_one]; split <;> omega
  show IsRangeIter _ _ (lo + ((0:Nat):Int) * 1) ((((hi - lo).toNat:Nat):Int) - ((0:Nat):Int)) 1
  rw[e1,e2]
  exact get?_push_size _ rfl
 ·have e:b = (s.heap.push { cls:=.type "range",data:=.fields #[.int lo t,.int hi u,.int 1 v] }).objs.size:=by simpa using hb
  subst e
  exact I1.fpOk (Nat.le_refl _) (I1.hok.fresh (Nat.le_refl _))
def Vf (ta:TA):TI:=fun σ H R=>ta σ H fun vs H1=>∃ j:Int,vs = [.int j]/\-(2 ^ 62) <= j/\j < 2 ^ 62/\R (Itr 0 j.toNat) H1
def Ag2 (ta:TA):TI:=fun σ H R=>ta σ H fun vs H1=>∃ i j:Int,vs = [.int i,.int j]/\(-(2 ^ 62) <= i/\i < 2 ^ 62/\-(2 ^ 62) <= j/\j < 2 ^ 62)/\R (Itr i (j - i).toNat) H1
theorem Nn {a:Expr} {ta:TA} {p pos:Pos} (hg:Gl X "range") (hm:X.mg "range" = none) (ha:PA X [a] ta) (hs:starEach [a] X.env = [(false,eval a X.env)]:=by rfl):PI X tg (.Call (.Name "range" p) [a] [] pos) (Vf ta):=by
 intro pins s σ H R I h
 refine Call_ (Lj I hg hm boot_range (PyProof.Rows.callWith_type1 (thn (ha pos pins s σ H _ I h) fun us s1 ⟨vs,H1,I1,r1,q1⟩=>?_) hs rfl))
 obtain⟨j,e,q1,q2,q⟩:=q1
 subst e
 cases r1 with
 | cons r rr =>
  cases rr
  obtain⟨t,rfl⟩:=r
  exact call_range_1 (Zf I1 (by omega) (by omega) q1 q2 (by simpa using q))
theorem Qe {a b:Expr} {ta:TA} {p pos:Pos} (hg:Gl X "range") (hm:X.mg "range" = none) (ha:PA X [a,b] ta) (hs:starEach [a,b] X.env = [(false,eval a X.env),(false,eval b X.env)]:=by rfl) (hs2:starEach [b] X.env = [(false,eval b X.env)]:=by rfl) :
  PI X tg (.Call (.Name "range" p) [a,b] [] pos) (Ag2 ta):=by
 intro pins s σ H R I h
 refine Call_ (Lj I hg hm boot_range (PyProof.Rows.callWith_type1 (thn (ha pos pins s σ H _ I h) fun us s1 ⟨vs,H1,I1,r1,q1⟩=>?_) (by rw[hs,hs2]) (by rw[hs2]; rfl)))
 obtain⟨i,j,e,⟨q1,q2,q3,q4⟩,q⟩:=q1
 subst e
 cases r1 with
 | cons r rr =>
  cases rr with
  | cons r' rr =>
   cases rr
   obtain⟨t,rfl⟩:=r
   obtain⟨t',rfl⟩:=r'
   exact call_range_2 (Zf I1 q1 q2 q3 q4 q)
def Ly (wi:TI) (g:TG) (tb:TS):TS:=fun D σ H=>wi σ H fun J H1=>∃ W:Nat->Nat->St->Hp->Prop,(∃ m,W 0 m σ H1)/\∀ i m σ H,W i m σ H ->
 (J.stop i H/\D.nx σ H)\/(J.go i H/\∃ N:St->Hp->Prop,(∀ σ' H',N σ' H'->∃ m',m' < m/\W (i + 1) m' σ' H')/\∀ x H',J.yld i H x H'->g x σ H' fun σ2 H2=>tb { D with nx:=N,ct:=N,bk:=D.nx } σ2 H2)
def Sm (fp:List Addr) (h:Heap):List (Addr × Obj):=fp.filterMap fun b=>(h.get? b).map fun o=>(b,o)
theorem Oc {fp:List Addr} {h:Heap} {b:Addr} {o:Obj} (hb:b ∈ fp) (e:h.get? b = some o):(b,o) ∈ Sm fp h:=mem_filterMap.mpr ⟨b,hb,by rw[e]; rfl⟩
theorem Ac3 {fp:List Addr} {h:Heap} {p:Addr × Obj} (hp:p ∈ Sm fp h):p.1 ∈ fp/\h.get? p.1 = some p.2:=by
 obtain⟨b,hb,e⟩:=mem_filterMap.mp hp
 cases q:h.get? b with
 | none=>rw[q] at e; cases e
 | some o =>
  rw[q] at e
  have e':(b,o) = p:=Option.some.inj e
  subst e'
  exact⟨hb,q⟩
theorem Inv.pinned {pins:List (Addr × Obj)} {σ:St} {H:Hp} {s:Shared} {fp:List Addr} (I:Inv X pins σ H s) (hf:∀ b ∈ fp,So X pins H b) (ho:∀ b ∈ fp,∃ o,s.heap.get? b = some o/\∀ v,o.data ≠ .cell v):Inv X (pins ++ Sm fp s.heap) σ H s :=
 I.pins_of fun p hp=>(mem_append.mp hp).elim (fun z=>I.pin p (mem_append_right _ z)) fun z=>by
  obtain⟨hb,e⟩:=Ac3 z
  obtain⟨f0,f1,f2,_⟩:=hf p.1 hb
  obtain⟨o,e',d⟩:=ho p.1 hb
  rw[e] at e'; cases e'
  exact⟨e,f0,f1,f2,d⟩
theorem Inv.unpinned {pins pl:List (Addr × Obj)} {σ:St} {H:Hp} {s:Shared} (I:Inv X (pins ++ pl) σ H s):Inv X pins σ H s:=I.pins_of fun p hp=>I.pin p (mem_append_right _ (mem_append_left _ hp))
theorem Dd {iter:Expr} {body:List Stmt} {wi:TI} {g:TG} {tb:TS} {pos:Pos} (hp:PassesOwn (model X.prog X.w) X.A X.env X.xe) (hc:X.calm = true) (hi:PI X tg iter wi) (hg:PG X tg g) (hb:PSs X body tb)
  (hs:∀ x,foldedSetIterable iter X.env x = pure x:=by intro _; rfl):PS X (.For tg iter body [] pos) (Ly wi g tb):=by
 intro pins s σ H D I h
 refine wpAny_For (thn (hi pins s σ H _ I h) fun v s1 h1=>thn h1 fun itv s2 h2=>?_) hs
 obtain⟨it,fp,tn,J,H2,e,I2,T,st2,f2,W,⟨m0,w0⟩,turn⟩:=h2
 subst e
 -- what stays true of the iterator's objects through the loop
 have stat:∀ {H':Hp},(∀ b ∈ fp,H' b = none)->∀ b ∈ fp,So X pins H' b:=fun hn b hb=>⟨hn b hb,(f2 b hb).2⟩
 refine codeAny_forLoop_any (fun n s'=>∃ i σ' H',Inv X pins σ' H' s'/\tn i s'.heap/\(∀ b ∈ fp,H' b = none)/\W i n σ' H') ?_ m0 ⟨0,σ,H2,I2,st2,fun b hb=>(f2 b hb).1,w0⟩
 rintro n s3 ⟨i,σ3,H3,I3,st3,fr3,w3⟩
 rcases turn i n σ3 H3 w3 with ⟨stop,qn⟩ | ⟨go,N,hN,step⟩
 ·refine wpAny_passesOwn hp (thn (T.done X rfl rfl rfl hc i pins s3 σ3 H3 X.xe I3 (stat fr3) st3 stop) fun r s4 ⟨hr,I4⟩=>?_)
  subst hr
  exact wpAny_execs_nil ⟨σ3,H3,I4,qn⟩
 ·refine wpAny_passesOwn hp (thn (T.item X rfl rfl rfl hc i pins s3 σ3 H3 X.xe I3 (stat fr3) st3 go) fun r s4 ⟨u,hr,h4⟩=>?_)
  subst hr
  refine wpAny_passesOwn hp (thn h4 fun _ s5 ⟨x,H5,I5,r5,y5,st5,fr5⟩=>?_)
  have I5':=I5.pinned (stat fr5) (T.obj _ _ st5)
  refine wpAny_passesOwn hp (thn (hg _ s5 σ3 H5 x u _ I5' r5 (step x H5 y5)) fun _ s6 ⟨σ6,H6,I6,q6⟩=>?_)
  refine wpAny_passesOwn hp (thn (hb _ s6 σ6 H6 _ I6 q6) fun f s7 q7=>?_)
  have again:∀ {σ7:St} {H7:Hp},Inv X (pins ++ Sm fp s5.heap) σ7 H7 s7->N σ7 H7->∃ m,m < n/\∃ i σ' H',Inv X pins σ' H' s7/\tn i s7.heap/\(∀ b ∈ fp,H' b = none)/\W i m σ' H':=fun {σ7 H7} I7 n7=>by
   obtain⟨m',hm,w7⟩:=hN σ7 H7 n7
   refine⟨m',hm,i + 1,σ7,H7,I7.unpinned,T.keep _ _ _ st5 fun b hb o e=>(I7.pin (b,o) (mem_append_right _ (mem_append_right _ (Oc hb e)))).1,fun b hb=>?_,w7⟩
   obtain⟨o,e,d⟩:=T.obj _ _ st5 b hb
   exact (I7.pin (b,o) (mem_append_right _ (mem_append_right _ (Oc hb e)))).2.1
  cases f with
  | next=>obtain⟨σ7,H7,I7,n7⟩:=q7; exact again I7 n7
  | cont=>obtain⟨σ7,H7,I7,n7⟩:=q7; exact again I7 n7
  | brk=>obtain⟨σ7,H7,I7,q7⟩:=q7; exact⟨σ7,H7,I7.unpinned,q7⟩
  | ret v=>obtain⟨x7,σ7,H7,I7,r7,q7⟩:=q7; exact⟨x7,σ7,H7,I7.unpinned,r7,q7⟩
end
theorem Rr {K:Frag} {a:Addr} {xs:List V} {g:TG} {tb:TS} {D:Ends} {σ:St} {H:Hp} (Pv:Nat->St->Hp->Prop) (h0:Pv 0 σ H) (hl:∀ i σ H,i <= xs.length->Pv i σ H->SqL K H a xs)
  (hs:∀ i x σ H,xs[i]? = some x->Pv i σ H->g x σ H fun σ2 H2=>tb { D with nx:=Pv (i + 1),ct:=Pv (i + 1),bk:=D.nx } σ2 H2) (hd:∀ σ H,Pv xs.length σ H->D.nx σ H) :
  ∃ W:Nat->Nat->St->Hp->Prop,(∃ m,W 0 m σ H)/\∀ i m σ H,W i m σ H ->
   ((Itl K a).stop i H/\D.nx σ H)\/((Itl K a).go i H/\∃ N:St->Hp->Prop,(∀ σ' H',N σ' H'->∃ m',m' < m/\W (i + 1) m' σ' H')/\∀ x H',(Itl K a).yld i H x H'->g x σ H' fun σ2 H2=>tb { D with nx:=N,ct:=N,bk:=D.nx } σ2 H2):=by
 refine⟨fun i m σ H=>m = xs.length - i/\i <= xs.length/\Pv i σ H,⟨xs.length,by simp,zero_le _,h0⟩,?_⟩
 rintro i m σ H ⟨rfl,hi,p⟩
 have q:=hl i σ H hi p
 by_cases hlt:i < xs.length
 ·refine .inr ⟨⟨xs,xs[i],q,by simp [hlt]⟩,Pv (i + 1),fun σ' H' p'=>⟨xs.length - (i + 1),by omega,rfl,hlt,p'⟩,fun x H' y=>?_⟩
  obtain⟨e,y⟩:=y
  subst e
  exact hs i x σ _ (y xs q) p
 ·have e:i = xs.length:=by omega
  subst e
  exact .inl ⟨⟨xs,q,Nat.le_refl _⟩,hd σ H p⟩
theorem Wx {lo:Int} {n:Nat} {g:TG} {tb:TS} {D:Ends} {σ:St} {H:Hp} (Pv:Nat->St->Hp->Prop) (h0:Pv 0 σ H)
  (hs:∀ i σ H,i < n->Pv i σ H->g (.int (lo + i)) σ H fun σ2 H2=>tb { D with nx:=Pv (i + 1),ct:=Pv (i + 1),bk:=D.nx } σ2 H2) (hd:∀ σ H,Pv n σ H->D.nx σ H) :
  ∃ W:Nat->Nat->St->Hp->Prop,(∃ m,W 0 m σ H)/\∀ i m σ H,W i m σ H ->
   ((Itr lo n).stop i H/\D.nx σ H)\/((Itr lo n).go i H/\∃ N:St->Hp->Prop,(∀ σ' H',N σ' H'->∃ m',m' < m/\W (i + 1) m' σ' H')/\∀ x H',(Itr lo n).yld i H x H'->g x σ H' fun σ2 H2=>tb { D with nx:=N,ct:=N,bk:=D.nx } σ2 H2):=by
 refine⟨fun i m σ H=>m = n - i/\i <= n/\Pv i σ H,⟨n,by simp,zero_le _,h0⟩,?_⟩
 rintro i m σ H ⟨rfl,hi,p⟩
 by_cases hlt:i < n
 ·refine .inr ⟨hlt,Pv (i + 1),fun σ' H' p'=>⟨n - (i + 1),by omega,rfl,hlt,p'⟩,fun x H' y=>?_⟩
  obtain⟨e,y⟩:=y
  subst e y
  exact hs i σ _ hlt p
 ·have e:i = n:=by omega
  subst e
  exact .inl ⟨Nat.le_refl _,hd σ H p⟩
end L2
namespace L2
open PySem PySem.Spec PyProof.Rows
abbrev R2:=V->V->Hp->VK->Prop
def OpR (X:Cx) (f:Value->Value->Sem Value) (r:R2):Prop :=
 ∀ (pins:List (Addr × Obj)) (s:Shared) (σ:St) (H:Hp) (x y:V) (v u:Value) (Q:VK),Inv X pins σ H s->RelV x v->RelV y u->r x y H Q ->
  wpAny (model X.prog X.w) X.A (f v u) (EP X pins σ Q) X.xe s
def UnR (X:Cx) (f:Value->Sem Value) (r:V->Hp->VK->Prop):Prop :=
 ∀ (pins:List (Addr × Obj)) (s:Shared) (σ:St) (H:Hp) (x:V) (v:Value) (Q:VK),Inv X pins σ H s->RelV x v->r x H Q ->
  wpAny (model X.prog X.w) X.A (f v) (EP X pins σ Q) X.xe s
def Jp (X:Cx) (f:Value) (r:List V->Hp->VK->Prop):Prop :=
 ∀ (pins:List (Addr × Obj)) (s:Shared) (σ:St) (H:Hp) (xs:List V) (us:List Value) (Q:VK),Inv X pins σ H s->Vals xs us->r xs H Q ->
  wpAny (model X.prog X.w) X.A (call f us) (EP X pins σ Q) X.xe s
def tOp (r:R2) (ta tb:TE):TE:=fun σ H Q=>ta σ H fun x H1=>tb σ H1 fun y H2=>r x y H2 Q
def tUn (r:V->Hp->VK->Prop) (ta:TE):TE:=fun σ H Q=>ta σ H fun x H1=>r x H1 Q
def rI (C:Int->Int->Prop) (g:Int->Int->V):R2:=fun x y H Q=>∃ i j,x = .int i/\y = .int j/\C i j/\Q (g i j) H
def rI0 (g:Int->Int->V):R2:=fun x y H Q=>∃ i j,x = .int i/\y = .int j/\Q (g i j) H
def rU (g:Int->V):V->Hp->VK->Prop:=fun x H Q=>∃ i,x = .int i/\Q (g i) H
section
variable {X:Cx} {a b c:Expr} {ta tb tc:TE} {pos:Pos}
theorem Af3 (ha:PE X a ta) (hb:PE X b tb) {pins:List (Addr × Obj)} {s:Shared} {σ:St} {H:Hp} {R:V->V->Hp->Prop} (I:Inv X pins σ H s)
  (h:ta σ H fun x H1=>tb σ H1 fun y H2=>R x y H2) {Q:Value->Shared->Prop} {f:Value->Value->Sem Value}
  (hf:∀ v u s2 x y H2,Inv X pins σ H2 s2->RelV x v->RelV y u->R x y H2->wpAny (model X.prog X.w) X.A (f v u) Q X.xe s2) :
  wpAny (model X.prog X.w) X.A (eval a X.env) (fun v s₁=>wpAny (model X.prog X.w) X.A (eval b X.env) (fun u s₂=>wpAny (model X.prog X.w) X.A (f v u) Q X.xe s₂) X.xe s₁) X.xe s:=by
 refine thn (ha pins s σ H _ I h) fun v s1 ⟨x,H1,I1,r1,q1⟩=>?_
 refine thn (hb pins s1 σ H1 _ I1 q1) fun u s2 ⟨y,H2,I2,r2,q2⟩=>?_
 exact hf v u s2 x y H2 I2 r1 r2 q2
theorem Cb {op:Operator} {r:R2} (ho:OpR X (binaryOp op) r) (ha:PE X a ta) (hb:PE X b tb):PE X (.BinOp a op b pos) (tOp r ta tb):=by
 intro pins s σ H Q I h
 exact wpAny_BinOp (Af3 ha hb I h fun v u s2 x y H2 I2 rx ry q=>ho pins s2 σ H2 x y v u Q I2 rx ry q)
theorem Oa {op:UnaryOp} {r:V->Hp->VK->Prop} (ho:UnR X (unaryOp op) r) (ha:PE X a ta):PE X (.UnaryOp op a pos) (tUn r ta):=by
 intro pins s σ H Q I h
 exact UnaryOp_ (thn (ha pins s σ H _ I h) fun v s1 ⟨x,H1,I1,r1,q1⟩=>ho pins s1 σ H1 x v Q I1 r1 q1)
theorem opI {f:Value->Value->Sem Value} {C:Int->Int->Prop} {g:Int->Int->Int}
  (rule:∀ (i j:Int) (t u:Tok) (s:Shared) (Q:Value->Shared->Prop) (E:Value->Shared->Prop),C i j->Q (.int (g i j) s.toks) { s with toks:=s.toks + 1 }->wpAny (model X.prog X.w) X.A (f (.int i t) (.int j u)) Q E s) :
  OpR X f (rI C fun i j=>.int (g i j)):=by
 intro pins s σ H x y v u Q I rx ry h
 obtain⟨i,j,rfl,rfl,hc,q⟩:=h
 obtain⟨t,rfl⟩:=rx
 obtain⟨t',rfl⟩:=ry
 exact rule i j t t' s _ _ hc ⟨.int (g i j),H,I.tok _,⟨_,rfl⟩,q⟩
theorem Ajk {f:Value->Value->Sem Value} {g:Int->Int->Int}
  (rule:∀ (i j:Int) (t u:Tok) (s:Shared) (Q:Value->Shared->Prop) (E:Value->Shared->Prop),Q (.int (g i j) s.toks) { s with toks:=s.toks + 1 }->wpAny (model X.prog X.w) X.A (f (.int i t) (.int j u)) Q E s) :
  OpR X f (rI0 fun i j=>.int (g i j)):=by
 intro pins s σ H x y v u Q I rx ry h
 obtain⟨i,j,rfl,rfl,q⟩:=h
 obtain⟨t,rfl⟩:=rx
 obtain⟨t',rfl⟩:=ry
 exact rule i j t t' s _ _ ⟨.int (g i j),H,I.tok _,⟨_,rfl⟩,q⟩
theorem Ab3 {f:Value->Value->Sem Value} {g:Int->Int->Bool}
  (rule:∀ (i j:Int) (t u:Tok) (s:Shared) (Q:Value->Shared->Prop) (E:Value->Shared->Prop),Q (.bool (g i j)) s->wpAny (model X.prog X.w) X.A (f (.int i t) (.int j u)) Q E s) :
  OpR X f (rI0 fun i j=>.bl (g i j)):=by
 intro pins s σ H x y v u Q I rx ry h
 obtain⟨i,j,rfl,rfl,q⟩:=h
 obtain⟨t,rfl⟩:=rx
 obtain⟨t',rfl⟩:=ry
 exact rule i j t t' s _ _ ⟨.bl (g i j),H,I,rfl,q⟩
def AbK (i j:Int):Prop:=0 < j/\j < 1073741824
def Ab5 (i j:Int):Prop:=0 <= j/\j <= 1000000/\i.natAbs < 2 ^ 64
def CMul (i j:Int):Prop:=(-(2 ^ 64) < i/\i < 2 ^ 64)\/(-(2 ^ 64) < j/\j < 2 ^ 64)
theorem CMul.ok {i j:Int} (h:CMul i j):IntMulOk i j:=by
 rcases h with ⟨h1,h2⟩ | ⟨h1,h2⟩
 ·exact .of_left (intBits_le_64 h1 h2)
 ·exact .of_right (intBits_le_64 h1 h2)
theorem Fw:OpR X (binaryOp .Add) (rI0 fun i j=>.int (i + j)):=Ajk fun _ _ _ _ _ _ _ q=>add_int q
theorem AjN:OpR X (binaryOp .Sub) (rI0 fun i j=>.int (i - j)):=Ajk fun _ _ _ _ _ _ _ q=>sub_int q
theorem Ur:OpR X (binaryOp .Mult) (rI CMul fun i j=>.int (i * j)):=opI fun _ _ _ _ _ _ _ hc q=>mul_int q hc.ok
theorem Fn:OpR X (binaryOp .FloorDiv) (rI AbK fun i j=>.int (i / j)):=opI fun i j _ _ _ _ _ hc q=>by
 have h1:(0:Int) < j:=hc.1
 have h2:j < 1073741824:=hc.2
 exact floordiv_int (by omega) (by rw[Int.fdiv_eq_ediv_of_nonneg i (by omega)]; exact q) (.inl (PyProof.noPylong_small (by omega)))
theorem Dm:OpR X (binaryOp .Mod) (rI (fun _ j=>0 < j) fun i j=>.int (i % j)):=opI fun i j _ _ _ _ _ hc q=>by
 have h1:(0:Int) < j:=hc
 exact mod_int' (by omega) (by rw[Int.fmod_eq_emod_of_nonneg i (by omega)]; exact q)
theorem Nt:OpR X (binaryOp .Pow) (rI Ab5 fun i j=>.int (i ^ j.toNat)):=opI fun _ _ _ _ _ _ _ hc q=>pow_int_small hc.1 hc.2.1 hc.2.2 q
theorem unI {f:Value->Sem Value} {g:Int->Int}
  (rule:∀ (i:Int) (t:Tok) (s:Shared) (Q:Value->Shared->Prop) (E:Value->Shared->Prop),Q (.int (g i) s.toks) { s with toks:=s.toks + 1 }->wpAny (model X.prog X.w) X.A (f (.int i t)) Q E s) :
  UnR X f (rU fun i=>.int (g i)):=by
 intro pins s σ H x v Q I rx h
 obtain⟨i,rfl,q⟩:=h
 obtain⟨t,rfl⟩:=rx
 exact rule i t s _ _ ⟨.int (g i),H,I.tok _,⟨_,rfl⟩,q⟩
theorem Ll:UnR X (unaryOp .USub) (rU fun i=>.int (-i)):=unI fun _ _ _ _ _ q=>neg_int q
end
def AfH:V->V->Bool
 | .non,.non=>true | .non,.int _=>true | .int _,.non=>true | .non,.bl _=>true | .bl _,.non=>true | .non,.str _=>true | .str _,.non=>true
 | .int _,.int _=>true | .bl _,.bl _=>true | .str _,.str _=>true | .byt _,.byt _=>true
 | .int _,.str _=>true | .str _,.int _=>true | .bl _,.str _=>true | .str _,.bl _=>true
 | _,_=>false
def rEq:R2:=fun x y H Q=>AfH x y = true/\Q (.bl (decide (x = y))) H
def rNe:R2:=fun x y H Q=>AfH x y = true/\Q (.bl (!decide (x = y))) H
theorem Aa8 {i j:Int}:decide (V.int i = V.int j) = (i == j):=by
 rw[Bool.eq_iff_iff]
 simp
theorem Afe {i j:Bool}:decide (V.bl i = V.bl j) = (i == j):=by
 rw[Bool.eq_iff_iff]
 simp
theorem Aba {i j:Str}:decide (V.str i = V.str j) = (i == j):=by
 rw[Bool.eq_iff_iff]
 simp
theorem Abh {i j:Array UInt8}:decide (V.byt i = V.byt j) = (i.toList == j.toList):=by
 rw[Bool.eq_iff_iff]
 cases i
 cases j
 simp
section
variable {X:Cx} {a b c:Expr} {ta tb tc:TE} {pos:Pos}
theorem Di {pins:List (Addr × Obj)} {σ:St} {H:Hp} {s:Shared} {Q:VK} {k k':Bool} (I:Inv X pins σ H s) (q:Q (.bl k) H) (e:k = k'):EP X pins σ Q (.bool k') s:=by
 subst e
 exact⟨.bl k,H,I,rfl,q⟩
theorem Dj:OpR X (compareOp .Eq) rEq:=by
 intro pins s σ H x y v u Q I rx ry h
 obtain⟨hs,q⟩:=h
 cases x with
 | non =>
  cases rx
  cases y with
  | non=>cases ry; exact PySem.EqNone.eq_none_none (Di I q (by simp))
  | bl j=>cases ry; exact PySem.EqNone.eq_none_bool (Di I q (by simp))
  | int j=>obtain⟨t',rfl⟩:=ry; exact PySem.EqNone.eq_none_int (Di I q (by simp))
  | str j=>obtain⟨t',rfl⟩:=ry; exact PySem.EqNone.eq_none_str (Di I q (by simp))
  | _=>exact absurd (show false = true from hs) Bool.false_ne_true
 | bl i =>
  cases rx
  cases y with
  | non=>cases ry; exact PySem.EqNone.eq_bool_none (Di I q (by simp))
  | bl j=>cases ry; exact eq_bool (Di I q Afe)
  | str j=>obtain⟨t',rfl⟩:=ry; exact PySem.EqMixed.eq_bool_str (Di I q (by simp))
  | _=>exact absurd (show false = true from hs) Bool.false_ne_true
 | int i =>
  obtain⟨t,rfl⟩:=rx
  cases y with
  | non=>cases ry; exact PySem.EqNone.eq_int_none (Di I q (by simp))
  | int j=>obtain⟨t',rfl⟩:=ry; exact eq_int (Di I q Aa8)
  | str j=>obtain⟨t',rfl⟩:=ry; exact PySem.EqMixed.eq_int_str (Di I q (by simp))
  | _=>exact absurd (show false = true from hs) Bool.false_ne_true
 | str i =>
  obtain⟨t,rfl⟩:=rx
  cases y with
  | non=>cases ry; exact PySem.EqNone.eq_str_none (Di I q (by simp))
  | bl j=>cases ry; exact PySem.EqMixed.eq_str_bool (Di I q (by simp))
  | int j=>obtain⟨t',rfl⟩:=ry; exact PySem.EqMixed.eq_str_int (Di I q (by simp))
  | str j=>obtain⟨t',rfl⟩:=ry; exact eq_str (Di I q Aba)
  | _=>exact absurd (show false = true from hs) Bool.false_ne_true
 | byt i =>
  obtain⟨t,rfl⟩:=rx
  cases y with
  | byt j=>obtain⟨t',rfl⟩:=ry; exact PySem.W.eq_bytes (Di I q Abh)
  | _=>exact absurd (show false = true from hs) Bool.false_ne_true
 | _=>cases y <;> exact absurd (show false = true from hs) Bool.false_ne_true
theorem Yz:OpR X (compareOp .NotEq) rNe:=by
 intro pins s σ H x y v u Q I rx ry h
 obtain⟨hs,q⟩:=h
 cases x with
 | non =>
  cases rx
  cases y with
  | non=>cases ry; exact PySem.EqNone.ne_none_none (Di I q (by simp))
  | bl j=>cases ry; exact PySem.EqNone.ne_none_bool (Di I q (by simp))
  | int j=>obtain⟨t',rfl⟩:=ry; exact PySem.EqNone.ne_none_int (Di I q (by simp))
  | str j=>obtain⟨t',rfl⟩:=ry; exact PySem.EqNone.ne_none_str (Di I q (by simp))
  | _=>exact absurd (show false = true from hs) Bool.false_ne_true
 | bl i =>
  cases rx
  cases y with
  | non=>cases ry; exact PySem.EqNone.ne_bool_none (Di I q (by simp))
  | bl j=>cases ry; exact ne_bool (Di I q (congrArg not Afe))
  | str j=>obtain⟨t',rfl⟩:=ry; exact PySem.EqMixed.ne_bool_str (Di I q (by simp))
  | _=>exact absurd (show false = true from hs) Bool.false_ne_true
 | int i =>
  obtain⟨t,rfl⟩:=rx
  cases y with
  | non=>cases ry; exact PySem.EqNone.ne_int_none (Di I q (by simp))
  | int j=>obtain⟨t',rfl⟩:=ry; exact ne_int (Di I q (congrArg not Aa8))
  | str j=>obtain⟨t',rfl⟩:=ry; exact PySem.EqMixed.ne_int_str (Di I q (by simp))
  | _=>exact absurd (show false = true from hs) Bool.false_ne_true
 | str i =>
  obtain⟨t,rfl⟩:=rx
  cases y with
  | non=>cases ry; exact PySem.EqNone.ne_str_none (Di I q (by simp))
  | bl j=>cases ry; exact PySem.EqMixed.ne_str_bool (Di I q (by simp))
  | int j=>obtain⟨t',rfl⟩:=ry; exact PySem.EqMixed.ne_str_int (Di I q (by simp))
  | str j=>obtain⟨t',rfl⟩:=ry; exact ne_str (Di I q (congrArg not Aba))
  | _=>exact absurd (show false = true from hs) Bool.false_ne_true
 | byt i =>
  obtain⟨t,rfl⟩:=rx
  cases y with
  | byt j=>obtain⟨t',rfl⟩:=ry; exact PySem.W.ne_bytes (Di I q (congrArg not Abh))
  | _=>exact absurd (show false = true from hs) Bool.false_ne_true
 | _=>cases y <;> exact absurd (show false = true from hs) Bool.false_ne_true
theorem Am9:OpR X (compareOp .Lt) (rI0 fun i j=>.bl (decide (i < j))):=Ab3 fun _ _ _ _ _ _ _ q=>lt_int q
theorem Agm:OpR X (compareOp .LtE) (rI0 fun i j=>.bl (decide (i <= j))):=Ab3 fun _ _ _ _ _ _ _ q=>le_int q
theorem Ta:OpR X (compareOp .Gt) (rI0 fun i j=>.bl (decide (j < i))):=Ab3 fun _ _ _ _ _ _ _ q=>gt_int q
theorem Ach:OpR X (compareOp .GtE) (rI0 fun i j=>.bl (decide (j <= i))):=Ab3 fun _ _ _ _ _ _ _ q=>ge_int q
theorem Ci (b:Expr) {op:CmpOp} (h:op ≠ .In:=by decide) (h2:op ≠ .NotIn:=by decide):behindInMarks op b = false:=by
 have e1:(op == CmpOp.In) = false:=by cases op <;> first | rfl | exact absurd rfl h
 have e2:(op == CmpOp.NotIn) = false:=by cases op <;> first | rfl | exact absurd rfl h2
 cases b <;> simp [behindInMarks,e1,e2]
theorem Gg {op:CmpOp} {r:R2} (ho:OpR X (compareOp op) r) (ha:PE X a ta) (hb:PE X b tb) (hm:behindInMarks op b = false):PE X (.Compare a [op] [b] pos) (tOp r ta tb):=by
 intro pins s σ H Q I h
 exact wpAny_Compare1 (Af3 ha hb I h fun v u s2 x y H2 I2 rx ry q=>ho pins s2 σ H2 x y v u Q I2 rx ry q) hm
def AbE (t:TE):TT:=fun σ H Q=>t σ H fun x H'=>∃ k,x = .bl k/\Q k H'
theorem Cd {op:CmpOp} {r:R2} (ho:OpR X (compareOp op) r) (ha:PE X a ta) (hb:PE X b tb) (hm:behindInMarks op b = false):PT X (.Compare a [op] [b] pos) (AbE (tOp r ta tb)):=by
 intro pins s σ H Q I h
 refine wpAny_isTrue_Compare1 (thn (ha pins s σ H _ I h) fun v s1 ⟨x,H1,I1,r1,q1⟩=>thn (hb pins s1 σ H1 _ I1 q1) fun u s2 ⟨y,H2,I2,r2,q2⟩ =>
  thn (ho pins s2 σ H2 x y v u _ I2 r1 r2 q2) fun c s3 ⟨z,H3,I3,r3,k,e,q3⟩=>?_) hm
 subst e
 cases r3
 exact wpAny_truthy_bool ⟨H3,I3,q3⟩
theorem Vm:(sizeLine:Nat) < 2 ^ 63:=by rw[sizeLine_eq]; decide
theorem Rx {x:V} {us:List Value} (r:Vals [x] us):∃ u,us = [u]/\RelV x u:=by
 cases r with
 | cons r1 r2=>cases r2; exact⟨_,rfl,r1⟩
theorem AcI {x y:V} {us:List Value} (r:Vals [x,y] us):∃ u w',us = [u,w']/\RelV x u/\RelV y w':=by
 cases r with
 | cons r1 r2 =>
  cases r2 with
  | cons r3 r4=>cases r4; exact⟨_,_,rfl,r1,r3⟩
theorem Ado (hc:X.calm = true):Jp X (.builtin "max") (fun xs H Q=>∃ i j,xs = [.int i,.int j]/\Q (.int (if j > i then j else i)) H):=by
 intro pins s σ H xs us Q I r h
 obtain⟨i,j,rfl,q⟩:=h
 obtain⟨u,w',rfl,⟨t,rfl⟩,⟨t',rfl⟩⟩:=AcI r
 refine max_two_ints (I.ok.hd hc) fun h' tk k=>⟨_,H,I.kept k,?_,q⟩
 by_cases hj:j > i
 ·rw[if_pos hj,if_pos hj]; exact⟨_,rfl⟩
 ·rw[if_neg hj,if_neg hj]; exact⟨_,rfl⟩
theorem Xe (hc:X.calm = true):Jp X (.builtin "min") (fun xs H Q=>∃ i j,xs = [.int i,.int j]/\Q (.int (if j < i then j else i)) H):=by
 intro pins s σ H xs us Q I r h
 obtain⟨i,j,rfl,q⟩:=h
 obtain⟨u,w',rfl,⟨t,rfl⟩,⟨t',rfl⟩⟩:=AcI r
 refine min_two_ints (I.ok.hd hc) fun h' tk k=>⟨_,H,I.kept k,?_,q⟩
 by_cases hj:j < i
 ·rw[if_pos hj,if_pos hj]; exact⟨_,rfl⟩
 ·rw[if_neg hj,if_neg hj]; exact⟨_,rfl⟩
theorem Xd:Jp X (.type "int") (fun xs H Q=>(∃ i,xs = [.int i]/\Q (.int i) H)\/∃ k,xs = [.bl k]/\Q (.int (if k then 1 else 0)) H):=by
 intro pins s σ H xs us Q I r h
 rcases h with ⟨i,rfl,q⟩ | ⟨k,rfl,q⟩
 ·obtain⟨u,rfl,t,rfl⟩:=Rx r
  exact call_int_int ⟨.int i,H,I,⟨_,rfl⟩,q⟩
 ·obtain⟨u,rfl,r1⟩:=Rx r
  cases r1
  exact call_int_bool ⟨.int (if k then 1 else 0),H,I.tok _,⟨_,rfl⟩,q⟩
end
end L2
namespace L2
open PySem PySem.Spec PyProof.Rows
structure ObjM (h:Heap) (x dx C:Addr) (mA:Str->Option Value):Prop where
 obj:h.get? x = some (instObj C dx)
 ns:h.Ns1 dx mA
 ne:dx ≠ x
theorem Adt {h:Heap} {dx:Addr} {mA:Str->Option Value} (n:h.Ns1 dx mA):∃ od,h.get? dx = some od/\∀ name,lookIn name od = some (mA name):=by
 obtain⟨o,es,ep,ho,hd,hk,_,hm⟩:=n
 refine⟨o,ho,fun name=>?_⟩
 have e:=hm name
 unfold nsFind findBy at e
 rw[<- Array.find?_toList] at e
 unfold lookIn
 rw[hd]
 dsimp only
 split
 ·rename_i y q
  rw[q] at e
  exact congrArg some e
 ·rename_i q
  rw[q] at e
  have a:es.toList.any (·.refKey) = false:=by
   rw[List.any_eq_false]
   intro y hy
   obtain⟨z,t,hkey⟩:=hk y (Array.mem_toList_iff.mp hy)
   simp [DictEntry.refKey,hkey]
  have a':¬ es.toList.any (·.refKey) = true:=by rw[a]; exact Bool.false_ne_true
  rw[if_neg a']
  exact congrArg some e
theorem ObjM.look {h:Heap} {x dx C:Addr} {mA:Str->Option Value} (I:ObjM h x dx C mA):∃ od,PySem.W.InstAt h x (instObj C dx) C (some od)/\∀ name,lookIn name od = some (mA name) :=
 let ⟨od,ho,hl⟩:=Adt I.ns
 ⟨od,⟨I.obj,rfl,rfl,ho⟩,hl⟩
section
variable {prog:Program} {w:World} {A:Around} {E:Value->Shared->Prop} {s:Shared} {K:Frag} {x dx C f:Addr} {mA:Str->Option Value} {name:Str} {v:Value}
theorem Ai7 {expr:Bool} {Q:Value->Shared->Prop} (X:K.In s.heap) (I:ObjM s.heap x dx C mA) (hg:plainGet K C name = true) (hh:hasDictIn K C = true)
  (ha:findIn K (.ref C) name = some none) (hv:mA name = some v) (hv':handedIn v = true) (h:Q v { s with toks:=s.toks + 1 }) :
  wpAny (model prog w) A (getAttr (.ref x) name expr) Q E s:=by
 obtain⟨od,J,hl⟩:=I.look
 exact PySem.W.get_value X J (plainGet_of hg).1 (PySem.W.findObj_own hh ha rfl (by rw[hl,hv])) hv' h
theorem Afy {pl:Sem Bool} {Q:Value × List Value->Shared->Prop} (X:K.In s.heap) (I:ObjM s.heap x dx C mA) (hg:plainGet K C name = true)
  (hf:findIn K (.ref C) name = some (some (.ref f))) (ht:isFn K (.ref f) = true) (hv:mA name = none) (h:Q (.ref f,[.ref x]) s) :
  wpAny (model prog w) A (getMethod (.ref x) name pl) Q E s:=by
 obtain⟨od,J,hl⟩:=I.look
 exact PySem.W.method_fn X J (plainGet_of hg).1 (plainGet_of hg).2 hf (beq_iff_eq.mp ht) (by show (lookIn name od).map (·.isSome) = some false; rw[hl,hv]; rfl) h
theorem Ai3 {ns:List Str} {Q:Unit->Shared->Prop} (X:K.In s.heap) (I:ObjM s.heap x dx C mA)
  (hs:findIn K (.ref C) "__setattr__" = some (some (.builtin "object.__setattr__"))) (hp:plainOver K C = true) (ht:takerIn K C name = some none) (hh:hasDictIn K C = true)
  (hw:PySem.Within mA ns) (hsz:ns.length <= sizeLine)
  (h:∀ h',ObjM h' x dx C (fun y=>if y = name then some v else mA y)->SameBut dx s.heap h'->Q () { s with heap:=h',toks:=s.toks + 2 }) :
  wpAny (model prog w) A (setAttr (.ref x) name v) Q E s:=by
 obtain⟨od,J,hl⟩:=I.look
 refine PySem.W.set_plain X J hs (PySem.W.osa_open (s:={ s with toks:=s.toks + 1 }) (r:=none) X J hp ht fun b=>?_)
 obtain⟨cd,hc,hd'⟩:=PySem.W.any_some hh
 have hx:s.heap.get? x = some ⟨.ref C,some dx,.plain,#[]⟩:=I.obj
 refine wpAny_bind (wpAny_pure (wpAny_bind (wpAny_bind (wpAny_loadPart hx (wpAny_bind (Looks.here (s:={ s with toks:=s.toks + 1 }) (PySem.W.looks_clsIn X hc) ?_))))))
 rw[hd']
 refine wpAny_pure (a:=some dx) (wpAny_bind (wpAny_pure (wpAny_bind ?_)))
 refine wpAny_nsSet1 (s:={ s with toks:=s.toks + 1 }) I.ns fun h' hn2 hs2=>?_
 obtain⟨oD,esD,epD,hoD,hdD,hcD⟩:=hn2.count (PySem.Within.cons name v hw)
 refine wpAny_bind (wpAny_lookBehind hoD (by rw[hdD]; exact pastItsLine_dict (Nat.le_trans hcD (by rw[length_cons]; omega))) ?_)
 exact wpAny_pure (h _ ⟨(hs2.2 _ (Ne.symm I.ne)).trans I.obj,hn2,I.ne⟩ hs2)
theorem AfU {R:Result->Shared->Prop} {vs:List Value} {kw:List (Str × Value)} (X:K.In s.heap) (hm:makesIn K C = true)
  (hi:findIn K (.ref C) "__init__" = some (some (.ref f))) (hf:typeIn K (.ref f) = some (.type "function"))
  (h:codeAny (model prog w) (A.under (.builtin "type.__call__" ⟨.ref C :: vs,kw⟩)) (.call (.ref f) ⟨.ref (s.heap.objs.size + 1) :: vs,kw⟩) (PySem.W.InitBack (s.heap.objs.size + 1) R)
   { s with heap:=(s.heap.push emptyDict).push (instObj C s.heap.objs.size) }) :
  codeAny (model prog w) A (.call (.ref C) ⟨vs,kw⟩) R s:=by
 obtain⟨hh,g,d,t,os⟩:=s
 exact PySem.W.make_core (PySem.W.makes_of X hm) (PySem.W.looks_findIn X hi) (fun self=>PySem.W.bind_fn X self hf) (.inl rfl) h
end
def Bz (f:Str) (v:V):List (Str × V)->List (Str × V)
 | []=>[(f,v)]
 | (g,x) :: r=>if g = f then (g,v) :: r else (g,x) :: Bz f v r
theorem Db (f g:Str) (v:V):∀ fs:List (Str × V),(Bz f v fs).lookup g = if g = f then some v else fs.lookup g
 | []=>by
  show List.lookup g [(f,v)] = _
  by_cases h:g = f
  ·have hb:(g == f) = true:=beq_iff_eq.mpr h
   simp only [List.lookup,hb,if_pos h]
  ·have hb:(g == f) = false:=beq_eq_false_iff_ne.mpr h
   simp only [List.lookup,hb,if_neg h]
 | (k,x) :: r=>by
  have ih:=Db f g v r
  rw[show Bz f v ((k,x) :: r) = (if k = f then (k,v) :: r else (k,x) :: Bz f v r) from rfl]
  by_cases hk:k = f
  ·rw[if_pos hk]
   by_cases h:g = k
   ·have hb:(g == k) = true:=beq_iff_eq.mpr h
    simp only [List.lookup,hb,if_pos (h.trans hk)]
   ·have hb:(g == k) = false:=beq_eq_false_iff_ne.mpr h
    simp only [List.lookup,hb,if_neg (fun e:g = f=>h (e.trans hk.symm))]
  ·rw[if_neg hk]
   by_cases h:g = k
   ·have hb:(g == k) = true:=beq_iff_eq.mpr h
    simp only [List.lookup,hb,if_neg (fun e:g = f=>hk (h.symm.trans e))]
   ·have hb:(g == k) = false:=beq_eq_false_iff_ne.mpr h
    simp only [List.lookup,hb]
    exact ih
theorem Sk (f:Str) (v:V):∀ fs:List (Str × V),f ∈ (Bz f v fs).map (·.1)/\∀ g,g ∈ fs.map (·.1)->g ∈ (Bz f v fs).map (·.1)
 | []=>⟨by simp [Bz],fun g h=>by simp at h⟩
 | (k,x) :: r=>by
  obtain⟨i1,i2⟩:=Sk f v r
  rw[show Bz f v ((k,x) :: r) = (if k = f then (k,v) :: r else (k,x) :: Bz f v r) from rfl]
  by_cases hk:k = f
  ·rw[if_pos hk]
   subst hk
   exact⟨by simp,fun g h=>by simpa using h⟩
  ·rw[if_neg hk]
   refine⟨?_,fun g h=>?_⟩
   ·rw[map_cons]
    exact mem_cons_of_mem _ i1
   ·rw[map_cons] at h ⊢
    rcases mem_cons.mp h with e | e
    ·exact mem_cons.mpr (.inl e)
    ·exact mem_cons_of_mem _ (i2 g e)
theorem Du (f:Str) (v:V):∀ fs:List (Str × V),(Bz f v fs).length <= fs.length + 1
 | []=>by simp [Bz]
 | (k,x) :: r=>by
  have ih:=Du f v r
  rw[show Bz f v ((k,x) :: r) = (if k = f then (k,v) :: r else (k,x) :: Bz f v r) from rfl]
  by_cases hk:k = f
  ·rw[if_pos hk,length_cons,length_cons]; omega
  ·rw[if_neg hk,length_cons,length_cons]; omega
theorem RelO.some_of {v:V} {o:Option Value} (r:RelO (some v) o):∃ u,o = some u/\RelV v u:=by
 cases o with
 | none=>exact (show False from r).elim
 | some u=>exact⟨u,rfl,r⟩
theorem RelO.none_of {o:Option Value} (r:RelO none o):o = none:=by
 cases o with
 | none=>rfl
 | some u=>exact (show False from r).elim
theorem Adp {v:V} {u:Value} (r:RelV v u):handedIn u = true:=by
 cases v with
 | non=>cases (show u = Value.none from r); rfl
 | bl b=>cases (show u = Value.bool b from r); rfl
 | int i=>obtain⟨t,e⟩:=(show ∃ t,u = Value.int i t from r); cases e; rfl
 | str x=>obtain⟨t,e⟩:=(show ∃ t,u = Value.str x t from r); cases e; rfl
 | byt b=>obtain⟨t,e⟩:=(show ∃ t,u = Value.bytes b t from r); cases e; rfl
 | flt b=>obtain⟨t,e⟩:=(show ∃ t,u = Value.float b t from r); cases e; rfl
 | ref a=>cases (show u = Value.ref a from r); rfl
 | ty n=>cases (show u = Value.type n from r); rfl
section
variable {P:Program} {w:World} {H H':Hp} {h h':Heap} {a C dx:Addr} {fs fs':List (Str × V)}
theorem Sx (hok:HOk P w H h) (e:H a = some (.ins C dx fs)):∃ mA,ObjM h a dx C mA/\(∀ f,RelO (fs.lookup f) (mA f))/\PySem.Within mA (fs.map (·.1))/\fs.length <= 1000/\H dx = some (.own a):=by
 obtain⟨d,z,ne,ob,mA,n,r,q⟩:=(show ObjOk P w H h a (.ins C dx fs) from hok a _ e)
 exact⟨mA,⟨ob,n,ne⟩,r,q,z,d⟩
end
structure Cls (K:Frag) (C:Addr):Prop where
 pg:plainGet K C Str.empty = true
 hd:hasDictIn K C = true
 po:plainOver K C = true
 sa:findIn K (.ref C) "__setattr__" = some (some (.builtin "object.__setattr__"))
theorem Cls.get {K:Frag} {C:Addr} (c:Cls K C) (f:Str):plainGet K C f = true:=c.pg
def NoAttr (K:Frag) (C:Addr) (f:Str):Prop:=findIn K (.ref C) f = some none
theorem NoAttr.taker {K:Frag} {C:Addr} {f:Str} (n:NoAttr K C f):takerIn K C f = some none:=by
 unfold takerIn
 rw[show findIn K (.ref C) f = some none from n]
 rfl
structure Aci (K:Frag) (C:Addr) (m:Str) (f:Addr):Prop where
 at_:findIn K (.ref C) m = some (some (.ref f))
 fn:isFn K (.ref f) = true
 kp:keepIn K (.ref f) = true
section
variable {X:Cx} {pins:List (Addr × Obj)} {σ:St} {H:Hp} {s:Shared} {a C dx:Addr} {fs:List (Str × V)} {f:Str} {v:V} {A:Around} {E:Value->Shared->Prop}
theorem AcC {b:Bool} {Q:Value->Shared->Prop} (I:Inv X pins σ H s) (e:H a = some (.ins C dx fs)) (c:Cls X.K C) (n:NoAttr X.K C f) (l:fs.lookup f = some v)
  (h:∀ u s',Inv X pins σ H s'->RelV v u->Q u s'):wpAny (model X.prog X.w) A (getAttr (.ref a) f b) Q E s:=by
 obtain⟨mA,O,r,_,_,_⟩:=Sx I.hok e
 obtain⟨u,hu,ru⟩:=RelO.some_of (v:=v) (o:=mA f) (by rw[<- l]; exact r f)
 exact Ai7 I.kIn O (c.get f) c.hd n hu (Adp ru) (h u _ (I.tok _) ru)
theorem Ab4 {m:Str} {g:Addr} {pl:Sem Bool} {Q:Value × List Value->Shared->Prop} (I:Inv X pins σ H s) (e:H a = some (.ins C dx fs)) (c:Cls X.K C) (k:Aci X.K C m g) (l:fs.lookup m = none)
  (h:Q (.ref g,[.ref a]) s):wpAny (model X.prog X.w) A (getMethod (.ref a) m pl) Q E s:=by
 obtain⟨mA,O,r,_,_,_⟩:=Sx I.hok e
 have hn:mA m = none:=RelO.none_of (by rw[<- l]; exact r m)
 exact Afy I.kIn O (c.get m) k.at_ k.fn hn h
theorem Acx {y:V} {u:Value} {Q:Unit->Shared->Prop} (I:Inv X pins σ H s) (e:H a = some (.ins C dx fs)) (c:Cls X.K C) (n:NoAttr X.K C f) (hl:fs.length < 1000) (ry:RelV y u)
  (h:∀ s',Inv X pins σ (upd H a (.ins C dx (Bz f y fs))) s'->Q () s'):wpAny (model X.prog X.w) A (setAttr (.ref a) f u) Q E s:=by
 obtain⟨mA,O,r,wi,_,ho⟩:=Sx I.hok e
 have hz:(fs.map (·.1)).length <= sizeLine:=by rw[length_map,sizeLine_eq]; omega
 refine Ai3 I.kIn O c.sa c.po n.taker c.hd wi hz fun h' O' sb=>h _ ?_
 have hd:∃ o,h'.get? dx = some o:=let ⟨o,_,_,e',_⟩:=O'.ns; ⟨o,e'⟩
 refine I.write (x:=a) (e:=dx) (by rw[e]; exact True.intro) (.inr ho) (fun b q hb z=>(sb.2 b hb).trans z) hd ?_
 refine⟨by rw[Bj O.ne]; exact ho,?_,O.ne,O'.obj,_,O'.ns,fun g=>?_,fun g hg=>?_⟩
 ·have:=Du f y fs; omega
 ·show RelO ((Bz f y fs).lookup g) (if g = f then some u else mA g)
  rw[Db]
  by_cases q:g = f
  ·rw[if_pos q,if_pos q]; exact ry
  ·rw[if_neg q,if_neg q]; exact r g
 ·by_cases q:g = f
  ·rw[q]; exact (Sk f y fs).1
  ·refine (Sk f y fs).2 g (wi g fun z=>hg ?_)
   show (if g = f then some u else mA g) = none
   rw[if_neg q]; exact z
theorem Inv.made (I:Inv X pins σ H s):Inv X pins σ (upd (upd H s.heap.objs.size (.own (s.heap.objs.size + 1))) (s.heap.objs.size + 1) (.ins C s.heap.objs.size []))
  { s with heap:=(s.heap.push emptyDict).push (instObj C s.heap.objs.size) }:=by
 have e1:(s.heap.push emptyDict).get? s.heap.objs.size = some emptyDict:=get?_push_size s.heap rfl
 have e2:((s.heap.push emptyDict).push (instObj C s.heap.objs.size)).get? (s.heap.objs.size + 1) = some (instObj C s.heap.objs.size):=by
  have:=get?_push_size (s.heap.push emptyDict) (o:=instObj C s.heap.objs.size) rfl
  rwa [Heap.size_push] at this
 have e3:(s.heap.push emptyDict).Ns s.heap.objs.size (fun _=>none):=⟨emptyDict,#[],_,e1,rfl,(fun e he=>absurd he (by simp)),fun _=>rfl⟩
 have I1:=I.laid (a:=s.heap.objs.size) (o:=.own (s.heap.objs.size + 1)) (h':=s.heap.push emptyDict) (t':=s.toks) (fun b u q=>get?_push_of_some _ q) (Nat.le_refl _) ⟨_,e1⟩
 refine I1.laid (a:=s.heap.objs.size + 1) (o:=.ins C s.heap.objs.size []) (t':=s.toks) (fun b u q=>get?_push_of_some _ q) (Nat.le_of_eq (Heap.size_push _ _)) ?_
 have ne:s.heap.objs.size ≠ s.heap.objs.size + 1:=ne_of_lt (lt_succ_self _)
 refine⟨by rw[Bj ne,Bm],zero_le _,ne,e2,fun _=>none,(Ns1.of_empty e3).at fun o q=>get?_push_of_some _ q,fun _=>True.intro,fun y hy=>absurd rfl hy⟩
theorem AiO {prog:Program} {w:World} {env:Env} {e:Expr} {f:Str} {pos:Pos} {s:Shared} {Q:Value->Shared->Prop} (hb:attributeBase e f env (eval e env) = eval e env)
  (h:wpAny (model prog w) A (eval e env) (fun o s₁=>wpAny (model prog w) A (getAttr o f true) Q E s₁) E s):wpAny (model prog w) A (eval (.Attribute e f pos) env) Q E s :=
 Attribute_any_ h (by rw[arm_eval_Attribute,hb])
end
def Ajo (K:Frag) (ta:TE) (f:Str):TE:=fun σ H Q=>ta σ H fun x H1=>∃ a C dx fs v,x = .ref a/\H1 a = some (.ins C dx fs)/\Cls K C/\NoAttr K C f/\fs.lookup f = some v/\Q v H1
def AkT (K:Frag) (ta tv:TE) (f:Str):TS:=fun D σ H=>tv σ H fun y H1=>ta σ H1 fun x H2=>∃ a C dx fs,x = .ref a/\H2 a = some (.ins C dx fs)/\Cls K C/\NoAttr K C f/\fs.length < 1000 /\
 D.nx σ (upd H2 a (.ins C dx (Bz f y fs)))
section
variable {X:Cx} {o e value:Expr} {f:Str} {pos pos' tpos:Pos} {ta tv:TE}
theorem Uj (he:PE X e ta) (hb:attributeBase e f X.env (eval e X.env) = eval e X.env):PE X (.Attribute e f pos) (Ajo X.K ta f):=by
 intro pins s σ H Q I h
 refine AiO hb (thn (he pins s σ H _ I h) fun u s1 ⟨x,H1,I1,rx,a,C,dx,fs,v,ex,ea,c,n,l,q⟩=>?_)
 subst ex
 obtain rfl:u = Value.ref a:=rx
 exact AcC I1 ea c n l fun u' s2 I2 ru=>⟨v,H1,I2,ru,q⟩
theorem Sj (ha:PE X o ta) (hv:PE X value tv) (hs:swapsWith value (some (.Attribute o f pos')) pos.line X.env = pure false):PS X (.Assign [.Attribute o f pos'] value pos) (AkT X.K ta tv f):=by
 intro pins s σ H D I h
 refine plainObj_wpAny_Assign_Attribute (thn (hv pins s σ H _ I h) fun u s1 ⟨y,H1,I1,ry,q⟩=>thn (ha pins s1 σ H1 _ I1 q) fun ov s2 ⟨x,H2,I2,rx,a,C,dx,fs,ex,ea,c,n,l,q2⟩=>?_) hs
 subst ex
 obtain rfl:ov = Value.ref a:=rx
 exact Acx I2 ea c n l ry fun s3 I3=>⟨σ,_,I3,q2⟩
end
section
variable {X:Cx} {pins:List (Addr × Obj)} {σ:St} {H:Hp} {s:Shared} {A:Around} {E:Value->Shared->Prop} {Q:Value->Shared->Prop} {c:Value} {b:Bool}
inductive Ge (K:Frag) (H:Hp):V->Value->Prop where
 | non:Ge K H .non (.type "NoneType")
 | bl (x:Bool):Ge K H (.bl x) (.type "bool")
 | int (i:Int):Ge K H (.int i) (.type "int")
 | str (x:Str):Ge K H (.str x) (.type "str")
 | flt (x:UInt64):Ge K H (.flt x) (.type "float")
 | lst {a:Addr} {xs:List V} (e:H a = some (.lst xs)):Ge K H (.ref a) (.type "list")
 | frz {a:Addr} {o:Obj} {xs:List V} (e:H a = some (.frz o (.lst xs))):Ge K H (.ref a) (.type "list")
 | tup {a:Addr} {xs:List V} (e:H a = some (.tup xs)):Ge K H (.ref a) (.type "tuple")
 | dK {a:Addr} {kvs:List (Key × V)} (e:H a = some (.dK kvs)):Ge K H (.ref a) (.type "dict")
 | dT {a:Addr} {kvs:List (List Key × V)} (e:H a = some (.dT kvs)):Ge K H (.ref a) (.type "dict")
 | ins {a C dx:Addr} {fs:List (Str × V)} (e:H a = some (.ins C dx fs)) (cl:Cls K C) (ha:findIn K (.ref C) "__class__" = some (some (.builtin "object.__class__")))
   (hn:PySem.W.specialIn K (.builtin "object.__class__") "__get__" = some (some (.builtin "getset_descriptor.__get__"))) (htk:PySem.W.takesIn K (.builtin "object.__class__") = some true)
   (hm:mroIn K C (.type "object") = some true):Ge K H (.ref a) (.ref C)
theorem AeK {x:V} {u t:Value} (I:Inv X pins σ H s) (rx:RelV x u) (ty:Ge X.K H x t) (e:kitOne X.K t c = some b) (h:∀ tk,Q (.bool b) { s with toks:=tk }) :
  wpAny (model X.prog X.w) A (call (.builtin "isinstance") [u,c]) Q E s:=by
 cases ty with
 | non=>cases (show u = Value.none from rx); exact kia_one PySem.W.kitx_none I.kIn True.intro e (fun z=>nomatch z) h
 | bl y=>cases (show u = Value.bool y from rx); exact kia_one PySem.W.kitx_bool I.kIn True.intro e (fun z=>nomatch z) h
 | int i=>obtain⟨t,q⟩:=(show ∃ t,u = Value.int i t from rx); cases q; exact kia_one PySem.W.kitx_int I.kIn True.intro e (fun z=>nomatch z) h
 | str y=>obtain⟨t,q⟩:=(show ∃ t,u = Value.str y t from rx); cases q; exact kia_one PySem.W.kitx_str I.kIn True.intro e (fun z=>nomatch z) h
 | flt y=>obtain⟨t,q⟩:=(show ∃ t,u = Value.float y t from rx); cases q; exact kia_one PySem.W.kitx_float I.kIn True.intro e (fun z=>nomatch z) h
 | @lst a xs ea =>
  cases (show u = Value.ref a from rx)
  obtain⟨_,_,n,_,h1⟩:=(show ObjOk X.prog X.w H s.heap a (.lst xs) from I.hok a _ ea)
  exact kia_one kitx_list I.kIn ⟨_,h1,rfl⟩ e (fun z=>nomatch z) h
 | @frz a ob xs ea =>
  cases (show u = Value.ref a from rx)
  obtain⟨_,_,_,n,_,h1⟩:=(show ObjOk X.prog X.w H s.heap a (.frz ob (.lst xs)) from I.hok a _ ea)
  exact kia_one kitx_list I.kIn ⟨_,h1,rfl⟩ e (fun z=>nomatch z) h
 | @tup a xs ea =>
  cases (show u = Value.ref a from rx)
  obtain⟨_,_,_,p⟩:=(show ObjOk X.prog X.w H s.heap a (.tup xs) from I.hok a _ ea)
  obtain⟨o,h1,h2,_⟩:=p
  exact kia_one PySem.W.kitx_tuple I.kIn ⟨o,h1,h2⟩ e (fun z=>nomatch z) h
 | @dK a kvs ea =>
  cases (show u = Value.ref a from rx)
  obtain⟨_,_,vs,_,p⟩:=(show ObjOk X.prog X.w H s.heap a (.dK kvs) from I.hok a _ ea)
  obtain⟨o,es,ep,h1,h2,_⟩:=p
  exact kia_one kitx_dict I.kIn ⟨o,h1,h2.1⟩ e (fun z=>nomatch z) h
 | @dT a kvs ea =>
  cases (show u = Value.ref a from rx)
  obtain⟨_,_,xs,_,o,es,ep,h1,h2,_⟩:=(show ObjOk X.prog X.w H s.heap a (.dT kvs) from I.hok a _ ea)
  exact kia_one kitx_dict I.kIn ⟨o,h1,h2.1⟩ e (fun z=>nomatch z) h
 | @ins a C dx fs ea cl ha hn htk hm =>
  cases (show u = Value.ref a from rx)
  obtain⟨mA,O,_⟩:=Sx I.hok ea
  obtain⟨od,J,_⟩:=O.look
  exact kia_one (PySem.W.kitx_own (cl.get _) cl.hd ha hn htk hm) I.kIn J e (fun z=>nomatch z) h
end
end L2
namespace L2
open PySem PySem.Spec PyProof.Rows
structure Room (k:Nat) (A:Around):Prop where
 hd:A.handled = none
 dp:A.depth + 3 * k + 5 < recursionLimit
 un:A.units + 16 * k + 200 < cLine
theorem Room.mono {j k:Nat} {A:Around} (r:Room k A) (h:j <= k):Room j A:=⟨r.hd,by have:=r.dp; omega,by have:=r.un; omega⟩
theorem Room.deeper {k:Nat} {A:Around} (r:Room (k + 1) A) (env:Env):Room k (A.deeper env) :=
 ⟨r.hd,by have:=r.dp; show A.depth + 1 + 3 * k + 5 < _; omega,by have:=r.un; show A.units + 3 + 16 * k + 200 < _; omega⟩
theorem Ack {A:Around} {C:Addr} {us:List Value} {kw:List (Str × Value)}:(A.under (.builtin "type.__call__" ⟨.ref C :: us,kw⟩)).depth = A.depth + 1:=by
 first | rfl | simp [Around.under,Code.weight,Code.isCreation,Code.isGuard,Code.isCaller,Code.frames,Code.isFrame,guardIds]
theorem Acy {A:Around} {C:Addr} {us:List Value} {kw:List (Str × Value)}:(A.under (.builtin "type.__call__" ⟨.ref C :: us,kw⟩)).units = A.units + 1:=by
 first | rfl | simp [Around.under,Code.cUnits,Code.frames,Code.isFrame]
theorem Room.make {k:Nat} {A:Around} (r:Room (k + 1) A) (C:Addr) (us:List Value) (kw:List (Str × Value)):Room k (A.under (.builtin "type.__call__" ⟨.ref C :: us,kw⟩)) :=
 ⟨r.hd,by have:=r.dp; rw[Ack]; omega,by have:=r.un; rw[Acy]; omega⟩
theorem Room.depth {k:Nat} {A:Around} (r:Room k A):A.depth < recursionLimit:=by have:=r.dp; omega
theorem Room.units {k:Nat} {A:Around} (r:Room k A):A.units + 64 < cLine:=by have:=r.un; omega
def Na:TA:=fun _ H Q=>Q [] H
def Fs (ta:TE) (tr:TA):TA:=fun σ H Q=>ta σ H fun x H1=>tr σ H1 fun xs H2=>Q (x :: xs) H2
section
variable {X:Cx} {e:Expr} {es:List Expr} {te:TE} {t:TA} {pos:Pos}
theorem Bd:PA X [] Na:=fun _ _ _ _ H Q I h=>Calls.spliced_nil ⟨[],H,I,.nil,h⟩
theorem Ba (ha:PE X e te) (hr:PA X es t) (hs:starEach (e :: es) X.env = (false,eval e X.env) :: starEach es X.env:=by rfl):PA X (e :: es) (Fs te t):=by
 intro pos pins s σ H Q I h
 rw[hs]
 show wpAny _ _ (spliced ((false,eval e X.env) :: backTo pos (starEach es X.env))) _ _ s
 refine Calls.spliced_cons (thn (ha pins s σ H _ I h) fun u s1 ⟨x,H1,I1,r1,q1⟩=>?_)
 exact thn (hr pos pins s1 σ H1 _ I1 q1) fun us s2 ⟨xs,H2,I2,r2,q2⟩=>⟨x :: xs,H2,I2,.cons r1 r2,q2⟩
def Alq (t:TA):TE:=fun σ H Q=>t σ H fun xs H1=>xs.length <= sizeLine/\∀ p,H1 p = none->Q (.ref p) (upd H1 p (.tup xs))
theorem Al3 {x1} (h:PA X es t):PE X (.Tuple es x1 pos) (Alq t):=by
 intro pins s σ H Q I hq
 refine wpAny_Tuple_spliced (thn (h pos pins s σ H _ I hq) fun us s1 ⟨xs,H1,I1,r,z,q⟩=>⟨by rw[<- r.length]; exact z,?_⟩)
 have hf:H1 s1.heap.objs.size = none:=I1.hok.fresh (Nat.le_refl _)
 refine⟨.ref s1.heap.objs.size,upd H1 s1.heap.objs.size (.tup xs),I1.laid (t':=s1.toks) (fun b u e=>get?_push_of_some _ e) (Nat.le_refl _) ?_,rfl,q _ hf⟩
 exact⟨z,us,r,⟨_,get?_push_size _ rfl,rfl,_,rfl⟩⟩
end
abbrev Sp:=List V->Hp->VK->XK->Prop
abbrev CXT:=List Env->Hp->Shared->XK->Value->Shared->Prop
structure Env0 (P:Program) (w:World) (K:Frag) (mg:Str->Option Value) (base:Heap) (A:Around) (outer:List Env) (s:Shared) (H:Hp):Prop where
 frames:A.frames = some outer
 mod:Mod K mg base
 bs:∀ b o,base.get? b = some o->s.heap.get? b = some o/\H b = none
 bsz:base.objs.size <= s.heap.objs.size
 funs:s.heap.FunFrames base outer
 frf:∀ b ∈ frs outer,H b = none
 hok:HOk P w H s.heap
 bare:AllBare s.gens
def CE (outer:List Env) (P:Program) (w:World) (H:Hp) (s:Shared) (Q:VK) (u:Value) (s':Shared):Prop :=
 ∃ v H',s'.os = s.os/\AllBare s'.gens/\Un (frs outer) [] H H' s.heap s'.heap/\HOk P w H' s'.heap/\RelV v u/\Q v H'
def CR (CX:CXT) (outer:List Env) (P:Program) (w:World) (H:Hp) (s:Shared) (Q:VK) (E:XK) (r:Result) (s':Shared):Prop :=
 match r with
 | .ok (.ret u)=>CE outer P w H s Q u s'
 | .ok _=>False
 | .error e=>CX outer H s E e s'
structure FnOk (P:Program) (w:World) (K:Frag) (mg:Str->Option Value) (base:Heap) (CX:CXT) (k:Nat) (f:Addr) (fd:FuncData) (ps:List Str) (sp:Sp):Prop where
 len:∀ vs H Q E,sp vs H Q E->vs.length = ps.length
 run:∀ (A:Around) (outer:List Env) (s:Shared) (H:Hp) (args:Args) (us:List Value) (vs:List V) (Q:VK) (E:XK),Room k A->Env0 P w K mg base A outer s H->BindsTo s fd args (ps.zip us)->Vals vs us->sp vs H Q E ->
  codeAny (model P w) A (.call (.ref f) args) (CR CX outer P w H s Q E) s
theorem FnOk.imp {P:Program} {w:World} {K:Frag} {mg:Str->Option Value} {base:Heap} {CX:CXT} {k:Nat} {f:Addr} {fd:FuncData} {ps:List Str} {sp sp':Sp} (F:FnOk P w K mg base CX k f fd ps sp)
  (h:∀ vs H Q E,sp' vs H Q E->sp vs H Q E):FnOk P w K mg base CX k f fd ps sp' :=
 ⟨fun vs H Q E q=>F.len vs H Q E (h _ _ _ _ q),fun A outer s H args us vs Q E hr he hb hv hs=>F.run A outer s H args us vs Q E hr he hb hv (h _ _ _ _ hs)⟩
theorem Env0.make {P:Program} {w:World} {K:Frag} {mg:Str->Option Value} {base:Heap} {A:Around} {outer:List Env} {s:Shared} {H:Hp} (e:Env0 P w K mg base A outer s H) (C:Addr) (us:List Value) (kw:List (Str × Value)) :
  Env0 P w K mg base (A.under (.builtin "type.__call__" ⟨.ref C :: us,kw⟩)) outer s H:=⟨by first | exact e.frames | (simpa [Around.under,Code.envs,Code.isFrame,pushEnvs] using e.frames),e.mod,e.bs,e.bsz,e.funs,e.frf,e.hok,e.bare⟩
section
variable {X:Cx} {pins:List (Addr × Obj)} {σ:St} {H:Hp} {s s':Shared}
theorem Inv.env0 (I:Inv X pins σ H s):Env0 X.prog X.w X.K X.mg X.base X.A X.stack s H :=
 ⟨I.ok.frames,I.ok.mod,I.bs,Nat.le_trans I.ok.bsz I.sz,I.stack,I.stkFree,I.hok,I.bare⟩
theorem Inv.after {Q:VK} {u:Value} (I:Inv X pins σ H s) (h:CE X.stack X.prog X.w H s Q u s'):EP X pins σ Q u s':=by
 obtain⟨v,H',os,bare,un,hok,r,q⟩:=h
 obtain⟨hh,g,d,t,os'⟩:=s'
 obtain rfl:os' = s.os:=os
 exact⟨v,H',I.call (h':=hh) (g':=g) (d':=d) (t':=t) (ch:=[]) un hok bare (fun b z=>absurd z (by simp)),r,q⟩
end
def Ri (sp:Sp) (dvs:List V) (E:XK) (t:TA):TE:=fun σ H Q=>t σ H fun vs H1=>sp (vs ++ dvs) H1 Q E
def Vg (C:Addr) (m:Str) (sp:Sp) (dvs:List V) (E:XK) (ta:TE) (t:TA):TE:=fun σ H Q=>ta σ H fun x H1=>∃ a dx fs,x = .ref a/\H1 a = some (.ins C dx fs)/\fs.lookup m = none /\
 t σ H1 fun vs H2=>sp (x :: (vs ++ dvs)) H2 Q E
def Ahq (C:Addr) (sp:Sp) (dvs:List V) (E:XK) (t:TA):TE:=fun σ H Q=>t σ H fun vs H1=>∀ x dx,H1 x = none->H1 dx = none->dx ≠ x ->
 sp (.ref x :: (vs ++ dvs)) (upd (upd H1 dx (.own x)) x (.ins C dx [])) (fun v H2=>v = .non/\Q (.ref x) H2) E
def Binds (K:Frag) (fd:FuncData) (ps:List Str) (ds:List Value):Prop :=
 ∀ (s:Shared) (us:List Value),K.In s.heap->(us ++ ds).length = ps.length->BindsTo s fd ⟨us,[]⟩ (ps.zip (us ++ ds))
theorem Binds.all {K:Frag} {fd:FuncData} {ps:List Str} (h:∀ us:List Value,us.length = ps.length->bindArgs fd ⟨us,[]⟩ = pure (ps.zip us)):Binds K fd ps []:=fun s us _ hl=>by
 rw[append_nil] at hl ⊢
 exact .of_eq (h us hl)
def Qo (CX:CXT) (X:Cx) (E:XK):Prop:=∀ (pins:List (Addr × Obj)) (σ:St) (H:Hp) (s:Shared) (e:Value) (s':Shared),Inv X pins σ H s->CX X.stack H s E e s'->X.xe e s'
section
variable {X:Cx} {CX:CXT} {k:Nat} {f C:Addr} {fd:FuncData} {ps:List Str} {sp:Sp} {dvs:List V} {ds:List Value} {E:XK} {x m:Str} {p pos apos:Pos} {e o:Expr} {es:List Expr} {ta:TE} {t:TA}
theorem Ad7 {pins:List (Addr × Obj)} {σ:St} {H:Hp} {s:Shared} {Q:VK} {us:List Value} {vs:List V} (F:FnOk X.prog X.w X.K X.mg X.base CX k f fd ps sp) (hr:Room k X.A) (hb:Binds X.K fd ps ds) (hd:Vals dvs ds) (hx:Qo CX X E)
  (I:Inv X pins σ H s) (r:Vals vs us) (h:sp (vs ++ dvs) H Q E):wpAny (model X.prog X.w) X.A (call (.ref f) us) (EP X pins σ Q) X.xe s:=by
 have r2:Vals (vs ++ dvs) (us ++ ds):=r.append hd
 have hl:(us ++ ds).length = ps.length:=by rw[<- r2.length]; exact F.len _ _ _ _ h
 refine wpAny_call (codeAny_mono (F.run X.A X.stack s H ⟨us,[]⟩ (us ++ ds) (vs ++ dvs) Q E hr I.env0 (hb s us I.kIn hl) r2 h) fun r s' hq=>?_)
 cases r with
 | error e=>exact hx pins σ H s e s' I hq
 | ok fl =>
  cases fl with
  | ret u=>exact I.after hq
  | next=>exact False.elim hq
  | brk=>exact False.elim hq
  | cont=>exact False.elim hq
theorem Bn (F:FnOk X.prog X.w X.K X.mg X.base CX k f fd ps sp) (hr:Room k X.A) (hg:Gl X x) (hm:X.mg x = some (.ref f)) (hk:keepIn X.K (.ref f) = true) (hb:Binds X.K fd ps ds) (hd:Vals dvs ds) (hx:Qo CX X E)
  (ha:PA X (e :: es) t) (hdb:(x == ("__debug__" : Str)) = false:=by decide) (he:starEach (e :: es) X.env = (false,eval e X.env) :: starEach es X.env:=by rfl) (hpl:(backTo pos (starEach es X.env)).any (·.1) = false:=by rfl) :
  PE X (.Call (.Name x p) (e :: es) [] pos) (Ri sp dvs E t):=by
 intro pins s σ H Q I h
 refine wpAny_Call_Name_kw (Vs I hg hm ?_ hdb)
 refine callWith_K (h₀:=X.base) I.ok.mod.kin hk (thn (ha pos pins s σ H _ I h) fun us s1 ⟨vs,H1,I1,r,q⟩=>⟨I1.kIn,?_⟩) he hpl
 exact Ad7 F hr hb hd hx I1 r q
theorem Vx {pl:Sem Bool} (he:PE X o ta) (c:Cls X.K C) (hm:Aci X.K C m f) (F:FnOk X.prog X.w X.K X.mg X.base CX k f fd ps sp) (hr:Room k X.A) (hb:Binds X.K fd ps ds) (hd:Vals dvs ds) (hx:Qo CX X E) (ha:PA X (e :: es) t)
  (hst:starEach (e :: es) X.env = (false,eval e X.env) :: starEach es X.env:=by rfl) (hpl:(backTo pos (starEach es X.env)).any (·.1) = false:=by rfl)
  (ht:eval (.Call (.Attribute o m apos) (e :: es) [] pos) X.env = (do
   let ov <- eval o X.env
   standAt apos.atName
   let (f,first) <- holding [ov] (getMethod ov m pl)
   callWith pos f first (backTo pos (starEach (e :: es) X.env)) (backToKw pos (keywordEach [] X.env))):=by rfl) :
  PE X (.Call (.Attribute o m apos) (e :: es) [] pos) (Vg C m sp dvs E ta t):=by
 intro pins s σ H Q I h
 refine PySem.W.methodCall_KW (pl:=pl) (thn (he pins s σ H _ I h) fun u s1 ⟨x,H1,I1,rx,a,dx,fs,ex,ea,l,q⟩=>?_) ht
 subst ex
 obtain rfl:u = Value.ref a:=rx
 refine Ab4 I1 ea c hm l ?_
 refine callWith_K (first:=[.ref a]) (h₀:=X.base) I.ok.mod.kin hm.kp (thn (ha pos pins s1 σ H1 _ I1 q) fun us s2 ⟨vs,H2,I2,r,q2⟩=>⟨I2.kIn,?_⟩) hst hpl
 exact Ad7 (us:=.ref a :: us) (vs:=.ref a :: vs) F hr hb hd hx I2 (.cons rfl r) q2
structure Mk (K:Frag) (C f:Addr):Prop where
 makes:makesIn K C = true
 init:findIn K (.ref C) "__init__" = some (some (.ref f))
 fn:isFn K (.ref f) = true
 kp:keepIn K (.ref C) = true
theorem Af5 {pins:List (Addr × Obj)} {σ:St} {H:Hp} {s:Shared} {Q:VK} {us:List Value} {vs:List V} (M:Mk X.K C f) (F:FnOk X.prog X.w X.K X.mg X.base CX k f fd ps sp) (hr:Room (k + 1) X.A) (hb:Binds X.K fd ps ds) (hd:Vals dvs ds)
  (hx:Qo CX X E) (I:Inv X pins σ H s) (r:Vals vs us)
  (h:∀ x dx,H x = none->H dx = none->dx ≠ x->sp (.ref x :: (vs ++ dvs)) (upd (upd H dx (.own x)) x (.ins C dx [])) (fun v H2=>v = .non/\Q (.ref x) H2) E) :
  wpAny (model X.prog X.w) X.A (call (.ref C) us) (EP X pins σ Q) X.xe s:=by
 have hq:=h (s.heap.objs.size + 1) s.heap.objs.size (I.hok.fresh (le_succ _)) (I.hok.fresh (Nat.le_refl _)) (ne_of_lt (lt_succ_self _))
 have I2:=Inv.made (C:=C) I
 have r2:Vals (V.ref (s.heap.objs.size + 1) :: (vs ++ dvs)) (Value.ref (s.heap.objs.size + 1) :: (us ++ ds)):=.cons rfl (r.append hd)
 have hl:(Value.ref (s.heap.objs.size + 1) :: us ++ ds).length = ps.length:=by
  have e:=r2.length
  rw[F.len _ _ _ _ hq] at e
  exact e.symm
 refine wpAny_call (AfU (f:=f) I.kIn M.makes M.init (beq_iff_eq.mp M.fn) (codeAny_mono (F.run _ X.stack _ _ ⟨Value.ref (s.heap.objs.size + 1) :: us,[]⟩ (Value.ref (s.heap.objs.size + 1) :: (us ++ ds)) _ _ E (hr.make C us [])
  (I2.env0.make C us []) (hb _ (Value.ref (s.heap.objs.size + 1) :: us) I2.kIn hl) r2 hq) fun r s' hq'=>?_))
 cases r with
 | error e=>exact hx pins σ _ _ e s' I2 hq'
 | ok fl =>
  cases fl with
  | ret u =>
   obtain⟨v,H',I3,rv,ev,q3⟩:=I2.after hq'
   subst ev
   exact⟨rv,⟨V.ref (s.heap.objs.size + 1),H',I3,rfl,q3⟩⟩
  | next=>exact False.elim hq'
  | brk=>exact False.elim hq'
  | cont=>exact False.elim hq'
theorem AiF (M:Mk X.K C f) (F:FnOk X.prog X.w X.K X.mg X.base CX k f fd ps sp) (hr:Room (k + 1) X.A) (hg:Gl X x) (hm:X.mg x = some (.ref C)) (hb:Binds X.K fd ps ds) (hd:Vals dvs ds) (hx:Qo CX X E)
  (ha:PA X (e :: es) t) (hdb:(x == ("__debug__" : Str)) = false:=by decide) (he:starEach (e :: es) X.env = (false,eval e X.env) :: starEach es X.env:=by rfl) (hpl:(backTo pos (starEach es X.env)).any (·.1) = false:=by rfl) :
  PE X (.Call (.Name x p) (e :: es) [] pos) (Ahq C sp dvs E t):=by
 intro pins s σ H Q I h
 refine wpAny_Call_Name_kw (Vs I hg hm ?_ hdb)
 refine callWith_K (h₀:=X.base) I.ok.mod.kin M.kp (thn (ha pos pins s σ H _ I h) fun us s1 ⟨vs,H1,I1,r,q⟩=>⟨I1.kIn,?_⟩) he hpl
 exact Af5 M F hr hb hd hx I1 r q
end
section
variable {X:Cx} {CX:CXT} {k:Nat} {f C:Addr} {fd:FuncData} {ps ks:List Str} {sp:Sp} {E:XK} {x m:Str} {p pos apos kpos:Pos} {e o:Expr} {es:List Expr} {kws:List Keyword} {te ta:TE} {t tk:TA} {nm:Option Str}
variable {g:List Value->List Value->List Value} {gV:List V->List V->List V}
end
structure Ca (N P:List Str) (sc:Scope):Prop where
 kind:sc.kind = .function
 co:sc.isCoroutine = false
 gen:sc.isGenerator = false
 nd:N.Nodup
 pre:N.take P.length = P
 par:∀ x ∈ P,sc.names.lookup x = some .local\/sc.names.lookup x = some .cell
 nofree:∀ y ∈ sc.names,y.2 ≠ .free
theorem Xg {kindOf:Str->Option NameKind} {x:Str}:∀ {binds:List (Str × Value)} {m:Str->Option Value},(∀ v,(x,v) ∉ binds)->bindL kindOf binds m x = m x
 | [],_,_=>rfl
 | (n,v) :: r,m,h=>by
  unfold bindL
  rw[Xg fun w hw=>h w (mem_cons_of_mem _ hw)]
  split
  ·have:x ≠ n:=by rintro rfl; exact h v mem_cons_self
   simp [this]
  ·rfl
theorem Wr {kindOf:Str->Option NameKind} {x:Str}:∀ {binds:List (Str × Value)} {m:Str->Option Value},(∀ v,(x,v) ∉ binds)->bindC kindOf binds m x = m x
 | [],_,_=>rfl
 | (n,v) :: r,m,h=>by
  unfold bindC
  rw[Wr fun w hw=>h w (mem_cons_of_mem _ hw)]
  split
  ·rfl
  ·have:x ≠ n:=by rintro rfl; exact h v mem_cons_self
   simp [this]
theorem Xa {kindOf:Str->Option NameKind} {x:Str} {v:Value}:∀ {P:List Str} {vs:List Value} {i:Nat} {m:Str->Option Value},P.Nodup->P[i]? = some x->vs[i]? = some v->kindOf x = some .local ->
  bindL kindOf (P.zip vs) m x = some v
 | [],_,_,_,_,h,_,_=>by simp at h
 | _ :: _,[],_,_,_,_,h,_=>by simp at h
 | p :: P,w :: vs,0,m,nd,h1,h2,hk=>by
  simp at h1 h2; subst h1; subst h2
  show bindL kindOf ((p,w) :: P.zip vs) m p = _
  unfold bindL
  rw[Xg fun v hv=>(nodup_cons.mp nd).1 (of_mem_zip hv).1,if_pos hk]
  simp
 | p :: P,w :: vs,i + 1,m,nd,h1,h2,hk=>by
  show bindL kindOf ((p,w) :: P.zip vs) m x = _
  unfold bindL
  exact Xa (i:=i) (nodup_cons.mp nd).2 (by simpa using h1) (by simpa using h2) hk
theorem Wy {kindOf:Str->Option NameKind} {x:Str} {v:Value}:∀ {P:List Str} {vs:List Value} {i:Nat} {m:Str->Option Value},P.Nodup->P[i]? = some x->vs[i]? = some v->kindOf x ≠ some .local ->
  bindC kindOf (P.zip vs) m x = some v
 | [],_,_,_,_,h,_,_=>by simp at h
 | _ :: _,[],_,_,_,_,h,_=>by simp at h
 | p :: P,w :: vs,0,m,nd,h1,h2,hk=>by
  simp at h1 h2; subst h1; subst h2
  show bindC kindOf ((p,w) :: P.zip vs) m p = _
  unfold bindC
  rw[Wr fun v hv=>(nodup_cons.mp nd).1 (of_mem_zip hv).1,if_neg hk]
  simp
 | p :: P,w :: vs,i + 1,m,nd,h1,h2,hk=>by
  show bindC kindOf ((p,w) :: P.zip vs) m x = _
  unfold bindC
  exact Wy (i:=i) (nodup_cons.mp nd).2 (by simpa using h1) (by simpa using h2) hk
def Nx (N:List Str) (vs:List V):St:=vs.map some ++ replicate (N.length - vs.length) none
def Sv (CX:CXT) (P:Program) (w:World) (K:Frag) (mg:Str->Option Value) (base:Heap) (N:List Str) (qual:Str) (scope:Scope) (f:Addr) (cd:Value) (A:Around) (outer:List Env) (s:Shared) (H:Hp) (E:XK):Cx where
 prog:=P
 w:=w
 K:=K
 mg:=mg
 base:=base
 A:=A.deeper (envOfC qual scope s.heap.objs.size f cd)
 N:=N
 s₀:=s
 H₀:=H
 env:=envOfC qual scope s.heap.objs.size f cd
 outer:=outer
 stack:=envOfC qual scope s.heap.objs.size f cd :: outer
 ex:=[]
 calm:=true
 fn:=fun _=>true
 pn:=[]
 xe:=fun e s'=>wpAny (model P w) (A.deeper (envOfC qual scope s.heap.objs.size f cd)) (leaving (envOfC qual scope s.heap.objs.size f cd) e) (fun _ s''=>CX outer H s E e s'') (fun e' s''=>CX outer H s E e' s'') s'
theorem Zq {sc:Scope} {n:Nat} {x:Str} (h:sc.names.lookup x = some .cell):∃ c,(cellsFrom n sc.names []).lookup x = some c:=by
 have q:=cellsFrom_some sc.names n [] (.inl h)
 exact Option.isSome_iff_exists.mp q
theorem Ad6 {CX:CXT} {P:Program} {w:World} {K:Frag} {mg:Str->Option Value} {base:Heap} {N ps:List Str} {qual:Str} {scope:Scope} {f:Addr} {cd:Value} {A:Around} {outer:List Env} {s s1:Shared} {H:Hp} {E:XK} {us:List Value} {vs:List V}
  (S:Ca N ps scope) (hd:A.handled = none) (e0:Env0 P w K mg base A outer s H) (hl:vs.length = ps.length) (r:Vals vs us)
  (x:InCallC s s.heap.objs.size (bindL (envOfC qual scope s.heap.objs.size f cd).kindOf (ps.zip us) fun _=>none) (cellsFrom (s.heap.objs.size + 1) scope.names []) (bindC (envOfC qual scope s.heap.objs.size f cd).kindOf (ps.zip us) fun _=>none) s1) :
  Inv (Sv CX P w K mg base N qual scope f cd A outer s H E) [] (Nx N vs) H s1:=by
 have hpl:ps.length <= N.length:=by have:=congrArg length S.pre; rw[length_take] at this; omega
 obtain⟨h1,tk,rfl,hk⟩:=x.done
 have noA:∀ b:Addr,b ∉ (Sv CX P w K mg base N qual scope f cd A outer s H E).ex:=fun b z=>absurd (show b ∈ ([]:List Addr) from z) (by simp)
 refine⟨⟨e0.mod,S.kind,rfl,rfl,Nat.le_refl _,fun y z c h1 h2=>?_,fun y hy=>?_,fun y c _ h=>?_,fun _=>hd,Around.frames_deeper e0.frames,.inr ⟨rfl,rfl⟩,fun b z=>absurd z (noA b),e0.bs,e0.bsz,fun b _ _=>noA b,fun b z=>absurd z (noA b),e0.funs,e0.frf⟩,
  rfl,e0.bare,Un.kept hk,⟨_,x.toInCall.ns,fun i y v h1 h2 h3=>?_⟩,fun y c h=>⟨_,x.cell y c h⟩,e0.hok.fresh (Nat.le_refl _),fun y c h=>?_,fun p hp=>absurd (show p ∈ ([]:List (Addr × Obj)) from hp) (by simp),e0.hok.kept hk,?_⟩
 ·exact name_of_addr x.apart (PySem.mem_of_lookup h1) (PySem.mem_of_lookup h2)
 ·have hy:scope.names.lookup y = some .cell\/scope.names.lookup y = some .free:=hy
  rcases hy with hy | hy
  ·exact Zq hy
  ·exact absurd rfl (S.nofree _ (PySem.mem_of_lookup hy))
 ·exact Nat.le_of_lt (x.above y c (PySem.mem_of_lookup h))
 ·have hi:i < vs.length:=by
   unfold Nx at h2
   by_cases hi:i < vs.length
   ·exact hi
   ·rw[getElem?_append_right (by simpa using hi)] at h2
    rw[getElem?_replicate] at h2
    split at h2 <;> cases h2
  have ha:vs[i]? = some v:=by
   unfold Nx at h2
   rw[getElem?_append_left (by simpa using hi),getElem?_map] at h2
   cases e:vs[i]? with
   | none=>rw[e] at h2; cases h2
   | some a=>rw[e] at h2; cases h2; rfl
  obtain⟨u,hu,rv⟩:=r.get ha
  have hp:ps[i]? = some y:=by
   rw[<- S.pre,List.getElem?_take_of_lt (by omega)]; exact h1
  have ndP:ps.Nodup:=by rw[<- S.pre]; exact S.nd.sublist (List.take_sublist _ _)
  refine⟨u,rv,?_⟩
  rcases S.par y (mem_of_getElem? hp) with k | k
  ·exact .inl ⟨k,Xa ndP hp hu k⟩
  ·obtain⟨c,e⟩:=Zq (n:=s.heap.objs.size + 1) k
   refine .inr ⟨.inl k,c,e,?_⟩
   have q:=x.cell y c e
   rw[Wy ndP hp hu (by show scope.names.lookup y ≠ _; rw[k]; decide)] at q
   exact q
 ·exact e0.hok.fresh (Nat.le_of_lt (x.above y c (PySem.mem_of_lookup h)))
 ·unfold Nx
  show _ = N.length
  rw[length_append,length_map,length_replicate]
  omega
theorem AhE {CX:CXT} {P:Program} {w:World} {K:Frag} {mg:Str->Option Value} {base:Heap} {k:Nat} {f:Addr} {name qual:Str} {params:Arguments} {body:List Stmt} {scope:Scope} {dV kV doc pm cdv ct oc:Value} {an od:Option Addr}
  {osl:Array (Option Value)} {N ps:List Str} {sp:Sp} (lk:K.lookup f = some ⟨oc,od,.func (fnOf name qual params body scope dV kV doc pm an cdv ct),osl⟩) (hcd:codeIn K cdv qual = true) (S:Ca N ps scope)
  (len:∀ vs H Q E,sp vs H Q E->vs.length = ps.length)
  (hbody:∀ (A:Around) (outer:List Env) (s:Shared) (H:Hp) (vs:List V) (Q:VK) (E:XK),Room k (A.deeper (envOfC qual scope s.heap.objs.size f cdv))->sp vs H Q E ->
   ∃ t,PSs (Sv CX P w K mg base N qual scope f cdv A outer s H E) body t/\t { nx:=fun _ H'=>Q .non H',rt:=Q } (Nx N vs) H) :
  FnOk P w K mg base CX (k + 1) f (fnOf name qual params body scope dV kV doc pm an cdv ct) ps sp:=by
 refine⟨len,fun A outer s H args us vs Q E hr e0 hb r hsp=>?_⟩
 have hl:=len _ _ _ _ hsp
 have KX:K.In s.heap:=e0.mod.kin.keeps fun b o e=>(e0.bs b o e).1
 have lim:s.heap.NoLimit:=e0.mod.nolimit.keeps fun b o e=>(e0.bs b o e).1
 have hkind:∀ y ∈ ps.zip us,scope.names.lookup y.1 = some .local\/(scope.names.lookup y.1 = some .cell/\((cellsFrom (s.heap.objs.size + 1) scope.names []).lookup y.1).isSome = true):=fun⟨n,v⟩ hy=>by
  rcases S.par n (of_mem_zip hy).1 with q | q
  ·exact .inl q
  ·exact .inr ⟨q,cellsFrom_some _ _ _ (.inl q)⟩
 refine codeAny_call_function hr.depth (KX _ _ lk) rfl S.co S.gen rfl (PySem.W.codeRec_of KX hcd) (hb _ _ _ _ ?_)
 refine wpAny_newFunctionEnv_cells S.kind hkind fun env he s1 x=>?_
 subst he
 refine⟨lim.keeps x.toInCall.keep,codeAny_func ?_⟩
 obtain⟨t,ht,hq⟩:=hbody A outer s H vs Q E (hr.deeper _) hsp
 have I:Inv (Sv CX P w K mg base N qual scope f cdv A outer s H E) [] (Nx N vs) H s1:=Ad6 S hr.hd e0 hl r x
 refine wpAny_mono (ht [] s1 (Nx N vs) H _ I hq) (fun fl s' hs=>?_) fun e s' hs=>hs
 have fin:∀ {σ':St} {H':Hp} {v:V} {u:Value},Inv (Sv CX P w K mg base N qual scope f cdv A outer s H E) [] σ' H' s'->RelV v u->Q v H'->CE outer P w H s Q u s' :=
  fun {σ' H' v u} J rv q=>⟨v,H',J.os,J.bare,J.base,J.hok,rv,q⟩
 cases fl with
 | ret u =>
  obtain⟨v,σ',H',J,rv,q⟩:=hs
  exact fin J rv q
 | next =>
  obtain⟨σ',H',J,q⟩:=hs
  exact fin (v:=V.non) (u:=Value.none) J rfl q
 | brk =>
  obtain⟨_,_,_,q⟩:=hs
  exact False.elim q
 | cont =>
  obtain⟨_,_,_,q⟩:=hs
  exact False.elim q
end L2
namespace L2
open PySem PySem.Spec PyProof.Rows
section
variable {X:Cx} {x:Str} {p pos:Pos} {e:Expr} {es:List Expr} {t:TA} {id T:String} {r:List V->Hp->VK->Prop}
def tCB (r:List V->Hp->VK->Prop) (t:TA):TE:=fun σ H Q=>t σ H fun vs H1=>r vs H1 Q
theorem Cg (hc:Jp X (.builtin id) r) (hg:Gl X x) (hm:X.mg x = none) (hv:bootBuiltins x = some (.builtin id)) (ha:PA X (e :: es) t) (hn:x ≠ "__name__":=by decide) (hdb:(x == ("__debug__" : Str)) = false:=by decide)
  (he:starEach (e :: es) X.env = (false,eval e X.env) :: starEach es X.env:=by rfl) (hpl:(backTo pos (starEach es X.env)).any (·.1) = false:=by rfl):PE X (.Call (.Name x p) (e :: es) [] pos) (tCB r t):=by
 intro pins s σ H Q I h
 refine wpAny_Call_Name_kw (Lj I hg hm hv ?_ hn hdb)
 exact PyProof.Rows.callWith_builtin1 (thn (ha pos pins s σ H _ I h) fun us s1 ⟨vs,H1,I1,r1,q1⟩=>hc pins s1 σ H1 vs us Q I1 r1 q1) he hpl
theorem Gq (hc:Jp X (.type T) r) (hg:Gl X x) (hm:X.mg x = none) (hv:bootBuiltins x = some (.type T)) (ha:PA X (e :: es) t) (hn:x ≠ "__name__":=by decide) (hdb:(x == ("__debug__" : Str)) = false:=by decide)
  (he:starEach (e :: es) X.env = (false,eval e X.env) :: starEach es X.env:=by rfl) (hpl:(backTo pos (starEach es X.env)).any (·.1) = false:=by rfl):PE X (.Call (.Name x p) (e :: es) [] pos) (tCB r t):=by
 intro pins s σ H Q I h
 refine wpAny_Call_Name_kw (Lj I hg hm hv ?_ hn hdb)
 exact PyProof.Rows.callWith_type1 (thn (ha pos pins s σ H _ I h) fun us s1 ⟨vs,H1,I1,r1,q1⟩=>hc pins s1 σ H1 vs us Q I1 r1 q1) he hpl
end
end L2
namespace HT
open PySem PyProof.Rows
section
open PySem.SeqAt
open PySem.AutoSeq1 (wpAny_loadPart')
open PySem.MeetsSeq PySem.MeetsSeq2 PySem.MeetsSeq3
end
section
variable {prog:Program} {w:World} {A:Around} {E:Value->Shared->Prop} {s:Shared}
def sIx (n d:Nat):Option Int->Nat
 | none=>d
 | some v=>if v < 0 then (v + (n:Int)).toNat else min v.toNat n
theorem sIx_none (n d:Nat):sIx n d none = d:=rfl
theorem sIx_nat (n d k:Nat):sIx n d (some (k:Int)) = min k n:=by
 show (if (k:Int) < 0 then ((k:Int) + (n:Int)).toNat else min (k:Int).toNat n) = min k n
 rw[if_neg (by omega),toNat_natCast]
end
end HT
namespace L2
open PySem PySem.Spec PyProof.Rows
abbrev TO:=St->Hp->(Option Int->Hp->Prop)->Prop
def PO (X:Cx) (e:Option Expr) (t:TO):Prop :=
 ∀ (pins:List (Addr × Obj)) (s:Shared) (σ:St) (H:Hp) (Q:Option Int->Hp->Prop),Inv X pins σ H s->t σ H Q ->
  wpAny (model X.prog X.w) X.A (evalPart e X.env) (fun u s'=>∃ o H',Inv X pins σ H' s'/\IsPart u o/\Q o H') X.xe s
def Aa7:TO:=fun _ H Q=>Q none H
def Agt (t:TE):TO:=fun σ H Q=>t σ H fun x H1=>∃ i,x = .int i/\Q (some i) H1
section
variable {X:Cx} {e:Expr} {te:TE} {lo hi:Option Expr} {tl th:TO} {pos p2:Pos}
theorem Wg:PO X none Aa7:=by
 intro pins s σ H Q I h
 rw[evalPart_none]
 exact wpAny_pure ⟨none,H,I,.none,h⟩
theorem Jh (h:PE X e te):PO X (some e) (Agt te):=by
 intro pins s σ H Q I hw
 rw[evalPart_some]
 refine thn (h pins s σ H _ I hw) fun u s1 ⟨x,H1,I1,r1,q1⟩=>?_
 obtain⟨i,rfl,q⟩:=q1
 obtain⟨t,rfl⟩:=r1
 exact⟨some i,H1,I1,.int i t,q⟩
def SlR (X:Cx) (r:V->Option Int->Option Int->Hp->VK->Prop):Prop :=
 ∀ (pins:List (Addr × Obj)) (s:Shared) (σ:St) (H:Hp) (x:V) (v vl vu:Value) (lo hi:Option Int) (sl:Addr) (Q:VK),Inv X pins σ H s->RelV x v->s.heap.IsSliceOf sl vl vu .none->IsPart vl lo->IsPart vu hi->r x lo hi H Q ->
  ∃ T id,typeLookup (.type T) "__getitem__" = pure (some (.builtin id))/\s.TypeIs v T/\wpAny (model X.prog X.w) X.A (getItem v (.ref sl)) (EP X pins σ Q) X.xe s
def tSl (r:V->Option Int->Option Int->Hp->VK->Prop) (te:TE) (tl th:TO):TE:=fun σ H Q=>te σ H fun x H1=>tl σ H1 fun l H2=>th σ H2 fun u H3=>r x l u H3 Q
theorem Nh {r:V->Option Int->Option Int->Hp->VK->Prop} (hr:SlR X r) (he:PE X e te) (hl:PO X lo tl) (hu:PO X hi th):PE X (.Subscript e (.Slice lo hi none p2) pos) (tSl r te tl th):=by
 intro pins s σ H Q I h
 refine Subscript_ (thn (he pins s σ H _ I h) fun v s1 ⟨x,H1,I1,r1,q1⟩=>?_)
 refine wpAny_Slice (thn (hl pins s1 σ H1 _ I1 q1) fun vl s2 ⟨l,H2,I2,pl,q2⟩=>thn (hu pins s2 σ H2 _ I2 q2) fun vu s3 ⟨u,H3,I3,pu,q3⟩=>?_)
 rw[evalPart_none]
 refine wpAny_pure ?_
 have I4:Inv X pins σ H3 { s3 with heap:=s3.heap.push { cls:=.type "slice",data:=.fields #[vl,vu,.none] } }:=I3.kept (t':=s3.toks) fun b ob q=>get?_push_of_some _ q
 obtain⟨T,id,hT,ht,hg⟩:=hr pins { s3 with heap:=s3.heap.push { cls:=.type "slice",data:=.fields #[vl,vu,.none] } } σ H3 x v vl vu l u s3.heap.objs.size Q I4 r1 (Heap.IsSliceOf.new ..) pl pu q3
 show wpAny (model X.prog X.w) X.A (subscriptTail e (.Slice lo hi none p2) v (.ref s3.heap.objs.size)) (EP X pins σ Q) X.xe { s3 with heap:=s3.heap.push { cls:=.type "slice",data:=.fields #[vl,vu,.none] } }
 exact tail_any (ops:=[.ref s3.heap.objs.size,v]) ht hT hg (by with_unfolding_all rfl)
def Uc (xs:List V) (lo hi:Option Int):List V:=(xs.drop (HT.sIx xs.length 0 lo)).take (HT.sIx xs.length xs.length hi - HT.sIx xs.length 0 lo)
theorem AaP (xs:List V) (lo hi:Option Int):(Uc xs lo hi).length <= xs.length:=by
 unfold Uc
 rw[length_take,length_drop]
 omega
end
end L2
namespace L2
open PySem PySem.Spec PyProof.Rows
def ixN (n:Nat) (i:Int):Option Nat:=if 0 <= i then (if i < n then some i.toNat else none) else if -(n:Int) <= i then some (i + n).toNat else none
def atI {α:Type} (xs:List α) (i:Int):Option α:=(ixN xs.length i).bind fun j=>xs[j]?
theorem AaT {n:Nat} {i:Int} {j:Nat} (h:ixN n i = some j):seqIndex? i n = some j/\j < n/\-(n:Int) <= i/\i < n:=by
 unfold ixN at h
 by_cases h0:0 <= i
 ·rw[if_pos h0] at h
  by_cases h1:i < n
  ·rw[if_pos h1] at h
   have e:i.toNat = j:=Option.some.inj h
   exact⟨by rw[seqIndex_of h0 h1,e],by omega,by omega,h1⟩
  ·rw[if_neg h1] at h; cases h
 ·rw[if_neg h0] at h
  by_cases h1:-(n:Int) <= i
  ·rw[if_pos h1] at h
   have e:(i + n).toNat = j:=Option.some.inj h
   exact⟨by rw[seqIndex_neg (by omega) h1,e],by omega,h1,by omega⟩
  ·rw[if_neg h1] at h; cases h
theorem Abl {α:Type} {xs:List α} {i:Int} {v:α} (h:atI xs i = some v):∃ j,seqIndex? i xs.length = some j/\xs[j]? = some v/\j < xs.length/\-(xs.length:Int) <= i/\i < xs.length:=by
 unfold atI at h
 cases e:ixN xs.length i with
 | none=>rw[e] at h; cases h
 | some j =>
  rw[e] at h
  obtain⟨h1,h2,h3,h4⟩:=AaT e
  exact⟨j,h1,h,h2,h3,h4⟩
theorem Fj {α:Type} {xs:List α} {j:Nat} {v:α} (h:xs[j]? = some v):atI xs (j:Int) = some v:=by
 have hj:j < xs.length:=(List.getElem?_eq_some_iff.mp h).1
 have e:ixN xs.length (j:Int) = some j:=by
  unfold ixN
  rw[if_pos (by omega),if_pos (by omega)]; simp
 unfold atI; rw[e]; exact h
def Ai8 (b:Expr):Prop:=∀ o i,subscripted b false o i = operate [o,i] (getItem o i)
def IxR (X:Cx) (r:R2):Prop :=
 ∀ (value slice:Expr) (pins:List (Addr × Obj)) (s:Shared) (σ:St) (H:Hp) (x y:V) (v u:Value) (Q:VK),Inv X pins σ H s->RelV x v->RelV y u->r x y H Q ->
  subscripted slice false v u = operate [v,u] (getItem v u)->wpAny (model X.prog X.w) X.A (subscriptTail value slice v u) (EP X pins σ Q) X.xe s
def MtR (X:Cx) (id:String) (r:V->List V->Hp->VK->Prop):Prop :=
 ∀ (pins:List (Addr × Obj)) (s:Shared) (σ:St) (H:Hp) (x:V) (xs:List V) (v:Value) (us:List Value) (Q:VK),Inv X pins σ H s->RelV x v->Vals xs us->r x xs H Q ->
  wpAny (model X.prog X.w) X.A (call (.builtin id) (v :: us)) (EP X pins σ Q) X.xe s
section
variable {X:Cx} {a b:Expr} {ta tb:TE} {pos:Pos}
theorem Ce {r:R2} (hr:IxR X r) (ha:PE X a ta) (hb:PE X b tb) (hs:Ai8 b):PE X (.Subscript a b pos) (tOp r ta tb):=by
 intro pins s σ H Q I h
 exact Subscript_ (Af3 ha hb I h fun v u s2 x y H2 I2 rx ry q=>hr a b pins s2 σ H2 x y v u Q I2 rx ry q (hs _ _))
def AaF (K:Frag):R2:=fun x y H Q=>∃ p xs i v,x = .ref p/\y = .int i/\SqL K H p xs/\atI xs i = some v/\Q v H
def Wq (K:Frag):R2:=fun x y H Q=>∃ p xs i v,x = .ref p/\y = .int i/\SqT K H p xs/\atI xs i = some v/\Q v H
theorem Vq:IxR X (AaF X.K):=by
 intro value slice pins s σ H x y v u Q I rx ry h hs
 obtain⟨p,xs,i,z,rfl,rfl,hq,he,q⟩:=h
 cases rx
 obtain⟨t,rfl⟩:=ry
 obtain⟨its,r,pl,hz⟩:=I.list hq
 obtain⟨j,h1,h2,h3,h4,h5⟩:=Abl he
 obtain⟨w,ew,rw'⟩:=r.get h2
 have hl:=r.length
 have hn:=Vm
 have fin:EP X pins σ Q w s:=⟨z,H,I,rw',q⟩
 by_cases h0:0 <= i
 ·have hj:i.toNat = j:=by
   rw[seqIndex_of h0 h5] at h1
   exact Option.some.inj h1
  exact item_listR pl.isList h0 (by omega) (by rw[hj]; simpa using ew) fin hs
 ·have hj:(i + (its.toArray.size:Int)).toNat = j:=by
   rw[seqIndex_neg (by omega) h4] at h1
   rw[size_toArray,<- hl]
   exact Option.some.inj h1
  exact subscriptTail_builtinR (x:=w) pl.isList.typeIs slot_list_getitem.lookup
   (wpAny_getItem_list_neg (Q:=fun r s'=>r = w/\EP X pins σ Q r s') pl.isList (by omega) (by rw[size_toArray] <;> omega) (by omega) (by rw[hj]; simpa using ew) ⟨rfl,fin⟩) hs
theorem Aek:IxR X (Wq X.K):=by
 intro value slice pins s σ H x y v u Q I rx ry h hs
 obtain⟨p,xs,i,z,rfl,rfl,hq,he,q⟩:=h
 cases rx
 obtain⟨t,rfl⟩:=ry
 obtain⟨its,r,pl,hz⟩:=I.tuple hq
 obtain⟨j,h1,h2,h3,h4,h5⟩:=Abl he
 obtain⟨w,ew,rw'⟩:=r.get h2
 have hl:=r.length
 have hn:=Vm
 have fin:EP X pins σ Q w s:=⟨z,H,I,rw',q⟩
 exact subscriptTail_builtinR (x:=w) pl.typeIs slot_tuple_getitem.lookup
  (getItem_tuple (j:=j) (Q:=fun r s'=>r = w/\EP X pins σ Q r s') pl (by omega) (by omega) (by rw[size_toArray,<- hl]; exact h1) (by simpa using ew) ⟨rfl,fin⟩) hs
theorem Acu (its:List Value) (n j:Nat) (u:Value):Obj.mapSeq (·.setIfInBounds j u) { cls:=.type "list",data:=.seq its.toArray n } = { cls:=.type "list",data:=.seq (its.set j u).toArray n }:=by
 simp [Obj.mapSeq]
theorem Inv.lst {pins:List (Addr × Obj)} {σ:St} {H:Hp} {s:Shared} {p:Addr} {xs:List V} (I:Inv X pins σ H s) (h:H p = some (.lst xs)) :
  ∃ (its:List Value) (n:Nat),Vals xs its/\s.heap.get? p = some { cls:=.type "list",data:=.seq its.toArray n }/\xs.length <= sizeLine:=by
 obtain⟨z,its,n,r,e⟩:=I.hok p _ h
 exact⟨its,n,r,e,z⟩
theorem Inv.lstUpd {pins:List (Addr × Obj)} {σ:St} {H:Hp} {s:Shared} {p:Addr} {xs ys:List V} {its its':List Value} {n n':Nat} {f:Obj->Obj} (I:Inv X pins σ H s) (h:H p = some (.lst xs))
  (ho:s.heap.get? p = some { cls:=.type "list",data:=.seq its.toArray n }) (hf:f { cls:=.type "list",data:=.seq its.toArray n } = { cls:=.type "list",data:=.seq its'.toArray n' }) (r:Vals ys its') (hz:ys.length <= sizeLine) (t:Nat) :
  Inv X pins σ (upd H p (.lst ys)) { s with heap:=s.heap.update p f,toks:=t }:=by
 have e:(s.heap.update p f).get? p = some { cls:=.type "list",data:=.seq its'.toArray n' }:=by
  rw[Heap.get?_update_self f ho (by rw[hf] <;> rfl),hf]
 refine I.write (x:=p) (e:=p) (by rw[h]; trivial) (.inl rfl) (fun b u hb q=>(Heap.get?_update_other _ _ (Ne.symm hb)).trans q) ⟨_,e⟩ ?_
 exact⟨hz,its',n',r,e⟩
def Anx:V->V->V->Hp->(Hp->Prop)->Prop:=fun o i v H Q=>∃ p xs k j,o = .ref p/\i = .int k/\H p = some (.lst xs)/\ixN xs.length k = some j/\Q (upd H p (.lst (xs.set j v)))
theorem AfZ:AfN X Anx:=by
 intro pins s σ H o i v ov iv u Q I ro ri rv h
 obtain⟨p,xs,k,j,rfl,rfl,hp,hj,q⟩:=h
 cases ro
 obtain⟨t,rfl⟩:=ri
 obtain⟨its,n,r,ho,hz⟩:=I.lst hp
 obtain⟨h1,h2,h3,h4⟩:=AaT hj
 have hl:=r.length
 have hn:=Vm
 have I':Inv X pins σ (upd H p (.lst (xs.set j v))) { s with heap:=s.heap.update p (Obj.mapSeq (·.setIfInBounds j u)) } :=
  I.lstUpd hp ho (Acu its n j u) (r.set rv j) (by rw[length_set]; exact hz) s.toks
 by_cases h0:0 <= k
 ·have hk:k.toNat = j:=by
   rw[seqIndex_of h0 h4] at h1
   exact Option.some.inj h1
  exact PySem.W.ki_setAt ho h0 (by omega) (by rw[size_toArray,<- hl]; exact h4) (by rw[hk]; exact⟨_,I',q⟩)
 ·have hk:(k + (its.toArray.size:Int)).toNat = j:=by
   rw[seqIndex_neg (by omega) h3] at h1
   rw[size_toArray,<- hl]
   exact Option.some.inj h1
  exact PySem.W.ki_setBack ho (by omega) (by rw[size_toArray,<- hl]; exact h3) (by omega) (by rw[hk]; exact⟨_,I',q⟩)
theorem AaJ (lo hi:Option Int) (n:Nat):(sliceBounds lo hi none n).1 = ((HT.sIx n 0 lo:Nat):Int)/\(sliceBounds lo hi none n).2.1 = ((HT.sIx n n hi:Nat):Int)/\(sliceBounds lo hi none n).2.2 = 1:=by
 refine⟨?_,?_,rfl⟩
 ·cases lo with
  | none=>simp [sliceBounds,HT.sIx]
  | some i =>
   simp only [sliceBounds,HT.sIx,getD_none,show (1:Int) > 0 by decide,if_true]
   by_cases h:i < 0
   ·simp only [h,if_true] <;> omega
   ·simp only [h,if_false] <;> omega
 ·cases hi with
  | none=>simp [sliceBounds,HT.sIx]
  | some i =>
   simp only [sliceBounds,HT.sIx,getD_none,show (1:Int) > 0 by decide,if_true]
   by_cases h:i < 0
   ·simp only [h,if_true] <;> omega
   ·simp only [h,if_false] <;> omega
theorem Xl (its:List Value) (lo hi:Option Int):slicePick its.toArray lo hi none = ((its.drop (HT.sIx its.length 0 lo)).take (HT.sIx its.length its.length hi - HT.sIx its.length 0 lo)).toArray:=by
 obtain⟨h1,h2,h3⟩:=AaJ lo hi its.toArray.size
 unfold slicePick
 rw[h1,h2,h3]
 simp only [sliceRange_one,pick_run,size_toArray] <;> rfl
def Anz (K:Frag):V->Option Int->Option Int->Hp->VK->Prop:=fun x lo hi H Q=>∃ a xs,x = .ref a/\SqL K H a xs/\∀ p,H p = none->Q (.ref p) (upd H p (.lst (Uc xs lo hi)))
theorem AiE:SlR X (Anz X.K):=by
 intro pins s σ H x v vl vu lo hi sl Q I rx hs pl pu h
 obtain⟨a,xs,rfl,hx,q⟩:=h
 cases rx
 obtain⟨its,r,ht,hz⟩:=I.list hx
 have hlen:=r.length
 refine⟨"list",_,slot_list_getitem.lookup,ht.isList.typeIs,?_⟩
 refine wpAny_getItem_list_slice ht.isList hs pl pu .none (by simp) ?_ (by rw[size_toArray] <;> omega)
 rw[Xl,<- hlen]
 refine⟨.ref s.heap.objs.size,_,I.laid (t':=s.toks) (o:=.lst (Uc xs lo hi)) (fun b ob q=>get?_push_of_some _ q) (Nat.le_refl _) ?_,rfl,q _ (I.hok.fresh (Nat.le_refl _))⟩
 exact⟨Nat.le_trans (AaP xs lo hi) hz,_,0,(r.drop (HT.sIx xs.length 0 lo)).take (HT.sIx xs.length xs.length hi - HT.sIx xs.length 0 lo),get?_push_size _ rfl⟩
def Lm:V->Bool
 | .non=>true
 | .bl _=>true
 | .int _=>true
 | .str _=>true
 | _=>false
def eqV:V->V->Bool
 | .non,.non=>true
 | .bl a,.bl b=>a == b
 | .bl a,.int b=>(if a then 1 else 0) == b
 | .int a,.bl b=>a == (if b then 1 else 0)
 | .int a,.int b=>a == b
 | .str a,.str b=>a == b
 | _,_=>false
theorem AeM {A:Around} {s:Shared} {y x:V} {u v:Value} (ry:RelV y u) (rx:RelV x v) (fy:Lm y = true) (fx:Lm x = true):SeqAt.EqAt A s u v (eqV y x):=by
 cases y with
 | non =>
  cases ry
  cases x with
  | non=>cases rx; exact SeqAt.EqAt.same _
  | bl b=>cases rx; exact SeqAt.EqAt.none_bool b
  | int b=>obtain⟨t,rfl⟩:=rx; exact SeqAt.EqAt.none_int b t
  | str b=>obtain⟨t,rfl⟩:=rx; exact SeqAt.EqAt.none_str b t
  | _=>exact absurd (show false = true from fx) Bool.false_ne_true
 | bl a =>
  cases ry
  cases x with
  | non=>cases rx; exact SeqAt.EqAt.bool_none a
  | bl b=>cases rx; exact SeqAt.EqAt.bool_bool a b
  | int b=>obtain⟨t,rfl⟩:=rx; exact SeqAt.EqAt.bool_int a b t
  | str b=>obtain⟨t,rfl⟩:=rx; exact SeqAt.EqAt.bool_str a b t
  | _=>exact absurd (show false = true from fx) Bool.false_ne_true
 | int a =>
  obtain⟨t',rfl⟩:=ry
  cases x with
  | non=>cases rx; exact SeqAt.EqAt.int_none a t'
  | bl b=>cases rx; exact SeqAt.EqAt.int_bool a t' b
  | int b=>obtain⟨t,rfl⟩:=rx; exact SeqAt.EqAt.int_int a t' b t
  | str b=>obtain⟨t,rfl⟩:=rx; exact SeqAt.EqAt.int_str a t' b t
  | _=>exact absurd (show false = true from fx) Bool.false_ne_true
 | str a =>
  obtain⟨t',rfl⟩:=ry
  cases x with
  | non=>cases rx; exact SeqAt.EqAt.str_none a t'
  | bl b=>cases rx; exact SeqAt.EqAt.str_bool a t' b
  | int b=>obtain⟨t,rfl⟩:=rx; exact SeqAt.EqAt.str_int a t' b t
  | str b=>obtain⟨t,rfl⟩:=rx; exact SeqAt.EqAt.str_str a t' b t
  | _=>exact absurd (show false = true from fx) Bool.false_ne_true
 | _=>exact absurd (show false = true from fy) Bool.false_ne_true
def eqU (x:V) (u:Value):Bool:=match u with
 | .none=>eqV .non x
 | .bool b=>eqV (.bl b) x
 | .int i _=>eqV (.int i) x
 | .str z _=>eqV (.str z) x
 | _=>false
theorem AdP {x y:V} {u:Value} (r:RelV y u) (f:Lm y = true):eqU x u = eqV y x:=by
 cases y with
 | non=>cases r; rfl
 | bl b=>cases r; rfl
 | int i=>obtain⟨t,rfl⟩:=r; rfl
 | str z=>obtain⟨t,rfl⟩:=r; rfl
 | _=>exact absurd (show false = true from f) Bool.false_ne_true
theorem Wd {x:V}:∀ {xs:List V} {us:List Value},Vals xs us->xs.all Lm = true->us.any (eqU x) = xs.any fun y=>eqV y x
 | _,_,.nil,_=>rfl
 | y :: xs,u :: us,.cons r t,f=>by
  rw[all_cons,and_eq_true] at f
  rw[any_cons,any_cons,AdP r f.1,Wd t f.2]
theorem Ua {A:Around} {s:Shared} {x:V} {v:Value} (rx:RelV x v) (fx:Lm x = true):∀ {xs:List V} {us:List Value},Vals xs us->xs.all Lm = true->∀ u ∈ us,SeqAt.EqAt A s u v (eqU x u)
 | _,_,.nil,_=>fun u hu=>by cases hu
 | y :: xs,u :: us,.cons r t,f=>fun u' hu=>by
  rw[all_cons,and_eq_true] at f
  rcases mem_cons.mp hu with rfl | hu
  ·rw[AdP r f.1]; exact AeM r rx f.1 fx
  ·exact Ua rx fx t f.2 u' hu
def inV (x:V) (xs:List V):Bool:=xs.any fun y=>eqV y x
def rIn (K:Frag) (neg:Bool):R2:=fun x y H Q=>∃ p xs,y = .ref p/\(SqL K H p xs\/SqT K H p xs)/\Lm x = true/\xs.all Lm = true/\Q (.bl (if neg then !inV x xs else inV x xs)) H
theorem Su:OpR X (compareOp .In) (rIn X.K false):=by
 intro pins s σ H x y v u Q I rx ry h
 obtain⟨p,xs,rfl,hq,fx,fs,q⟩:=h
 cases ry
 rcases hq with hq | hq
 ·obtain⟨its,r,pl,hz⟩:=I.list hq
  refine SeqAt.in_listAt (eqU x) pl.isList (fun w hw=>Ua rx fx r fs w (by simpa using hw)) ⟨.bl _,H,I,rfl,?_⟩
  rw[show its.toArray.any (eqU x) = its.any (eqU x) by simp,Wd r fs]
  exact q
 ·obtain⟨its,r,pl,hz⟩:=I.tuple hq
  refine SeqAt.in_tupleAt (eqU x) pl (fun w hw=>Ua rx fx r fs w (by simpa using hw)) ⟨.bl _,H,I,rfl,?_⟩
  rw[show its.toArray.any (eqU x) = its.any (eqU x) by simp,Wd r fs]
  exact q
theorem Lh:Jp X (.builtin "len") (fun xs H Q=>∃ p ys,xs = [.ref p]/\(SqL X.K H p ys\/SqT X.K H p ys)/\Q (.int ys.length) H):=by
 intro pins s σ H xs us Q I r h
 obtain⟨p,ys,rfl,hq,q⟩:=h
 obtain⟨u,rfl,rx⟩:=Rx r
 cases rx
 have hn:=Vm
 rcases hq with hq | hq
 ·obtain⟨its,r',pl,hz⟩:=I.list hq
  have hlen:=r'.length
  exact Calls.call_len_list pl.isList (by simp only [size_toArray] <;> omega) ⟨.int ys.length,H,I.tok _,⟨s.toks + 1,by rw[size_toArray,hlen]⟩,q⟩
 ·obtain⟨its,r',pl,hz⟩:=I.tuple hq
  have hlen:=r'.length
  exact len_tuple pl (by simp only [size_toArray] <;> omega) ⟨.int ys.length,H,I.tok _,⟨s.toks + 1,by rw[size_toArray,hlen]⟩,q⟩
theorem Aaj:Jp X (.type "list") (fun xs H Q=>∃ p ys,xs = [.ref p]/\(SqL X.K H p ys\/SqT X.K H p ys)/\∀ l,H l = none->Q (.ref l) (upd H l (.lst ys))):=by
 intro pins s σ H xs us Q I r h
 obtain⟨p,ys,rfl,hq,q⟩:=h
 obtain⟨u,rfl,rx⟩:=Rx r
 cases rx
 have fin:∀ (its:List Value),Vals ys its->ys.length <= sizeLine->∀ (h':Heap) (c':Nat),(∀ b o',s.heap.get? b = some o'->h'.get? b = some o') ->
   h'.get? s.heap.objs.size = some { cls:=.type "list",dict:=none,data:=.seq its.toArray c',slots:=#[] }->EP X pins σ Q (.ref s.heap.objs.size) { s with heap:=h' }:=fun its r' hz h' c' kp e =>
  ⟨.ref s.heap.objs.size,_,I.laid (t':=s.toks) kp (Nat.le_refl _) (show ObjOk X.prog X.w _ h' _ (.lst ys) from ⟨hz,its,c',r',e⟩),rfl,q _ (I.hok.fresh (Nat.le_refl _))⟩
 rcases hq with hq | hq
 ·obtain⟨its,r',pl,hz⟩:=I.list hq
  have hlen:=r'.length
  obtain⟨o,ho,hc,n,hd⟩:=pl.isList
  exact call_list_seq p (.inl rfl) ho hc hd (fun h' c' kp e=>fin its r' hz h' c' kp e) (by simp only [size_toArray] <;> omega)
 ·obtain⟨its,r',pl,hz⟩:=I.tuple hq
  have hlen:=r'.length
  obtain⟨o,ho,hc,n,hd⟩:=pl
  exact call_list_seq p (.inr rfl) ho hc hd (fun h' c' kp e=>fin its r' hz h' c' kp e) (by simp only [size_toArray] <;> omega)
def tyV (K:Frag) (T:String) (x:V) (H:Hp):Prop:=match x with
 | .str _=>T = "str"
 | .int _=>T = "int"
 | .ref p=>(T = "list"/\∃ xs,SqL K H p xs)\/(T = "tuple"/\∃ o,K.lookup p = some o/\o.cls = .type "tuple"/\o.dict = none) \/
   (T = "dict"/\((∃ kvs,H p = some (.dK kvs))\/∃ kvs,H p = some (.dT kvs)))\/(T = "set"/\∃ S n,H p = some (.set S n))
 | _=>False
theorem Aeu {pins:List (Addr × Obj)} {σ:St} {H:Hp} {s:Shared} {T:String} {x:V} {v:Value} (I:Inv X pins σ H s) (r:RelV x v) (ty:tyV X.K T x H) :
  s.TypeIs v T/\∀ a,v = .ref a->∃ ob,s.heap.get? a = some ob/\ob.dict = none:=by
 cases x with
 | str z =>
  obtain⟨t,rfl⟩:=r
  cases (show T = "str" from ty)
  exact⟨typeIs_str s z t,fun _ e=>nomatch e⟩
 | int i =>
  obtain⟨t,rfl⟩:=r
  cases (show T = "int" from ty)
  exact⟨typeIs_int s i t,fun _ e=>nomatch e⟩
 | ref p =>
  cases r
  rcases ty with ⟨rfl,xs,hq⟩ | ⟨rfl,o,hk,hc,hd⟩ | ⟨rfl,hk⟩ | ⟨rfl,S,n,hk⟩
  ·obtain⟨its,_,pl,_⟩:=I.list hq
   refine⟨pl.isList.typeIs,fun a e=>?_⟩
   cases e
   obtain⟨o,n,e,c,hd,_⟩:=pl
   exact⟨o,e,hd⟩
  ·refine⟨⟨o,I.kIn p o hk,hc⟩,fun a e=>?_⟩
   cases e
   exact⟨o,I.kIn _ o hk,hd⟩
  ·have z:∃ o,s.heap.get? p = some o/\o.ExactDict:=by
    rcases hk with ⟨kvs,hk⟩ | ⟨kvs,hk⟩
    ·obtain⟨_,_,_,_,o,_,_,e,ex,_⟩:=I.hok p _ hk
     exact⟨o,e,ex⟩
    ·obtain⟨_,_,_,_,o,_,_,e,ex,_⟩:=I.hok p _ hk
     exact⟨o,e,ex⟩
   obtain⟨o,e,ex⟩:=z
   refine⟨⟨o,e,ex.1⟩,fun a e2=>?_⟩
   cases e2
   exact⟨o,e,ex.2.1⟩
  ·obtain⟨o,_,_,_,e,ex,_⟩:=I.hok p _ hk
   refine⟨⟨o,e,ex.1⟩,fun a e2=>?_⟩
   cases e2
   exact⟨o,e,ex.2.1⟩
 | _=>exact False.elim ty
def Ald (K:Frag) (T:String) (r:V->List V->Hp->VK->Prop) (to:TE):TE:=fun σ H Q=>to σ H fun x H1=>tyV K T x H1/\r x [] H1 Q
def tBM (K:Frag) (T:String) (r:V->List V->Hp->VK->Prop) (to:TE) (t:TA):TE:=fun σ H Q=>to σ H fun x H1=>tyV K T x H1/\t σ H1 fun xs H2=>r x xs H2 Q
variable {o e:Expr} {es:List Expr} {to:TE} {t:TA} {name:Str} {apos cpos:Pos} {T id:String} {r:V->List V->Hp->VK->Prop}
theorem AlZ (pa:PlainAttrs T) (slot:Slot T name id) (hty:typeOf (.builtin id) = pure (.type "method_descriptor")) (hm:MtR X id r) (ho:PE X o to)
  (hbase:attributeBase o name X.env (eval o X.env) = eval o X.env:=by rfl) (hline:(apos.endLine == cpos.line) = true:=by rfl):PE X (.Call (.Attribute o name apos) [] [] cpos) (Ald X.K T r to):=by
 intro pins s σ H Q I h
 refine wpAny_Call_method0_late hbase hline (thn (ho pins s σ H _ I h) fun v s1 ⟨x,H1,I1,r1,ty,q1⟩=>?_)
 obtain⟨h1,h2⟩:=Aeu I1 r1 ty
 exact⟨T,id,pa,slot,hty,h1,h2,Calls.callWith_builtin rfl (PySem.evalArgs_none (hm pins s1 σ H1 x [] v [] Q I1 r1 .nil q1))⟩
theorem Fo (pa:PlainAttrs T) (slot:Slot T name id) (hty:typeOf (.builtin id) = pure (.type "method_descriptor")) (hm:MtR X id r) (ho:PE X o to) (ha:PA X (e :: es) t)
  (hbase:attributeBase o name X.env (eval o X.env) = eval o X.env:=by rfl)
  (hfew:((backTo cpos (starEach (e :: es) X.env)).all (fun x=>!x.1) && (backToKw cpos (keywordEach [] X.env)).all (fun x=>x.1.isSome)
   && decide ((e :: es).length + ([]:List Keyword).length + (if ([]:List Keyword).isEmpty then 0 else 1) < 30)) = true:=by rfl)
  (hline:(apos.endLine == cpos.line) = true:=by rfl) (hs:starEach (e :: es) X.env = (false,eval e X.env) :: starEach es X.env:=by rfl) (hplain:(backTo cpos (starEach es X.env)).any (·.1) = false:=by rfl) :
  PE X (.Call (.Attribute o name apos) (e :: es) [] cpos) (tBM X.K T r to t):=by
 intro pins s σ H Q I h
 refine wpAny_Call_method_late hbase hfew hline rfl (thn (ho pins s σ H _ I h) fun v s1 ⟨x,H1,I1,r1,ty,q1⟩=>?_)
 obtain⟨h1,h2⟩:=Aeu I1 r1 ty
 refine⟨T,id,pa,slot,hty,h1,h2,?_⟩
 have hA:=ha cpos pins s1 σ H1 _ I1 q1
 rw[hs] at hA ⊢
 refine Calls.callWith_builtin (by show (false || (backTo cpos (starEach es X.env)).any (·.1)) = false; rw[hplain] <;> rfl) (Calls.evalArgs_plain ?_)
 exact thn hA fun us s2 ⟨vs,H2,I2,r2,q2⟩=>hm pins s2 σ H2 x vs v us Q I2 r1 r2 q2
end
end L2
namespace L2
open PySem PySem.Spec PyProof.Rows
def MtM (X:Cx) (id:String) (r:V->List V->Hp->VK->Prop):Prop :=
 ∀ (pins:List (Addr × Obj)) (s:Shared) (σ:St) (H:Hp) (x:V) (xs:List V) (v:Value) (us:List Value) (Q:VK),Inv X pins σ H s->RelV x v->Vals xs us->r x xs H Q ->
  wpAny (model X.prog X.w) X.A (call (.builtin id) (v :: us)) (EP X pins σ Q) X.xe s
theorem Vals.one:∀ {x:V} {us:List Value},Vals [x] us->∃ u,us = [u]/\RelV x u
 | _,_,.cons r .nil=>⟨_,rfl,r⟩
theorem Vals.zero:∀ {us:List Value},Vals [] us->us = []
 | _,.nil=>rfl
theorem Vals.dropLast {xs:List V} {us:List Value} (h:Vals xs us):Vals xs.dropLast us.dropLast:=by
 induction h with
 | nil=>exact .nil
 | cons r t ih =>
  cases t with
  | nil=>exact .nil
  | cons q t'=>exact .cons r ih
theorem Vals.rep {xs:List V} {us:List Value} (h:Vals xs us):∀ k:Nat,Vals (replicate k xs).flatten (replicate k us).flatten
 | 0=>.nil
 | k + 1=>by
  rw[replicate_succ,replicate_succ,flatten_cons,flatten_cons]
  exact Vals.append h (Vals.rep h k)
theorem Acr {α:Type} (l:List α):l.eraseIdx (l.length - 1) = l.dropLast:=by
 induction l with
 | nil=>rfl
 | cons a r ih =>
  cases r with
  | nil=>rfl
  | cons b r =>
   have e:(a :: b :: r).length - 1 = ((b :: r).length - 1) + 1:=by
    have h1:(a :: b :: r).length = r.length + 2:=rfl
    have h2:(b :: r).length = r.length + 1:=rfl
    omega
   rw[e,List.eraseIdx_cons_succ,ih]
   all_goals rfl
theorem Wu (its:List Value):∀ (k:Nat) (acc:List Value),
  foldl (fun x1 x2=>x1 ++ x2) acc.toArray (replicate k its.toArray) = (acc ++ (replicate k its).flatten).toArray
 | 0,acc=>by simp
 | k + 1,acc=>by
  have e:acc.toArray ++ its.toArray = (acc ++ its).toArray:=by simp
  have e2:(acc ++ its) ++ (replicate k its).flatten = acc ++ (replicate (k + 1) its).flatten:=by
   rw[replicate_succ,flatten_cons,append_assoc]
  rw[<- e2,<- Wu its k (acc ++ its),<- e,replicate_succ,foldl_cons]
section
variable {X:Cx} {pins:List (Addr × Obj)} {σ:St} {H:Hp} {s:Shared} {l b:Addr} {xs ys zs:List V}
theorem Inv.lset {its its':List Value} {n:Nat} {f:Array Value->Array Value} {t':Nat} (I:Inv X pins σ H s) (hH:H l = some (.lst xs))
  (e:s.heap.get? l = some { cls:=.type "list",data:=.seq its.toArray n }) (hf:f its.toArray = its'.toArray) (hv:Vals ys its') (hz:ys.length <= sizeLine) :
  Inv X pins σ (upd H l (.lst ys)) { s with heap:=s.heap.update l (Obj.mapSeq f),toks:=t' }:=by
 have q:=PySem.IsL.update e f
 rw[hf] at q
 refine I.write (x:=l) (e:=l) (by rw[hH]; exact trivial) (.inl rfl) (fun b' u hb hu=>(Heap.get?_update_other s.heap (Obj.mapSeq f) (Ne.symm hb)).trans hu) ⟨_,q⟩ ?_
 exact⟨hz,its',_,hv,q⟩
theorem Inv.lnew {its:List Value} {t':Nat} (I:Inv X pins σ H s) (hv:Vals ys its) (hz:ys.length <= sizeLine) :
  Inv X pins σ (upd H s.heap.objs.size (.lst ys)) { s with heap:=s.heap.push { cls:=.type "list",data:=.seq its.toArray },toks:=t' } :=
 I.laid (fun _ _ q=>get?_push_of_some _ q) (Nat.le_refl _) ⟨hz,its,0,hv,get?_push_size _ rfl⟩
theorem Inv.fresh (I:Inv X pins σ H s):H s.heap.objs.size = none:=I.hok.fresh (Nat.le_refl _)
theorem Inv.lstM (I:Inv X pins σ H s) (hH:H l = some (.lst xs)):xs.length <= sizeLine/\∃ (its:List Value) (n:Nat),Vals xs its/\xs.length = its.length/\s.heap.get? l = some { cls:=.type "list",data:=.seq its.toArray n }:=by
 obtain⟨z,its,n,r,e⟩:=I.hok l _ hH
 exact⟨z,its,n,r,r.length,e⟩
theorem AfI {n:Nat} (h:n <= sizeLine):Builtin.List.listTooLong n = false:=by
 unfold Builtin.List.listTooLong
 exact decide_eq_false (by omega)
end
section
variable {X:Cx}
def Aiu:V->List V->Hp->VK->Prop:=fun x vs H Q=>∃ l xs y,x = .ref l/\vs = [y]/\H l = some (.lst xs)/\xs.length < sizeLine/\Q .non (upd H l (.lst (xs ++ [y])))
theorem Xf:MtM X "list.append" Aiu:=by
 intro pins s σ H x vs v us Q I rx rv h
 obtain⟨l,xs,y,rfl,rfl,hH,hz,q⟩:=h
 cases rx
 obtain⟨u,rfl,ru⟩:=rv.one
 obtain⟨z,its,n,r,hl,e⟩:=I.lstM hH
 refine call_meets F.slot_list_append ⟨_,e,rfl⟩ F.entry_list_append (F.args_list_append_2 _ _) (PySem.list_append l its.toArray n u (by rw[size_toArray]; omega)) ⟨e,?_⟩
 refine⟨.non,_,I.lset (its':=its ++ [u]) hH e (by simp) (r.append (.cons ru .nil)) ?_,rfl,q⟩
 rw[length_append,length_singleton]
 omega
def AnB:V->List V->Hp->VK->Prop:=fun x vs H Q=>∃ l xs y,x = .ref l/\vs = []/\H l = some (.lst xs)/\xs[xs.length - 1]? = some y/\Q y (upd H l (.lst xs.dropLast))
theorem AlD:MtM X "list.pop" AnB:=by
 intro pins s σ H x vs v us Q I rx rv h
 obtain⟨l,xs,y,rfl,rfl,hH,hy,q⟩:=h
 cases rx
 have hus:=rv.zero
 subst hus
 obtain⟨z,its,n,r,hl,e⟩:=I.lstM hH
 obtain⟨u,hu,ru⟩:=r.get hy
 have hy':its.toArray[its.toArray.size - 1]? = some u:=by
  show its.toArray[its.length - 1]? = some u
  rw[<- Array.getElem?_toList,<- hl]
  exact hu
 refine call_meets F.slot_list_pop ⟨_,e,rfl⟩ F.entry_list_pop (F.args_list_pop_1 _) (MeetsSeq.list_pop_last l its.toArray n u hy' (by rw[size_toArray]; omega)) ⟨e,?_⟩
 refine⟨y,_,I.lset (its':=its.dropLast) hH e ?_ r.dropLast ?_,ru,q⟩
 ·show its.toArray.eraseIdxIfInBounds (its.toArray.size - 1) = its.dropLast.toArray
  rw[size_toArray,List.eraseIdxIfInBounds_toArray,Acr]
 ·rw[List.length_dropLast]
  omega
def An0:R2:=fun x y H Q=>∃ l b xs zs,x = .ref l/\y = .ref b/\H l = some (.lst xs)/\H b = some (.lst zs)/\xs.length + zs.length <= sizeLine/\∀ p,H p = none->Q (.ref p) (upd H p (.lst (xs ++ zs)))
theorem AjT:OpR X (binaryOp .Add) An0:=by
 intro pins s σ H x y v u Q I rx ry h
 obtain⟨l,b,xs,zs,rfl,rfl,hH,hB,hz,q⟩:=h
 cases rx
 cases ry
 obtain⟨z,its,n,r,hl,e⟩:=I.lstM hH
 obtain⟨z2,its2,n2,r2,hl2,e2⟩:=I.lstM hB
 refine PySem.P.add_list e e2 ?_ (by rw[size_toArray,size_toArray]; omega)
 have ea:its.toArray ++ its2.toArray = (its ++ its2).toArray:=by simp
 rw[ea]
 exact⟨.ref _,_,I.lnew (t':=s.toks) (r.append r2) (by rw[length_append]; omega),rfl,q _ I.fresh⟩
def AnU:R2:=fun x y H Q=>∃ l k xs,x = .ref l/\y = .int k/\H l = some (.lst xs)/\-(2 ^ 63) <= k/\k < 2 ^ 63/\xs.length * k.toNat <= sizeLine /\
 ∀ p,H p = none->Q (.ref p) (upd H p (.lst (replicate k.toNat xs).flatten))
theorem Aid {α:Type} (xs:List α) (k:Nat):(replicate k xs).flatten.length = k * xs.length:=by
 induction k with
 | zero=>simp
 | succ k ih=>rw[replicate_succ,flatten_cons,length_append,ih,Nat.succ_mul,Nat.add_comm]
theorem Ala:OpR X (binaryOp .Mult) AnU:=by
 intro pins s σ H x y v u Q I rx ry h
 obtain⟨l,k,xs,rfl,rfl,hH,h1,h2,hz,q⟩:=h
 cases rx
 obtain⟨t,rfl⟩:=ry
 obtain⟨z,its,n,r,hl,e⟩:=I.lstM hH
 have hlen:its.toArray.size * k.toNat <= sizeLine:=by rw[size_toArray,<- hl]; exact hz
 have hcap:¬ its.toArray.size * k.toNat > (2 ^ 63 - 1) / 8:=by
  have:(sizeLine:Nat) <= (2 ^ 63 - 1) / 8:=by decide
  omega
 have hfit:¬ (!Builtin.List.listFitsIndex k) = true:=by
  rw[fitsIndex_both h1 h2]
  exact Bool.false_ne_true
 have hlong:¬ Builtin.List.listTooLong (its.toArray.size * k.toNat) = true:=by
  rw[AfI hlen]
  exact Bool.false_ne_true
 have hnew:foldl (fun x1 x2=>x1 ++ x2) #[] (replicate (if its.toArray.isEmpty = true then 0 else k.toNat) its.toArray) = (replicate k.toNat its).flatten.toArray:=by
  have f0:∀ m:Nat,foldl (fun x1 x2=>x1 ++ x2) #[] (replicate m its.toArray) = (replicate m its).flatten.toArray:=fun m=>by
   have:=Wu its m []
   rw[nil_append] at this
   exact this
  rw[f0]
  cases its with
  | nil=>simp
  | cons a r'=>rw[if_neg (by simp)]
 refine wpAny_binaryOp_repeat_ref (T:="list") (U:="int") (by decide) ⟨_,e,rfl⟩ (fun s'=>typeIs_int s' k t) noFill_list_mul F.fills_int_mul F.slot_int_rmul repeat_list F.slot_int_index.lookup
  (call_meets F.slot_int_rmul (typeIs_int s k t) F.entry_int_rmul (F.args_int_rmul_2 _ _) (int___rmul___int_list k t l its.toArray n)
   ⟨e,rfl,⟨_,e,rfl⟩,call_meets F.slot_list_mul ⟨_,e,rfl⟩ F.entry_list_mul (F.args_list_mul_2 _ _) (AutoListH.list___mul___list_int_3 l its.toArray n k t hfit hcap hlong) ⟨e,?_⟩⟩)
 rw[hnew]
 exact⟨.ref _,_,I.lnew (t':=s.toks) (r.rep k.toNat) (by rw[Aid,Nat.mul_comm]; exact hz),rfl,q _ I.fresh⟩
end
section
variable {prog:Program} {w:World} {A:Around} {E:Value->Shared->Prop} {s:Shared}
set_option maxRecDepth 100000 in
end
section
variable {X:Cx}
end
end L2
namespace L2
open PySem PySem.Spec PyProof.Rows
section
variable {κ:Type} [DecidableEq κ]
def Cr (kvs:List (κ × V)) (k:κ):Option V:=(kvs.find? fun kv=>decide (kv.1 = k)).map (·.2)
def Gy (kvs:List (κ × V)) (k:κ) (v:V):List (κ × V) :=
 if (kvs.any fun kv=>decide (kv.1 = k)) = true then kvs.map (fun kv=>if kv.1 = k then (kv.1,v) else kv) else kvs ++ [(k,v)]
theorem Nd {p:κ × V} {r:List (κ × V)} {k:κ} (e:p.1 = k):Cr (p :: r) k = some p.2:=by simp [Cr,find?_cons,e]
theorem Lw {p:κ × V} {r:List (κ × V)} {k:κ} (e:¬ p.1 = k):Cr (p :: r) k = Cr r k:=by simp [Cr,find?_cons,e]
theorem Rh (k:κ):∀ kvs:List (κ × V),(kvs.any fun kv=>decide (kv.1 = k)) = (Cr kvs k).isSome
 | []=>rfl
 | p :: r=>by
  rw[any_cons]
  by_cases e:p.1 = k
  ·simp only [Nd e,decide_eq_true e,Bool.true_or,isSome_some]
  ·rw[Lw e,decide_eq_false e,Bool.false_or]; exact Rh k r
theorem Tl (kvs:List (κ × V)) (k:κ) (v:V):(Gy kvs k v).length <= kvs.length + 1:=by
 unfold Gy
 split
 ·rw[length_map]; omega
 ·rw[length_append,length_cons,length_nil]; omega
theorem Lr {kvs:List (κ × V)} {k:κ} (v:V) (h:Cr kvs k = none):Gy kvs k v = kvs ++ [(k,v)]:=by
 unfold Gy
 rw[Rh,h]
 exact if_neg (by decide)
theorem RelO.isSome_eq {o:Option V} {u:Option Value} (r:RelO o u):o.isSome = u.isSome:=by
 cases o with
 | none=>cases u with
  | none=>rfl
  | some _=>exact (show False from r).elim
 | some _=>cases u with
  | none=>exact (show False from r).elim
  | some _=>rfl
theorem RelO.getD {o:Option V} {u:Option Value} {d:V} {d':Value} (r:RelO o u) (rd:RelV d d'):RelV (o.getD d) (u.getD d'):=by
 cases o with
 | none=>cases u with
  | none=>exact rd
  | some _=>exact (show False from r).elim
 | some _=>cases u with
  | none=>exact (show False from r).elim
  | some _=>exact r
theorem KV.val {kvs:List (κ × V)} {vs:List (κ × Value)} (r:KV kvs vs) (k:κ):RelO (Cr kvs k) (valueAt vs k):=by
 unfold KV at r
 induction r with
 | nil=>exact True.intro
 | @cons p q ps qs h t ih =>
  obtain⟨h1,h2⟩:=h
  by_cases e:p.1 = k
  ·have e':q.1 = k:=h1.symm.trans e
   have b:valueAt (q :: qs) k = some q.2:=by simp [valueAt,find?_cons,e']
   rw[Nd e,b]; exact h2
  ·have e':¬ q.1 = k:=fun z=>e (h1.trans z)
   have b:valueAt (q :: qs) k = valueAt qs k:=by simp [valueAt,find?_cons,e']
   rw[Lw e,b]; exact ih
theorem KV.any {kvs:List (κ × V)} {vs:List (κ × Value)} (r:KV kvs vs) (k:κ):(kvs.any fun kv=>decide (kv.1 = k)) = vs.any fun kv=>decide (kv.1 = k):=by
 unfold KV at r
 induction r with
 | nil=>rfl
 | cons h t ih=>rw[any_cons,any_cons,ih,h.1]
theorem KV.repl {kvs:List (κ × V)} {vs:List (κ × Value)} (r:KV kvs vs) (k:κ) {y:V} {u:Value} (ry:RelV y u) :
  KV (kvs.map fun kv=>if kv.1 = k then (kv.1,y) else kv) (vs.map fun kv=>if kv.1 = k then (kv.1,u) else kv):=by
 unfold KV at r ⊢
 induction r with
 | nil=>exact .nil
 | @cons p q ps qs h t ih =>
  rw[map_cons,map_cons]
  refine .cons ?_ ih
  obtain⟨h1,h2⟩:=h
  by_cases e:p.1 = k
  ·rw[if_pos e,if_pos (h1.symm.trans e)]; exact⟨h1,ry⟩
  ·rw[if_neg e,if_neg (fun z=>e (h1.trans z))]; exact⟨h1,h2⟩
theorem KV.put {kvs:List (κ × V)} {vs:List (κ × Value)} (r:KV kvs vs) (k:κ) {y:V} {u:Value} (ry:RelV y u):KV (Gy kvs k y) (stored vs k u):=by
 unfold Gy stored
 rw[r.any k]
 by_cases e:(vs.any fun kv=>decide (kv.1 = k)) = true
 ·rw[if_pos e,if_pos e]; exact r.repl k ry
 ·rw[if_neg e,if_neg e]; exact Paired.snoc r ⟨rfl,ry⟩
theorem KV.keys {kvs:List (κ × V)} {vs:List (κ × Value)} (r:KV kvs vs):kvs.map (·.1) = vs.map (·.1):=by
 unfold KV at r
 induction r with
 | nil=>rfl
 | cons h t ih=>rw[map_cons,map_cons,ih,h.1]
theorem KV.length {kvs:List (κ × V)} {vs:List (κ × Value)} (r:KV kvs vs):kvs.length = vs.length:=Paired.length r
end
theorem Rf {P:Program} {w:World} {k:Key} {u:Value} (r:RelV (kV k) u):(Dp P w).is k u = true:=by
 cases k with
 | inl i=>obtain⟨t,e⟩:=(show ∃ t,u = Value.int i t from r); subst e; exact AaM P w i t
 | inr x=>obtain⟨t,e⟩:=(show ∃ t,u = Value.str x t from r); subst e; exact AaN P w x t
theorem Xh {P:Program} {w:World}:∀ {ks:List Key} {us:List Value},Vals (ks.map kV) us->ItemsAre (Dp P w) ks us
 | [],_,r=>by rw[map_nil] at r; cases r; exact .nil
 | k :: ks,_,r=>by
  rw[map_cons] at r
  cases r with
  | cons h t=>exact .cons (Rf h) (Xh t)
abbrev KT (H:Hp):List (List Key × V)->List (List Key × Addr × Value)->Prop:=Paired fun p q=>p.1 = q.1/\H q.2.1 = some (.tup (p.1.map kV))/\RelV p.2 q.2.2
theorem KT.val {H:Hp} {kvs:List (List Key × V)} {xs:List (List Key × Addr × Value)} (r:KT H kvs xs) (k:List Key):RelO (Cr kvs k) ((atKey xs k).map (·.2)):=by
 induction r with
 | nil=>exact True.intro
 | @cons p q ps qs h t ih =>
  obtain⟨h1,_,h2⟩:=h
  by_cases e:p.1 = k
  ·have e':q.1 = k:=h1.symm.trans e
   have b:atKey (q :: qs) k = some q.2:=by simp [atKey,find?_cons,e']
   rw[Nd e,b]; exact h2
  ·have e':¬ q.1 = k:=fun z=>e (h1.trans z)
   have b:atKey (q :: qs) k = atKey qs k:=by simp [atKey,find?_cons,e']
   rw[Lw e,b]; exact ih
theorem KT.repl {H:Hp} {kvs:List (List Key × V)} {xs:List (List Key × Addr × Value)} (r:KT H kvs xs) (k:List Key) {y:V} {u:Value} (ry:RelV y u) :
  KT H (kvs.map fun kv=>if kv.1 = k then (kv.1,y) else kv) (xs.map (putAt k u)):=by
 induction r with
 | nil=>exact .nil
 | @cons p q ps qs h t ih =>
  rw[map_cons,map_cons]
  refine .cons ?_ ih
  obtain⟨h1,h2,h3⟩:=h
  unfold putAt
  by_cases e:p.1 = k
  ·rw[if_pos e,if_pos (h1.symm.trans e)]; exact⟨h1,h2,ry⟩
  ·rw[if_neg e,if_neg (fun z=>e (h1.trans z))]; exact⟨h1,h2,h3⟩
theorem KT.put {H:Hp} {kvs:List (List Key × V)} {xs:List (List Key × Addr × Value)} (r:KT H kvs xs) (k:List Key) {b:Addr} {y:V} {u:Value} (hb:H b = some (.tup (k.map kV))) (ry:RelV y u) :
  KT H (Gy kvs k y) (storedH xs k b u):=by
 have e:(kvs.any fun kv=>decide (kv.1 = k)) = (atKey xs k).isSome:=by
  rw[Rh,(r.val k).isSome_eq,isSome_map]
 unfold Gy storedH
 rw[e]
 by_cases q:(atKey xs k).isSome = true
 ·rw[if_pos q,if_pos q]; exact r.repl k ry
 ·rw[if_neg q,if_neg q]; exact Paired.snoc r ⟨rfl,hb,ry⟩
theorem KT.keeps {H H':Hp} {kvs:List (List Key × V)} {xs:List (List Key × Addr × Value)} (r:KT H kvs xs) (ht:∀ b ys,H b = some (.tup ys)->H' b = some (.tup ys)):KT H' kvs xs :=
 Paired.mapP r fun _ _ z=>⟨z.1,ht _ _ z.2.1,z.2.2⟩
section
variable {P:Program} {w:World} {H:Hp} {h:Heap} {a:Addr}
theorem AgG {u:HO} (ok:HOk P w H h) (e:Rd H a u):ObjOk P w H h a u:=e.ok ok
theorem Ov {kvs:List (Key × V)} (ok:HOk P w H h) (e:Rd H a (.dK kvs)):kvs.length <= sizeLine/\(a == sysModules) = false/\∃ vs,KV kvs vs/\h.DictOf (Dp P w) a vs :=
 show ObjOk P w H h a (.dK kvs) from AgG ok e
theorem Anl {kvs:List (Key × V)} (ok:HOk P w H h) (e:H a = some (.dK kvs)):kvs.length <= sizeLine/\(a == sysModules) = false/\∃ vs,KV kvs vs/\h.DictOf (Dp P w) a vs:=Ov ok (.inl e)
theorem Ol {ks:List Key} (ok:HOk P w H h) (e:H a = some (.tup (ks.map kV))):(tupleKind (Dp P w)).is h ks a:=by
 obtain⟨_,its,r,o,h1,h2,n,h3⟩:=(show ObjOk P w H h a (.tup (ks.map kV)) from ok a _ e)
 exact⟨o,its.toArray,n,h1,h2,h3,by simpa using Xh r⟩
theorem Ox {kvs:List (List Key × V)} (ok:HOk P w H h) (e:Rd H a (.dT kvs)):kvs.length <= sizeLine/\(a == sysModules) = false /\
  ∃ xs,KT H kvs xs/\h.DictOfH (tupleKind (Dp P w)) a xs:=by
 obtain⟨z,y,xs,r,o,es,ep,h1,h2,h3,h4,h5⟩:=(show ObjOk P w H h a (.dT kvs) from AgG ok e)
 refine⟨z,y,xs,r,o,es,ep,h1,h2,h3,h4,fun x hx=>?_,h5⟩
 have all:∀ {l:List (List Key × V)} {m:List (List Key × Addr × Value)},KT H l m->∀ x ∈ m,(tupleKind (Dp P w)).is h x.1 x.2.1:=by
  intro l m q
  induction q with
  | nil=>intro x hx; exact nomatch hx
  | @cons p q ps qs hq t ih =>
   intro x hx
   rcases mem_cons.mp hx with e | hx
   ·subst e
    exact Ol ok (by rw[<- hq.1]; exact hq.2.1)
   ·exact ih x hx
 exact all r x hx
theorem Anc {kvs:List (List Key × V)} (ok:HOk P w H h) (e:H a = some (.dT kvs)):kvs.length <= sizeLine/\(a == sysModules) = false /\
  ∃ xs,KT H kvs xs/\h.DictOfH (tupleKind (Dp P w)) a xs:=Ox ok (.inl e)
end
def DGet (H:Hp) (a:Addr) (y:V) (r:Option V):Prop :=
 (∃ kvs k,Rd H a (.dK kvs)/\y = kV k/\r = Cr kvs k)\/∃ kvs k b,Rd H a (.dT kvs)/\y = .ref b/\H b = some (.tup (k.map kV))/\r = Cr kvs k
def DPut (H:Hp) (a:Addr) (y v:V) (H':Hp):Prop :=
 (∃ kvs k,H a = some (.dK kvs)/\y = kV k/\kvs.length < sizeLine/\H' = upd H a (.dK (Gy kvs k v))) \/
 ∃ kvs k b,H a = some (.dT kvs)/\y = .ref b/\H b = some (.tup (k.map kV))/\kvs.length < sizeLine/\H' = upd H a (.dT (Gy kvs k v))
theorem DGet.k {H:Hp} {a:Addr} {kvs:List (Key × V)} {k:Key} (e:H a = some (.dK kvs)):DGet H a (kV k) (Cr kvs k):=.inl ⟨kvs,k,.inl e,rfl,rfl⟩
theorem DGet.t {H:Hp} {a b:Addr} {kvs:List (List Key × V)} {k:List Key} (e:H a = some (.dT kvs)) (eb:H b = some (.tup (k.map kV))):DGet H a (.ref b) (Cr kvs k):=.inr ⟨kvs,k,b,.inl e,rfl,eb,rfl⟩
theorem DPut.k {H:Hp} {a:Addr} {kvs:List (Key × V)} {k:Key} {v:V} (e:H a = some (.dK kvs)) (hl:kvs.length < sizeLine):DPut H a (kV k) v (upd H a (.dK (Gy kvs k v))):=.inl ⟨kvs,k,e,rfl,hl,rfl⟩
theorem DPut.t {H:Hp} {a b:Addr} {kvs:List (List Key × V)} {k:List Key} {v:V} (e:H a = some (.dT kvs)) (eb:H b = some (.tup (k.map kV))) (hl:kvs.length < sizeLine) :
  DPut H a (.ref b) v (upd H a (.dT (Gy kvs k v))):=.inr ⟨kvs,k,b,e,rfl,eb,hl,rfl⟩
section
variable {X:Cx} {pins:List (Addr × Obj)} {σ:St} {H:Hp} {s:Shared} {a:Addr} {y v:V} {u r:Value} {o:Option V} {A:Around} {E:Value->Shared->Prop}
theorem Inv.big (I:Inv X pins σ H s):sysModules < s.heap.objs.size:=by
 have h:mainGlobals < s.heap.objs.size:=(I.mod.glob.keeps I.bk).lt
 exact Nat.lt_trans (by decide) h
theorem Aew {Q:Value->Shared->Prop} (hu:A.units + 1 < cLine) (I:Inv X pins σ H s) (g:DGet H a y (some v)) (ry:RelV y u) (h:∀ w' s',Inv X pins σ H s'->RelV v w'->Q w' s') :
  wpAny (model X.prog X.w) A (getItem (.ref a) u) Q E s:=by
 rcases g with ⟨kvs,k,e,ey,l⟩ | ⟨kvs,k,b,e,ey,eb,l⟩
 ·subst ey
  obtain⟨z,hd,vs,rel,dd⟩:=Ov I.hok e
  obtain⟨w',hw,rw'⟩:=RelO.some_of (v:=v) (o:=valueAt vs k) (by rw[l]; exact rel.val k)
  exact wpAny_getItem_of (Rf ry) dd.mapOf hw (h w' _ (I.tok _) rw')
 ·subst ey
  cases (show u = Value.ref b from ry)
  obtain⟨z,hd,xs,rel,dd⟩:=Ox I.hok e
  obtain⟨w',hw,rw'⟩:=RelO.some_of (v:=v) (o:=(atKey xs k).map (·.2)) (by rw[l]; exact rel.val k)
  obtain⟨p,hp,hp2⟩:=map_eq_some_iff.mp hw
  refine wpAny_getItem_heap (tupleKind_room_in1 hu) (Ol I.hok eb) dd hp ?_
  rw[hp2]
  exact h w' _ (I.tok _) rw'
theorem Aoa {Q:Value->Shared->Prop} (hu:A.units + 1 < cLine) (I:Inv X pins σ H s) (g:DGet H a y o) (ry:RelV y u) (h:∀ s',Inv X pins σ H s'->Q (.bool o.isSome) s') :
  wpAny (model X.prog X.w) A (compareOp .In u (.ref a)) Q E s:=by
 rcases g with ⟨kvs,k,e,ey,l⟩ | ⟨kvs,k,b,e,ey,eb,l⟩
 ·subst ey
  obtain⟨z,hd,vs,rel,dd⟩:=Ov I.hok e
  refine wpAny_in_of (Rf ry) hd dd.mapOf ?_
  rw[<- (rel.val k).isSome_eq,<- l]
  exact h _ (I.tok _)
 ·subst ey
  cases (show u = Value.ref b from ry)
  obtain⟨z,hd,xs,rel,dd⟩:=Ox I.hok e
  refine wpAny_in_heap (tupleKind_room_in1 hu) (Ol I.hok eb) hd dd ?_
  have q:=(rel.val k).isSome_eq
  rw[isSome_map] at q
  rw[<- q,<- l]
  exact h _ (I.tok _)
theorem Ah5 {Q:Value->Shared->Prop} (hu:A.units + 1 < cLine) (I:Inv X pins σ H s) (g:DGet H a y o) (ry:RelV y u) (h:∀ s',Inv X pins σ H s'->Q (.bool (!o.isSome)) s') :
  wpAny (model X.prog X.w) A (compareOp .NotIn u (.ref a)) Q E s:=by
 rcases g with ⟨kvs,k,e,ey,l⟩ | ⟨kvs,k,b,e,ey,eb,l⟩
 ·subst ey
  obtain⟨z,hd,vs,rel,dd⟩:=Ov I.hok e
  refine wpAny_notIn_of (Rf ry) hd dd.mapOf ?_
  rw[<- (rel.val k).isSome_eq,<- l]
  exact h _ (I.tok _)
 ·subst ey
  cases (show u = Value.ref b from ry)
  obtain⟨z,hd,xs,rel,dd⟩:=Ox I.hok e
  refine wpAny_notIn_heap (tupleKind_room_in1 hu) (Ol I.hok eb) hd dd ?_
  have q:=(rel.val k).isSome_eq
  rw[isSome_map] at q
  rw[<- q,<- l]
  exact h _ (I.tok _)
theorem Abu {h':Heap} {t':Nat} {ob:HO} (I:Inv X pins σ H s) (mu:Mut (H a)) (hs:SameBut a s.heap h') (he:∃ q,h'.get? a = some q) (new:ObjOk X.prog X.w (upd H a ob) h' a ob) :
  Inv X pins σ (upd H a ob) { s with heap:=h',toks:=t' } :=
 I.write (x:=a) (e:=a) mu (.inl rfl) (fun b q hb z=>(hs.2 b hb).trans z) he new
theorem Ak4 {P:Program} {w:World} {H':Hp} {h':Heap} {kvs:List (Key × V)} {vs:List (Key × Value)} (z:kvs.length <= sizeLine) (hd:(a == sysModules) = false) (rel:KV kvs vs) (dd:h'.DictOf (Dp P w) a vs) :
  ObjOk P w H' h' a (.dK kvs):=⟨z,hd,vs,rel,dd⟩
theorem AeJ {H':Hp} {Q:Unit->Shared->Prop} (hu:A.units + 1 < cLine) (I:Inv X pins σ H s) (g:DPut H a y v H') (ry:RelV y u) (rv:RelV v r) (h:∀ s',Inv X pins σ H' s'->Q () s') :
  wpAny (model X.prog X.w) A (setItem (.ref a) u r) Q E s:=by
 rcases g with ⟨kvs,k,e,ey,l,eH⟩ | ⟨kvs,k,b,e,ey,eb,l,eH⟩
 ·subst ey eH
  obtain⟨z,hd,vs,rel,dd⟩:=Anl I.hok e
  have hz:vs.length <= sizeLine:=by rw[<- rel.length]; exact z
  have hl:(Gy kvs k v).length <= sizeLine:=by have:=Tl kvs k v; omega
  refine wpAny_setItem_pairs (hsz:=hz) (Rf ry) dd fun h' dd' hs=>h _ ?_
  have he:∃ q,h'.get? a = some q:=let ⟨q,_,_,hq,_⟩:=dd'; ⟨q,hq⟩
  exact Abu I (by rw[e]; exact True.intro) hs he (Ak4 hl hd (rel.put k rv) dd')
 ·subst ey eH
  cases (show u = Value.ref b from ry)
  obtain⟨z,hd,xs,rel,dd⟩:=Anc I.hok e
  have hz:xs.length <= sizeLine:=by rw[<- Paired.length rel]; exact z
  have hl:(Gy kvs k v).length <= sizeLine:=by have:=Tl kvs k v; omega
  refine wpAny_setItem_heap (hsz:=hz) (tupleKind_room_in1 hu) (Ol I.hok eb) dd fun h' dd' hs=>h _ ?_
  obtain⟨q,es,ep,hq,h2,h3,h4,_,h5⟩:=dd'
  refine Abu I (by rw[e]; exact True.intro) hs ⟨q,hq⟩ ⟨hl,hd,_,(rel.put k eb rv).keeps fun c ys ec=>?_,q,es,ep,hq,h2,h3,h4,h5⟩
  rw[Bj (Fb ec e (fun z=>nomatch z))]
  exact ec
end
section
variable {X:Cx} {pins:List (Addr × Obj)} {σ:St} {H:Hp} {s:Shared} {a:Addr} {kvs:List (Key × V)} {k:Key} {u:Value} {A:Around} {E:Value->Shared->Prop}
end
def AlP (i:Expr):Prop:=∀ ov iv,subscripted i false ov iv = operate [ov,iv] (getItem ov iv)
theorem AiA {prog:Program} {w:World} {A:Around} {E:Value->Shared->Prop} {s:Shared} {env:Env} {value slice:Expr} {pos:Pos} {T id:String} {Q:Value->Shared->Prop}
  (hl:typeLookup (.type T) "__getitem__" = pure (some (.builtin id))) (hs:AlP slice)
  (h:wpAny (model prog w) A (eval value env) (fun o s₁=>wpAny (model prog w) A (eval slice env) (fun i s₂=>s₂.TypeIs o T/\wpAny (model prog w) A (getItem o i) Q E s₂) E s₁) E s) :
  wpAny (model prog w) A (eval (.Subscript value slice pos) env) Q E s:=by
 refine Subscript_ (wpAny_mono h (fun o s₁ h₁=>wpAny_mono h₁ (fun i s₂ h₂=>?_) fun _ _ x=>x) fun _ _ x=>x)
 obtain⟨hT,h₂⟩:=h₂
 unfold subscriptTail
 refine wpAny_bind ?_
 rw[getitemInPython_of_ne hT.not_modules]
 refine wpAny_bind (wpAny_specialOf hT hl ?_)
 have fin:wpAny (model prog w) A (subscripted slice false o i) (fun r s₃=>wpAny (model prog w) A (letTemporaryGo value o r >>= fun _=>pure r) Q E s₃) E s₂:=by
  rw[hs o i]
  exact wpAny_operating (wpAny_mono h₂ (fun r s₃ h₃=>wpAny_bind (wpAny_letTemporaryGo (wpAny_pure h₃))) fun _ _ x=>x)
 first
  | exact wpAny_pure (wpAny_bind fin)
  | exact wpAny_bind (wpAny_pure (wpAny_bind fin))
  | exact wpAny_bind fin
theorem AaK {X:Cx} {pins:List (Addr × Obj)} {σ:St} {H:Hp} {s:Shared} {a:Addr} {y:V} {o:Option V} (I:Inv X pins σ H s) (g:DGet H a y o):s.TypeIs (.ref a) "dict":=by
 rcases g with ⟨kvs,k,e,_,_⟩ | ⟨kvs,k,b,e,_,_,_⟩
 ·obtain⟨_,_,vs,_,dd⟩:=Ov I.hok e
  exact dd.typeIs
 ·obtain⟨_,_,xs,_,dd⟩:=Ox I.hok e
  exact dd.typeIs
def Ym (td ty:TE):TE:=fun σ H Q=>td σ H fun x H1=>ty σ H1 fun y H2=>∃ a v,x = .ref a/\DGet H2 a y (some v)/\Q v H2
def Afi (ty td:TE):TE:=fun σ H Q=>ty σ H fun y H1=>td σ H1 fun x H2=>∃ a o,x = .ref a/\DGet H2 a y o/\Q (.bl o.isSome) H2
def AaX (ty td:TE):TE:=fun σ H Q=>ty σ H fun y H1=>td σ H1 fun x H2=>∃ a o,x = .ref a/\DGet H2 a y o/\Q (.bl (!o.isSome)) H2
def AcO (td ty tv:TE):TS:=fun D σ H=>tv σ H fun v H1=>td σ H1 fun x H2=>ty σ H2 fun y H3=>∃ a H4,x = .ref a/\DPut H3 a y v H4/\D.nx σ H4
section
variable {X:Cx} {o i e value:Expr} {pos pos' tpos:Pos} {td ty tv:TE}
theorem Qp (hu:X.A.units + 1 < cLine) (ho:PE X o td) (hi:PE X i ty) (hs:AlP i):PE X (.Subscript o i pos) (Ym td ty):=by
 intro pins s σ H Q I h
 refine AiA PySem.F.slot_dict_getitem.lookup hs (thn (ho pins s σ H _ I h) fun u s1 ⟨x,H1,I1,rx,q1⟩=>thn (hi pins s1 σ H1 _ I1 q1) fun iv s2 ⟨y,H2,I2,ry,a,v,ex,g,q2⟩=>?_)
 subst ex
 obtain rfl:u = Value.ref a:=rx
 exact⟨AaK I2 g,Aew hu I2 g ry fun w' s3 I3 rw'=>⟨v,H2,I3,rw',q2⟩⟩
theorem Ael (hu:X.A.units + 1 < cLine) (hi:PE X i ty) (ho:PE X o td):PC X .In i o (Afi ty td):=by
 intro pins s σ H Q I h
 refine thn (hi pins s σ H _ I h) fun iv s1 ⟨y,H1,I1,ry,q1⟩=>thn (ho pins s1 σ H1 _ I1 q1) fun u s2 ⟨x,H2,I2,rx,a,ov,ex,g,q2⟩=>?_
 subst ex
 obtain rfl:u = Value.ref a:=rx
 exact Aoa hu I2 g ry fun s3 I3=>⟨.bl ov.isSome,H2,I3,rfl,q2⟩
theorem Oz (hu:X.A.units + 1 < cLine) (hi:PE X i ty) (ho:PE X o td):PC X .NotIn i o (AaX ty td):=by
 intro pins s σ H Q I h
 refine thn (hi pins s σ H _ I h) fun iv s1 ⟨y,H1,I1,ry,q1⟩=>thn (ho pins s1 σ H1 _ I1 q1) fun u s2 ⟨x,H2,I2,rx,a,ov,ex,g,q2⟩=>?_
 subst ex
 obtain rfl:u = Value.ref a:=rx
 exact Ah5 hu I2 g ry fun s3 I3=>⟨.bl (!ov.isSome),H2,I3,rfl,q2⟩
theorem Gn (hu:X.A.units + 1 < cLine) (ho:PE X o td) (hi:PE X i ty) (hv:PE X value tv) (hs:swapsWith value (some (.Subscript o i pos')) pos.line X.env = pure false) :
  PS X (.Assign [.Subscript o i pos'] value pos) (AcO td ty tv):=by
 intro pins s σ H D I h
 refine wpAny_Assign_Subscript (thn (hv pins s σ H _ I h) fun r s1 ⟨v,H1,I1,rv,q1⟩=>thn (ho pins s1 σ H1 _ I1 q1) fun u s2 ⟨x,H2,I2,rx,q2⟩=>thn (hi pins s2 σ H2 _ I2 q2) fun iv s3 ⟨y,H3,I3,ry,a,H4,ex,g,q3⟩=>?_) hs
 subst ex
 obtain rfl:u = Value.ref a:=rx
 exact AeJ hu I3 g ry rv fun s4 I4=>⟨σ,H4,I4,q3⟩
end
theorem Age {P:Program} {w:World} {H:Hp} (h:Heap) (hb:sysModules < h.objs.size):ObjOk P w H (h.push { cls:=.type "dict",data:=.dict #[] }) h.objs.size (.dK []) :=
 ⟨zero_le _,beq_eq_false_iff_ne.mpr (Ne.symm (ne_of_lt hb)),[],.nil,Heap.DictOf.new h⟩
theorem Af8 {P:Program} {w:World} {H:Hp} (h:Heap) (hb:sysModules < h.objs.size):ObjOk P w H (h.push { cls:=.type "dict",data:=.dict #[] }) h.objs.size (.dT []) :=
 ⟨zero_le _,beq_eq_false_iff_ne.mpr (Ne.symm (ne_of_lt hb)),[],.nil,_,#[],0,get?_push_size _ rfl,⟨rfl,rfl,rfl⟩,rfl,rfl,nodup_nil⟩
def AaE:TE:=fun _ H Q=>∀ p,H p = none->Q (.ref p) (upd H p (.dK []))
def Aev:TE:=fun _ H Q=>∀ p,H p = none->Q (.ref p) (upd H p (.dT []))
section
variable {X:Cx} {pos:Pos}
theorem Nf:PE X (.Dict [] [] pos) AaE:=fun pins s σ H Q I h =>
 wpAny_Dict_empty ⟨.ref s.heap.objs.size,_,I.laid (a:=s.heap.objs.size) (o:=.dK []) (t':=s.toks) (fun _ _ q=>get?_push_of_some _ q) (Nat.le_refl _) (Age s.heap I.big),rfl,h _ (I.hok.fresh (Nat.le_refl _))⟩
theorem AfE:PE X (.Dict [] [] pos) Aev:=fun pins s σ H Q I h =>
 wpAny_Dict_empty ⟨.ref s.heap.objs.size,_,I.laid (a:=s.heap.objs.size) (o:=.dT []) (t':=s.toks) (fun _ _ q=>get?_push_of_some _ q) (Nat.le_refl _) (Af8 s.heap I.big),rfl,h _ (I.hok.fresh (Nat.le_refl _))⟩
end
structure M1 (X:Cx) (o:Expr) (m:Str) (apos:Pos) (e:Expr) (cpos:Pos):Prop where
 base:attributeBase o m X.env (eval o X.env) = eval o X.env
 few:((backTo cpos (starEach [e] X.env)).all (fun x=>!x.1) && (backToKw cpos (keywordEach [] X.env)).all (fun x=>x.1.isSome)
  && decide (([e]:List Expr).length + ([]:List Keyword).length + (if ([]:List Keyword).isEmpty then 0 else 1) < 30)) = true
 line:(apos.endLine == cpos.line) = true
 trees:backTo cpos (starEach [e] X.env) = [(false,eval e X.env)]
structure M2 (X:Cx) (o:Expr) (m:Str) (apos:Pos) (e f:Expr) (cpos:Pos):Prop where
 base:attributeBase o m X.env (eval o X.env) = eval o X.env
 few:((backTo cpos (starEach [e,f] X.env)).all (fun x=>!x.1) && (backToKw cpos (keywordEach [] X.env)).all (fun x=>x.1.isSome)
  && decide (([e,f]:List Expr).length + ([]:List Keyword).length + (if ([]:List Keyword).isEmpty then 0 else 1) < 30)) = true
 line:(apos.endLine == cpos.line) = true
 trees:backTo cpos (starEach [e,f] X.env) = [(false,eval e X.env),(false,eval f X.env)]
def IsD (H:Hp) (a:Addr):Prop:=(∃ kvs,Rd H a (.dK kvs))\/∃ kvs,Rd H a (.dT kvs)
theorem AdY {X:Cx} {pins:List (Addr × Obj)} {σ:St} {H:Hp} {s:Shared} {a:Addr} (I:Inv X pins σ H s) (d:IsD H a) :
  s.TypeIs (.ref a) "dict"/\(∀ b,Value.ref a = .ref b->∃ ob,s.heap.get? b = some ob/\ob.dict = none)/\(a == sysModules) = false:=by
 rcases d with ⟨kvs,e⟩ | ⟨kvs,e⟩
 ·obtain⟨_,hd,vs,_,dd⟩:=Ov I.hok e
  refine⟨dd.typeIs,fun b q=>?_,hd⟩
  cases q
  obtain⟨ob,_,_,h1,h2,_⟩:=dd
  exact⟨ob,h1,h2.2.1⟩
 ·obtain⟨_,hd,xs,_,dd⟩:=Ox I.hok e
  refine⟨dd.typeIs,fun b q=>?_,hd⟩
  cases q
  obtain⟨ob,_,_,h1,h2,_⟩:=dd
  exact⟨ob,h1,h2.2.1⟩
section
variable {X:Cx} {pins:List (Addr × Obj)} {σ:St} {H:Hp} {s:Shared} {a:Addr} {y d:V} {u r:Value} {o:Option V} {A:Around} {E:Value->Shared->Prop}
theorem AlI {Q:Value->Shared->Prop} (hu:A.units + 1 < cLine) (I:Inv X pins σ H s) (g:DGet H a y o) (ry:RelV y u) (h:∀ w' s',Inv X pins σ H s'->RelV (o.getD .non) w'->Q w' s') :
  wpAny (model X.prog X.w) A (call (.builtin "dict.get") [.ref a,u]) Q E s:=by
 rcases g with ⟨kvs,k,e,ey,l⟩ | ⟨kvs,k,b,e,ey,eb,l⟩
 ·subst ey
  obtain⟨z,hd,vs,rel,dd⟩:=Ov I.hok e
  refine call_meetsIn slot_dict_get dd.typeIs entry_dict_get (PySem.F.args_dict_get_2 _ _) (meets_dict_get (Dp X.prog X.w) a (Rf ry) hd) ⟨_,dd.mapOf,h _ _ (I.tok _) ?_⟩
  rw[l]
  exact (rel.val k).getD rfl
 ·subst ey
  cases (show u = Value.ref b from ry)
  obtain⟨z,hd,xs,rel,dd⟩:=Ox I.hok e
  refine call_meetsIn slot_dict_get dd.typeIs entry_dict_get (PySem.F.args_dict_get_2 _ _) (meetsH_dict_get (tupleKind (Dp X.prog X.w)) a b hd) ⟨tupleKind_room_in1 hu,k,xs,Ol I.hok eb,dd,h _ _ (I.tok _) ?_⟩
  rw[l]
  exact (rel.val k).getD rfl
theorem AlK {Q:Value->Shared->Prop} (hu:A.units + 1 < cLine) (I:Inv X pins σ H s) (g:DGet H a y o) (ry:RelV y u) (rd:RelV d r) (h:∀ w' s',Inv X pins σ H s'->RelV (o.getD d) w'->Q w' s') :
  wpAny (model X.prog X.w) A (call (.builtin "dict.get") [.ref a,u,r]) Q E s:=by
 rcases g with ⟨kvs,k,e,ey,l⟩ | ⟨kvs,k,b,e,ey,eb,l⟩
 ·subst ey
  obtain⟨z,hd,vs,rel,dd⟩:=Ov I.hok e
  refine call_meetsIn slot_dict_get dd.typeIs entry_dict_get (PySem.F.args_dict_get_3 _ _ _) (meets_dict_get_default (Dp X.prog X.w) a (Rf ry) hd r) ⟨_,dd.mapOf,h _ _ (I.tok _) ?_⟩
  rw[l]
  exact (rel.val k).getD rd
 ·subst ey
  cases (show u = Value.ref b from ry)
  obtain⟨z,hd,xs,rel,dd⟩:=Ox I.hok e
  refine call_meetsIn slot_dict_get dd.typeIs entry_dict_get (PySem.F.args_dict_get_3 _ _ _) (meetsH_dict_get_default (tupleKind (Dp X.prog X.w)) a b hd r) ⟨tupleKind_room_in1 hu,k,xs,Ol I.hok eb,dd,h _ _ (I.tok _) ?_⟩
  rw[l]
  exact (rel.val k).getD rd
end
def Adz (td ty:TE):TE:=fun σ H Q=>td σ H fun x H1=>∃ a,x = .ref a/\IsD H1 a/\ty σ H1 fun y H2=>∃ o,DGet H2 a y o/\Q (o.getD .non) H2
def Zj (td ty tx:TE):TE:=fun σ H Q=>td σ H fun x H1=>∃ a,x = .ref a/\IsD H1 a/\ty σ H1 fun y H2=>tx σ H2 fun z H3=>∃ o,DGet H3 a y o/\Q (o.getD z) H3
section
variable {X:Cx} {o e f:Expr} {apos cpos:Pos} {td ty tx:TE}
theorem AfK (hu:X.A.units + 1 < cLine) (ho:PE X o td) (he:PE X e ty) (m:M1 X o "get" apos e cpos):PE X (.Call (.Attribute o "get" apos) [e] [] cpos) (Adz td ty):=by
 intro pins s σ H Q I h
 refine wpAny_Call_method m.base m.few m.line plainAttrs_dict slot_dict_get type_dict_get (thn (ho pins s σ H _ I h) fun u s1 ⟨x,H1,I1,rx,a,ex,d,q1⟩=>?_)
 subst ex
 obtain rfl:u = Value.ref a:=rx
 obtain⟨t1,t2,_⟩:=AdY I1 d
 refine⟨t1,t2,?_⟩
 rw[m.trees]
 refine Calls.callWith_builtin rfl (Calls.evalArgs_plain (Calls.spliced_cons (thn (he pins s1 σ H1 _ I1 q1) fun iv s2 ⟨y,H2,I2,ry,ov,g,q2⟩=>Calls.spliced_nil ?_)))
 exact AlI hu I2 g ry fun w' s3 I3 rw'=>⟨_,H2,I3,rw',q2⟩
theorem Rk (hu:X.A.units + 1 < cLine) (ho:PE X o td) (he:PE X e ty) (hf:PE X f tx) (m:M2 X o "get" apos e f cpos):PE X (.Call (.Attribute o "get" apos) [e,f] [] cpos) (Zj td ty tx):=by
 intro pins s σ H Q I h
 refine wpAny_Call_method m.base m.few m.line plainAttrs_dict slot_dict_get type_dict_get (thn (ho pins s σ H _ I h) fun u s1 ⟨x,H1,I1,rx,a,ex,d,q1⟩=>?_)
 subst ex
 obtain rfl:u = Value.ref a:=rx
 obtain⟨t1,t2,_⟩:=AdY I1 d
 refine⟨t1,t2,?_⟩
 rw[m.trees]
 refine Calls.callWith_builtin rfl (Calls.evalArgs_plain (Calls.spliced_cons (thn (he pins s1 σ H1 _ I1 q1) fun iv s2 ⟨y,H2,I2,ry,q2⟩ =>
  Calls.spliced_cons (thn (hf pins s2 σ H2 _ I2 q2) fun fv s3 ⟨z,H3,I3,rz,ov,g,q3⟩=>Calls.spliced_nil ?_))))
 exact AlK hu I3 g ry rz fun w' s4 I4 rw'=>⟨_,H3,I4,rw',q3⟩
end
section
variable {X:Cx} {pins:List (Addr × Obj)} {σ:St} {H:Hp} {s:Shared} {a:Addr} {kvs:List (Key × V)} {A:Around} {E:Value->Shared->Prop}
end
section
variable {X:Cx} {pins:List (Addr × Obj)} {σ:St} {H:Hp} {s:Shared} {a:Addr} {y:V} {u:Value} {A:Around} {E:Value->Shared->Prop}
end
end L2
namespace Att
open PySem PySem.W PySem.Calls PyProof.Rows
theorem Vk {P:Params} {h:Heap}:∀ (ns:List Int) (vs:List Value),WellAll P h vs (ns.map WData.int)->IntsAre vs ns:=by
 intro ns
 induction ns with
 | nil =>
  intro vs w
  rw[map_nil] at w
  cases w
  exact .nil
 | cons n ns ih =>
  intro vs w
  rw[map_cons] at w
  cases w with
  | cons a b =>
   cases a
   exact .cons _ _ (ih _ b)
theorem AeR {l:OpenLaw} {n:Nat} (hn:l.most = some n) {P:Params} {h:Heap} {args:List WData} {vals:List Value}
  (hpre:l.row.toRowW.claim.pre args = true) (hwl:WellAll P h vals args) :
  ∃ a vs ns,vals = [Value.ref a]/\args = [WData.list (ns.map WData.int)]/\h.get? a = some { cls:=.type "list",data:=.seq vs.toArray }/\IntsAre vs ns/\ns.length <= n:=by
 have hsh:WShape.hasAll [] args [.list .int] = true:=(pre_splitW hpre).1
 have hc:l.pre.holds [] { args:=args } = true:=(pre_splitW hpre).2
 obtain⟨d,r,rfl,h1,h2⟩:=hasAllW_cons hsh
 obtain rfl:=hasAllW_nil h2
 obtain⟨xs,rfl,h3⟩:=hasW_list h1
 obtain⟨ns,rfl⟩:=items_int h3
 have hlen:ns.length <= n:=by
  unfold OpenLaw.pre at hc
  have h4:(WTm.not (.lt (.lit (.int (n:Int))) (.len (.arg 0)))).holds [] { args:=[.list (ns.map .int)] } = true:=by
   have h4:=(holds_andW hc).1
   rw[hn] at h4
   exact h4
  have h5:=condW_of h4 (w_not (w_lt w_lit (w_len_list (w_arg rfl))))
  rw[length_map] at h5
  refine Nat.le_of_not_lt fun q=>?_
  have q':(n:Int) < ((ns.length:Nat):Int):=by omega
  first
   | (rw[decide_eq_true q'] at h5; exact absurd h5 (by decide))
   | (simp at h5; omega)
 cases hwl with
 | cons w1 w2 =>
  cases w2
  cases w1 with
  | list ho hall=>exact⟨_,_,ns,rfl,rfl,ho,Vk ns _ hall,hlen⟩
theorem Aez (l:OpenLaw) (args:List WData):l.row.toRowW.claim.post args (.bool true) args = true :=
 postW_of (r:=l.row.toRowW) (X:=(true == true))
  (show WShape.has [] (.bool true) .bool = true by first | rfl | decide | simp [WShape.has,WShape.arms,WShape.armsAll])
  (show (WTm.eq .res (.lit (.bool true))).value [] { args:=args,res:=some (.bool true),after:=args } = some (.bool (true == true)) from w_eq_bool (w_res rfl) w_lit) rfl
theorem attach_call {l:OpenLaw} {n:Nat} {q:Program} {loose:List Str} {XP:(Str->Option Value)->Heap->Prop} {YP:World->Heap->Prop} {d:DefRec}
  (hn:l.most = some n) (hdf:d.params.defaults = [])
  (call:∀ (w:World) (s₀ s₁:Shared) (mg mb:Str->Option Value) (fa:Addr) (o:Obj) (pm cd doc:Value) (a:Addr) (vs:List Value) (ns:List Int),
   Ground q loose [] XP w s₀ mg mb s₁.heap->YP w s₁.heap ->
   s₁.heap.get? fa = some o->o.data = .func (docDef d.name d.params d.body d.scope pm cd doc)->s₁.heap.CodeRec cd d.name->mg d.name = some (.ref fa) ->
   s₁.heap.get? a = some { cls:=.type "list",data:=.seq vs.toArray }->IntsAre vs ns->ns.length <= n->s₁.gens = #[] ->
   codeAny (model l.prog w) callerA (.call (.ref fa) ⟨[.ref a],[]⟩) (fun r s'=>r = .ok (.ret (.bool true))/\OldK s₁.heap s'.heap/\s'.os = s₁.os/\AllBare s'.gens) s₁) :
  WalkO q loose XP YP l.row.toRowW d [] (fun f vs=>PySem.call f vs):=by
 intro w s₀ s₁ mg mb G Y fa o pm cd doc dV kV ho hd hcd hD hmg hg args vals as hpre hlay hrd hwl hlo
 obtain rfl:dV = .none:=Dflts.none hD hdf
 obtain rfl:kV = .none:=Dflts.noKw hD
 obtain⟨a,vs,ns,rfl,rfl,hobj,hints,hlen⟩:=AeR hn hpre hwl
 refine enter_call (codeAny_mono (call w s₀ s₁ mg mb fa o pm cd doc a vs ns G Y ho (fd_plain hd) hcd hmg hobj hints hlen hg) fun r s' hq=>?_)
 obtain⟨rfl,h2,h3,h4⟩:=hq
 exact⟨.inl ⟨.bool true,.bool true,[],rfl,fun _=>rfl,.bool true,Aez l _,fun _=>⟨Pairwise.nil,fun _ hm=>(nomatch hm)⟩⟩,h2,h3,h4⟩
section
variable {prog:Program} {w:World} {A:Around} {E:Value->Shared->Prop} {s:Shared} {K:Frag}
end
end Att
namespace L2
open PySem PySem.Spec PyProof.Rows
theorem Xc:∀ {vs:List Value} {ns:List Int},IntsAre vs ns->Vals (ns.map V.int) vs
 | _,_,.nil=>.nil
 | _,_,.cons n t h=>.cons ⟨t,rfl⟩ (Xc h)
def Afj (H:Hp):Prop:=∀ b,H b = none\/∃ o xs,H b = some (.frz o (.lst xs))
theorem AfX {P:Program} {w:World} {K:Frag} {mg mb:Str->Option Value} {CX:CXT} {k:Nat} {fa a:Addr} {fd:FuncData} {x:Str} {sp:Sp} {s₁:Shared} {vs:List Value} {ns:List Int}
  (KX:K.In s₁.heap) (hns:s₁.heap.Ns mainGlobals mg) (hb:s₁.heap.Ns builtinsNs mb) (hbb:∀ x:Str,x ≠ "__name__"->mb x = bootBuiltins x) (hlim:s₁.heap.NoLimit) (hg:s₁.gens = #[])
  (ha:s₁.heap.get? a = some { cls:=.type "list",data:=.seq vs.toArray }) (hi:IntsAre vs ns) (hl:ns.length <= sizeLine) (hr:Room k callerA)
  (F:∀ base:Heap,K.In base->base.Ns mainGlobals mg->FnOk P w K mg base CX k fa fd [x] sp) (hbind:∀ (s:Shared) (u:Value),BindsTo s fd ⟨[u],[]⟩ [(x,u)])
  (hsp:∀ H:Hp,Afj H->SqL K H a (ns.map V.int)->sp [.ref a] H (fun v _=>v = .bl true) fun _ _ _=>False)
  (hCX:∀ H e s',CX [] H s₁ (fun _ _ _=>False) e s'->False) :
  codeAny (model P w) callerA (.call (.ref fa) ⟨[.ref a],[]⟩) (fun r s'=>r = .ok (.ret (.bool true))/\OldK s₁.heap s'.heap/\s'.os = s₁.os/\AllBare s'.gens) s₁:=by
 have rv:=Xc hi
 have lenV:=hi.length
 -- from an abstract heap in which nothing but the script may be tracked
 have core:∀ H:Hp,Afj H->SqL K H a (ns.map V.int)->HOk P w H s₁.heap->(∀ b,H b ≠ none->b = a)->(H a ≠ none->K.lookup a = none) ->
   codeAny (model P w) callerA (.call (.ref fa) ⟨[.ref a],[]⟩) (fun r s'=>r = .ok (.ret (.bool true))/\OldK s₁.heap s'.heap/\s'.os = s₁.os/\AllBare s'.gens) s₁:=by
  intro H hO hS hok hA hK
  have base_of:∀ {b:Addr} {o:Obj},s₁.heap.get? b = some o->H b = none->(Rs s₁.heap H).get? b = some o:=fun e n=>Afk e n
  have noA:∀ {b:Addr} {o:Obj} {es:Array DictEntry} {ep:Nat},s₁.heap.get? b = some o->o.data = .dict es ep->H b = none:=fun {b o es ep} e d=>by
   cases q:H b with
   | none=>rfl
   | some u =>
    have e':b = a:=hA b (by rw[q]; simp)
    subst e'
    rw[ha] at e; cases e
    have d':Data.seq vs.toArray _ = Data.dict es ep:=d
    cases d'
  have nsK:∀ {b:Addr} {m:Str->Option Value},s₁.heap.Ns b m->(Rs s₁.heap H).Ns b m:=fun {b m} ⟨o,es,ep,e,d,r⟩=>⟨o,es,ep,base_of e (noA e d),d,r⟩
  have hKb:K.In (Rs s₁.heap H):=fun b o e=>base_of (KX b o e) (by
   cases q:H b with
   | none=>rfl
   | some u =>
    have e':b = a:=hA b (by rw[q]; simp)
    subst e'
    rw[hK (by rw[q]; simp)] at e; cases e)
  have hM:Mod K mg (Rs s₁.heap H):=⟨hKb,nsK hns,⟨mb,nsK hb,hbb⟩,let ⟨mc,h1,h2⟩:=hlim; ⟨mc,nsK h1,h2⟩⟩
  have e0:Env0 P w K mg (Rs s₁.heap H) callerA [] s₁ H:=⟨rfl,hM,fun b o e=>AiC e,Nat.le_of_eq (Ac0 _ _),trivial,fun b hb=>absurd (show b ∈ ([]:List Addr) from hb) (by simp),hok,.of_eq hg⟩
  refine codeAny_mono ((F _ hKb (nsK hns)).run callerA [] s₁ H ⟨[.ref a],[]⟩ [.ref a] [.ref a] _ _ hr e0 (hbind s₁ (.ref a)) (.cons rfl .nil) (hsp H hO hS)) fun r s' h=>?_
  cases r with
  | error e=>exact (hCX H e s' h).elim
  | ok fl =>
   cases fl with
   | next=>exact False.elim h
   | brk=>exact False.elim h
   | cont=>exact False.elim h
   | ret u =>
    obtain⟨v,H',os,bare,un,hok',r',q⟩:=h
    have q':v = .bl true:=q
    subst q'
    obtain rfl:u = Value.bool true:=r'
    refine⟨rfl,OldK.of_keep fun b o e=>?_,os,bare⟩
    cases q:H b with
    | none=>exact un.keep b o e q (by intro z; exact absurd (show b ∈ ([]:List Addr) from z) (by simp)) (by simp)
    | some u =>
     rcases hO b with z | ⟨ob,xs,z⟩
     ·rw[q] at z; cases z
     ·have z2:=un.frzs b ob _ z
      obtain⟨e1,_⟩:=hok b _ z
      obtain⟨e2,_⟩:=hok' b _ z2
      rw[e] at e1; cases e1
      exact e2
 cases hk:K.lookup a with
 | some o =>
  -- the script is one of the module's own objects
  have e:=KX a o hk
  rw[ha] at e
  cases e
  refine core (fun _=>none) (fun _=>.inl rfl) (.inr ⟨_,vs.toArray,_,hk,rfl,rfl,rfl,by rw[size_toArray,lenV]; exact hl,by simpa using rv⟩) (fun b u z=>by have z':(none:Option HO) = some u:=z; cases z') (fun b z=>absurd rfl z) fun z=>absurd rfl z
 | none =>
  refine core (fun b=>if b = a then some (.frz { cls:=.type "list",data:=.seq vs.toArray } (.lst (ns.map V.int))) else none) (fun b=>?_) (.inl (.inr ⟨{ cls:=.type "list",data:=.seq vs.toArray },if_pos rfl⟩)) (fun b u z=>?_) (fun b z=>?_) fun _=>hk
  ·by_cases hb:b = a
   ·exact .inr ⟨_,_,if_pos hb⟩
   ·exact .inl (if_neg hb)
  ·by_cases hb:b = a
   ·have z':=(if_pos hb).symm.trans z
    cases z'
    subst hb
    exact⟨ha,by rw[length_map]; exact hl,vs,_,rv,ha⟩
   ·have z':=(if_neg hb).symm.trans z
    cases z'
  ·by_cases hb:b = a
   ·exact hb
   ·exact absurd (if_neg hb) z
end L2
namespace L2
open PySem PySem.Spec PyProof.Rows
theorem Aob {l:PySem.W.OpenLaw} {n k:Nat} {q:Program} {loose:List Str} {XP:(Str->Option Value)->Heap->Prop} {YP:World->Heap->Prop} {d:DefRec} {K:Params->Frag} {CX:World->CXT} {sp:World->Sp} {x:Str}
  (hn:l.most = some n) (hn2:n <= sizeLine) (hdf:d.params.defaults = []) (hr:Room k callerA)
  (hY:∀ (w:World) (h:Heap),YP w h->(K w.params).In h)
  (F:∀ (w:World) (mg:Str->Option Value) (fa:Addr) (h:Heap),(K w.params).In h->h.Ns mainGlobals mg->mg d.name = some (.ref fa) ->
   ∃ fd:FuncData,(∀ (s:Shared) (u:Value),BindsTo s fd ⟨[u],[]⟩ [(x,u)]) /\
    ∀ base:Heap,(K w.params).In base->base.Ns mainGlobals mg->FnOk l.prog w (K w.params) mg base (CX w) k fa fd [x] (sp w))
  (hsp:∀ (w:World) (H:Hp) (a:Addr) (ns:List Int),ns.length <= n->Afj H->SqL (K w.params) H a (ns.map V.int)->sp w [.ref a] H (fun v _=>v = .bl true) fun _ _ _=>False)
  (hCX:∀ (w:World) (H:Hp) (s:Shared) (e:Value) (s':Shared),CX w [] H s (fun _ _ _=>False) e s'->False) :
  PySem.W.WalkO q loose XP YP l.row.toRowW d [] (fun f vs=>PySem.call f vs):=by
 refine Att.attach_call hn hdf fun w s₀ s₁ mg mb fa o pm cd doc a vs ns G Y ho hd hcd hmg hobj hints hlen hg=>?_
 have KX:=hY w _ Y
 obtain⟨fd,hb,hF⟩:=F w mg fa _ KX G.T.g hmg
 exact AfX KX G.T.g G.T.b G.T.builtins G.T.nolimit hg hobj hints (Nat.le_trans hlen hn2) hr hF hb (fun H hO hS=>hsp w H a ns hlen hO hS) fun H e s'=>hCX w H s₁ e s'
end L2
namespace L2
open PySem PySem.Spec PyProof.Rows
def Wh (s:Stmt) (j:Nat):Stmt:=match s with
 | .ClassDef _ _ _ body _ _ _ _ _ _ _=>body.getD j (.Pass ⟨0,0,0,0⟩)
 | _=>.Pass ⟨0,0,0,0⟩
def Jc (s:Stmt):Arguments:=match s with
 | .FunctionDef _ a _ _ _ _ _ _ _ _=>a
 | _=>{ posonlyargs:=[],args:=[],vararg:=none,kwonlyargs:=[],kw_defaults:=[],kwarg:=none,defaults:=[] }
def Gi (s:Stmt):List Stmt:=match s with
 | .FunctionDef _ _ b _ _ _ _ _ _ _=>b
 | _=>[]
def Bq (s:Stmt):Scope:=match s with
 | .FunctionDef _ _ _ _ _ _ sc _ _ _=>sc
 | _=>{ kind:=.function,names:=[],isGenerator:=false,isCoroutine:=false }
abbrev CX0:CXT:=fun _ _ _ _ _ _=>False
abbrev E0:XK:=fun _ _ _=>False
theorem Bt {X:Cx}:Qo CX0 X E0:=fun _ _ _ _ _ _ _ h=>h.elim
structure Fun (K:Frag) (x qual:Str) (st:Stmt) (f:Addr) (fd:FuncData):Prop where
 ex:∃ (oc:Value) (od:Option Addr) (kV doc pm:Value) (an:Option Addr) (cdv ct:Value) (osl:Array (Option Value)),
  fd = fnOf x qual (Jc st) (Gi st) (Bq st) .none kV doc pm an cdv ct/\K.lookup f = some ⟨oc,od,.func fd,osl⟩/\codeIn K cdv qual = true
 kp:keepIn K (.ref f) = true
section
variable {P:Program} {w:World} {K:Frag} {mg:Str->Option Value} {base:Heap}
theorem Fun.ok {x qual:Str} {st:Stmt} {f:Addr} {fd:FuncData} {N ps:List Str} {k:Nat} {sp:Sp} (F:Fun K x qual st f fd) (S:Ca N ps (Bq st)) (len:∀ vs H Q E,sp vs H Q E->vs.length = ps.length)
  (hbody:∀ (cdv:Value) (A:Around) (outer:List Env) (s:Shared) (H:Hp) (vs:List V) (Q:VK) (E:XK),Room k (A.deeper (envOfC qual (Bq st) s.heap.objs.size f cdv))->sp vs H Q E ->
   ∃ t,PSs (Sv CX0 P w K mg base N qual (Bq st) f cdv A outer s H E).nox (Gi st) t/\t { nx:=fun _ H'=>Q .non H',rt:=Q } (Nx N vs) H):FnOk P w K mg base CX0 (k + 1) f fd ps sp:=by
 obtain⟨oc,od,kV,doc,pm,an,cdv,ct,osl,rfl,lk,hcd⟩:=F.ex
 refine AhE lk hcd S len fun A outer s H vs Q E hr hsp=>?_
 obtain⟨t,h,q⟩:=hbody cdv A outer s H vs Q E hr hsp
 exact⟨t,h.nox,q⟩
theorem Fun.binds {x qual:Str} {st:Stmt} {f:Addr} {fd:FuncData} {ps:List Str} (F:Fun K x qual st f fd)
  (h:∀ (kV doc pm:Value) (an:Option Addr) (cdv ct:Value) (us:List Value),us.length = ps.length->bindArgs (fnOf x qual (Jc st) (Gi st) (Bq st) .none kV doc pm an cdv ct) ⟨us,[]⟩ = pure (ps.zip us)):Binds K fd ps []:=by
 obtain⟨oc,od,kV,doc,pm,an,cdv,ct,osl,rfl,lk,hcd⟩:=F.ex
 exact .all (h kV doc pm an cdv ct)
theorem Cm {x qual:Str} {st:Stmt} {f:Addr} {oc:Value} {od an:Option Addr} {osl:Array (Option Value)} {kV doc pm cdv ct:Value} (l:K.lookup f = some ⟨oc,od,.func (fnOf x qual (Jc st) (Gi st) (Bq st) .none kV doc pm an cdv ct),osl⟩)
  (c:codeIn K cdv qual = true) (k:keepIn K (.ref f) = true):Fun K x qual st f (fnOf x qual (Jc st) (Gi st) (Bq st) .none kV doc pm an cdv ct):=⟨⟨oc,od,kV,doc,pm,an,cdv,ct,osl,rfl,l,c⟩,k⟩
end
theorem Cp {A:Around} {k:Nat} (hr:Room k A):A.units + 1 < cLine:=Nat.lt_of_le_of_lt (Nat.add_le_add_left (by decide:1 <= 64) _) hr.units
theorem Nv {n:Nat} (h:n <= 1000):n < sizeLine:=Nat.lt_of_le_of_lt h (by decide)
section
variable {X:Cx}
theorem pv (i:Nat) {x:Str} {pos:Pos} (hN:X.N[i]? = some x:=by rfl) (hv:Vis X.env.scope x:=by first | exact Or.inl rfl | exact Or.inr (Or.inl rfl) | exact Or.inr (Or.inr rfl)) (hd:(x == ("__debug__" : Str)) = false:=by decide)
  (hcd:(x == ("__classdict__" : Str)) = false:=by decide):PE X (.Name x pos) (Fg i):=AlW hN hv hd hcd
end
theorem Nb {A B:Prop} (h:B):if false = true then A else B:=by
 rw[if_neg Bool.false_ne_true]
 exact h
theorem Ln {A B:Prop} (h:A):if true = true then A else B:=by
 rw[if_pos rfl]
 exact h
theorem Zs {c A B:Prop} [Decidable c] (h1:c->A) (h2:¬ c->B):if c then A else B:=by
 by_cases h:c
 ·rw[if_pos h]
  exact h1 h
 ·rw[if_neg h]
  exact h2 h
def Same (H H':Hp):Prop:=∀ b o,H b = some o->H' b = some o
theorem Same.refl (H:Hp):Same H H:=fun _ _ h=>h
theorem Same.trans {H H1 H2:Hp} (a:Same H H1) (b:Same H1 H2):Same H H2:=fun c o h=>b c o (a c o h)
theorem Same.free {H H':Hp} (e:Same H H') {l:Addr} (h:H' l = Option.none):H l = Option.none:=by
 cases q:H l with
 | none=>rfl
 | some o =>
  rw[e l o q] at h
  cases h
theorem Same.seq {K:Frag} {H H':Hp} {a:Addr} {xs:List V} (e:Same H H') (h:SqL K H a xs):SqL K H' a xs:=by
 rcases h with (h | ⟨o,h⟩) | h
 ·exact .inl (.inl (e _ _ h))
 ·exact .inl (.inr ⟨o,e _ _ h⟩)
 ·exact .inr h
section
variable {κ:Type} [DecidableEq κ]
theorem Abr {kvs:List (κ × V)} {k:κ} {v:V} (h:Cr kvs k = some v):k ∈ kvs.map (·.1):=by
 have q:(kvs.any fun kv=>decide (kv.1 = k)) = true:=by
  rw[Rh,h]
  all_goals rfl
 obtain⟨p,hp,e⟩:=any_eq_true.mp q
 exact mem_map.mpr ⟨p,hp,of_decide_eq_true e⟩
end
end L2
set_option maxHeartbeats 4000000
namespace L2
open PySem PySem.Spec PyProof.Rows
section
variable {X:Cx}
theorem Gx:Jp X (.builtin "isinstance") (fun vs H Q=>∃ x n t b,vs = [x,.ty n]/\Ge X.K H x t/\kitOne X.K t (.type n) = some b/\Q (.bl b) H):=by
 intro pins s σ H vs us Q I r h
 obtain⟨x,n,t,b,rfl,ty,e,q⟩:=h
 obtain⟨u,w',rfl,rx,ry⟩:=AcI r
 cases ry
 exact AeK I rx ty e fun tk=>⟨.bl b,H,I.tok tk,rfl,q⟩
end
theorem Qv {K:Frag} {T S:String} {b:Bool} (h:(if (Value.type T == Value.type S) = true then some true else if kitMeta S = true then (fastBuiltinMro T).map (·.contains (Value.type S)) else none) = some b):kitOne K (.type T) (.type S) = some b:=h
theorem AaL {K:Frag}:kitOne K (.type "int") (.type "int") = some true:=Qv (by decide +kernel)
theorem Zg {K:Frag}:kitOne K (.type "int") (.type "bool") = some false:=Qv (by decide +kernel)
theorem AaQ {K:Frag}:kitOne K (.type "str") (.type "str") = some true:=Qv (by decide +kernel)
theorem Xi {K:Frag}:kitOne K (.type "list") (.type "list") = some true:=Qv (by decide +kernel)
theorem AaO {K:Frag}:kitOne K (.type "tuple") (.type "tuple") = some true:=Qv (by decide +kernel)
inductive EqD (K:Frag) (H:Hp):Nat->V->V->Bool->Prop where
 | flat {n:Nat} {x y:V} (hx:Lm x = true) (hy:Lm y = true):EqD K H n x y (eqV x y)
 | same {n:Nat} (a:Addr):EqD K H n (.ref a) (.ref a) true
 | lst {n:Nat} {a b:Addr} {xs ys:List V} (e:Nat->Bool) (ne:a ≠ b) (hx:SqL K H a xs) (hy:SqL K H b ys) (hl:xs.length = ys.length)
   (he:∀ (i:Nat) (x y:V),xs[i]? = some x->ys[i]? = some y->EqD K H n x y (e i)):EqD K H (n + 1) (.ref a) (.ref b) ((range xs.length).all e)
 | lstN {n:Nat} {a b:Addr} {xs ys:List V} (ne:a ≠ b) (hx:SqL K H a xs) (hy:SqL K H b ys) (hl:¬ xs.length = ys.length):EqD K H (n + 1) (.ref a) (.ref b) false
 | tup {n:Nat} {a b:Addr} {xs ys:List V} (e:Nat->Bool) (ne:a ≠ b) (hx:SqT K H a xs) (hy:SqT K H b ys)
   (he:∀ (i:Nat) (x y:V),xs[i]? = some x->ys[i]? = some y->EqD K H n x y (e i)):EqD K H (n + 1) (.ref a) (.ref b) ((range (min xs.length ys.length)).all e && xs.length == ys.length)
section
variable {X:Cx} {pins:List (Addr × Obj)} {σ:St} {H:Hp} {s:Shared}
theorem Jw (A:Around):A.in1.units = A.units + 1:=rfl
theorem Oo {xs ys:List V} {us vs:List Value} {R:Nat->Value->Value->Prop} (r1:Vals xs us) (r2:Vals ys vs)
  (h:∀ (i:Nat) (x y:V) (u v:Value),xs[i]? = some x->ys[i]? = some y->RelV x u->RelV y v->R i u v) :
  ∀ j (h1:j < us.toArray.size) (h2:j < vs.toArray.size),R j us.toArray[j] vs.toArray[j]:=by
 intro j h1 h2
 have h1':j < us.length:=by simpa using h1
 have h2':j < vs.length:=by simpa using h2
 have l1:j < xs.length:=by rw[r1.length]; exact h1'
 have l2:j < ys.length:=by rw[r2.length]; exact h2'
 obtain⟨u,eu,ru⟩:=r1.get (i:=j) (x:=xs[j]) (by simp [l1])
 obtain⟨v,ev,rv⟩:=r2.get (i:=j) (x:=ys[j]) (by simp [l2])
 have eu':us[j] = u:=by simpa [h1'] using eu
 have ev':vs[j] = v:=by simpa [h2'] using ev
 have q:=h j xs[j] ys[j] u v (by simp [l1]) (by simp [l2]) ru rv
 simpa [eu',ev'] using q
theorem EqD.at (I:Inv X pins σ H s):∀ {n:Nat} {x y:V} {b:Bool},EqD X.K H n x y b->∀ {A:Around} {u v:Value},A.units + n < cLine->RelV x u->RelV y v->SeqAt.EqAt A s u v b:=by
 intro n x y b h
 induction h with
 | flat hx hy=>intro A u v _ ru rv; exact AeM ru rv hx hy
 | same a=>intro A u v _ ru rv; cases ru; cases rv; exact SeqAt.EqAt.same _
 | @lst n a b xs ys e ne hx hy hl he ih =>
  intro A u v hu ru rv
  cases ru; cases rv
  obtain⟨us,r1,p1,_⟩:=I.list hx
  obtain⟨vs,r2,p2,_⟩:=I.list hy
  have es:us.toArray.size = xs.length:=by rw[size_toArray]; exact r1.length.symm
  have es2:us.toArray.size = vs.toArray.size:=by rw[es,size_toArray,<- r2.length]; exact hl
  refine SeqAt.EqAt.of_refs ne ?_
  rw[<- es]
  exact SeqAt.RcAt.lists p1.isList p2.isList es2 (by omega) (Oo r1 r2 fun i x y u v hx hy ru rv=>ih i x y hx hy (by rw[Jw]; omega) ru rv)
 | @lstN n a b xs ys ne hx hy hl =>
  intro A u v hu ru rv
  cases ru; cases rv
  obtain⟨us,r1,p1,_⟩:=I.list hx
  obtain⟨vs,r2,p2,_⟩:=I.list hy
  refine SeqAt.EqAt.of_refs ne (SeqAt.RcAt.lists_lengths p1.isList p2.isList ?_ (by omega))
  rw[size_toArray,size_toArray,<- r1.length,<- r2.length]
  simpa using hl
 | @tup n a b xs ys e ne hx hy he ih =>
  intro A u v hu ru rv
  cases ru; cases rv
  obtain⟨us,r1,p1,_⟩:=I.tuple hx
  obtain⟨vs,r2,p2,_⟩:=I.tuple hy
  have es:us.toArray.size = xs.length:=by rw[size_toArray]; exact r1.length.symm
  have es2:vs.toArray.size = ys.length:=by rw[size_toArray]; exact r2.length.symm
  refine SeqAt.EqAt.of_refs ne ?_
  rw[<- es,<- es2]
  exact SeqAt.RcAt.tuples p1 p2 (by omega) (Oo r1 r2 fun i x y u v hx hy ru rv=>ih i x y hx hy (by rw[Jw]; omega) ru rv)
def LEq (K:Frag) (H:Hp) (xs ys:List V) (k:Bool):Prop :=
 (¬ xs.length = ys.length/\k = false)\/(xs.length = ys.length/\∃ e:Nat->Bool,(∀ (i:Nat) (x y:V),xs[i]? = some x->ys[i]? = some y->EqD K H 40 x y (e i))/\k = (range xs.length).all e)
def Aax (K:Frag) (neg:Bool):R2:=fun x y H Q=>∃ a b xs ys k,x = .ref a/\y = .ref b/\SqL K H a xs/\SqL K H b ys/\LEq K H xs ys k/\Q (.bl (if neg then !k else k)) H
theorem AkS (hu:X.A.units + 64 < cLine):OpR X (compareOp .Eq) (Aax X.K false):=by
 intro pins s σ H x y v u Q I rx ry h
 obtain⟨a,b,xs,ys,k,rfl,rfl,hx,hy,hk,q⟩:=h
 cases rx; cases ry
 obtain⟨us,r1,p1,_⟩:=I.list hx
 obtain⟨vs,r2,p2,_⟩:=I.list hy
 have fin:EP X pins σ Q (.bool k) s:=⟨.bl k,H,I,rfl,q⟩
 rcases hk with ⟨hl,rfl⟩ | ⟨hl,e,he,rfl⟩
 ·refine SeqAt.eq_list_lengthsAt p1.isList p2.isList ?_ (by omega) fin
  rw[size_toArray,size_toArray,<- r1.length,<- r2.length]
  simpa using hl
 ·have es:us.toArray.size = xs.length:=by rw[size_toArray]; exact r1.length.symm
  have es2:us.toArray.size = vs.toArray.size:=by rw[es,size_toArray,<- r2.length]; exact hl
  rw[<- es] at fin
  exact SeqAt.eq_listAt p1.isList p2.isList es2 (by omega) (Oo r1 r2 fun i x y u v hx hy ru rv=>(he i x y hx hy).at I (by rw[Jw]; omega) ru rv) fin
theorem Aj6 (hu:X.A.units + 64 < cLine):OpR X (compareOp .NotEq) (Aax X.K true):=by
 intro pins s σ H x y v u Q I rx ry h
 obtain⟨a,b,xs,ys,k,rfl,rfl,hx,hy,hk,q⟩:=h
 cases rx; cases ry
 obtain⟨us,r1,p1,_⟩:=I.list hx
 obtain⟨vs,r2,p2,_⟩:=I.list hy
 have fin:EP X pins σ Q (.bool (!k)) s:=⟨.bl (!k),H,I,rfl,q⟩
 rcases hk with ⟨hl,rfl⟩ | ⟨hl,e,he,rfl⟩
 ·refine SeqAt.RcNeAt.lists_lengths p1.isList p2.isList ?_ (by omega) _ _ _ _ fin
  rw[size_toArray,size_toArray,<- r1.length,<- r2.length]
  simpa using hl
 ·have es:us.toArray.size = xs.length:=by rw[size_toArray]; exact r1.length.symm
  have es2:us.toArray.size = vs.toArray.size:=by rw[es,size_toArray,<- r2.length]; exact hl
  rw[<- es] at fin
  exact SeqAt.RcNeAt.lists p1.isList p2.isList es2 (by omega) (Oo r1 r2 fun i x y u v hx hy ru rv=>(he i x y hx hy).at I (by rw[Jw]; omega) ru rv) _ _ _ _ fin
def Afn (K:Frag) (neg:Bool):R2:=fun x y H Q=>∃ a b xs ys e,x = .ref a/\y = .ref b/\SqT K H a xs/\SqT K H b ys/\(∀ (i:Nat) (x y:V),xs[i]? = some x->ys[i]? = some y->EqD K H 40 x y (e i)) /\
 Q (.bl (if neg then !((range (min xs.length ys.length)).all e && xs.length == ys.length) else ((range (min xs.length ys.length)).all e && xs.length == ys.length))) H
theorem AlE (hu:X.A.units + 64 < cLine):OpR X (compareOp .Eq) (Afn X.K false):=by
 intro pins s σ H x y v u Q I rx ry h
 obtain⟨a,b,xs,ys,e,rfl,rfl,hx,hy,he,q⟩:=h
 cases rx; cases ry
 obtain⟨us,r1,p1,_⟩:=I.tuple hx
 obtain⟨vs,r2,p2,_⟩:=I.tuple hy
 have es:us.toArray.size = xs.length:=by rw[size_toArray]; exact r1.length.symm
 have es2:vs.toArray.size = ys.length:=by rw[size_toArray]; exact r2.length.symm
 have fin:EP X pins σ Q (.bool ((range (min xs.length ys.length)).all e && xs.length == ys.length)) s:=⟨.bl _,H,I,rfl,q⟩
 rw[<- es,<- es2] at fin
 exact SeqAt.eq_tupleAt p1 p2 (by omega) (Oo r1 r2 fun i x y u v hx hy ru rv=>(he i x y hx hy).at I (by rw[Jw]; omega) ru rv) fin
end
section
variable {X:Cx} {pins:List (Addr × Obj)} {σ:St} {H:Hp} {s:Shared} {a:Addr}
def Frb:HO->Prop
 | .dK _=>True
 | .dT _=>True
 | _=>False
theorem Frb.notup {u:HO} (h:Frb u) (xs:List V):u ≠ .tup xs:=by intro e; subst e; exact h
theorem Frb.nofrz {u:HO} (h:Frb u) (o:Obj) (v:HO):u ≠ .frz o v:=by intro e; subst e; exact h
theorem Frb.noown {u:HO} (h:Frb u) (x:Addr):u ≠ .own x:=by intro e; subst e; exact h
theorem Frb.notbl {u:HO} (h:Frb u) (ps:Array Value):u ≠ .tbl ps:=by intro e; subst e; exact h
def AbO (X:Cx) (a:Addr):Prop:=(∀ xs,X.H₀ a ≠ some (.tup xs))/\(∀ o v,X.H₀ a ≠ some (.frz o v))/\∀ ps,X.H₀ a ≠ some (.tbl ps)
theorem Inv.free0 (I:Inv X pins σ H s) {u:HO} (hu:Frb u) (e:H a = some u):AbO X a:=by
 refine⟨fun xs q=>?_,fun o v q=>?_,fun ps q=>?_⟩
 ·have:=I.base.tups a xs q; rw[e] at this; exact hu.notup xs (Option.some.inj this)
 ·have:=I.base.frzs a o v q; rw[e] at this; exact hu.nofrz o v (Option.some.inj this)
 ·obtain⟨m,this⟩:=I.base.tbls a ps q; rw[e] at this; exact hu.notbl _ (Option.some.inj this)
theorem Inv.swap {u v:HO} (I:Inv X pins σ H s) (hu:∀ x,u ≠ .own x) (hu2:∀ xs,u ≠ .tup xs) (e:H a = some u) (f:AbO X a) (ok:ObjOk X.prog X.w (upd H a v) s.heap a v):Inv X pins σ (upd H a v) s:=by
 have nown:∀ b x,H b = some (.own x)->b ≠ a:=fun b x q z=>by subst z; rw[e] at q; exact hu x (Option.some.inj q)
 have ntup:∀ b xs,H b = some (.tup xs)->b ≠ a:=fun b xs q z=>by subst z; rw[e] at q; exact hu2 xs (Option.some.inj q)
 have nnone:∀ b,H b = none->b ≠ a:=fun b q z=>by subst z; rw[e] at q; cases q
 refine⟨I.ok,I.os,I.bare,⟨I.base.keep,I.base.slot,fun b o h1 h2 h3=>?_,I.base.there,fun b xs q=>?_,fun b o w q=>?_,fun b ps q=>?_⟩,I.loc,I.cell,?_,fun x c q=>?_,fun p hp=>?_,fun b o q=>?_,I.len⟩
 ·have q:=I.base.free b o h1 h2 h3
  rw[Bj (nnone b q)]; exact q
 ·have h:b ≠ a:=fun z=>by subst z; exact f.1 xs q
  rw[Bj h]; exact I.base.tups b xs q
 ·have h:b ≠ a:=fun z=>by subst z; exact f.2.1 o w q
  rw[Bj h]; exact I.base.frzs b o w q
 ·have h:b ≠ a:=fun z=>by subst z; exact f.2.2 ps q
  rw[Bj h]; exact I.base.tbls b ps q
 ·rw[Bj (nnone _ I.free)]; exact I.free
 ·rw[Bj (nnone _ (I.freeC x c q))]; exact I.freeC x c q
 ·obtain⟨h1,h2,h3⟩:=I.pin p hp
  exact⟨h1,by rw[Bj (nnone _ h2)]; exact h2,h3⟩
 ·by_cases hb:b = a
  ·subst hb; rw[Bm] at q; cases q; exact ok
  ·rw[Bj hb] at q
   exact (I.hok b o q).stay (fun _ _ _ z=>z) (fun c z=>by rw[Bj (nown c b z)]; exact z) fun c xs z=>by rw[Bj (ntup c xs z)]; exact z
theorem ObjOk.heap {P:Program} {w:World} {h:Heap} {H':Hp} {u:HO} (x:ObjOk P w H h a u) (hd:∀ b xs,H b = some (.tup xs)->H' b = some (.tup xs)) (ho:∀ b,H b = some (.own a)->H' b = some (.own a)):ObjOk P w H' h a u :=
 x.stay (fun _ _ _ z=>z) ho hd
theorem Inv.freeze {u:HO} (I:Inv X pins σ H s) (hu:Frb u) (e:H a = some u):∃ o,Inv X pins σ (upd H a (.frz o u)) s:=by
 have ok:=I.hok a u e
 obtain⟨o,ho⟩:∃ o,s.heap.get? a = some o:=by
  cases u with
  | dK kvs=>obtain⟨_,_,_,_,o,_,_,h,_⟩:=ok; exact⟨o,h⟩
  | dT kvs=>obtain⟨_,_,_,_,o,_,_,h,_⟩:=ok; exact⟨o,h⟩
  | _=>exact hu.elim
 refine⟨o,I.swap (fun x=>hu.noown x) (fun xs=>hu.notup xs) e (I.free0 hu e) ⟨ho,ok.heap (fun b xs q=>?_) fun b q=>?_⟩⟩
 ·rw[Bj (fun z=>by subst z; rw[e] at q; exact hu.notup xs (Option.some.inj q))]; exact q
 ·rw[Bj (fun z=>by subst z; rw[e] at q; exact hu.noown _ (Option.some.inj q))]; exact q
theorem Inv.thaw {u:HO} {o:Obj} (I:Inv X pins σ H s) (f:AbO X a) (e:H a = some (.frz o u)):Inv X pins σ (upd H a u) s:=by
 obtain⟨ho,ok⟩:=(show ObjOk X.prog X.w H s.heap a (.frz o u) from I.hok a _ e)
 refine I.swap (by intro x z; cases z) (by intro xs z; cases z) e f (ok.heap (fun b xs q=>?_) fun b q=>?_)
 ·rw[Bj (fun z=>by subst z; rw[e] at q; cases q)]; exact q
 ·rw[Bj (fun z=>by subst z; rw[e] at q; cases q)]; exact q
def Qu (a:Addr) (u:HO) (D:Ends):Ends where
 nx:=fun σ H=>∃ o,H a = some (.frz o u)/\D.nx σ (upd H a u)
 rt:=fun v H=>∃ o,H a = some (.frz o u)/\D.rt v (upd H a u)
 bk:=fun σ H=>∃ o,H a = some (.frz o u)/\D.bk σ (upd H a u)
 ct:=fun σ H=>∃ o,H a = some (.frz o u)/\D.ct σ (upd H a u)
def Ab2 (t:TS):TS:=fun D σ H=>∃ a u,Frb u/\H a = some u/\∀ o,t (Qu a u D) σ (upd H a (.frz o u))
theorem Uo {st:Stmt} {t:TS} (h:PS X st t):PS X st (Ab2 t):=by
 intro pins s σ H D I q
 obtain⟨a,u,hu,e,q⟩:=q
 have f:=I.free0 hu e
 obtain⟨o,I1⟩:=I.freeze hu e
 refine thn (h pins s σ _ _ I1 (q o)) fun fl s' hs=>?_
 cases fl with
 | next=>obtain⟨σ',H',I',o',e',q'⟩:=hs; exact⟨σ',_,I'.thaw f e',q'⟩
 | brk=>obtain⟨σ',H',I',o',e',q'⟩:=hs; exact⟨σ',_,I'.thaw f e',q'⟩
 | cont=>obtain⟨σ',H',I',o',e',q'⟩:=hs; exact⟨σ',_,I'.thaw f e',q'⟩
 | ret v=>obtain⟨x,σ',H',I',r,o',e',q'⟩:=hs; exact⟨x,σ',_,I'.thaw f e',r,q'⟩
end
def Itd (a:Addr) (o:Obj) (kvs:List (Key × V)):It :=
 ⟨fun i H=>H a = some (.frz o (.dK kvs))/\i < kvs.length,fun i H x H'=>H' = H/\∃ kv,kvs[i]? = some kv/\x = kV kv.1,fun i H=>H a = some (.frz o (.dK kvs))/\kvs.length <= i⟩
theorem Abx {P:Program} {w:World} {k:Key} {u:Value} (h:(Dp P w).is k u = true):RelV (kV k) u:=by
 rcases Fh h with ⟨i,t,rfl,rfl⟩ | ⟨x,t,rfl,rfl⟩
 ·exact⟨t,rfl⟩
 ·exact⟨t,rfl⟩
theorem Ru {P:Program} {w:World} {H:Hp} {h:Heap} {a:Addr} {o:Obj} {kvs:List (Key × V)} {es:Array DictEntry} {ep:Nat} (ok:HOk P w H h) (e:H a = some (.frz o (.dK kvs))) (hd:o.data = .dict es ep) :
  (a == sysModules) = false/\∃ vs,KV kvs vs/\h.DictAt (Dp P w) a vs ep:=by
 obtain⟨ho,_,hm,vs,r,o',es',ep',h1,h2,h3,h4⟩:=(show ObjOk P w H h a (.frz o (.dK kvs)) from ok a _ e)
 rw[ho] at h1
 cases h1
 rw[hd] at h3
 cases h3
 exact⟨hm,vs,r,o,es,ho,h2,hd,h4⟩
theorem Ae9 {P:Program} {w:World} {K:Frag} {tg:Expr} (a it:Addr) (o:Obj) (kvs:List (Key × V)) (es:Array DictEntry) (ep:Nat) (hd:o.data = .dict es ep) :
  Tn P w K tg (Itd a o kvs) [it] it (fun i h=>h.IsKeyIter it a i kvs.length ep) where
 mem:=by simp
 obj:=fun i h st b hb=>by
  have e:b = it:=by simpa using hb
  subst e
  obtain⟨o,e,c,d⟩:=st
  exact⟨o,e,fun v z=>by rw[d] at z; cases z⟩
 keep:=fun i h h' st k=>by
  obtain⟨o,e,r⟩:=st
  exact⟨o,k it (by simp) o e,r⟩
 item:=by
  intro X hP hw hK hc i pins s σ H E I hf st hg
  subst hP hw hK
  obtain⟨hz,hi⟩:=hg
  obtain⟨hm,vs,r,da⟩:=Ru I.hok hz hd
  have hl:kvs.length = vs.length:=Paired.length r
  obtain⟨f0,f1,f2,f3,f4,f5⟩:=hf it (by simp)
  have hiv:i < vs.length:=by omega
  have ek:(kvs[i]).1 = (vs[i]).1:=by
   have q:=KV.keys r
   have q1:=congrArg (fun l=>l[i]?) q
   simp only [getElem?_map,getElem?_eq_getElem hi,getElem?_eq_getElem hiv,Option.map_some,Option.some.injEq] at q1
   exact q1
  refine wpAny_pyNext_dict_item (k:=(vs[i]).1) (v:=(vs[i]).2) (kvs:=vs) (by rw[<- hl]; exact st) da (by rw[getElem?_eq_getElem hiv]) fun key h' hkey st' sb=>?_
  have I1:Inv X pins σ H { s with heap:=h' }:=I.turned (t':=s.toks) (fun b o hb e=>(sb.2 b hb).trans e) f0 f1 f3 f4 f5
  rw[<- hl] at st'
  obtain⟨o',e',c',d'⟩:=id st'
  exact⟨key,rfl,Acb (s:={ s with heap:=h' }) e' c' d' (by decide) ⟨kV (kvs[i]).1,H,I1,by rw[ek]; exact Abx hkey,⟨rfl,kvs[i],getElem?_eq_getElem hi,rfl⟩,st',fun b hb=>(hf b hb).1⟩⟩
 done:=by
  intro X hP hw hK hc i pins s σ H E I hf st hg
  subst hP hw hK
  obtain⟨hz,hi⟩:=hg
  obtain⟨hm,vs,r,da⟩:=Ru I.hok hz hd
  have hl:kvs.length = vs.length:=Paired.length r
  obtain⟨f0,f1,f2,f3,f4,f5⟩:=hf it (by simp)
  exact wpAny_pyNext_dict_end (kvs:=vs) (I.ok.hd hc) (by rw[<- hl]; exact st) da (getElem?_eq_none (by omega)) fun h' eb=>⟨rfl,I.turned (t':=s.toks) (fun b o hb e=>eb b o hb e) f0 f1 f3 f4 f5⟩
 self:=fun _ _ _ _ _ st h=>wpAny_pyIter_keyiter st h
section
variable {X:Cx} {tg:Expr}
def iDk (tl:TE):TI:=fun σ H R=>tl σ H fun x H1=>∃ a o kvs,x = .ref a/\H1 a = some (.frz o (.dK kvs))/\R (Itd a o kvs) H1
theorem Ue {l:Expr} {tl:TE} (hl:PE X l tl):PI X tg l (iDk tl):=by
 intro pins s σ H R I h
 refine thn (hl pins s σ H _ I h) fun v s1 ⟨x,H1,I1,r1,q1⟩=>?_
 obtain⟨a,o,kvs,e,hz,q⟩:=q1
 subst e
 cases r1
 obtain⟨ho,_,hm,vs,r,o',es,ep,h1,h2,h3,h4⟩:=(show ObjOk X.prog X.w H1 s1.heap a (.frz o (.dK kvs)) from I1.hok a _ hz)
 rw[ho] at h1
 cases h1
 have hl:kvs.length = vs.length:=Paired.length r
 refine wpAny_pyIter_dict (knd:=Dp X.prog X.w) (kvs:=vs) (ep:=ep) hm ⟨o,es,ho,h2,h3,h4⟩ ?_
 refine⟨s1.heap.objs.size,[s1.heap.objs.size],_,_,H1,rfl,I1.kept (t':=s1.toks) fun b o e=>get?_push_of_some _ e,Ae9 a _ o kvs es ep h3,⟨_,get?_push_size _ rfl,rfl,by rw[hl]; rfl⟩,fun b hb=>?_,q⟩
 have e:b = s1.heap.objs.size:=by simpa using hb
 subst e
 exact I1.fpOk (Nat.le_refl _) (I1.hok.fresh (Nat.le_refl _))
theorem Adg {a:Addr} {o:Obj} {kvs:List (Key × V)} {g:TG} {tb:TS} {D:Ends} {σ:St} {H:Hp} (Pv:Nat->St->Hp->Prop) (h0:Pv 0 σ H) (hl:∀ i σ H,i <= kvs.length->Pv i σ H->H a = some (.frz o (.dK kvs)))
  (hs:∀ i kv σ H,kvs[i]? = some kv->Pv i σ H->g (kV kv.1) σ H fun σ2 H2=>tb { D with nx:=Pv (i + 1),ct:=Pv (i + 1),bk:=D.nx } σ2 H2) (hd:∀ σ H,Pv kvs.length σ H->D.nx σ H) :
  ∃ W:Nat->Nat->St->Hp->Prop,(∃ m,W 0 m σ H)/\∀ i m σ H,W i m σ H ->
   ((Itd a o kvs).stop i H/\D.nx σ H)\/((Itd a o kvs).go i H/\∃ N:St->Hp->Prop,(∀ σ' H',N σ' H'->∃ m',m' < m/\W (i + 1) m' σ' H')/\∀ x H',(Itd a o kvs).yld i H x H'->g x σ H' fun σ2 H2=>tb { D with nx:=N,ct:=N,bk:=D.nx } σ2 H2):=by
 refine⟨fun i m σ H=>m = kvs.length - i/\i <= kvs.length/\Pv i σ H,⟨kvs.length,by simp,zero_le _,h0⟩,?_⟩
 rintro i m σ H ⟨rfl,hi,p⟩
 have q:=hl i σ H hi p
 by_cases hlt:i < kvs.length
 ·refine .inr ⟨⟨q,hlt⟩,Pv (i + 1),fun σ' H' p'=>⟨kvs.length - (i + 1),by omega,rfl,hlt,p'⟩,fun x H' y=>?_⟩
  obtain⟨e,kv,y1,y2⟩:=y
  subst e y2
  exact hs i kv σ _ y1 p
 ·have e:i = kvs.length:=by omega
  subst e
  exact .inl ⟨⟨q,Nat.le_refl _⟩,hd σ H p⟩
end
def Iti (a:Addr) (o:Obj) (kvs:List (Key × V)):It :=
 ⟨fun i H=>H a = some (.frz o (.dK kvs))/\i < kvs.length,fun i H x H'=>∃ t kv,H t = none/\kvs[i]? = some kv/\x = .ref t/\H' = upd H t (.tup [kV kv.1,kv.2]),fun i H=>H a = some (.frz o (.dK kvs))/\kvs.length <= i⟩
theorem Ac2 {κ:Type}:∀ {kvs:List (κ × V)} {vs:List (κ × Value)} {i:Nat} {kv:κ × V},KV kvs vs->kvs[i]? = some kv->∃ v,vs[i]? = some (kv.1,v)/\RelV kv.2 v
 | _,_,_,_,.nil,e=>by simp at e
 | _,(k',v') :: _,0,_,.cons r _,e=>by
  simp at e; subst e
  obtain⟨h1,h2⟩:=r
  exact⟨v',by simp [h1],h2⟩
 | _,_,i + 1,kv,.cons _ t,e=>by
  obtain⟨v,h1,h2⟩:=Ac2 (i:=i) (kv:=kv) t (by simpa using e)
  exact⟨v,by simpa using h1,h2⟩
theorem AbR {P:Program} {w:World} {K:Frag} {elts:List Expr} {x1:Nat} {tp:Pos} (a it:Addr) (o:Obj) (kvs:List (Key × V)) (es:Array DictEntry) (ep:Nat) (hd:o.data = .dict es ep) :
  Tn P w K (.Tuple elts x1 tp) (Iti a o kvs) [it] it (fun i h=>∃ ok ov,IsItemIter h it a i kvs.length ep ok ov) where
 mem:=by simp
 obj:=fun i h st b hb=>by
  have e:b = it:=by simpa using hb
  subst e
  obtain⟨ok,ov,e⟩:=st
  exact⟨_,e,fun v z=>nomatch z⟩
 keep:=fun i h h' st k=>by
  obtain⟨ok,ov,e⟩:=st
  exact⟨ok,ov,k it (by simp) _ e⟩
 item:=by
  intro X hP hw hK hc i pins s σ H E I hf st hg
  subst hP hw hK
  obtain⟨hz,hi⟩:=hg
  obtain⟨ok,ov,st⟩:=st
  obtain⟨hm,vs,r,da⟩:=Ru I.hok hz hd
  have hl:kvs.length = vs.length:=Paired.length r
  obtain⟨f0,f1,f2,f3,f4,f5⟩:=hf it (by simp)
  obtain⟨v,hv,rv⟩:=Ac2 (i:=i) (kv:=kvs[i]) r (getElem?_eq_getElem hi)
  have hit:it < s.heap.objs.size:=lt_size st
  have hne:s.heap.objs.size ≠ it:=Nat.ne_of_gt hit
  have hfr:H s.heap.objs.size = none:=I.hok.fresh (Nat.le_refl _)
  rw[hl] at st
  refine wpAny_pyNext_items_item st da hv fun key h' hkey ho hT hsz hk=>⟨_,rfl,?_⟩
  refine wpAny_letOwnedTupleGo_items (s:={ s with heap:=h' }) ho fun h2 he hs=>?_
  have hs2:∀ b,b ≠ it->h2.get? b = h'.get? b:=hs.2
  have kp:∀ b o,b ≠ it->s.heap.get? b = some o->h2.get? b = some o:=fun b o hb e=>(hs2 b hb).trans (hk b o hb e)
  have hT2:h2.get? s.heap.objs.size = some { cls:=.type "tuple",data:=.seq #[key,v] }:=(hs2 _ hne).trans hT
  have nt:∀ b u,H b = some u->b ≠ s.heap.objs.size:=fun b u e=>Bv e hfr
  rw[<- hl] at he
  refine⟨.ref s.heap.objs.size,upd H s.heap.objs.size (.tup [kV (kvs[i]).1,(kvs[i]).2]),?_,rfl,⟨_,_,hfr,getElem?_eq_getElem hi,rfl,rfl⟩,⟨_,_,he⟩,fun b hb=>?_⟩
  ·refine Inv.step (s:=s) (h':=h2) I (g':=s.gens) (d':=s.drawn) (t':=s.toks) (ch:=[it]) (fun b hb=>?_) (fun b o _ _ hc e _=>kp b o (fun z=>hc (by simp [z])) e) (fun b o _ _ hc e _=>⟨o.slots,kp b o (fun z=>hc (by simp [z])) e⟩)
    (fun b o hc e n=>by rw[Bj (ne_of_lt (lt_size e))]; exact n) (fun b o hc e=>⟨o,kp b o (fun z=>hc (by simp [z])) e⟩) (fun b xs e=>by rw[Bj (nt b _ e)]; exact e) (fun b o u e=>by rw[Bj (nt b _ e)]; exact e)
    (fun b ps e=>⟨#[],by rw[Bj (nt b _ e),e]; simp⟩) (fun m hm=>?_) (fun b u e=>?_) I.bare
   ·have e:b = it:=by simpa using hb
    subst e
    exact⟨f3,f1,f4,f5⟩
   ·obtain⟨o,es,ep,ho,r⟩:=hm
    exact⟨o,es,ep,kp _ o (Ne.symm f1) ho,r⟩
   ·by_cases hb:b = s.heap.objs.size
    ·subst hb
     rw[Bm] at e
     cases e
     exact⟨by show 2 <= sizeLine; decide,[key,v],.cons (Abx hkey) (.cons rv .nil),_,hT2,rfl,_,rfl⟩
    ·rw[Bj hb] at e
     have nit:∀ c w,H c = some w->c ≠ it:=fun c w e z=>by rw[z,f0] at e; cases e
     refine (I.hok b u e).stay (fun c v hc q=>kp c v ?_ q) (fun c q=>by rw[Bj (nt c _ q)]; exact q) fun c xs q=>by rw[Bj (nt c _ q)]; exact q
     rcases hc with z | z
     ·rw[z]; exact nit b u e
     ·exact nit c _ z
  ·have e:b = it:=by simpa using hb
   rw[e,Bj (Ne.symm hne)]
   exact f0
 done:=by
  intro X hP hw hK hc i pins s σ H E I hf st hg
  subst hP hw hK
  obtain⟨hz,hi⟩:=hg
  obtain⟨ok,ov,st⟩:=st
  obtain⟨hm,vs,r,da⟩:=Ru I.hok hz hd
  have hl:kvs.length = vs.length:=Paired.length r
  obtain⟨f0,f1,f2,f3,f4,f5⟩:=hf it (by simp)
  rw[hl] at st
  exact wpAny_pyNext_items_end (I.ok.hd hc) st da (getElem?_eq_none (by omega)) fun h' eb=>⟨rfl,I.turned (t':=s.toks) (fun b o hb e=>eb b o hb e) f0 f1 f3 f4 f5⟩
 self:=fun A i s Q E st h=>by
  obtain⟨ok,ov,e⟩:=st
  exact PySem.W.kcp_self e h
section
variable {X:Cx} {elts:List Expr} {x1:Nat} {tp apos cpos:Pos}
def iDi (tl:TE):TI:=fun σ H R=>tl σ H fun x H1=>∃ a o kvs,x = .ref a/\H1 a = some (.frz o (.dK kvs))/\R (Iti a o kvs) H1
theorem Ads {l:Expr} {tl:TE} (hl:PE X l tl) (hbase:attributeBase l "items" X.env (eval l X.env) = eval l X.env:=by rfl) (hline:(apos.endLine == cpos.line) = true:=by rfl) :
  PI X (.Tuple elts x1 tp) (.Call (.Attribute l "items" apos) [] [] cpos) (iDi tl):=by
 intro pins s σ H R I h
 refine wpAny_Call_method0_late hbase hline (thn (hl pins s σ H _ I h) fun v s1 ⟨x,H1,I1,r1,q1⟩=>?_)
 obtain⟨a,o,kvs,e,hz,q⟩:=q1
 subst e
 cases r1
 obtain⟨ho,_,hm,vs,r,o',es,ep,h1,h2,h3,h4⟩:=(show ObjOk X.prog X.w H1 s1.heap a (.frz o (.dK kvs)) from I1.hok a _ hz)
 rw[ho] at h1
 cases h1
 have hlen:kvs.length = vs.length:=Paired.length r
 have da:s1.heap.DictAt (Dp X.prog X.w) a vs ep:=⟨o,es,ho,h2,h3,h4⟩
 refine⟨"dict","dict.items",plainAttrs_dict,PySem.F.slot_dict_items,PySem.F.type_dict_items,⟨o,ho,h2.1⟩,fun b eb=>?_,Calls.callWith_builtin rfl (PySem.evalArgs_none ?_)⟩
 ·cases eb
  exact⟨o,ho,h2.2.1⟩
 refine call_meetsIn PySem.F.slot_dict_items da.dictOf.typeIs PySem.F.entry_dict_items (PySem.F.args_dict_items_1 _) (meets_dict_items (Dp X.prog X.w) a hm) ⟨⟨vs,da.dictOf⟩,?_⟩
 refine wpAny_pyIter_items (s:={ s1 with heap:=s1.heap.push { cls:=.type "dict_items",data:=.fields #[.ref a] } }) (knd:=Dp X.prog X.w) (kvs:=vs) (ep:=ep) ⟨_,get?_push_size _ rfl,rfl,rfl⟩ (da.push _) ?_
 have I2:Inv X pins σ H1 { s1 with heap:=s1.heap.push { cls:=.type "dict_items",data:=.fields #[.ref a] } }:=I1.kept (t':=s1.toks) fun b o e=>get?_push_of_some _ e
 refine⟨_,[_],_,_,H1,rfl,I2.kept (t':=s1.toks) fun b o e=>get?_push_of_some _ e,AbR a _ o kvs es ep h3,⟨.none,.none,by rw[hlen]; exact get?_push_size _ rfl⟩,fun b hb=>?_,q⟩
 have e:=mem_singleton.mp hb
 subst e
 exact I2.fpOk (Nat.le_refl _) (I2.hok.fresh (Nat.le_refl _))
theorem AbM {a:Addr} {o:Obj} {kvs:List (Key × V)} {g:TG} {tb:TS} {D:Ends} {σ:St} {H:Hp} (Pv:Nat->St->Hp->Prop) (h0:Pv 0 σ H) (hl:∀ i σ H,i <= kvs.length->Pv i σ H->H a = some (.frz o (.dK kvs)))
  (hs:∀ i kv t σ H,kvs[i]? = some kv->H t = none->Pv i σ H->g (.ref t) σ (upd H t (.tup [kV kv.1,kv.2])) fun σ2 H2=>tb { D with nx:=Pv (i + 1),ct:=Pv (i + 1),bk:=D.nx } σ2 H2) (hd:∀ σ H,Pv kvs.length σ H->D.nx σ H) :
  ∃ W:Nat->Nat->St->Hp->Prop,(∃ m,W 0 m σ H)/\∀ i m σ H,W i m σ H ->
   ((Iti a o kvs).stop i H/\D.nx σ H)\/((Iti a o kvs).go i H/\∃ N:St->Hp->Prop,(∀ σ' H',N σ' H'->∃ m',m' < m/\W (i + 1) m' σ' H')/\∀ x H',(Iti a o kvs).yld i H x H'->g x σ H' fun σ2 H2=>tb { D with nx:=N,ct:=N,bk:=D.nx } σ2 H2):=by
 refine⟨fun i m σ H=>m = kvs.length - i/\i <= kvs.length/\Pv i σ H,⟨kvs.length,by simp,zero_le _,h0⟩,?_⟩
 rintro i m σ H ⟨rfl,hi,p⟩
 have q:=hl i σ H hi p
 by_cases hlt:i < kvs.length
 ·refine .inr ⟨⟨q,hlt⟩,Pv (i + 1),fun σ' H' p'=>⟨kvs.length - (i + 1),by omega,rfl,hlt,p'⟩,fun x H' y=>?_⟩
  obtain⟨t,kv,ht,y1,y2,y3⟩:=y
  subst y2 y3
  exact hs i kv t σ _ y1 ht p
 ·have e:i = kvs.length:=by omega
  subst e
  exact .inl ⟨⟨q,Nat.le_refl _⟩,hd σ H p⟩
end
end L2
namespace L2
open PySem PySem.Spec PyProof.Rows
section
variable {σ:St} {H:Hp} {Q:VK} {B:Bool->Hp->Prop} {v x y:V} {ta tb tc:TE} {tA tB':TT} {D:Ends} {t u:TS} {K:Frag}
theorem Ang {i:Nat} (h:σ[i]? = some (some v)) (q:Q v H):Fg i σ H Q:=⟨v,h,q⟩
theorem i_c (q:Q v H):tC v σ H Q:=q
theorem AnP {r:R2} (q:ta σ H fun x H1=>tb σ H1 fun y H2=>r x y H2 Q):tOp r ta tb σ H Q:=q
theorem AnM {r:V->Hp->VK->Prop} (q:ta σ H fun x H1=>r x H1 Q):tUn r ta σ H Q:=q
theorem AnK {g:Int->V} {i:Int} (q:Q (g i) H):rU g (.int i) H Q:=⟨i,rfl,q⟩
theorem AmU {g:Int->Int->V} {i j:Int} (q:Q (g i j) H):rI0 g (.int i) (.int j) H Q:=⟨i,j,rfl,rfl,q⟩
theorem AhJ {i j:Int}:decide (V.int i = V.int j) = decide (i = j):=by
 by_cases h:i = j
 ·subst h; simp
 ·rw[decide_eq_false h,decide_eq_false fun e=>h (V.int.inj e)]
theorem AhN {i j:Str}:decide (V.str i = V.str j) = decide (i = j):=by
 by_cases h:i = j
 ·subst h; simp
 ·rw[decide_eq_false h,decide_eq_false fun e=>h (V.str.inj e)]
theorem Ahp {i j:Int} (q:Q (.bl (decide (i = j))) H):rEq (.int i) (.int j) H Q:=⟨rfl,by rw[AhJ]; exact q⟩
theorem AhW {i j:Str} (q:Q (.bl (decide (i = j))) H):rEq (.str i) (.str j) H Q:=⟨rfl,by rw[AhN]; exact q⟩
theorem AhG {i j:Int} (q:Q (.bl (!decide (i = j))) H):rNe (.int i) (.int j) H Q:=⟨rfl,by rw[AhJ]; exact q⟩
theorem AgR {i j:Str} (q:Q (.bl (!decide (i = j))) H):rNe (.str i) (.str j) H Q:=⟨rfl,by rw[AhN]; exact q⟩
theorem AnY {t:TE} (q:t σ H fun x H1=>∃ c,x = .bl c/\B c H1):tB t σ H B:=q
theorem Akx {t:TE} (q:t σ H fun x H1=>∃ c,x = .bl c/\B c H1):AbE t σ H B:=q
theorem Am7 {b:Bool} {P:Bool->Prop} (q:P b):∃ c,V.bl b = V.bl c/\P c:=⟨b,rfl,q⟩
theorem Ani (q:tA σ H fun c H1=>if c = true then tB' σ H1 B else B false H1):Agi tA tB' σ H B:=q
theorem AnX (q:tA σ H fun c H1=>if c = true then B true H1 else tB' σ H1 B):tOr tA tB' σ H B:=q
theorem Ane (q:tA σ H fun c H1=>B (!c) H1):AfG tA σ H B:=q
theorem Aj1 (q:ta σ H fun x H1=>∃ c,x = .bl c/\if c = true then tb σ H1 Q else Q (.bl false) H1):AcV ta tb σ H Q:=q
theorem Aln (q:ta σ H fun x H1=>∃ c,x = .bl c/\Q (.bl (!c)) H1):Ab6 ta σ H Q:=q
theorem Ab9 (q:t { D with nx:=u D } σ H):Wk t u D σ H:=q
theorem An5 (q:D.nx σ H):AcL D σ H:=q
theorem Alk (q:ta σ H fun _ H1=>D.nx σ H1):Uy ta D σ H:=q
theorem Amm (q:ta σ H D.rt):Ty ta D σ H:=q
theorem An3 (q:tA σ H fun b H1=>if b = true then t D σ H1 else u D σ H1):Af0 tA t u D σ H:=q
theorem Anm {g:TG} (q:ta σ H fun x H1=>g x σ H1 D.nx):Ld ta g D σ H:=q
theorem Ah2 {i:Nat} {R:St->Hp->Prop} (q:R (σ.set i (some v)) H):Gf i v σ H R:=q
theorem AkC {n:Nat} {a:Addr} {xs:List V} {g:TGs} {R:St->Hp->Prop} (h:SqT K H a xs) (hl:xs.length = n) (q:g xs σ H R):Vv K n g (.ref a) σ H R:=⟨a,xs,rfl,h,hl,q⟩
theorem AiZ {g:TG} {gs:TGs} {vs:List V} {R:St->Hp->Prop} (q:g v σ H fun σ' H'=>gs vs σ' H' R):Vh g gs (v :: vs) σ H R:=⟨v,vs,rfl,q⟩
theorem Alc {R:St->Hp->Prop} (q:R σ H):Acn [] σ H R:=⟨rfl,q⟩
theorem Aj9 {sp:Sp} {dvs:List V} {E:XK} {t:TA} (q:t σ H fun vs H1=>sp (vs ++ dvs) H1 Q E):Ri sp dvs E t σ H Q:=q
theorem Aju {C:Addr} {m:Str} {sp:Sp} {dvs:List V} {E:XK} {t:TA} (q:ta σ H fun x H1=>∃ a dx fs,x = .ref a/\H1 a = some (.ins C dx fs)/\fs.lookup m = none/\t σ H1 fun vs H2=>sp (x :: (vs ++ dvs)) H2 Q E):Vg C m sp dvs E ta t σ H Q:=q
theorem Amd {R:List V->Hp->Prop} (q:R [] H):Na σ H R:=q
theorem Al2 {tr:TA} {R:List V->Hp->Prop} (q:ta σ H fun x H1=>tr σ H1 fun xs H2=>R (x :: xs) H2):Fs ta tr σ H R:=q
theorem Amr {t:TA} (q:t σ H fun xs H1=>xs.length <= sizeLine/\∀ p,H1 p = none->Q (.ref p) (upd H1 p (.tup xs))):Alq t σ H Q:=q
theorem Am4 {f:Str} (q:ta σ H fun x H1=>∃ a C dx fs v,x = .ref a/\H1 a = some (.ins C dx fs)/\Cls K C/\NoAttr K C f/\fs.lookup f = some v/\Q v H1):Ajo K ta f σ H Q:=q
theorem AnO {r:List V->Hp->VK->Prop} {t:TA} (q:t σ H fun vs H1=>r vs H1 Q):tCB r t σ H Q:=q
theorem Anq (q:ta σ H fun y H1=>tb σ H1 fun x H2=>∃ a o,x = .ref a/\DGet H2 a y o/\Q (.bl o.isSome) H2):Afi ta tb σ H Q:=q
theorem Agj (q:ta σ H fun y H1=>tb σ H1 fun x H2=>∃ a o,x = .ref a/\DGet H2 a y o/\Q (.bl (!o.isSome)) H2):AaX ta tb σ H Q:=q
theorem AlS (q:ta σ H fun x H1=>tb σ H1 fun y H2=>∃ a v,x = .ref a/\DGet H2 a y (some v)/\Q v H2):Ym ta tb σ H Q:=q
theorem Ah7 (q:ta σ H fun x H1=>∃ a,x = .ref a/\IsD H1 a/\tb σ H1 fun y H2=>∃ o,DGet H2 a y o/\Q (o.getD .non) H2):Adz ta tb σ H Q:=q
theorem Ai9 (q:ta σ H fun x H1=>∃ a,x = .ref a/\IsD H1 a/\tb σ H1 fun y H2=>tc σ H2 fun z H3=>∃ o,DGet H3 a y o/\Q (o.getD z) H3):Zj ta tb tc σ H Q:=q
theorem AlF (q:tc σ H fun v H1=>ta σ H1 fun x H2=>tb σ H2 fun y H3=>∃ a H4,x = .ref a/\DPut H3 a y v H4/\D.nx σ H4):AcO ta tb tc D σ H:=q
theorem Ajl {f:Str} (q:tb σ H fun y H1=>ta σ H1 fun x H2=>∃ a C dx fs,x = .ref a/\H2 a = some (.ins C dx fs)/\Cls K C/\NoAttr K C f/\fs.length < 1000/\D.nx σ (upd H2 a (.ins C dx (Bz f y fs)))):AkT K ta tb f D σ H:=q
theorem AnG {T:String} {r:V->List V->Hp->VK->Prop} {t:TA} (q:ta σ H fun x H1=>tyV K T x H1/\t σ H1 fun xs H2=>r x xs H2 Q):tBM K T r ta t σ H Q:=q
theorem Akz (q:∀ p,H p = none->Q (.ref p) (upd H p (.dK []))):AaE σ H Q:=q
theorem AkG (q:∀ p,H p = none->Q (.ref p) (upd H p (.dT []))):Aev σ H Q:=q
theorem Nq {i:Nat} {a:Addr} {xs:List V} {g:TG} (hv:σ[i]? = some (some (.ref a))) (hS:SqL K H a xs) (Pv:Nat->St->Hp->Prop) (h0:Pv 0 σ H) (hl:∀ i σ H,i <= xs.length->Pv i σ H->SqL K H a xs)
  (hs:∀ i x σ H,xs[i]? = some x->Pv i σ H->g x σ H fun σ2 H2=>t { D with nx:=Pv (i + 1),ct:=Pv (i + 1),bk:=D.nx } σ2 H2) (hd:∀ σ H,Pv xs.length σ H->D.nx σ H):Ly (Qf K (Fg i)) g t D σ H :=
 ⟨_,hv,a,rfl,⟨_,hS⟩,Rr Pv h0 hl hs hd⟩
theorem Amw {ta:TA} {R:It->Hp->Prop} (q:ta σ H fun vs H1=>∃ j:Int,vs = [.int j]/\-(2 ^ 62) <= j/\j < 2 ^ 62/\R (Itr 0 j.toNat) H1):Vf ta σ H R:=q
theorem AnR {R:It->Hp->Prop} (q:ta σ H fun x H1=>∃ a,x = .ref a/\(∃ xs,SqL K H1 a xs)/\R (Itl K a) H1):Qf K ta σ H R:=q
theorem Alf {i:Nat} {a:Addr} {kvs:List (Key × V)} {g:TG} (hv:σ[i]? = some (some (.ref a))) (hS:H a = some (.dK kvs)) (Pv:Nat->St->Hp->Prop) (h0:Pv 0 σ H)
  (hl:∀ i σ H,i <= kvs.length->Pv i σ H->H a = some (.dK kvs))
  (hs:∀ o i kv σ H,kvs[i]? = some kv->Pv i σ H->g (kV kv.1) σ (upd H a (.frz o (.dK kvs))) fun σ2 H2=>t (Ends.mk (fun σ H=>H a = some (.frz o (.dK kvs))/\Pv (i + 1) σ (upd H a (.dK kvs))) (Qu a (.dK kvs) D).rt (Qu a (.dK kvs) D).nx (fun σ H=>H a = some (.frz o (.dK kvs))/\Pv (i + 1) σ (upd H a (.dK kvs)))) σ2 H2)
  (hd:∀ σ H,Pv kvs.length σ H->D.nx σ H):Ab2 (Ly (iDk (Fg i)) g t) D σ H:=by
 refine⟨a,.dK kvs,trivial,hS,fun o=>⟨_,hv,a,o,kvs,rfl,Bm,Adg (fun i σ H=>H a = some (.frz o (.dK kvs))/\Pv i σ (upd H a (.dK kvs))) ⟨Bm,?_⟩ (fun i σ H _ p=>p.1) (fun i kv σ H e p=>?_) fun σ H p=>⟨o,p.1,hd σ _ p.2⟩⟩⟩
 ·have e:upd (upd H a (.frz o (.dK kvs))) a (.dK kvs) = H:=by
   rw[Gj]; funext b; unfold upd; split
   ·rename_i h; rw[h,hS]
   ·rfl
  rw[e]; exact h0
 ·have e2:upd (upd H a (.dK kvs)) a (.frz o (.dK kvs)) = H:=by
   rw[Gj]; funext b; unfold upd; split
   ·rename_i h; rw[h,p.1]
   ·rfl
  have q:=hs o i kv σ _ e p.2
  rw[e2] at q
  exact q
theorem Als {i:Nat} {a:Addr} {kvs:List (Key × V)} {g:TG} (hv:σ[i]? = some (some (.ref a))) (hS:H a = some (.dK kvs)) (Pv:Nat->St->Hp->Prop) (h0:Pv 0 σ H)
  (hs:∀ o i kv p σ H,kvs[i]? = some kv->H p = none->p ≠ a->Pv i σ H->g (.ref p) σ (upd (upd H a (.frz o (.dK kvs))) p (.tup [kV kv.1,kv.2])) fun σ2 H2=>t (Ends.mk (fun σ H=>H a = some (.frz o (.dK kvs))/\Pv (i + 1) σ (upd H a (.dK kvs))) (Qu a (.dK kvs) D).rt (Qu a (.dK kvs) D).nx (fun σ H=>H a = some (.frz o (.dK kvs))/\Pv (i + 1) σ (upd H a (.dK kvs)))) σ2 H2)
  (hd:∀ σ H,Pv kvs.length σ H->D.nx σ H):Ab2 (Ly (iDi (Fg i)) g t) D σ H:=by
 refine⟨a,.dK kvs,trivial,hS,fun o=>⟨_,hv,a,o,kvs,rfl,Bm,AbM (fun i σ H=>H a = some (.frz o (.dK kvs))/\Pv i σ (upd H a (.dK kvs))) ⟨Bm,?_⟩ (fun i σ H _ p=>p.1) (fun i kv p σ H e hp w=>?_) fun σ H p=>⟨o,p.1,hd σ _ p.2⟩⟩⟩
 ·have e:upd (upd H a (.frz o (.dK kvs))) a (.dK kvs) = H:=by
   rw[Gj]; funext b; unfold upd; split
   ·rename_i h; rw[h,hS]
   ·rfl
  rw[e]; exact h0
 ·have e2:upd (upd H a (.dK kvs)) a (.frz o (.dK kvs)) = H:=by
   rw[Gj]; funext b; unfold upd; split
   ·rename_i h; rw[h,w.1]
   ·rfl
  have ne:p ≠ a:=fun z=>by rw[z,w.1] at hp; cases hp
  have q:=hs o i kv p σ (upd H a (.dK kvs)) e (by rw[Bj ne]; exact hp) ne w.2
  rw[e2] at q
  exact q
theorem Aic {ta:TA} {g:TG} {hi:Int} {n:Nat} (hargs:∀ R:List V->Hp->Prop,R [.int hi] H->ta σ H R) (hb:-(2 ^ 62) <= hi/\hi < 2 ^ 62) (hn:hi.toNat = n) (Pv:Nat->St->Hp->Prop) (h0:Pv 0 σ H)
  (hs:∀ i σ H,i < n->Pv i σ H->g (.int (0 + i)) σ H fun σ2 H2=>t { D with nx:=Pv (i + 1),ct:=Pv (i + 1),bk:=D.nx } σ2 H2) (hd:∀ σ H,Pv n σ H->D.nx σ H):Ly (Vf ta) g t D σ H :=
 hargs _ ⟨hi,rfl,hb.1,hb.2,by rw[hn]; exact Wx Pv h0 hs hd⟩
end
end L2
namespace L2
open PySem PySem.Spec PyProof.Rows
def Dy (fn:List Str) (env:Env):List (Str × Addr):=fn.map fun x=>(x,(env.cells.lookup x).getD 0)
theorem Tk {env:Env}:∀ {fn:List Str} {x:Str} {c:Addr},(Dy fn env).lookup x = some c->x ∈ fn/\c = (env.cells.lookup x).getD 0
 | [],_,_,h=>by cases h
 | y :: r,x,c,h=>by
  unfold Dy at h
  rw[map_cons,lookup_cons] at h
  cases e:x == y with
  | true =>
   rw[e] at h
   have:x = y:=eq_of_beq e
   subst this
   cases h
   exact⟨mem_cons_self,rfl⟩
  | false =>
   rw[e] at h
   obtain⟨h1,h2⟩:=Tk (fn:=r) (x:=x) (c:=c) h
   exact⟨mem_cons_of_mem _ h1,h2⟩
theorem Ui {env:Env}:∀ {fn:List Str} {x:Str},x ∈ fn->(Dy fn env).lookup x = some ((env.cells.lookup x).getD 0)
 | [],_,h=>by cases h
 | y :: r,x,h=>by
  unfold Dy
  rw[map_cons,lookup_cons]
  cases e:x == y with
  | true =>
   have:x = y:=eq_of_beq e
   subst this
   rfl
  | false =>
   rcases mem_cons.mp h with z | z
   ·subst z; rw[beq_self_eq_true] at e; cases e
   ·exact Ui z
def Dt (X:Cx) (scope:Scope) (N' fn:List Str) (C:Addr) (fp:List Addr) (s:Shared) (H:Hp):Cx :=
 { X with N:=N',s₀:=s,H₀:=H,env:=compEnvC scope (Dy fn X.env) C X.env,outer:=X.stack,stack:=X.stack,ex:=fp,fn:=fun _=>false,pn:=[],xe:=fun _ _=>False }
def compσ (k:Nat) (fr:List Nat) (σ:St):St:=replicate k none ++ fr.map fun i=>(σ[i]?).join
def Gz (wi:TI) (g:TG) (tc:TT) (te:TE) (k:Nat) (fr:List Nat):TE:=fun σ H Q=>wi σ H fun J H1=>∀ D,H1 D = none ->
 ∃ W:Nat->Nat->Hp->Prop,(∃ m,W 0 m (upd H1 D (.lst [])))/\∀ i m H,W i m H->(J.stop i H/\Q (.ref D) H)\/(J.go i H/\∀ x H',J.yld i H x H'->g x (compσ k fr σ) H' fun σ2 H2 =>
  σ2.drop k = (compσ k fr σ).drop k/\tc σ2 H2 fun b H3=>if b = true then te σ2 H3 (fun y H4=>∃ ys,H4 D = some (.lst ys)/\ys.length < sizeLine/\∃ m',m' < m/\W (i + 1) m' (upd H4 D (.lst (ys ++ [y])))) else ∃ m',m' < m/\W (i + 1) m' H3)
def Qg (X:Cx) (ifs:List Expr) (t:TT):Prop :=
 ∀ (pins:List (Addr × Obj)) (s:Shared) (σ:St) (H:Hp) (Q:Bool->Hp->Prop),Inv X pins σ H s->t σ H Q ->
  wpAny (model X.prog X.w) X.A (forIn ifs true fun c r=>if r = true then do let ok <- isTrue c X.env (eval c X.env); pure (ForInStep.yield ok) else pure (ForInStep.yield r)) (TP X pins σ Q) X.xe s
def AcN:TT:=fun _ H Q=>Q true H
theorem Gb {X:Cx}:Qg X [] AcN:=fun _ _ _ H _ I h=>wpAny_tests_nil ⟨H,I,h⟩
theorem Jz {X:Cx} {c:Expr} {t:TT} (h:PT X c t):Qg X [c] t:=fun pins s σ H Q I q=>wpAny_tests_one (h pins s σ H Q I q)
theorem Adj {prog:Program} {w:World} {A:Around} {R:Result->Shared->Prop} {s:Shared} {elt target iter:Expr} {ifs:List Expr} {scope:Scope} {pos:Pos} {it acc:Value} {env:Env} (I:Nat->Shared->Prop)
  (turn:∀ n s,I n s->wpAny (model prog w) A (pyNext it) (fun r s₁=>match r with
   | none=>R (.ok .next) s₁
   | some v=>wpAny (model prog w) A (letOwnedTupleGo target it v) (fun _ s₁'=>wpAny (model prog w) A (assign target env v) (fun _ s₂ =>
     wpAny (model prog w) A (forIn ifs true fun c r=>if r = true then do let ok <- isTrue c env (eval c env); pure (ForInStep.yield ok) else pure (ForInStep.yield r)) (fun ok s₃ =>
      if ok = true then wpAny (model prog w) A (eval elt env) (fun x s₄ =>
       wpAny (model prog w) A (call (.builtin "list.append") [acc,x]) (fun _ s₅=>∃ m,m < n/\I m s₅) (fun _ _=>False) s₄) (fun _ _=>False) s₃
      else ∃ m,m < n/\I m s₃) (fun _ _=>False) s₂) (fun _ _=>False) s₁') (fun _ _=>False) s₁) (fun _ _=>False) s)
  (n:Nat) (h:I n s) :
  codeAny (model prog w) A (.compLoop (.ListComp elt [⟨target,iter,ifs,0⟩] scope pos) 0 it acc env) R s:=by
 refine codeAny_loop rfl I (fun n s hI=>?_) n h
 show wpAny _ A ((compTurn (.ListComp elt [⟨target,iter,ifs,0⟩] scope pos) 0 it acc env).onRaise (fun x=>do noteFrame x env; theTreesLotGoes x)) _ _ s
 refine wpAny_noted ?_
 rw[compTurn_list]
 refine wpAny_bind (wpAny_standAt (wpAny_bind (wpAny_mono (turn n s hI) (fun r s₁ h₁=>?_) fun _ _ h'=>h'.elim)))
 cases r with
 | none=>exact wpAny_pure h₁
 | some v =>
  refine wpAny_bind (wpAny_mono h₁ (fun _ s₁' h₁'=>?_) fun _ _ h'=>h'.elim)
  refine wpAny_bind (wpAny_mono h₁' (fun _ s₂ h₂=>wpAny_bind (wpAny_mono h₂ (fun ok s₃ h₃=>?_) fun _ _ h'=>h'.elim)) fun _ _ h'=>h'.elim)
  cases ok with
  | false=>exact wpAny_pure ⟨rfl,h₃⟩
  | true =>
   exact wpAny_bind (wpAny_bind (wpAny_mono h₃ (fun x s₄ h₄=>wpAny_bind (wpAny_mono h₄ (fun _ s₅ h₅=>wpAny_pure (wpAny_pure ⟨rfl,h₅⟩)) fun _ _ h'=>h'.elim)) fun _ _ h'=>h'.elim))
theorem compσ_len (k:Nat) (fr:List Nat) (σ:St):(compσ k fr σ).length = k + fr.length:=by
 unfold compσ; rw[length_append,length_replicate,length_map]
theorem compσ_weak {k:Nat} {fr:List Nat} {σ σ2:St} (hd:σ2.drop k = (compσ k fr σ).drop k):∀ (i:Nat) v,(compσ k fr σ)[i]? = some (some v)->σ2[i]? = some (some v):=by
 intro i v h
 by_cases hi:i < k
 ·unfold compσ at h
  rw[getElem?_append_left (by rw[length_replicate]; exact hi),getElem?_replicate] at h
  rw[if_pos hi] at h; cases h
 ·have e:∀ l:St,l[i]? = (l.drop k)[i - k]?:=fun l=>by rw[List.getElem?_drop]; congr 1; omega
  rw[e] at h ⊢
  rw[hd]; exact h
theorem Inv.nsch {X:Cx} {pins:List (Addr × Obj)} {σ:St} {H:Hp} {s:Shared} {C:Addr} {h':Heap} (I:Inv X pins σ H s) (sb:SameBut C s.heap h') (hC:H C = none) (h1:X.s₀.heap.objs.size <= C) (h2:C ≠ X.env.locals)
  (h3:∀ x c,X.env.cells.lookup x = some c->c ≠ C) (h4:∀ p ∈ X.pn ++ pins,p.1 ≠ C):Inv X pins σ H { s with heap:=h' }:=by
 have nc:∀ b:Addr,b ∉ [C]->b ≠ C:=fun b z w=>z (by rw[w]; exact mem_cons_self)
 refine Inv.call (s:=s) I (h':=h') (g':=s.gens) (d':=s.drawn) (t':=s.toks) (ch:=[C]) ⟨fun b o e n _ hx=>(sb.2 b (nc b hx)).trans e,fun b o e n _ hx=>⟨o.slots,(sb.2 b (nc b hx)).trans e⟩,fun _ _ _ n _=>n,fun b o e hx=>⟨o,(sb.2 b (nc b hx)).trans e⟩,fun _ _ e=>e,fun _ _ _ e=>e,fun b ps e=>⟨#[],by rw[Array.append_empty]; exact e⟩⟩ (fun b u e=>?_) I.bare (fun b hb=>?_)
 ·refine (I.hok b u e).stay (fun c v hc' q'=>(sb.2 c ?_).trans q') (fun _ q'=>q') fun _ _ q'=>q'
  rcases hc' with w | w
  ·rw[w]; exact Bv e hC
  ·exact Bv w hC
 ·rw[mem_singleton.mp hb]
  exact⟨.inr h1,h2,h3,h4⟩
theorem Wz {X:Cx} {elt tg iter:Expr} {ifs:List Expr} {scope:Scope} {pos:Pos} {wi:TI} {g:TG} {tc:TT} {te:TE} {k:Nat} {fr:List Nat} {N' fn:List Str} (hc:X.calm = true)
  (hi:PI X tg iter wi) (hN:N'.length = k + fr.length)
  (hfr:∀ j y,N'[k + j]? = some y->∀ i,fr[j]? = some i->X.N[i]? = some y/\X.env.kindOf y = some .cell/\(compEnvC scope (Dy fn X.env) 0 X.env).kindOf y = some .cell/\y ∈ fn)
  (hfn:∀ y ∈ fn,X.env.kindOf y = some .cell)
  (hkd:∀ y,((compEnvC scope (Dy fn X.env) 0 X.env).kindOf y = some .cell\/(compEnvC scope (Dy fn X.env) 0 X.env).kindOf y = some .free)->y ∈ fn)
  (hg:∀ C fp s H,PG (Dt X scope N' fn C fp s H) tg g) (ht:∀ C fp s H,Qg (Dt X scope N' fn C fp s H) ifs tc) (he:∀ C fp s H,PE (Dt X scope N' fn C fp s H) elt te)
  (hclos:closureFor scope X.env = pure (Dy fn X.env)) (hcell:∀ y ∈ scope.names,y.2 ≠ .cell) (hkind:scope.kind = .function) (hnames:∀ y ∈ scope.names,y.2 = .local->scope.names.lookup y.1 = some .local)
  (hs:∀ x,foldedSetIterable iter X.env x = pure x:=by intro _; rfl) {pins:List (Addr × Obj)} {s:Shared} {σ:St} {H:Hp} {Q:VK} {use:Option (Value->Sem Unit)} {Qc:Value->Shared->Prop} {cpos:Pos} (I:Inv X pins σ H s) (h:Gz wi g tc te k fr σ H Q)
  (fin:∀ (H3:Hp) (s4:Shared) (D C:Addr) (m:Str->Option Value),s4.heap.Ns C m->Inv X pins σ H3 s4->H3 C = none->X.s₀.heap.objs.size <= C->C ≠ X.env.locals->(∀ x c,X.env.cells.lookup x = some c->c ≠ C)->(∀ p ∈ X.pn ++ pins,p.1 ≠ C)->Q (.ref D) H3 ->
   compPost (model X.prog X.w) X.A X.xe use Qc (.ref D) C (.ok .next) s4) :
  wpAny (model X.prog X.w) X.A (comprehension (.ListComp elt [⟨tg,iter,ifs,0⟩] scope pos) scope X.env cpos (newList []) false (eval iter X.env) use) Qc X.xe s:=by
 refine wpAny_comprehension_free (use:=use) rfl hs hclos hkind hnames (thn (hi pins s σ H _ I h) fun v s1 h1=>thn h1 fun itv s2 h2=>?_)
 obtain⟨it,fp,tn,J,H2,e,I2,T,st2,f2,q⟩:=h2
 subst e
 have hfr2:H2 s2.heap.objs.size = none:=I2.hok.fresh (Nat.le_refl _)
 obtain⟨W,⟨m0,w0⟩,turn⟩:=q s2.heap.objs.size hfr2
 refine wpAny_newObj_type (wpAny_newFunctionEnv hcell (by intro y hy; simp at hy) (fun h₁ hns₁ hsb₁=>?_) hkind)
 dsimp only at hns₁ hsb₁ ⊢
 generalize hHH:s2.heap.push { cls:=.type "list",dict:=none,data:=.seq ([]:List Value).toArray } = HH at hns₁ hsb₁ ⊢
 have hC:HH.objs.size = s2.heap.objs.size + 1:=by rw[<- hHH,Heap.size_push]
 have hDC:s2.heap.objs.size ≠ HH.objs.size:=by rw[hC]; exact ne_of_lt (lt_succ_self _)
 have hCle:s2.heap.objs.size <= HH.objs.size:=by rw[hC]; exact le_succ _
 have below:∀ b,b < s2.heap.objs.size->b ≠ HH.objs.size:=fun b hb=>by rw[hC]; exact ne_of_lt (lt_succ_of_lt hb)
 have old:∀ b o,s2.heap.get? b = some o->h₁.get? b = some o:=fun b o e=>hsb₁.extBut b o (below b (lt_size e)) (get?_push_of_some _ (hHH ▸ get?_push_of_some _ e))
 have hacc:h₁.get? s2.heap.objs.size = some { cls:=.type "list",dict:=none,data:=.seq ([]:List Value).toArray }:=hsb₁.extBut _ _ hDC (get?_push_of_some _ (hHH ▸ get?_push_size _ rfl))
 have hst₁:tn 0 h₁:=T.keep _ _ _ st2 fun b _ o e=>old b o e
 -- the cells from around
 have hcl:∀ x c,(Dy fn X.env).lookup x = some c->X.env.cells.lookup x = some c:=fun x c e=>by
  obtain⟨h1,h2⟩:=Tk e
  obtain⟨c',e'⟩:=I2.ok.has x (.inl (hfn x h1))
  rw[h2,e']; rfl
 have kd0:∀ C y,(compEnvC scope (Dy fn X.env) C X.env).kindOf y = (compEnvC scope (Dy fn X.env) 0 X.env).kindOf y:=fun _ _=>rfl
 have fpLt:∀ b ∈ fp,b < s2.heap.objs.size:=fun b hb=>by obtain⟨o,e,_⟩:=T.obj _ _ st2 b hb; exact lt_size e
 have cLt:∀ x c,(Dy fn X.env).lookup x = some c->c < s2.heap.objs.size:=fun x c e=>by obtain⟨v,z⟩:=I2.cell x c (hcl x c e); exact z.lt
 -- the block's context
 generalize hX:Dt X scope N' fn HH.objs.size fp s2 H2 = X'
 have ok:X'.Ok:=by
  subst hX
  exact {
   mod:=I2.ok.mod
   kind:=hkind
   glob:=I2.ok.glob
   blt:=I2.ok.blt
   above:=hCle
   inj:=fun x y c h1 h2=>I2.ok.inj x y c (hcl x c h1) (hcl y c h2)
   has:=fun x hx=>⟨_,Ui (hkd x hx)⟩
   cab:=fun x c z=>by cases z
   hd:=fun _=>I2.ok.hd hc
   frames:=I2.ok.frames
   stk:=.inl rfl
   exf:=fun b hb=>⟨ne_of_lt (Nat.lt_of_lt_of_le (fpLt b hb) hCle),fun x c e z=>by
    obtain⟨_,_,_,_,f4,_⟩:=f2 b hb
    exact f4 x c (hcl x c e) z⟩
   bs:=I2.bs
   bsz:=Nat.le_trans I2.ok.bsz I2.sz
   noex:=fun b o e z=>by
    obtain⟨_,_,_,f3,_,_⟩:=f2 b z
    rcases f3 with w | w
    ·exact I2.ok.noex b o e w
    ·have h1:=(I2.ok.bs b o e).1
     exact absurd (Nat.lt_of_lt_of_le (lt_size h1) w) (Nat.lt_irrefl _)
   exfs:=fun b z hb=>by
    obtain⟨_,f1,f2',_⟩:=f2 b z
    rcases mem_cons.mp (I2.stkSub b hb) with w | w
    ·exact f1 w
    ·exact f2' w
   funs:=I2.stack
   frf:=I2.stkFree }
 have un1:Un X'.fs X'.ex H2 (upd H2 s2.heap.objs.size (.lst [])) s2.heap h₁:=Un.laid old (Nat.le_refl _) hfr2
 have hok1:HOk X.prog X.w (upd H2 s2.heap.objs.size (.lst [])) h₁:=I2.hok.laid old (Nat.le_refl _) ⟨zero_le _,[],0,.nil,hacc⟩
 have nC:H2 HH.objs.size = none:=I2.hok.fresh hCle
 have I0:∀ tk,Inv X' [] (compσ k fr σ) (upd H2 s2.heap.objs.size (.lst [])) { s2 with heap:=h₁,toks:=tk }:=fun tk=>by
  have ex:X'.env = compEnvC scope (Dy fn X.env) HH.objs.size X.env:=by subst hX; rfl
  refine⟨ok,by subst hX; rfl,I2.bare,by subst hX; exact un1,?_,?_,?_,?_,?_,by subst hX; exact hok1,?_⟩
  ·obtain⟨m,hn,hl⟩:=I2.loc
   refine⟨_,by rw[ex]; exact hns₁,fun i x v e1 e2 e3=>?_⟩
   have e1':N'[i]? = some x:=by subst hX; exact e1
   have hik:k <= i:=by
    rcases Nat.lt_or_ge i k with z | z
    ·unfold compσ at e2
     rw[getElem?_append_left (by rw[length_replicate]; exact z),getElem?_replicate,if_pos z] at e2
     cases e2
    ·exact z
   obtain⟨j,rfl⟩:=Nat.exists_eq_add_of_le hik
   have e2':(fr.map fun i=>(σ[i]?).join)[j]? = some (some v):=by
    unfold compσ at e2
    rw[getElem?_append_right (by rw[length_replicate]; omega),length_replicate] at e2
    simpa using e2
   rw[getElem?_map] at e2'
   cases ef:fr[j]? with
   | none=>rw[ef] at e2'; cases e2'
   | some i0 =>
    rw[ef] at e2'
    have e4:(σ[i0]?).join = some v:=Option.some.inj e2'
    obtain⟨a1,a2,a3,a4⟩:=hfr j x e1' i0 ef
    have e5:σ[i0]? = some (some v):=by
     cases z:σ[i0]? with
     | none=>rw[z] at e4; cases e4
     | some o=>rw[z] at e4; have:o = some v:=e4; rw[this]
    obtain⟨u,ru,l⟩:=hl i0 x v a1 e5 (.inr (.inl a2))
    refine⟨u,ru,.inr ⟨.inl (by rw[ex,kd0]; exact a3),?_⟩⟩
    rcases l with ⟨lk,_⟩ | ⟨_,c,lc,lcell⟩
    ·rw[a2] at lk; cases lk
    ·refine⟨c,by rw[ex]; show (Dy fn X.env).lookup x = some c; rw[Ui a4,lc]; rfl,?_⟩
     obtain⟨o,ho,hd⟩:=lcell
     exact⟨o,old c o ho,hd⟩
  ·intro x c e
   rw[ex] at e
   obtain⟨v,o,ho,hd⟩:=I2.cell x c (hcl x c e)
   exact⟨v,o,old c o ho,hd⟩
  ·rw[ex]
   show (upd H2 s2.heap.objs.size (.lst [])) HH.objs.size = none
   rw[Bj hDC.symm]; exact nC
  ·intro x c e
   rw[ex] at e
   rw[Bj (ne_of_lt (cLt x c e))]
   exact I2.freeC x c (hcl x c e)
  ·intro p hp
   subst hX
   exact absurd (show p ∈ ([]:List (Addr × Obj)) from hp) (by simp)
  ·rw[compσ_len]; subst hX; exact hN.symm
 have fpOk:∀ {H':Hp} {pins':List (Addr × Obj)},(∀ b ∈ fp,H' b = none)->pins' = []->∀ b ∈ fp,So X' pins' H' b:=fun {H' pins'} hn e b hb=>by
  subst e
  obtain⟨_,f1,f2',f3,f4,f5⟩:=f2 b hb
  subst hX
  refine⟨hn b hb,ne_of_lt (Nat.lt_of_lt_of_le (fpLt b hb) hCle),fun z=>?_,.inl hb,fun x c e=>f4 x c (hcl x c e),fun p hp=>absurd (show p ∈ ([]:List (Addr × Obj)) from hp) (by simp)⟩
  rcases mem_cons.mp (I2.stkSub b z) with w | w
  ·exact f1 w
  ·exact f2' w
 have eqP:X'.prog = X.prog/\X'.w = X.w/\X'.K = X.K/\X'.calm = true/\X'.A = X.A/\X'.env = compEnvC scope (Dy fn X.env) HH.objs.size X.env/\X'.N = N':=by subst hX; exact⟨rfl,rfl,rfl,hc,rfl,rfl,rfl⟩
 obtain⟨eP,eW,eK,eC,eA,eE,eN⟩:=eqP
 have hg':PG X' tg g:=by subst hX; exact hg _ _ _ _
 have ht':Qg X' ifs tc:=by subst hX; exact ht _ _ _ _
 have he':PE X' elt te:=by subst hX; exact he _ _ _ _
 have eX:X'.xe = fun _ _=>False:=by subst hX; rfl
 have loop:∀ s₃:Shared,s₃ = { s2 with heap:=h₁,toks:=s2.toks + ([]:List (Str × Value)).length } ->
   codeAny (model X.prog X.w) X.A (.compLoop (.ListComp elt [⟨tg,iter,ifs,0⟩] scope pos) 0 (.ref it) (.ref s2.heap.objs.size) (compEnvC scope (Dy fn X.env) HH.objs.size X.env))
    (compPost (model X.prog X.w) X.A X.xe use Qc (.ref s2.heap.objs.size) HH.objs.size) s₃:=by
  rintro s₃ rfl
  refine Adj (fun n s'=>∃ i H',Inv X' [] (compσ k fr σ) H' s'/\tn i s'.heap/\(∀ b ∈ fp,H' b = none)/\W i n H') ?_ m0 ⟨0,_,I0 _,hst₁,fun b hb=>by rw[Bj (ne_of_lt (fpLt b hb))]; exact (f2 b hb).1,w0⟩
  rintro n s3 ⟨i,H3,I3,st3,fr3,w3⟩
  rcases turn i n H3 w3 with ⟨stop,qn⟩ | ⟨go,step⟩
  ·have d:=T.done X' eP eW eK eC i [] s3 (compσ k fr σ) H3 (fun _ _=>False) I3 (fpOk fr3 rfl) st3 stop
   rw[eA] at d
   refine thn d fun r s4 ⟨hr,I4⟩=>?_
   subst hr
   obtain⟨m,hn,_⟩:=I4.loc
   rw[eE] at hn
   have u4:Un (frs X.stack) fp H2 H3 s2.heap s4.heap:=by have:=I4.base; subst hX; exact this
   have nC3:H3 HH.objs.size = none:=by have:=I4.free; rw[eE] at this; exact this
   have hok5:HOk X.prog X.w H3 s4.heap:=fun b u e=>by
    have z:=I4.hok b u e
    rw[eP,eW] at z
    exact z
   have os4:s4.os = s2.os:=by have:=I4.os; subst hX; exact this
   obtain⟨hh,gg,dd,tt,oo⟩:=s4
   obtain rfl:oo = s2.os:=os4
   have Ix:Inv X pins σ H3 ⟨hh,gg,dd,tt,s2.os⟩:=Inv.call (s:=s2) I2 (h':=hh) (g':=gg) (d':=dd) (t':=tt) (ch:=fp) u4 hok5 I4.bare fun b hb=>by
    obtain⟨_,f1,_,f3,f4,f5⟩:=f2 b hb
    exact⟨f3,f1,f4,f5⟩
   refine fin H3 _ _ _ m hn Ix nC3 (Nat.le_trans I2.sz hCle) ?_ (fun x c e=>?_) (fun p hp=>?_) qn
   ·obtain⟨_,⟨o,_,_,ho,_⟩,_⟩:=I2.loc
    exact (below _ (lt_size ho)).symm
   ·obtain⟨v,z⟩:=I2.cell x c e
    exact below _ z.lt
   ·exact below _ (lt_size (I2.pin p hp).1)
  ·have d:=T.item X' eP eW eK eC i [] s3 (compσ k fr σ) H3 (fun _ _=>False) I3 (fpOk fr3 rfl) st3 go
   rw[eA] at d
   refine thn d fun r s4 ⟨u,hr,h4⟩=>?_
   subst hr
   refine thn h4 fun _ s5 ⟨x,H5,I5,r5,y5,st5,fr5⟩=>?_
   have I5':=I5.pinned (fpOk fr5 rfl) (T.obj _ _ st5)
   have a1:=hg' _ s5 (compσ k fr σ) H5 x u _ I5' r5 (step x H5 y5)
   rw[eP,eW,eA,eE,eX] at a1
   refine thn a1 fun _ s6 ⟨σ6,H6,I6,q6a,q6⟩=>?_
   have a2:=ht' _ s6 σ6 H6 _ I6 q6
   rw[eP,eW,eA,eE,eX] at a2
   refine thn a2 fun b s7 ⟨H7,I7,q7⟩=>?_
   have again:∀ {H8:Hp} {s8:Shared},Inv X' ([] ++ Sm fp s5.heap) σ6 H8 s8->(∃ m',m' < n/\W (i + 1) m' H8)->∃ m,m < n/\∃ i H',Inv X' [] (compσ k fr σ) H' s8/\tn i s8.heap/\(∀ b ∈ fp,H' b = none)/\W i m H':=fun {H8 s8} I8 ⟨m',hm,w8⟩=>by
    refine⟨m',hm,i + 1,H8,I8.unpinned.weak ?_ (compσ_weak q6a),T.keep _ _ _ st5 fun b hb o e=>(I8.pin (b,o) (mem_append_right _ (mem_append_right _ (Oc hb e)))).1,fun b hb=>?_,w8⟩
    ·rw[compσ_len,I8.len,eN,hN]
    ·obtain⟨o,e,_⟩:=T.obj _ _ st5 b hb
     exact (I8.pin (b,o) (mem_append_right _ (mem_append_right _ (Oc hb e)))).2.1
   cases b with
   | false =>
    rw[if_neg Bool.false_ne_true] at q7 ⊢
    exact again I7 q7
   | true =>
    rw[if_pos rfl] at q7 ⊢
    have a3:=he' _ s7 σ6 H7 _ I7 q7
    rw[eP,eW,eA,eE,eX] at a3
    refine thn a3 fun yv s8 ⟨y,H8,I8,r8,ys,hD,hz,q8⟩=>?_
    have a4:=Xf (X:=X') _ s8 σ6 H8 (.ref s2.heap.objs.size) [y] (.ref s2.heap.objs.size) [yv] (fun _ H9=>∃ m',m' < n/\W (i + 1) m' H9) I8 rfl (.cons r8 .nil) ⟨_,ys,y,rfl,rfl,hD,hz,q8⟩
    rw[eP,eW,eA,eX] at a4
    exact thn a4 fun _ s9 ⟨_,H9,I9,_,q9⟩=>again I9 q9
 exact codeAny_compStart_list (loop _ rfl) (T.self _ 0 _ _ _ hst₁ (loop _ rfl))
theorem Abj {X:Cx} {elt tg iter:Expr} {ifs:List Expr} {scope:Scope} {pos:Pos} {wi:TI} {g:TG} {tc:TT} {te:TE} {k:Nat} {fr:List Nat} {N' fn:List Str} (hc:X.calm = true)
  (hi:PI X tg iter wi) (hN:N'.length = k + fr.length)
  (hfr:∀ j y,N'[k + j]? = some y->∀ i,fr[j]? = some i->X.N[i]? = some y/\X.env.kindOf y = some .cell/\(compEnvC scope (Dy fn X.env) 0 X.env).kindOf y = some .cell/\y ∈ fn)
  (hfn:∀ y ∈ fn,X.env.kindOf y = some .cell)
  (hkd:∀ y,((compEnvC scope (Dy fn X.env) 0 X.env).kindOf y = some .cell\/(compEnvC scope (Dy fn X.env) 0 X.env).kindOf y = some .free)->y ∈ fn)
  (hg:∀ C fp s H,PG (Dt X scope N' fn C fp s H) tg g) (ht:∀ C fp s H,Qg (Dt X scope N' fn C fp s H) ifs tc) (he:∀ C fp s H,PE (Dt X scope N' fn C fp s H) elt te)
  (hclos:closureFor scope X.env = pure (Dy fn X.env)) (hcell:∀ y ∈ scope.names,y.2 ≠ .cell) (hkind:scope.kind = .function) (hnames:∀ y ∈ scope.names,y.2 = .local->scope.names.lookup y.1 = some .local)
  (hs:∀ x,foldedSetIterable iter X.env x = pure x:=by intro _; rfl):PE X (.ListComp elt [⟨tg,iter,ifs,0⟩] scope pos) (Gz wi g tc te k fr):=by
 intro pins s σ H Q I h
 rw[eval_ListComp]
 refine Wz hc hi hN hfr hfn hkd hg ht he hclos hcell hkind hnames hs I h fun H3 s4 D C m hn Ix hC h1 h2 h3 h4 q=>?_
 exact⟨m,hn,fun h' sb=>⟨.ref D,H3,Inv.nsch Ix sb hC h1 h2 h3 h4,rfl,q⟩⟩
theorem Abc {X:Cx} {elt tg iter:Expr} {ifs:List Expr} {scope:Scope} {pos px spos:Pos} {i:Nat} {x:Str} {wi:TI} {g:TG} {tc:TT} {te:TE} {k:Nat} {fr:List Nat} {N' fn:List Str} (hc:X.calm = true)
  (hi:PI X tg iter wi) (hN:N'.length = k + fr.length)
  (hfr:∀ j y,N'[k + j]? = some y->∀ i,fr[j]? = some i->X.N[i]? = some y/\X.env.kindOf y = some .cell/\(compEnvC scope (Dy fn X.env) 0 X.env).kindOf y = some .cell/\y ∈ fn)
  (hfn:∀ y ∈ fn,X.env.kindOf y = some .cell)
  (hkd:∀ y,((compEnvC scope (Dy fn X.env) 0 X.env).kindOf y = some .cell\/(compEnvC scope (Dy fn X.env) 0 X.env).kindOf y = some .free)->y ∈ fn)
  (hg:∀ C fp s H,PG (Dt X scope N' fn C fp s H) tg g) (ht:∀ C fp s H,Qg (Dt X scope N' fn C fp s H) ifs tc) (he:∀ C fp s H,PE (Dt X scope N' fn C fp s H) elt te)
  (hclos:closureFor scope X.env = pure (Dy fn X.env)) (hcell:∀ y ∈ scope.names,y.2 ≠ .cell) (hkind:scope.kind = .function) (hnames:∀ y ∈ scope.names,y.2 = .local->scope.names.lookup y.1 = some .local)
  (hs:∀ x,foldedSetIterable iter X.env x = pure x:=by intro _; rfl) (hNd:X.N.Nodup) (hix:X.N[i]? = some x) (hx:Loc X.env.scope x) (hsw:swapsWith (.ListComp elt [⟨tg,iter,ifs,0⟩] scope pos) (some (.Name x px)) spos.line X.env = pure true)
  (hf:X.fn x = true\/X.env.scope.names.lookup x = some .local:=by first | exact .inl rfl | exact .inr rfl | assumption):PS X (.Assign [.Name x px] (.ListComp elt [⟨tg,iter,ifs,0⟩] scope pos) spos) (Ld (Gz wi g tc te k fr) (Gf i)):=by
 intro pins s σ H D I h
 rw[exec_Assign_Name_used _ _ _ _ hsw]
 refine wpAny_bind (wpAny_standAt (wpAny_bind ?_))
 show wpAny _ X.A (do let _ <- comprehension (.ListComp elt [⟨tg,iter,ifs,0⟩] scope pos) scope X.env _ (newList []) false (eval iter X.env) (some (assign (.Name x px) X.env))) _ _ s
 refine wpAny_bind (wpAny_mono (Wz (use:=some (assign (.Name x px) X.env)) (Qc:=fun _ s'=>SP X pins D .next s') hc hi hN hfr hfn hkd hg ht he hclos hcell hkind hnames hs I h fun H3 s4 D' C m hn Ix hC h1 h2 h3 h4 q=>?_) (fun _ s' hq=>wpAny_pure (wpAny_pure hq)) fun _ _ e=>e)
 show wpAny _ X.A (assign (.Name x px) X.env (.ref D')) _ _ _
 refine wpAny_assign_Name (Ww Ix hNd hix hx (v:=.ref D') rfl (fun s' I' ⟨a,sb,ha⟩=>?_) hf)
 have nCa:C ≠ a:=by
  rcases ha with w | w
  ·rw[w]; exact h2
  ·exact (h3 _ _ w).symm
 exact⟨m,hn.sameBut sb nCa,fun h' sb'=>⟨_,H3,Inv.nsch I' sb' hC h1 h2 h3 h4,q⟩⟩
theorem Bx {X:Cx} {scope:Scope} {N' fn:List Str} {C:Addr} {fp:List Addr} {s:Shared} {H:Hp}:(Dt X scope N' fn C fp s H).K = X.K:=rfl
theorem Fu {X:Cx} {pos:Pos} {K':Frag} (hK:X.K = K') {es:List Expr} {k:Nat} {t:TGs} {n:Nat} (hc:X.calm = true) (h:PGs X es t)
  (hn:(assignEach es X.env).length = n:=by rfl) (hst:(assignEach es X.env).findIdx? (·.1) = none:=by rfl):PG X (.Tuple es k pos) (Vv K' n t):=by
 subst hK
 exact Oi hc h hn hst
theorem Jj:∀ {l:List (Str × NameKind)} {y:Str} {k:NameKind},l.lookup y = some k->(y,k) ∈ l
 | [],_,_,h=>by cases h
 | (x,j) :: r,y,k,h=>by
  rw[lookup_cons] at h
  cases e:y == x with
  | true =>
   rw[e] at h
   cases h
   rw[eq_of_beq e]; exact mem_cons_self
  | false =>
   rw[e] at h
   exact mem_cons_of_mem _ (Jj h)
theorem Rn {X:Cx} {elt tg iter:Expr} {ifs:List Expr} {scope:Scope} {pos:Pos} {wi:TI} {g:TG} {tc:TT} {te:TE} (k:Nat) (N':List Str) (hN:N'.length = k) (hc:X.calm = true)
  (hi:PI X tg iter wi)
  (hg:∀ C fp s H,PG (Dt X scope N' [] C fp s H) tg g) (ht:∀ C fp s H,Qg (Dt X scope N' [] C fp s H) ifs tc) (he:∀ C fp s H,PE (Dt X scope N' [] C fp s H) elt te)
  (hfree:∀ y ∈ scope.names,y.2 ≠ .free) (hcell:∀ y ∈ scope.names,y.2 ≠ .cell) (hkind:scope.kind = .function) (hnames:∀ y ∈ scope.names,y.2 = .local->scope.names.lookup y.1 = some .local)
  (hs:∀ x,foldedSetIterable iter X.env x = pure x:=by intro _; rfl):PE X (.ListComp elt [⟨tg,iter,ifs,0⟩] scope pos) (Gz wi g tc te k []):=by
 refine Abj (fn:=[]) (fr:=[]) (k:=k) hc hi hN (fun j y _ i e=>by simp at e) (fun y hy=>by cases hy) (fun y h=>?_) hg ht he (PySem.closureFor_none hfree) hcell hkind hnames hs
 have e:∀ k,(compEnvC scope (Dy [] X.env) 0 X.env).kindOf y = some k->∃ p ∈ scope.names,p.2 = .free\/p.2 = k:=by
  intro k h
  have m:=Jj (show (relabel scope X.env).names.lookup y = some k from h)
  obtain⟨p,hp,ep⟩:=mem_map.mp (show (y,k) ∈ scope.names.map _ from m)
  obtain⟨n,kd⟩:=p
  refine⟨(n,kd),hp,?_⟩
  dsimp only at ep
  split at ep
  ·rename_i c
   simp only [and_eq_true,beq_iff_eq] at c
   exact .inl c.1.1
  ·exact .inr (Prod.mk.inj ep).2
 rcases h with h | h
 ·obtain⟨p,hp,z⟩:=e _ h
  rcases z with z | z
  ·exact (hfree p hp z).elim
  ·exact (hcell p hp z).elim
 ·obtain⟨p,hp,z⟩:=e _ h
  rcases z with z | z
  ·exact (hfree p hp z).elim
  ·exact (hfree p hp z).elim
theorem Rq {X:Cx} {elt tg iter:Expr} {ifs:List Expr} {scope:Scope} {pos px spos:Pos} {i:Nat} {x:Str} {wi:TI} {g:TG} {tc:TT} {te:TE} (k:Nat) (N':List Str) (hN:N'.length = k) (hc:X.calm = true)
  (hi:PI X tg iter wi)
  (hg:∀ C fp s H,PG (Dt X scope N' [] C fp s H) tg g) (ht:∀ C fp s H,Qg (Dt X scope N' [] C fp s H) ifs tc) (he:∀ C fp s H,PE (Dt X scope N' [] C fp s H) elt te)
  (hfree:∀ y ∈ scope.names,y.2 ≠ .free) (hcell:∀ y ∈ scope.names,y.2 ≠ .cell) (hkind:scope.kind = .function) (hnames:∀ y ∈ scope.names,y.2 = .local->scope.names.lookup y.1 = some .local)
  (hs:∀ x,foldedSetIterable iter X.env x = pure x:=by intro _; rfl) (hNd:X.N.Nodup) (hix:X.N[i]? = some x) (hx:Loc X.env.scope x) (hsw:swapsWith (.ListComp elt [⟨tg,iter,ifs,0⟩] scope pos) (some (.Name x px)) spos.line X.env = pure true)
  (hf:X.fn x = true\/X.env.scope.names.lookup x = some .local:=by first | exact .inl rfl | exact .inr rfl | assumption):PS X (.Assign [.Name x px] (.ListComp elt [⟨tg,iter,ifs,0⟩] scope pos) spos) (Ld (Gz wi g tc te k []) (Gf i)):=by
 refine Abc (fn:=[]) (fr:=[]) (k:=k) hc hi hN (fun j y _ i e=>by simp at e) (fun y hy=>by cases hy) (fun y h=>?_) hg ht he (PySem.closureFor_none hfree) hcell hkind hnames hs hNd hix hx hsw hf
 have e:∀ k,(compEnvC scope (Dy [] X.env) 0 X.env).kindOf y = some k->∃ p ∈ scope.names,p.2 = .free\/p.2 = k:=by
  intro k h
  have m:=Jj (show (relabel scope X.env).names.lookup y = some k from h)
  obtain⟨p,hp,ep⟩:=mem_map.mp (show (y,k) ∈ scope.names.map _ from m)
  obtain⟨n,kd⟩:=p
  refine⟨(n,kd),hp,?_⟩
  dsimp only at ep
  split at ep
  ·rename_i c
   simp only [and_eq_true,beq_iff_eq] at c
   exact .inl c.1.1
  ·exact .inr (Prod.mk.inj ep).2
 rcases h with h | h
 ·obtain⟨p,hp,z⟩:=e _ h
  rcases z with z | z
  ·exact (hfree p hp z).elim
  ·exact (hcell p hp z).elim
 ·obtain⟨p,hp,z⟩:=e _ h
  rcases z with z | z
  ·exact (hfree p hp z).elim
  ·exact (hfree p hp z).elim
theorem Ja {X:Cx} {elt tg iter:Expr} {ifs:List Expr} {scope:Scope} {pos:Pos} {wi:TI} {g:TG} {tc:TT} {te:TE} (k:Nat) (fr:List Nat) (N' fn:List Str) (hc:X.calm = true)
  (hi:PI X tg iter wi) (hN:N'.length = k + fr.length)
  (hfr:∀ j y,N'[k + j]? = some y->∀ i,fr[j]? = some i->X.N[i]? = some y/\X.env.kindOf y = some .cell/\(compEnvC scope (Dy fn X.env) 0 X.env).kindOf y = some .cell/\y ∈ fn)
  (hfn:∀ y ∈ fn,X.env.kindOf y = some .cell) (hkd:∀ p ∈ scope.names,(p.2 = .cell\/p.2 = .free)->p.1 ∈ fn)
  (hg:∀ C fp s H,PG (Dt X scope N' fn C fp s H) tg g) (ht:∀ C fp s H,Qg (Dt X scope N' fn C fp s H) ifs tc) (he:∀ C fp s H,PE (Dt X scope N' fn C fp s H) elt te)
  (hclos:closureFor scope X.env = pure (Dy fn X.env)) (hcell:∀ y ∈ scope.names,y.2 ≠ .cell) (hkind:scope.kind = .function) (hnames:∀ y ∈ scope.names,y.2 = .local->scope.names.lookup y.1 = some .local)
  (hs:∀ x,foldedSetIterable iter X.env x = pure x:=by intro _; rfl):PE X (.ListComp elt [⟨tg,iter,ifs,0⟩] scope pos) (Gz wi g tc te k fr):=by
 refine Abj hc hi hN hfr hfn (fun y h=>?_) hg ht he hclos hcell hkind hnames hs
 have e:∀ k,(compEnvC scope (Dy fn X.env) 0 X.env).kindOf y = some k->∃ p ∈ scope.names,p.1 = y/\(p.2 = .free\/p.2 = k):=by
  intro k h
  have m:=Jj (show (relabel scope X.env).names.lookup y = some k from h)
  obtain⟨p,hp,ep⟩:=mem_map.mp (show (y,k) ∈ scope.names.map _ from m)
  obtain⟨n,kd⟩:=p
  refine⟨(n,kd),hp,?_⟩
  dsimp only at ep
  split at ep
  ·rename_i c
   simp only [and_eq_true,beq_iff_eq] at c
   exact⟨(Prod.mk.inj ep).1,.inl c.1.1⟩
  ·exact⟨(Prod.mk.inj ep).1,.inr (Prod.mk.inj ep).2⟩
 rcases h with h | h
 ·obtain⟨p,hp,z1,z⟩:=e _ h
  rw[<- z1]; exact hkd p hp (z.elim .inr .inl)
 ·obtain⟨p,hp,z1,z⟩:=e _ h
  rw[<- z1]; exact hkd p hp (.inr (z.elim id id))
theorem Rj {X:Cx} {elt tg iter:Expr} {ifs:List Expr} {scope:Scope} {pos px spos:Pos} {i:Nat} {x:Str} {wi:TI} {g:TG} {tc:TT} {te:TE} (k:Nat) (fr:List Nat) (N' fn:List Str) (hc:X.calm = true)
  (hi:PI X tg iter wi) (hN:N'.length = k + fr.length)
  (hfr:∀ j y,N'[k + j]? = some y->∀ i,fr[j]? = some i->X.N[i]? = some y/\X.env.kindOf y = some .cell/\(compEnvC scope (Dy fn X.env) 0 X.env).kindOf y = some .cell/\y ∈ fn)
  (hfn:∀ y ∈ fn,X.env.kindOf y = some .cell) (hkd:∀ p ∈ scope.names,(p.2 = .cell\/p.2 = .free)->p.1 ∈ fn)
  (hg:∀ C fp s H,PG (Dt X scope N' fn C fp s H) tg g) (ht:∀ C fp s H,Qg (Dt X scope N' fn C fp s H) ifs tc) (he:∀ C fp s H,PE (Dt X scope N' fn C fp s H) elt te)
  (hclos:closureFor scope X.env = pure (Dy fn X.env)) (hcell:∀ y ∈ scope.names,y.2 ≠ .cell) (hkind:scope.kind = .function) (hnames:∀ y ∈ scope.names,y.2 = .local->scope.names.lookup y.1 = some .local)
  (hs:∀ x,foldedSetIterable iter X.env x = pure x:=by intro _; rfl) (hNd:X.N.Nodup) (hix:X.N[i]? = some x) (hx:Loc X.env.scope x) (hsw:swapsWith (.ListComp elt [⟨tg,iter,ifs,0⟩] scope pos) (some (.Name x px)) spos.line X.env = pure true)
  (hf:X.fn x = true\/X.env.scope.names.lookup x = some .local:=by first | exact .inl rfl | exact .inr rfl | assumption):PS X (.Assign [.Name x px] (.ListComp elt [⟨tg,iter,ifs,0⟩] scope pos) spos) (Ld (Gz wi g tc te k fr) (Gf i)):=by
 refine Abc hc hi hN hfr hfn (fun y h=>?_) hg ht he hclos hcell hkind hnames hs hNd hix hx hsw hf
 have e:∀ k,(compEnvC scope (Dy fn X.env) 0 X.env).kindOf y = some k->∃ p ∈ scope.names,p.1 = y/\(p.2 = .free\/p.2 = k):=by
  intro k h
  have m:=Jj (show (relabel scope X.env).names.lookup y = some k from h)
  obtain⟨p,hp,ep⟩:=mem_map.mp (show (y,k) ∈ scope.names.map _ from m)
  obtain⟨n,kd⟩:=p
  refine⟨(n,kd),hp,?_⟩
  dsimp only at ep
  split at ep
  ·rename_i c
   simp only [and_eq_true,beq_iff_eq] at c
   exact⟨(Prod.mk.inj ep).1,.inl c.1.1⟩
  ·exact⟨(Prod.mk.inj ep).1,.inr (Prod.mk.inj ep).2⟩
 rcases h with h | h
 ·obtain⟨p,hp,z1,z⟩:=e _ h
  rw[<- z1]; exact hkd p hp (z.elim .inr .inl)
 ·obtain⟨p,hp,z1,z⟩:=e _ h
  rw[<- z1]; exact hkd p hp (.inr (z.elim id id))
theorem Aen {K:Frag} {σ:St} {H:Hp} {Q:VK} {D a:Addr} {xs:List V} {g:TG} {tc:TT} {te:TE} {k:Nat} {fr:List Nat} (Pv:Nat->Hp->Prop)
  (h0:Pv 0 H) (hl:∀ i H',i <= xs.length->Pv i H'->SqL K H' a xs)
  (hs:∀ i x H' (N:Hp->Prop),xs[i]? = some x->Pv i H'->(∀ H'',Pv (i + 1) H''->N H'')->g x (compσ k fr σ) H' fun σ2 H2=>σ2.drop k = (compσ k fr σ).drop k/\tc σ2 H2 fun b H3 =>
   if b = true then te σ2 H3 (fun y H4=>∃ ys,H4 D = some (.lst ys)/\ys.length < sizeLine/\N (upd H4 D (.lst (ys ++ [y])))) else N H3)
  (hd:∀ H',Pv xs.length H'->Q (.ref D) H') :
  ∃ W:Nat->Nat->Hp->Prop,(∃ m,W 0 m H)/\∀ i m H,W i m H->((Itl K a).stop i H/\Q (.ref D) H)\/((Itl K a).go i H/\∀ x H',(Itl K a).yld i H x H'->g x (compσ k fr σ) H' fun σ2 H2 =>
  σ2.drop k = (compσ k fr σ).drop k/\tc σ2 H2 fun b H3=>if b = true then te σ2 H3 (fun y H4=>∃ ys,H4 D = some (.lst ys)/\ys.length < sizeLine/\∃ m',m' < m/\W (i + 1) m' (upd H4 D (.lst (ys ++ [y])))) else ∃ m',m' < m/\W (i + 1) m' H3):=by
 refine⟨fun i m H=>m = xs.length - i/\i <= xs.length/\Pv i H,⟨xs.length,by simp,zero_le _,h0⟩,?_⟩
 rintro i m H' ⟨rfl,hi,p⟩
 have q:=hl i H' hi p
 by_cases hlt:i < xs.length
 ·refine .inr ⟨⟨xs,xs[i],q,by simp [hlt]⟩,fun x H'' y=>?_⟩
  obtain⟨e,y⟩:=y
  subst e
  exact hs i x _ (fun H''=>∃ m',m' < xs.length - i/\m' = xs.length - (i + 1)/\i + 1 <= xs.length/\Pv (i + 1) H'') (y xs q) p fun H'' p'=>⟨_,by omega,rfl,hlt,p'⟩
 ·have e:i = xs.length:=by omega
  subst e
  exact .inl ⟨⟨xs,q,Nat.le_refl _⟩,hd H' p⟩
theorem AbV {σ:St} {H:Hp} {Q:VK} {D:Addr} {lo:Int} {n:Nat} {g:TG} {tc:TT} {te:TE} {k:Nat} {fr:List Nat} (Pv:Nat->Hp->Prop) (h0:Pv 0 H)
  (hs:∀ i H' (N:Hp->Prop),i < n->Pv i H'->(∀ H'',Pv (i + 1) H''->N H'')->g (.int (lo + i)) (compσ k fr σ) H' fun σ2 H2=>σ2.drop k = (compσ k fr σ).drop k/\tc σ2 H2 fun b H3 =>
   if b = true then te σ2 H3 (fun y H4=>∃ ys,H4 D = some (.lst ys)/\ys.length < sizeLine/\N (upd H4 D (.lst (ys ++ [y])))) else N H3)
  (hd:∀ H',Pv n H'->Q (.ref D) H') :
  ∃ W:Nat->Nat->Hp->Prop,(∃ m,W 0 m H)/\∀ i m H,W i m H->((Itr lo n).stop i H/\Q (.ref D) H)\/((Itr lo n).go i H/\∀ x H',(Itr lo n).yld i H x H'->g x (compσ k fr σ) H' fun σ2 H2 =>
  σ2.drop k = (compσ k fr σ).drop k/\tc σ2 H2 fun b H3=>if b = true then te σ2 H3 (fun y H4=>∃ ys,H4 D = some (.lst ys)/\ys.length < sizeLine/\∃ m',m' < m/\W (i + 1) m' (upd H4 D (.lst (ys ++ [y])))) else ∃ m',m' < m/\W (i + 1) m' H3):=by
 refine⟨fun i m H=>m = n - i/\i <= n/\Pv i H,⟨n,by simp,zero_le _,h0⟩,?_⟩
 rintro i m H' ⟨rfl,hi,p⟩
 by_cases hlt:i < n
 ·refine .inr ⟨hlt,fun x H'' y=>?_⟩
  obtain⟨e,y⟩:=y
  subst e
  subst y
  exact hs i _ (fun H''=>∃ m',m' < n - i/\m' = n - (i + 1)/\i + 1 <= n/\Pv (i + 1) H'') hlt p fun H'' p'=>⟨_,by omega,rfl,hlt,p'⟩
 ·have e:i = n:=by omega
  subst e
  exact .inl ⟨Nat.le_refl _,hd H' p⟩
section
variable {X:Cx} {K':Frag}
theorem Cy (K':Frag) (h:X.K = K':=by rfl):IxR X (Wq K'):=by subst h; exact Aek
theorem Cj (K':Frag) (h:X.K = K':=by rfl):IxR X (AaF K'):=by subst h; exact Vq
theorem Ji (K':Frag) (h:X.K = K':=by rfl):OpR X (compareOp .In) (rIn K' false):=by subst h; exact Su
theorem Ain (K':Frag) (hu:X.A.units + 64 < cLine) (h:X.K = K':=by rfl):OpR X (compareOp .Eq) (Aax K' false):=by subst h; exact AkS hu
theorem Vy (K':Frag) (hu:X.A.units + 64 < cLine) (h:X.K = K':=by rfl):OpR X (compareOp .NotEq) (Aax K' true):=by subst h; exact Aj6 hu
theorem Jb (K':Frag) (h:X.K = K':=by rfl):Jp X (.builtin "isinstance") (fun vs H Q=>∃ x n t b,vs = [x,.ty n]/\Ge K' H x t/\kitOne K' t (.type n) = some b/\Q (.bl b) H):=by subst h; exact Gx
theorem Ch (K':Frag) (h:X.K = K':=by rfl):Jp X (.builtin "len") (fun xs H Q=>∃ p ys,xs = [.ref p]/\(SqL K' H p ys\/SqT K' H p ys)/\Q (.int ys.length) H):=by subst h; exact Lh
end
end L2
namespace L2
open PySem PySem.Spec PyProof.Rows
theorem Same.laid {H:Hp} {p:Addr} {o:HO} (h:H p = none):Same H (upd H p o):=fun q u e=>by rw[Bj (by intro z; subst z; rw[h] at e; cases e)]; exact e
def Chg (a:Addr) (H H':Hp):Prop:=∀ q o,H q = some o->q ≠ a->H' q = some o
theorem Chg.put {H:Hp} {a:Addr} {o:HO}:Chg a H (upd H a o):=fun q u e n=>by rw[Bj n]; exact e
theorem Same.chg {a:Addr} {H H1 H2:Hp} (x:Same H H1) (y:Chg a H1 H2) (f:H a = none):Same H H2:=fun q o h=>y q o (x q o h) (by intro z; subst z; rw[f] at h; cases h)
section
variable {X:Cx} {es:List Expr} {t:TA} {pos:Pos}
def Acz (t:TA):TE:=fun σ H Q=>t σ H fun xs H1=>xs.length <= sizeLine/\∀ p H2,H1 p = none->Same H1 H2->H2 p = some (.tup xs)->Q (.ref p) H2
def Xz (t:TA):TE:=fun σ H Q=>t σ H fun xs H1=>xs.length <= sizeLine/\∀ p H2,H1 p = none->Same H1 H2->H2 p = some (.lst xs)->Q (.ref p) H2
theorem Fr {x1} (h:PA X es t):PE X (.Tuple es x1 pos) (Acz t):=by
 intro pins s σ H Q I hq
 refine wpAny_Tuple_spliced (thn (h pos pins s σ H _ I hq) fun us s1 ⟨xs,H1,I1,r,z,q⟩=>⟨by rw[<- r.length]; exact z,?_⟩)
 have hf:H1 s1.heap.objs.size = none:=I1.hok.fresh (Nat.le_refl _)
 refine⟨.ref s1.heap.objs.size,upd H1 s1.heap.objs.size (.tup xs),I1.laid (t':=s1.toks) (fun b u e=>get?_push_of_some _ e) (Nat.le_refl _) ?_,rfl,q _ _ hf (Same.laid hf) Bm⟩
 exact⟨z,us,r,⟨_,get?_push_size _ rfl,rfl,_,rfl⟩⟩
theorem Cu (h:PA X es t):PE X (.List es pos) (Xz t):=by
 intro pins s σ H Q I hq
 refine wpAny_List_spliced (thn (h pos pins s σ H _ I hq) fun us s1 ⟨xs,H1,I1,r,z,q⟩=>⟨by rw[<- r.length]; exact z,?_⟩)
 have hf:H1 s1.heap.objs.size = none:=I1.hok.fresh (Nat.le_refl _)
 refine⟨.ref s1.heap.objs.size,upd H1 s1.heap.objs.size (.lst xs),I1.laid (t':=s1.toks) (fun b u e=>get?_push_of_some _ e) (Nat.le_refl _) ?_,rfl,q _ _ hf (Same.laid hf) Bm⟩
 exact⟨z,us,0,r,get?_push_size _ rfl⟩
def AgL:R2:=fun x y H Q=>∃ l b xs zs,x = .ref l/\y = .ref b/\H l = some (.lst xs)/\H b = some (.lst zs)/\xs.length + zs.length <= sizeLine/\∀ p H',H p = none->Same H H'->H' p = some (.lst (xs ++ zs))->Q (.ref p) H'
theorem Tg:OpR X (binaryOp .Add) AgL:=fun pins s σ H x y v u Q I r1 r2 ⟨l,b,xs,zs,e1,e2,h1,h2,hz,q⟩=>AjT pins s σ H x y v u Q I r1 r2 ⟨l,b,xs,zs,e1,e2,h1,h2,hz,fun p hp=>q p _ hp (Same.laid hp) Bm⟩
def Oq:V->List V->Hp->VK->Prop:=fun x vs H Q=>∃ l xs y,x = .ref l/\vs = [y]/\H l = some (.lst xs)/\xs.length < sizeLine/\∀ H',Chg l H H'->H' l = some (.lst (xs ++ [y]))->Q .non H'
theorem Dc:MtR X "list.append" Oq:=fun pins s σ H x vs v us Q I rx rv ⟨l,xs,y,e1,e2,h1,hz,q⟩=>Xf pins s σ H x vs v us Q I rx rv ⟨l,xs,y,e1,e2,h1,hz,q _ Chg.put Bm⟩
variable {K':Frag}
def AhH (K:Frag):V->Option Int->Option Int->Hp->VK->Prop:=fun x lo hi H Q=>∃ a xs,x = .ref a/\SqL K H a xs/\∀ p H',H p = none->Same H H'->H' p = some (.lst (Uc xs lo hi))->Q (.ref p) H'
theorem Ls (K':Frag) (h:X.K = K':=by rfl):SlR X (AhH K'):=by
 subst h
 exact fun pins s σ H x v vl vu lo hi sl Q I rx hs pl pu ⟨a,xs,e,hx,q⟩=>AiE pins s σ H x v vl vu lo hi sl Q I rx hs pl pu ⟨a,xs,e,hx,fun p hp=>q p _ hp (Same.laid hp) Bm⟩
theorem Gd (K':Frag) (h:X.K = K':=by rfl):Jp X (.type "list") (fun xs H Q=>∃ p ys,xs = [.ref p]/\(SqL K' H p ys\/SqT K' H p ys)/\∀ l H',H l = none->Same H H'->H' l = some (.lst ys)->Q (.ref l) H'):=by
 subst h
 exact fun pins s σ H xs us Q I r ⟨p,ys,e,hx,q⟩=>Aaj pins s σ H xs us Q I r ⟨p,ys,e,hx,fun l hl=>q l _ hl (Same.laid hl) Bm⟩
end
section
variable {σ:St} {H:Hp} {Q:VK} {K:Frag}
theorem AkW {t:TA} (q:t σ H fun xs H1=>xs.length <= sizeLine/\∀ p H2,H1 p = none->Same H1 H2->H2 p = some (.lst xs)->Q (.ref p) H2):Xz t σ H Q:=q
theorem Gp {a:Addr} {xs:List V} {y:V} (h:H a = some (.lst xs)) (hl:xs.length < sizeLine) (q:∀ H',Chg a H H'->H' a = some (.lst (xs ++ [y]))->Q .non H'):Oq (.ref a) [y] H Q:=⟨a,xs,y,rfl,rfl,h,hl,q⟩
end
def CP (J:It) (D:Addr) (g:TG) (tc:TT) (te:TE) (k:Nat) (fr:List Nat) (σ:St) (H1:Hp) (Q:VK):Prop :=
 ∃ W:Nat->Nat->Hp->Prop,(∃ m,W 0 m H1)/\∀ i m H,W i m H->(J.stop i H/\Q (.ref D) H)\/(J.go i H/\∀ x H',J.yld i H x H'->g x (compσ k fr σ) H' fun σ2 H2 =>
  σ2.drop k = (compσ k fr σ).drop k/\tc σ2 H2 fun b H3=>if b = true then te σ2 H3 (fun y H4=>∃ ys,H4 D = some (.lst ys)/\ys.length < sizeLine/\∃ m',m' < m/\W (i + 1) m' (upd H4 D (.lst (ys ++ [y])))) else ∃ m',m' < m/\W (i + 1) m' H3)
theorem Oh {σ:St} {H:Hp} {Q:VK} {wi:TI} {g:TG} {tc:TT} {te:TE} {k:Nat} {fr:List Nat} (q:wi σ H fun J H1=>∀ D,H1 D = none->CP J D g tc te k fr σ (upd H1 D (.lst [])) Q):Gz wi g tc te k fr σ H Q:=q
theorem CP.list {K:Frag} {σ:St} {H:Hp} {Q:VK} {D a:Addr} {g:TG} {tc:TT} {te:TE} {k:Nat} {fr:List Nat} (xs:List V) (Pv:Nat->Hp->Prop)
  (h0:Pv 0 H) (hl:∀ i H',i <= xs.length->Pv i H'->SqL K H' a xs)
  (hs:∀ i x H' (N:Hp->Prop),xs[i]? = some x->Pv i H'->(∀ H'',Pv (i + 1) H''->N H'')->g x (compσ k fr σ) H' fun σ2 H2=>σ2.drop k = (compσ k fr σ).drop k/\tc σ2 H2 fun b H3 =>
   if b = true then te σ2 H3 (fun y H4=>∃ ys,H4 D = some (.lst ys)/\ys.length < sizeLine/\N (upd H4 D (.lst (ys ++ [y])))) else N H3)
  (hd:∀ H',Pv xs.length H'->Q (.ref D) H'):CP (Itl K a) D g tc te k fr σ H Q:=Aen Pv h0 hl hs hd
theorem CP.range {σ:St} {H:Hp} {Q:VK} {D:Addr} {lo:Int} {n:Nat} {g:TG} {tc:TT} {te:TE} {k:Nat} {fr:List Nat} (Pv:Nat->Hp->Prop) (h0:Pv 0 H)
  (hs:∀ i H' (N:Hp->Prop),i < n->Pv i H'->(∀ H'',Pv (i + 1) H''->N H'')->g (.int (lo + i)) (compσ k fr σ) H' fun σ2 H2=>σ2.drop k = (compσ k fr σ).drop k/\tc σ2 H2 fun b H3 =>
   if b = true then te σ2 H3 (fun y H4=>∃ ys,H4 D = some (.lst ys)/\ys.length < sizeLine/\N (upd H4 D (.lst (ys ++ [y])))) else N H3)
  (hd:∀ H',Pv n H'->Q (.ref D) H'):CP (Itr lo n) D g tc te k fr σ H Q:=AbV Pv h0 hs hd
def Aal (e:Addr->Bool):V->Bool
 | .ref p=>e p
 | _=>false
def AbP (e:Addr->Bool):Value->Bool
 | .ref p=>e p
 | _=>false
theorem AaG {e:Addr->Bool}:∀ {xs:List V} {us:List Value},Vals xs us->(∀ x ∈ xs,∃ p,x = V.ref p)->us.any (AbP e) = xs.any (Aal e)
 | _,_,.nil,_=>rfl
 | y :: xs,u :: us,.cons r t,f=>by
  obtain⟨p,rfl⟩:=f y mem_cons_self
  cases r
  rw[any_cons,any_cons,AaG t fun x hx=>f x (mem_cons_of_mem _ hx)]
  rfl
theorem AfW {xs:List V} {us:List Value} (r:Vals xs us):∀ u ∈ us,∃ x ∈ xs,RelV x u:=by
 induction r with
 | nil=>intro u hu; cases hu
 | cons r t ih =>
  intro u hu
  rcases mem_cons.mp hu with e | hu
  ·subst e; exact⟨_,mem_cons_self,r⟩
  ·obtain⟨x,hx,rx⟩:=ih u hu
   exact⟨x,mem_cons_of_mem _ hx,rx⟩
def AlM (K:Frag) (neg:Bool):R2:=fun x y H Q=>∃ p xs e,y = .ref p/\SqL K H p xs/\(∀ x ∈ xs,∃ r,x = V.ref r)/\(∀ r,V.ref r ∈ xs->EqD K H 40 (.ref r) x (e r))/\Q (.bl (if neg then !(xs.any (Aal e)) else xs.any (Aal e))) H
theorem Xj {X:Cx} (hu:X.A.units + 64 < cLine):OpR X (compareOp .NotIn) (AlM X.K true):=by
 intro pins s σ H x y v u Q I rx ry h
 obtain⟨p,xs,e,rfl,hq,fr,he,q⟩:=h
 cases ry
 obtain⟨its,r,pl,hz⟩:=I.list hq
 refine SeqAt.notIn_listAt (AbP e) pl.isList (fun w hw=>?_) ⟨.bl _,H,I,rfl,?_⟩
 ·obtain⟨z,hz,rz⟩:=AfW r w (by simpa using hw)
  obtain⟨a,rfl⟩:=fr z hz
  have:=(he a hz).at I (A:=X.A.in1) (by rw[Jw]; omega) rz rx
  cases rz
  exact this
 ·rw[show its.toArray.any (AbP e) = its.any (AbP e) by simp,AaG r fr]
  exact q
end L2
namespace L2
open PySem PySem.Spec PyProof.Rows
section
variable {X:Cx}
end
section
variable {X:Cx}
end
end L2
namespace L2
open PySem PySem.Spec PyProof.Rows
section
variable {M:Model} {A:Around} {E:Value->Shared->Prop} {s:Shared} {base:Heap} {env:Env} {outer:List Env} {L e:Addr} {Q:Unit->Shared->Prop}
end
section
variable {P:Program} {w:World} {H:Hp} {h h':Heap} {a:Addr} {o:HO}
end
section
variable {P:Program} {w:World} {K:Frag} {mg:Str->Option Value} {base:Heap} {N:List Str} {qual:Str} {scope:Scope} {f:Addr} {cd:Value} {A:Around} {outer:List Env} {s0:Shared} {H0:Hp} {E:XK}
end
section
variable {P:Program} {w:World} {K:Frag} {mg:Str->Option Value} {base:Heap} {N:List Str} {qual:Str} {scope:Scope} {f:Addr} {cd:Value} {A:Around} {outer:List Env} {s0:Shared} {H0:Hp} {E:XK}
end
section
variable {X:Cx} {pins:List (Addr × Obj)} {σ:St} {H:Hp} {s:Shared}
end
def AnL (x C:Addr):Heap->Prop:=fun h=>∃ o vs,h.get? x = some o/\o.cls = .ref C/\o.dict = none/\o.data = .fields vs
section
variable {X:Cx} {pins:List (Addr × Obj)} {σ:St} {H:Hp} {s:Shared}
end
section
variable {X:Cx} {k:Nat} {f C:Addr} {fd:FuncData} {ps:List Str} {sp:Sp} {dvs:List V} {ds:List Value} {x m:Str} {p pos apos:Pos} {e o:Expr} {es:List Expr} {ta:TE} {t:TA}
end
section
variable {σ:St} {H:Hp} {Q:VK} {D:Ends} {Ex:Addr->Hp->Prop}
end
end L2
namespace L2
open PySem PySem.Spec PyProof.Rows
section
variable {X:Cx} {pos:Pos} {a b:Expr} {op op' op2:CmpOp} {ops:List CmpOp} {es:List Expr} {e2:Expr} {ta tb:TE} {r:R2} {u:V->TE}
end
end L2
namespace L2
open PySem PySem.Spec PyProof.Rows
section
variable {a:Array Keyed}
end
section
variable {prog:Program} {w:World} {A:Around} {E:Value->Shared->Prop} {s:Shared} {z:Array Keyed}
end
end L2
namespace L2
open PySem PySem.Spec PyProof.Rows
section
variable {X:Cx} {pins:List (Addr × Obj)} {σ:St} {H:Hp} {s:Shared}
end
section
variable {X:Cx} {CX:CXT} {pins:List (Addr × Obj)} {σ:St} {H:Hp} {s:Shared} {k:Nat} {f:Addr} {fd:FuncData} {ps:List Str} {sp:Sp}
end
end L2
namespace L2
open PySem PySem.Spec PyProof.Rows
section
variable {X:Cx} {CX:CXT} {pins:List (Addr × Obj)} {σ:St} {H:Hp} {s:Shared} {k:Nat} {f C a dx:Addr} {fd:FuncData} {ps:List Str} {sp:Sp} {fs:List (Str × V)} {m x:Str} {A:Around} {E:Value->Shared->Prop} {o e ke:Expr} {to te:TE} {t tk:TA} {pos p kpos:Pos}
end
end L2
namespace L2
open PySem PySem.Spec PyProof.Rows
end L2
namespace L2
open PySem PySem.Spec PyProof.Rows
def Itn (K:Frag) (a:Addr):It :=
 ⟨fun i H=>∃ xs x,SqL K H a xs/\xs[i]? = some x,fun i H x H'=>∃ t y,H t = none/\(∀ xs,SqL K H a xs->xs[i]? = some y)/\x = .ref t/\H' = upd H t (.tup [.int (i:Int),y]),fun i H=>∃ xs,SqL K H a xs/\xs.length <= i⟩
theorem Adm {P:Program} {w:World} {K:Frag} {elts:List Expr} {x1:Nat} {tp:Pos} (a e it:Addr) (hne:e ≠ it) :
  Tn P w K (.Tuple elts x1 tp) (Itn K a) [e,it] e (fun i h=>(∃ old,IsEnum h e it i old)/\h.IsListIter it a i) where
 mem:=by simp
 obj:=fun i h st b hb=>by
  obtain⟨⟨old,e1⟩,ob,e2,c2,d2⟩:=st
  rcases mem_cons.mp hb with z | z
  ·subst z; exact⟨_,e1,fun v z=>nomatch z⟩
  ·have z':=mem_singleton.mp z
   subst z'
   exact⟨ob,e2,fun v z=>by rw[d2] at z; cases z⟩
 keep:=fun i h h' st k=>by
  obtain⟨⟨old,e1⟩,li⟩:=st
  exact⟨⟨old,k e (by simp) _ e1⟩,li.at fun o q=>k it (by simp) o q⟩
 item:=by
  intro X hP hw hK hc i pins s σ H E I hf st hg
  subst hP hw hK
  obtain⟨xs,x,hq,hx⟩:=hg
  obtain⟨⟨old,he⟩,li⟩:=st
  obtain⟨its,rv,p,hz⟩:=I.list hq
  obtain⟨u,hu,ru⟩:=rv.get hx
  obtain⟨f0,f1,f2,f3,f4,f5⟩:=hf e (by simp)
  obtain⟨g0,g1,g2,g3,g4,g5⟩:=hf it (by simp)
  have hfr:H s.heap.objs.size = none:=I.hok.fresh (Nat.le_refl _)
  have hne1:s.heap.objs.size ≠ e:=Nat.ne_of_gt (lt_size he)
  have hne2:s.heap.objs.size ≠ it:=by obtain⟨_,q,_⟩:=li; exact Nat.ne_of_gt (lt_size q)
  refine wpAny_pyNext_enum_item he li p.isList (x:=u) (by simpa using hu) hne fun h' ho li' hT hsz hk=>⟨_,rfl,?_⟩
  refine wpAny_letOwnedTupleGo_enum (s:={ s with heap:=h',toks:=s.toks + 1 }) ho fun h2 he2 hs=>?_
  have kp:∀ b o,b ≠ e->b ≠ it->s.heap.get? b = some o->h2.get? b = some o:=fun b o n1 n2 q=>(hs.2 b n1).trans (hk b o n1 n2 q)
  have hT2:h2.get? s.heap.objs.size = some { cls:=.type "tuple",data:=.seq #[.int i s.toks,u] }:=(hs.2 _ hne1).trans hT
  have nt:∀ b v,H b = some v->b ≠ s.heap.objs.size:=fun b v q=>Bv q hfr
  have nc:∀ b,b ∉ [e,it]->b ≠ e/\b ≠ it:=fun b z=>⟨fun w=>z (by simp [w]),fun w=>z (by simp [w])⟩
  refine⟨.ref s.heap.objs.size,upd H s.heap.objs.size (.tup [.int (i:Int),x]),?_,rfl,⟨_,x,hfr,(fun ys hy=>by rw[I.list_inj hy hq]; exact hx),rfl,rfl⟩,⟨⟨u,by simpa using he2⟩,li'.at fun o q=>(hs.2 it hne.symm).trans q⟩,fun b hb=>?_⟩
  ·refine Inv.step (s:=s) (h':=h2) I (g':=s.gens) (d':=s.drawn) (t':=s.toks + 1) (ch:=[e,it]) (fun b hb=>?_) (fun b o _ _ hc q _=>kp b o (nc b hc).1 (nc b hc).2 q) (fun b o _ _ hc q _=>⟨o.slots,kp b o (nc b hc).1 (nc b hc).2 q⟩)
    (fun b o hc q n=>by rw[Bj (ne_of_lt (lt_size q))]; exact n) (fun b o hc q=>⟨o,kp b o (nc b hc).1 (nc b hc).2 q⟩) (fun b xs q=>by rw[Bj (nt b _ q)]; exact q) (fun b o v q=>by rw[Bj (nt b _ q)]; exact q)
    (fun b ps q=>⟨#[],by rw[Bj (nt b _ q),q]; simp⟩) (fun m hm=>?_) (fun b v q=>?_) I.bare
   ·rcases mem_cons.mp hb with z | z
    ·subst z; exact⟨f3,f1,f4,f5⟩
    ·have z':=mem_singleton.mp z
     subst z'; exact⟨g3,g1,g4,g5⟩
   ·obtain⟨o,es,ep,ho,r⟩:=hm
    exact⟨o,es,ep,kp _ o (Ne.symm f1) (Ne.symm g1) ho,r⟩
   ·by_cases hb:b = s.heap.objs.size
    ·subst hb
     rw[Bm] at q
     cases q
     exact⟨by show 2 <= sizeLine; decide,[.int i s.toks,u],.cons (show RelV (.int (i:Int)) (.int i s.toks) from ⟨_,rfl⟩) (.cons ru .nil),_,hT2,rfl,_,rfl⟩
    ·rw[Bj hb] at q
     have n1:∀ c w,H c = some w->c ≠ e:=fun c w q z=>by rw[z,f0] at q; cases q
     have n2:∀ c w,H c = some w->c ≠ it:=fun c w q z=>by rw[z,g0] at q; cases q
     refine (I.hok b v q).stay (fun c v' hc q'=>?_) (fun c q'=>by rw[Bj (nt c _ q')]; exact q') fun c xs q'=>by rw[Bj (nt c _ q')]; exact q'
     rcases hc with z | z
     ·rw[z] at q' ⊢; exact kp b v' (n1 b _ q) (n2 b _ q) q'
     ·exact kp c v' (n1 c _ z) (n2 c _ z) q'
  ·rcases mem_cons.mp hb with z | z
   ·rw[z,Bj (Ne.symm hne1)]; exact f0
   ·rw[mem_singleton.mp z,Bj (Ne.symm hne2)]; exact g0
 done:=by
  intro X hP hw hK hc i pins s σ H E I hf st hg
  subst hP hw hK
  obtain⟨xs,hq,hx⟩:=hg
  obtain⟨⟨old,he⟩,li⟩:=st
  obtain⟨its,rv,p,hz⟩:=I.list hq
  obtain⟨g0,g1,g2,g3,g4,g5⟩:=hf it (by simp)
  have hl:=rv.length
  exact wpAny_pyNext_enum_end (I.ok.hd hc) he li p.isList (by simp; omega) fun h' eb=>⟨rfl,I.turned (t':=s.toks) (fun b o hb q=>eb b o hb q) g0 g1 g3 g4 g5⟩
 self:=fun A i s Q E st h=>by
  obtain⟨⟨old,he⟩,_⟩:=st
  exact wpAny_pyIter_enum he h
section
variable {X:Cx} {elts:List Expr} {x1:Nat} {tp p pos:Pos}
def Yy (K:Frag) (tl:TE):TI:=fun σ H R=>tl σ H fun x H1=>∃ a,x = .ref a/\(∃ xs,SqL K H1 a xs)/\R (Itn K a) H1
theorem Qz {l:Expr} {tl:TE} (hl:PE X l tl) (hg:Gl X "enumerate") (hm:X.mg "enumerate" = none) (hs:starEach [l] X.env = [(false,eval l X.env)]:=by rfl):PI X (.Tuple elts x1 tp) (.Call (.Name "enumerate" p) [l] [] pos) (Yy X.K tl):=by
 intro pins s σ H R I h
 have pa:PA X [l] (Fs tl Na):=Ba hl Bd hs
 refine Call_ (Lj I hg hm PyProof.Rows.boot_enumerate (PyProof.Rows.callWith_type1 (thn (pa pos pins s σ H (fun vs H1=>match vs with
  | [x]=>∃ a,x = .ref a/\(∃ xs,SqL X.K H1 a xs)/\R (Itn X.K a) H1
  | _=>False) I h) fun us s1 ⟨vs,H1,I1,r1,q1⟩=>?_) hs rfl))
 match vs,q1 with
 | [x],⟨a,e,⟨xs,hq⟩,q⟩ =>
  subst e
  obtain⟨u,rfl,ru⟩:=Rx r1
  cases ru
  obtain⟨its,rv,pl,hz⟩:=I1.list hq
  refine call_enumerate_list pl.isList fun h' he li hsz hk=>?_
  have I2:Inv X pins σ H1 { s1 with heap:=h' }:=I1.kept (t':=s1.toks) hk
  refine wpAny_pyIter_enum (s:={ s1 with heap:=h' }) he ⟨s1.heap.objs.size + 1,[s1.heap.objs.size + 1,s1.heap.objs.size],_,_,H1,rfl,I2,Adm a _ _ (Nat.succ_ne_self _),⟨⟨_,he⟩,li⟩,fun b hb=>?_,q⟩
  have hge:s1.heap.objs.size <= b:=by
   rcases mem_cons.mp hb with z | z
   ·rw[z]; exact le_succ _
   ·rw[mem_singleton.mp z]; exact Nat.le_refl _
  exact I1.fpOk hge (I1.hok.fresh hge)
theorem Aaq {K:Frag} {a:Addr} {xs:List V} {g:TG} {tb:TS} {D:Ends} {σ:St} {H:Hp} (Pv:Nat->St->Hp->Prop) (h0:Pv 0 σ H) (hl:∀ i σ H,i <= xs.length->Pv i σ H->SqL K H a xs)
  (hs:∀ i x t σ H,xs[i]? = some x->H t = none->Pv i σ H->g (.ref t) σ (upd H t (.tup [.int (i:Int),x])) fun σ2 H2=>tb { D with nx:=Pv (i + 1),ct:=Pv (i + 1),bk:=D.nx } σ2 H2) (hd:∀ σ H,Pv xs.length σ H->D.nx σ H) :
  ∃ W:Nat->Nat->St->Hp->Prop,(∃ m,W 0 m σ H)/\∀ i m σ H,W i m σ H ->
   ((Itn K a).stop i H/\D.nx σ H)\/((Itn K a).go i H/\∃ N:St->Hp->Prop,(∀ σ' H',N σ' H'->∃ m',m' < m/\W (i + 1) m' σ' H')/\∀ x H',(Itn K a).yld i H x H'->g x σ H' fun σ2 H2=>tb { D with nx:=N,ct:=N,bk:=D.nx } σ2 H2):=by
 refine⟨fun i m σ H=>m = xs.length - i/\i <= xs.length/\Pv i σ H,⟨xs.length,by simp,zero_le _,h0⟩,?_⟩
 rintro i m σ H ⟨rfl,hi,p⟩
 have q:=hl i σ H hi p
 by_cases hlt:i < xs.length
 ·refine .inr ⟨⟨xs,xs[i],q,by simp [hlt]⟩,Pv (i + 1),fun σ' H' p'=>⟨xs.length - (i + 1),by omega,rfl,hlt,p'⟩,fun x H' y=>?_⟩
  obtain⟨t,y,ht,hy,rfl,rfl⟩:=y
  have e:=hy xs q
  exact hs i y t σ _ e ht p
 ·have e:i = xs.length:=by omega
  subst e
  exact .inl ⟨⟨xs,q,Nat.le_refl _⟩,hd σ H p⟩
theorem CP.enum {K:Frag} {σ:St} {H:Hp} {Q:VK} {D a:Addr} {g:TG} {tc:TT} {te:TE} {k:Nat} {fr:List Nat} (xs:List V) (Pv:Nat->Hp->Prop)
  (h0:Pv 0 H) (hl:∀ i H',i <= xs.length->Pv i H'->SqL K H' a xs)
  (hs:∀ i x t H' (N:Hp->Prop),xs[i]? = some x->H' t = none->Pv i H'->(∀ H'',Pv (i + 1) H''->N H'')->g (.ref t) (compσ k fr σ) (upd H' t (.tup [.int (i:Int),x])) fun σ2 H2=>σ2.drop k = (compσ k fr σ).drop k/\tc σ2 H2 fun b H3 =>
   if b = true then te σ2 H3 (fun y H4=>∃ ys,H4 D = some (.lst ys)/\ys.length < sizeLine/\N (upd H4 D (.lst (ys ++ [y])))) else N H3)
  (hd:∀ H',Pv xs.length H'->Q (.ref D) H'):CP (Itn K a) D g tc te k fr σ H Q:=by
 refine⟨fun i m H=>m = xs.length - i/\i <= xs.length/\Pv i H,⟨xs.length,by simp,zero_le _,h0⟩,?_⟩
 rintro i m H ⟨rfl,hi,p⟩
 have q:=hl i H hi p
 by_cases hlt:i < xs.length
 ·refine .inr ⟨⟨xs,xs[i],q,by simp [hlt]⟩,fun x H' y=>?_⟩
  obtain⟨t,y,ht,hy,rfl,rfl⟩:=y
  have e:=hy xs q
  exact hs i y t H (fun H''=>∃ m',m' < xs.length - i/\m' = xs.length - (i + 1)/\i + 1 <= xs.length/\Pv (i + 1) H'') e ht p fun H'' p''=>⟨xs.length - (i + 1),by omega,rfl,hlt,p''⟩
 ·have e:i = xs.length:=by omega
  subst e
  exact .inl ⟨⟨xs,q,Nat.le_refl _⟩,hd H p⟩
end
end L2
namespace L2
open PySem PySem.Spec PyProof.Rows
end L2
namespace L2
open PySem PySem.Spec PyProof.Rows
section
variable {X:Cx} {e de:Expr} {t tk:TA} {pos p kpos:Pos}
end
end L2
namespace L2
open PySem PySem.Spec PyProof.Rows
theorem AeH:typeLookup (.type "list_reverseiterator") "__len__" = pure none:=by rw[typeLookup_type,builtinLookup_eq_fast]; kernel_rfl
theorem AfB:typeLookup (.type "list_reverseiterator") "__length_hint__" = pure (some (.builtin "list_reverseiterator.__length_hint__")):=by rw[typeLookup_type,builtinLookup_eq_fast]; kernel_rfl
section
variable {prog:Program} {w:World} {A:Around} {E:Value->Shared->Prop} {s:Shared} {R:Result->Shared->Prop} {I:Addr} {fp wr:List Addr} {G:Array GenState->Array GenState->Prop} {n:Nat} {P:Nat->Value->Prop} {St:Nat->Shared->Prop}
theorem Act (W:WalksS prog w A.in1 I fp wr G n P St) (hT:∀ i s,St i s->s.TypeIs (.ref I) "list_reverseiterator") (S:Addr) (res:Value) (c₀:Nat) (hst:St 0 s) (hSf:S ∉ fp) (hI:I ∈ fp)
  (hS:s.heap.get? S = some { cls:=.type "list",data:=.seq #[] c₀ })
  (hR:∀ s' acc' c',Moved (S :: wr) G s s'->s'.heap.get? S = some { cls:=.type "list",dict:=none,data:=.seq acc' c',slots:=#[] }->ItemsOf P acc' n->R (.ok (.ret res)) s') (hn:n <= sizeLine) :
  wpAny (model prog w) A.in1 (Builtin.List.listExtendWith (.ref S) (.ref I) res)
   (fun fin s'=>match fin with | .done f=>R (.ok f) s' | .again c'=>c'.quiet = true/\codeAny (model prog w) A c' R s') (fun e s'=>R (.error e) s') s:=by
 have hSI:S ≠ I:=fun e=>hSf (e ▸ hI)
 unfold Builtin.List.listExtendWith
 refine wpAny_bind (wpAny_typeOf (hT 0 _ hst) ?_)
 have h1:Builtin.List.listSameRef (.ref S) (.ref I) = false:=by simp [Builtin.List.listSameRef,hSI]
 rw[if_neg (by rw[h1]; decide)]
 refine wpAny_bind (W.self 0 _ _ _ hst ?_)
 refine wpAny_bind (wpAny_holding ?_)
 unfold Builtin.List.listLengthHint
 refine wpAny_bind (wpAny_specialOf (hT 0 _ hst) AeH ?_)
 show wpAny _ A.in1 (specialOf (Value.ref I) (Str.ofString "__length_hint__") >>= _) _ _ _
 refine wpAny_bind (wpAny_specialOf (hT 0 _ hst) AfB ?_)
 (generalize hid:("list_reverseiterator.__length_hint__" : String) = id0; (fail_if_success (clear hid id0)); wp_delta; rw[show splitId id0 = some ("list_reverseiterator","__length_hint__") from by subst hid; decide +kernel]; subst hid)
 refine wpAny_bind (wpAny_isInstance (b:=true) (hT 0 _ hst) (by rw[isSubtype_type]; kernel_rfl) ?_)
 refine wpAny_pure ?_
 rw[if_neg (by decide)]
 exact wpAny_pure ⟨plainId_quiet F.plain_extend_loop _,codeAny_extend_loopS W hn _ hSf _ n 0 _ _ _ rfl (zero_le _) hst hS (ItemsOf.nil P) fun s' acc' c' hm hS' hacc=>hR s' acc' c' hm hS' hacc⟩
theorem Agd (W:WalksS prog w A.in1 I fp wr G n P St) (hT:∀ i s,St i s->s.TypeIs (.ref I) "list_reverseiterator") (S:Addr) (hst:St 0 s) (hSf:S ∉ fp) (hI:I ∈ fp)
  (hS:s.heap.get? S = some { cls:=.type "list",data:=.seq #[] })
  (hR:∀ s' acc' c',Moved (S :: wr) G s s'->s'.heap.get? S = some { cls:=.type "list",dict:=none,data:=.seq acc' c',slots:=#[] }->ItemsOf P acc' n->R (.ok (.ret .none)) s') (hn:n <= sizeLine) :
  wpAny (model prog w) A.in1 (Builtin.«list.__init__» ⟨[.ref S,.ref I],[]⟩)
   (fun fin s'=>match fin with | .done f=>R (.ok f) s' | .again c'=>c'.quiet = true/\codeAny (model prog w) A c' R s') (fun e s'=>R (.error e) s') s:=by
 show wpAny _ A.in1 (do let old <- Builtin.List.listItems (.ref S); Builtin.List.listUpdate (.ref S) (fun _=>#[]); letGo old.toList.reverse; Builtin.List.listExtendWith (.ref S) (.ref I) .none) _ _ s
 refine wpAny_bind ?_
 unfold Builtin.List.listItems
 refine wpAny_bind (wpAny_seqItems hS rfl (wpAny_pure ?_))
 show wpAny _ A.in1 (updateSeq S (fun _=>#[]) >>= fun _=>letGo (#[]:Array Value).toList.reverse >>= fun _=>Builtin.List.listExtendWith (.ref S) (.ref I) .none) _ _ s
 refine wpAny_bind (wpAny_updateSeq hS rfl ?_)
 have hS₂:=Heap.get?_update_self (Obj.mapSeq (fun _=>(#[]:Array Value))) hS rfl
 have oth:∀ b o,b ≠ S->s.heap.get? b = some o->(s.heap.update S (Obj.mapSeq (fun _=>(#[]:Array Value)))).get? b = some o :=
  fun b o hb e=>(Heap.get?_update_other _ _ (Ne.symm hb)).trans e
 refine wpAny_bind (wpAny_letGo ?_)
 refine Act W hT S .none _ (W.frame 0 s _ s.toks hst (Nat.le_refl _) fun b hb o e=>oth b o (fun h=>hSf (h ▸ hb)) e) hSf hI hS₂ (fun s' acc' c' hm hS' hacc=>?_) hn
 exact hR s' acc' c' (Moved.trans W.gtrans ((Moved.refl W.grefl).then_heap (Nat.le_refl _) fun b o hb e=>oth b o (fun h=>hb (h ▸ mem_cons_self)) e) hm) hS' hacc
theorem Xk {Q:Value->Shared->Prop} (W:WalksS prog w A.in1.in1 I fp wr G n P St) (hT:∀ i s,St i s->s.TypeIs (.ref I) "list_reverseiterator") (hst:St 0 s) (hfp:∀ b ∈ fp,b < s.heap.objs.size) (hI:I ∈ fp)
  (hQ:∀ s' acc' c',Moved (s.heap.objs.size :: wr) G { s with heap:=s.heap.push { cls:=.type "list",data:=.seq #[] } } s' ->
   s'.heap.get? s.heap.objs.size = some { cls:=.type "list",dict:=none,data:=.seq acc' c',slots:=#[] }->ItemsOf P acc' n->Q (.ref s.heap.objs.size) s') (hn:n <= sizeLine) :
  wpAny (model prog w) A (call (.type "list") [.ref I]) Q E s:=by
 have hSf:s.heap.objs.size ∉ fp:=fun hm=>Nat.lt_irrefl _ (hfp _ hm)
 refine callType_codes (Q₁:=fun obj s₁=>obj = .ref s.heap.objs.size/\s₁ = { s with heap:=s.heap.push { cls:=.type "list",data:=.seq #[] } }) F.called_list (F.typeCall_list_1 _) F.entry_list_init
  (code_list_new _ ⟨rfl,rfl⟩) fun obj s₁ h₁=>?_
 obtain⟨rfl,rfl⟩:=h₁
 have hS:(s.heap.push { cls:=.type "list",data:=.seq #[] }).get? s.heap.objs.size = some { cls:=.type "list",data:=.seq #[] }:=get?_push_size _ rfl
 refine⟨⟨_,hS,rfl⟩,F.args_list_init_2 _ _,Agd W hT _ (W.frame 0 s _ s.toks hst (Nat.le_refl _) fun b _ o e=>get?_push_of_some _ e) hSf hI hS (fun s' acc' c' hm hS' hacc=>?_) hn⟩
 exact⟨rfl,hQ s' acc' c' hm hS' hacc⟩
end
theorem Xm:bootBuiltins "reversed" = some (.type "reversed"):=by kernel_rfl
def Akq (K:Frag) (tl:TE):TE:=fun σ H Q=>tl σ H fun x H1=>∃ a xs,x = .ref a/\SqL K H1 a xs/\∀ l H',H1 l = none->Same H1 H'->H' l = some (.lst xs.reverse)->Q (.ref l) H'
def on1 (R:V->Hp->Prop):List V->Hp->Prop
 | [x],H=>R x H
 | _,_=>False
section
variable {X:Cx} {p p2 pos pos2:Pos} {tg:Expr}
theorem Aft {xs:List V} {its:List Value} (h:Vals xs its):Vals xs.reverse its.reverse:=by
 induction h with
 | nil=>exact .nil
 | cons r t ih =>
  rw[List.reverse_cons,List.reverse_cons]
  exact ih.append (.cons r .nil)
theorem AdE {l:Expr} {tl:TE} (hl:PE X l tl) (hc:X.calm = true) (hgl:Gl X "list") (hml:X.mg "list" = none) (hg:Gl X "reversed") (hm:X.mg "reversed" = none) (hs:starEach [l] X.env = [(false,eval l X.env)]:=by rfl)
  (hs2:starEach [.Call (.Name "reversed" p) [l] [] pos] X.env = [(false,eval (.Call (.Name "reversed" p) [l] [] pos) X.env)]:=by rfl) :
  PE X (.Call (.Name "list" p2) [.Call (.Name "reversed" p) [l] [] pos] [] pos2) (Akq X.K tl):=by
 intro pins s σ H Q I h
 refine wpAny_Call_Name_kw (Lj I hgl hml boot_list ?_)
 refine callWith_type1 ?_ hs2 rfl
 rw[hs2]
 refine Calls.spliced_cons ?_
 refine wpAny_Call_Name_kw (Lj I hg hm Xm (callWith_type1 (thn ((Ba hl Bd hs) pos pins s σ H (on1 fun x H1=>∃ a xs,x = .ref a/\SqL X.K H1 a xs/\∀ l H',H1 l = none->Same H1 H'->H' l = some (.lst xs.reverse)->Q (.ref l) H') I h) fun us s1 ⟨vs,H1,I1,r1,q1⟩=>?_) hs rfl))
 cases vs with
 | nil=>exact False.elim q1
 | cons x vs =>
  cases vs with
  | cons y vs=>exact False.elim q1
  | nil =>
    obtain⟨a,xs,e0,hq,q⟩:=q1
    subst e0
    obtain⟨u,rfl,ru⟩:=Rx r1
    cases ru
    obtain⟨its,rv,pl,hz⟩:=I1.list hq
    have hlen:=rv.length
    have psz:∀ (h:Heap) (o:Obj),(h.push o).objs.size = h.objs.size + 1:=fun h o=>by simp [Heap.push]
    refine call_reversed_list pl.isList ?_
    refine Calls.spliced_nil ?_
    have hlt:a < s1.heap.objs.size:=by obtain⟨_,e,_⟩:=pl.isList; exact lt_size e
    have W:=(Walks.listRev (prog:=X.prog) (w:=X.w) (A:=X.A.in1.in1) (I.ok.hd hc) s1.heap.objs.size a (ne_of_lt hlt) its.toArray).toS
    refine Xk W (fun i s st=>st.2.1.typeIs) ⟨zero_le _,?_,pl.isList.push _⟩ (fun b hb=>?_) (by simp) (fun s' acc' c' hm hS hacc=>?_) (by simpa [<- hlen] using hz)
    ·exact⟨_,get?_push_size _ rfl,rfl,by simp [revObj]⟩
    ·have hb':b = s1.heap.objs.size\/b = a:=by simpa using hb
     rcases hb' with e | e
     ·rw[e]; show _ < (s1.heap.push _).objs.size; rw[psz]; exact lt_succ_self _
     ·rw[e]; show _ < (s1.heap.push _).objs.size; rw[psz]; exact lt_succ_of_lt hlt
    ·rw[Moved.eq_with hm]
     have es:acc' = its.reverse.toArray:=by
      apply Array.ext_getElem?
      intro i
      obtain⟨h1,h2⟩:=hacc
      by_cases hi:i < acc'.size
      ·have e1:acc'[i]? = some acc'[i]:=Array.getElem?_eq_getElem hi
       have e2:=h2 i _ e1
       rw[e1,<- e2]
       simp only [size_toArray] at h1 ⊢
       rw[List.getElem?_toArray,List.getElem?_toArray,List.getElem?_reverse (by omega)]
      ·rw[Array.getElem?_eq_none (by omega),Array.getElem?_eq_none (by simp only [size_toArray] at h1; simp; omega)]
     subst es
     refine⟨.ref _,upd H1 _ (.lst xs.reverse),I1.laid (s:=s1) (h':=s'.heap) (fun b o e=>?_) ?_ ?_,rfl,q _ _ (I1.hok.fresh ?_) (Same.laid (I1.hok.fresh ?_)) Bm⟩
     ·have hb:b < s1.heap.objs.size:=lt_size e
      refine hm.heap b o (fun z=>?_) (get?_push_of_some _ (get?_push_of_some _ e))
      have z':b = (s1.heap.push (revObj a ((its.toArray.size:Int) - 1))).objs.size\/b = s1.heap.objs.size:=by simpa using z
      rw[psz] at z'
      rcases z' with z' | z'
      ·rw[z'] at hb; exact absurd hb (Nat.not_lt.mpr (le_succ _))
      ·rw[z'] at hb; exact Nat.lt_irrefl _ hb
     ·show _ <= (s1.heap.push _).objs.size; rw[psz]; exact le_succ _
     ·exact⟨by simpa using hz,its.reverse,c',Aft rv,hS⟩
     ·show _ <= (s1.heap.push _).objs.size; rw[psz]; exact le_succ _
     ·show _ <= (s1.heap.push _).objs.size; rw[psz]; exact le_succ _
theorem AfJ (hh:X.A.handled = none) (K':Frag) (h:X.K = K':=by rfl):Jp X (.builtin "all") (fun xs H Q=>∃ (p:Addr) (bs:List Bool),xs = [.ref p]/\SqL K' H p (bs.map V.bl)/\Q (.bl (bs.all id)) H):=by
 subst h
 intro pins s σ H xs us Q I r h
 obtain⟨p,bs,rfl,hq,q⟩:=h
 obtain⟨u,rfl,rx⟩:=Rx r
 cases rx
 obtain⟨its,r',pl,hz⟩:=I.list hq
 have hlen:=r'.length
 rw[length_map] at hlen
 have hlt:p < s.heap.objs.size:=by obtain⟨_,e,_⟩:=pl.isList; exact lt_size e
 refine call_all_walk (wpAny_pyIter_list pl.isList ?_)
 refine⟨s.heap.objs.size,[s.heap.objs.size,p],[s.heap.objs.size],its.toArray.size,_,_,fun i=>(bs[i]?).getD true,rfl,Walks.list (A:=X.A.in1) hh _ p (ne_of_lt hlt) its.toArray,
  ⟨⟨_,get?_push_size _ rfl,rfl,rfl⟩,pl.isList.push _⟩,fun i v s' Q' E' hP hQ=>?_,fun h' tk hk=>?_⟩
 ·have hi:i < bs.length:=by
   have:i < its.length:=by
    have hP':its[i]? = some v:=by simpa using hP
    exact (List.getElem?_eq_some_iff.mp hP').1
   omega
  obtain⟨u,hu,ru⟩:=r'.get (show (bs.map V.bl)[i]? = some (.bl bs[i]) by rw[getElem?_map,getElem?_eq_getElem hi]; rfl)
  have eu:u = v:=by
   have hP':its[i]? = some v:=by simpa using hP
   rw[hP'] at hu; exact (Option.some.inj hu).symm
  subst eu
  cases ru
  simp only [getElem?_eq_getElem hi,getD_some] at hQ
  exact wpAny_truthy_bool hQ
 ·have e:((range its.toArray.size).all fun i=>(bs[i]?).getD true) = bs.all id:=by
   rw[Bool.eq_iff_iff,all_eq_true,all_eq_true]
   constructor
   ·intro h b hb
    obtain⟨i,hi,rfl⟩:=List.getElem_of_mem hb
    have:=h i (by simp; omega)
    rw[getElem?_eq_getElem hi] at this
    exact this
   ·intro h i hi
    have hi':i < bs.length:=by simp at hi; omega
    rw[getElem?_eq_getElem hi']
    exact h _ (getElem_mem hi')
  rw[e]
  exact⟨.bl (bs.all id),H,I.kept (t':=tk) (fun b o e=>hk b o (fun hm=>by rw[mem_singleton.mp hm] at e; exact Nat.lt_irrefl _ (lt_size e)) (get?_push_of_some _ e)),rfl,q⟩
def AdG:V->V->V->Hp->(Hp->Prop)->Prop:=fun o i v H Q=>∃ p xs k j,o = .ref p/\i = .int k/\H p = some (.lst xs)/\ixN xs.length k = some j/\∀ H',Chg p H H'->H' p = some (.lst (xs.set j v))->Q H'
theorem Jx:AfN X AdG:=fun pins s σ H o i v ov iv u Q I ro ri rv ⟨p,xs,k,j,e1,e2,h1,h2,q⟩=>AfZ pins s σ H o i v ov iv u Q I ro ri rv ⟨p,xs,k,j,e1,e2,h1,h2,q _ Chg.put Bm⟩
def Agu:R2:=fun x y H Q=>∃ l k xs,x = .ref l/\y = .int k/\H l = some (.lst xs)/\-(2 ^ 63) <= k/\k < 2 ^ 63/\xs.length * k.toNat <= sizeLine /\
 ∀ p H',H p = none->Same H H'->H' p = some (.lst (replicate k.toNat xs).flatten)->Q (.ref p) H'
theorem We:OpR X (binaryOp .Mult) Agu:=fun pins s σ H x y v u Q I r1 r2 ⟨l,k,xs,e1,e2,h1,h2,h3,hz,q⟩=>Ala pins s σ H x y v u Q I r1 r2 ⟨l,k,xs,e1,e2,h1,h2,h3,hz,fun p hp=>q p _ hp (Same.laid hp) Bm⟩
def AlL (K:Frag) (neg:Bool):R2:=fun x y H Q=>Afn K neg x y H Q\/(AfH x y = true/\Q (.bl (if neg then !decide (x = y) else decide (x = y))) H)\/∃ a xs,SqT K H a xs/\((x = .ref a/\(y = .non\/∃ z,y = .str z))\/(x = .non/\y = .ref a))/\Q (.bl neg) H
theorem Alb (K':Frag) (hu:X.A.units + 64 < cLine) (hK:X.K = K':=by rfl):OpR X (compareOp .Eq) (AlL K' false):=by
 subst hK
 intro pins s σ H x y v u Q I rx ry h
 rcases h with h | h | ⟨a,xs,hq,h,q⟩
 ·exact AlE hu pins s σ H x y v u Q I rx ry h
 ·exact Dj pins s σ H x y v u Q I rx ry h
 ·obtain⟨us,r1,p1,_⟩:=I.tuple hq
  have fin:EP X pins σ Q (.bool false) s:=⟨.bl _,H,I,rfl,q⟩
  rcases h with ⟨rfl,rfl | ⟨z,rfl⟩⟩ | ⟨rfl,rfl⟩
  ·cases rx; cases ry
   exact SeqAt.RcAt.tuple_none p1 (by omega) _ _ _ _ fin
  ·cases rx
   obtain⟨t,rfl⟩:=ry
   exact SeqAt.RcAt.tuple_str z t p1 (by omega) _ _ _ _ fin
  ·cases rx; cases ry
   exact SeqAt.RcAt.none_tuple p1 (by omega) _ _ _ _ fin
end
end L2
namespace L2
open PySem PySem.Spec PyProof.Rows
theorem Ad0:bootBuiltins "zip" = some (.type "zip"):=by kernel_rfl
theorem Inv.turnedL {X:Cx} {pins:List (Addr × Obj)} {σ:St} {H:Hp} {s:Shared} {h':Heap} {t':Nat} {ch:List Addr} (I:Inv X pins σ H s) (k:∀ b o,b ∉ ch->s.heap.get? b = some o->h'.get? b = some o) (hf:∀ b ∈ ch,So X pins H b):Inv X pins σ H { s with heap:=h',toks:=t' }:=by
 have nit:∀ b u,H b = some u->b ∉ ch:=fun b u e z=>by rw[(hf b z).1] at e; cases e
 refine I.step (g':=s.gens) (d':=s.drawn) (ch:=ch) (fun b hb=>?_) (fun b o _ _ hc e _=>k b o hc e) (fun b o _ _ hc e _=>⟨o.slots,k b o hc e⟩) (fun _ _ _ _ n=>n)
  (fun b o hc e=>⟨o,k b o hc e⟩) (fun _ _ e=>e) (fun _ _ _ e=>e) (fun b ps e=>⟨#[],by rw[e]; simp⟩) (fun m hm=>?_) (fun b u e=>?_) I.bare
 ·obtain⟨f0,f1,f2,f3,f4,f5⟩:=hf b hb
  exact⟨f3,f1,f4,f5⟩
 ·obtain⟨o,es,ep,ho,r⟩:=hm
  exact⟨o,es,ep,k _ o (fun z=>(hf _ z).2.1 rfl) ho,r⟩
 ·refine (I.hok b u e).stay (fun c v hc q=>k c v ?_ q) (fun _ q=>q) fun _ _ q=>q
  rcases hc with z | z
  ·rw[z]; exact nit b u e
  ·exact nit c _ z
def Itz (K:Frag) (a b:Addr):It :=
 ⟨fun i H=>∃ xs x ys y,SqL K H a xs/\xs[i]? = some x/\SqL K H b ys/\ys[i]? = some y,
  fun i H v H'=>∃ t x y,H t = none/\(∀ xs,SqL K H a xs->xs[i]? = some x)/\(∀ ys,SqL K H b ys->ys[i]? = some y)/\v = .ref t/\H' = upd H t (.tup [x,y]),
  fun i H=>∃ xs ys,SqL K H a xs/\SqL K H b ys/\(xs.length <= i\/ys.length <= i)⟩
theorem Afh {P:Program} {w:World} {K:Frag} {elts:List Expr} {x1:Nat} {tp:Pos} (a b z TI TO i1 i2:Addr) (D:ZipApart z TI TO i1 i2 a b) :
  Tn P w K (.Tuple elts x1 tp) (Itz K a b) [z,TI,TO,i1,i2] z (fun i h=>IsZip h z TI TO .none/\IsPair h TI (.ref i1) (.ref i2)/\(∃ x y,IsPair h TO x y)/\h.IsListIter i1 a i/\h.IsListIter i2 b i) where
 mem:=by simp
 obj:=fun i h st c hc=>by
  obtain⟨hz,hTI,⟨x,y,hTO⟩,⟨o1,e1,c1,d1⟩,⟨o2,e2,c2,d2⟩⟩:=st
  simp only [mem_cons,not_mem_nil,or_false] at hc
  rcases hc with rfl | rfl | rfl | rfl | rfl
  ·exact⟨_,hz,fun v z=>nomatch z⟩
  ·exact⟨_,hTI,fun v z=>nomatch z⟩
  ·exact⟨_,hTO,fun v z=>nomatch z⟩
  ·exact⟨o1,e1,fun v z=>by rw[d1] at z; cases z⟩
  ·exact⟨o2,e2,fun v z=>by rw[d2] at z; cases z⟩
 keep:=fun i h h' st k=>by
  obtain⟨hz,hTI,⟨x,y,hTO⟩,h1,h2⟩:=st
  exact⟨k z (by simp) _ hz,k TI (by simp) _ hTI,⟨x,y,k TO (by simp) _ hTO⟩,h1.at fun o e=>k i1 (by simp) o e,h2.at fun o e=>k i2 (by simp) o e⟩
 item:=by
  intro X hP hw hK hc i pins s σ H E I hf st hg
  subst hP hw hK
  obtain⟨xs,x,ys,y,hq,hx,hq2,hy⟩:=hg
  obtain⟨hz,hTI,⟨oa,ob,hTO⟩,h1,h2⟩:=st
  obtain⟨its,rv,p,hzz⟩:=I.list hq
  obtain⟨its2,rv2,p2,hzz2⟩:=I.list hq2
  obtain⟨u,hu,ru⟩:=rv.get hx
  obtain⟨u2,hu2,ru2⟩:=rv2.get hy
  have hfr:H s.heap.objs.size = none:=I.hok.fresh (Nat.le_refl _)
  have lt:∀ c ∈ [z,TI,TO,i1,i2],s.heap.objs.size ≠ c:=fun c hc=>by
   simp only [mem_cons,not_mem_nil,or_false] at hc
   rcases hc with rfl | rfl | rfl | rfl | rfl
   ·exact Nat.ne_of_gt (lt_size hz)
   ·exact Nat.ne_of_gt (lt_size hTI)
   ·exact Nat.ne_of_gt (lt_size hTO)
   ·obtain⟨_,e,_⟩:=h1; exact Nat.ne_of_gt (lt_size e)
   ·obtain⟨_,e,_⟩:=h2; exact Nat.ne_of_gt (lt_size e)
  refine wpAny_pyNext_zip_item D hz hTI hTO h1 h2 p.isList p2.isList (x:=u) (y:=u2) (by simpa using hu) (by simpa using hu2) fun h' a1 a2 a3 a4 a5 a6 hk=>⟨_,rfl,?_⟩
  refine wpAny_letOwnedTupleGo_zip (s:={ s with heap:=h' }) a1 fun h2' hz2 hs=>?_
  have kp:∀ c o,c ∉ [z,TI,TO,i1,i2]->s.heap.get? c = some o->h2'.get? c = some o:=fun c o hc q=>by
   simp only [mem_cons,not_mem_nil,or_false,not_or] at hc
   exact (hs.2 c hc.1).trans (hk c o hc.1 hc.2.2.1 hc.2.2.2.1 hc.2.2.2.2 q)
  have hT2:h2'.get? s.heap.objs.size = some { cls:=.type "tuple",data:=.seq #[u,u2] }:=(hs.2 _ (lt z (by simp))).trans a5
  have nt:∀ b v,H b = some v->b ≠ s.heap.objs.size:=fun b v q=>Bv q hfr
  have nit:∀ b v,H b = some v->b ∉ [z,TI,TO,i1,i2]:=fun b v q hb=>by rw[(hf b hb).1] at q; cases q
  refine⟨.ref s.heap.objs.size,upd H s.heap.objs.size (.tup [x,y]),?_,rfl,⟨_,x,y,hfr,(fun zs hy=>by rw[I.list_inj hy hq]; exact hx),(fun zs hz=>by rw[I.list_inj hz hq2]; exact hy),rfl,rfl⟩,
   ⟨hz2,(hs.2 TI D.TIz).trans (hk TI _ D.TIz D.TITO D.TIi1 D.TIi2 hTI),⟨_,_,(hs.2 TO D.TOz).trans a2⟩,a3.at fun o q=>(hs.2 i1 D.i1z).trans q,a4.at fun o q=>(hs.2 i2 D.i2z).trans q⟩,fun c hc=>?_⟩
  ·refine Inv.step (s:=s) (h':=h2') I (g':=s.gens) (d':=s.drawn) (t':=s.toks) (ch:=[z,TI,TO,i1,i2]) (fun b hb=>?_) (fun b o _ _ hc q _=>kp b o hc q) (fun b o _ _ hc q _=>⟨o.slots,kp b o hc q⟩)
    (fun b o hc q n=>by rw[Bj (ne_of_lt (lt_size q))]; exact n) (fun b o hc q=>⟨o,kp b o hc q⟩) (fun b xs q=>by rw[Bj (nt b _ q)]; exact q) (fun b o v q=>by rw[Bj (nt b _ q)]; exact q)
    (fun b ps q=>⟨#[],by rw[Bj (nt b _ q),q]; simp⟩) (fun m hm=>?_) (fun b v q=>?_) I.bare
   ·obtain⟨f0,f1,f2,f3,f4,f5⟩:=hf b hb
    exact⟨f3,f1,f4,f5⟩
   ·obtain⟨o,es,ep,ho,r⟩:=hm
    exact⟨o,es,ep,kp _ o (fun z=>(hf _ z).2.1 rfl) ho,r⟩
   ·by_cases hb:b = s.heap.objs.size
    ·subst hb
     rw[Bm] at q
     cases q
     exact⟨by show 2 <= sizeLine; decide,[u,u2],.cons ru (.cons ru2 .nil),_,hT2,rfl,_,rfl⟩
    ·rw[Bj hb] at q
     refine (I.hok b v q).stay (fun c v' hc q'=>?_) (fun c q'=>by rw[Bj (nt c _ q')]; exact q') fun c xs q'=>by rw[Bj (nt c _ q')]; exact q'
     rcases hc with z | z
     ·rw[z] at q' ⊢; exact kp b v' (nit b _ q) q'
     ·exact kp c v' (nit c _ z) q'
  ·rw[Bj (Ne.symm (lt c hc))]; exact (hf c hc).1
 done:=by
  intro X hP hw hK hc i pins s σ H E I hf st hg
  subst hP hw hK
  obtain⟨xs,ys,hq,hq2,he⟩:=hg
  obtain⟨hz,hTI,⟨oa,ob,hTO⟩,h1,h2⟩:=st
  obtain⟨its,rv,p,hzz⟩:=I.list hq
  obtain⟨its2,rv2,p2,hzz2⟩:=I.list hq2
  have hl:=rv.length
  have hl2:=rv2.length
  refine wpAny_pyNext_zip_end (I.ok.hd hc) D hz hTI hTO h1 h2 p.isList p2.isList (he.imp (fun h=>by simp; omega) (fun h=>by simp; omega)) fun h' hk=>⟨rfl,I.turnedL (t':=s.toks) (ch:=[z,TI,TO,i1,i2]) (fun c o hc q=>?_) hf⟩
  simp only [mem_cons,not_mem_nil,or_false,not_or] at hc
  exact hk c o hc.1 hc.2.2.1 hc.2.2.2.1 hc.2.2.2.2 q
 self:=fun A i s Q E st h=>wpAny_pyIter_zip st.1 h
theorem AaS {n a b:Nat} (la:a < n) (lb:b < n):ZipApart (n + 4) (n + 2) (n + 3) n (n + 1) a b:=by
 constructor <;> (intro h; have h':@Eq Nat _ _:=h; omega)
section
variable {X:Cx} {elts:List Expr} {x1:Nat} {tp p pos:Pos}
def AbW (K:Frag) (ta tb:TE):TI:=fun σ H R=>ta σ H fun x H1=>tb σ H1 fun y H2=>∃ a b,x = .ref a/\y = .ref b/\(∃ xs,SqL K H2 a xs)/\(∃ ys,SqL K H2 b ys)/\R (Itz K a b) H2
theorem Akf {l m:Expr} {tl tm:TE} (hl:PE X l tl) (hm':PE X m tm) (hg:Gl X "zip") (hm:X.mg "zip" = none) (hs:starEach [l,m] X.env = [(false,eval l X.env),(false,eval m X.env)]:=by rfl) (hs2:starEach [m] X.env = [(false,eval m X.env)]:=by rfl):PI X (.Tuple elts x1 tp) (.Call (.Name "zip" p) [l,m] [] pos) (AbW X.K tl tm):=by
 intro pins s σ H R I h
 have pa:PA X [l,m] (Fs tl (Fs tm Na)):=Ba hl (Ba hm' Bd hs2) (by rw[hs,hs2])
 refine Call_ (Lj I hg hm Ad0 (PyProof.Rows.callWith_type1 (thn (pa pos pins s σ H (fun vs H1=>match vs with
  | [x,y]=>∃ a b,x = .ref a/\y = .ref b/\(∃ xs,SqL X.K H1 a xs)/\(∃ ys,SqL X.K H1 b ys)/\R (Itz X.K a b) H1
  | _=>False) I h) fun us s1 ⟨vs,H1,I1,r1,q1⟩=>?_) (by rw[hs,hs2]) (by rw[hs2]; rfl)))
 match vs,q1 with
 | [x,y],⟨a,b,e1,e2,⟨xs,hq⟩,⟨ys,hq2⟩,q⟩ =>
  subst e1 e2
  cases r1 with
  | cons r rr =>
   cases rr with
   | cons r' rr =>
    cases rr
    cases r
    cases r'
    obtain⟨its,rv,pl,hz⟩:=I1.list hq
    obtain⟨its2,rv2,pl2,hz2⟩:=I1.list hq2
    have la:a < s1.heap.objs.size:=by obtain⟨o,e,_⟩:=pl.isList; exact lt_size e
    have lb:b < s1.heap.objs.size:=by obtain⟨o,e,_⟩:=pl2.isList; exact lt_size e
    have D:=AaS la lb
    refine call_zip_2 pl.isList pl2.isList fun h' z1 z2 z3 z4 z5 z6 hk=>?_
    have I2:Inv X pins σ H1 { s1 with heap:=h' }:=I1.kept (t':=s1.toks) hk
    refine wpAny_pyIter_zip (s:={ s1 with heap:=h' }) z1 ⟨_,[s1.heap.objs.size + 4,s1.heap.objs.size + 2,s1.heap.objs.size + 3,s1.heap.objs.size,s1.heap.objs.size + 1],_,_,H1,rfl,I2,Afh a b _ _ _ _ _ D,⟨z1,z2,⟨_,_,z3⟩,z4,z5⟩,fun c hc=>?_,q⟩
    have hge:s1.heap.objs.size <= c:=by
     simp only [mem_cons,not_mem_nil,or_false] at hc
     rcases hc with rfl | rfl | rfl | rfl | rfl
     ·exact le_add_right _ _
     ·exact le_add_right _ _
     ·exact le_add_right _ _
     ·exact Nat.le_refl _
     ·exact le_add_right _ _
    exact I1.fpOk hge (I1.hok.fresh hge)
theorem Wb (K':Frag) {l m:Expr} {tl tm:TE} (hl:PE X l tl) (hm':PE X m tm) (hg:Gl X "zip") (hm:X.mg "zip" = none) (hK:X.K = K':=by rfl) (hs:starEach [l,m] X.env = [(false,eval l X.env),(false,eval m X.env)]:=by rfl) (hs2:starEach [m] X.env = [(false,eval m X.env)]:=by rfl):PI X (.Tuple elts x1 tp) (.Call (.Name "zip" p) [l,m] [] pos) (AbW K' tl tm):=by
 subst hK
 exact Akf hl hm' hg hm hs hs2
theorem Aip {K:Frag} {a b:Addr} {xs ys:List V} {g:TG} {tb:TS} {D:Ends} {σ:St} {H:Hp} (Pv:Nat->St->Hp->Prop) (h0:Pv 0 σ H) (hl:∀ i σ H,Pv i σ H->SqL K H a xs/\SqL K H b ys)
  (hs:∀ i x y t σ H,xs[i]? = some x->ys[i]? = some y->H t = none->Pv i σ H->g (.ref t) σ (upd H t (.tup [x,y])) fun σ2 H2=>tb { D with nx:=Pv (i + 1),ct:=Pv (i + 1),bk:=D.nx } σ2 H2) (hd:∀ σ H,Pv (min xs.length ys.length) σ H->D.nx σ H) :
  ∃ W:Nat->Nat->St->Hp->Prop,(∃ m,W 0 m σ H)/\∀ i m σ H,W i m σ H ->
   ((Itz K a b).stop i H/\D.nx σ H)\/((Itz K a b).go i H/\∃ N:St->Hp->Prop,(∀ σ' H',N σ' H'->∃ m',m' < m/\W (i + 1) m' σ' H')/\∀ x H',(Itz K a b).yld i H x H'->g x σ H' fun σ2 H2=>tb { D with nx:=N,ct:=N,bk:=D.nx } σ2 H2):=by
 refine⟨fun i m σ H=>m = min xs.length ys.length - i/\i <= min xs.length ys.length/\Pv i σ H,⟨min xs.length ys.length,by simp,zero_le _,h0⟩,?_⟩
 rintro i m σ H ⟨rfl,hi,p⟩
 obtain⟨q,q2⟩:=hl i σ H p
 by_cases hlt:i < min xs.length ys.length
 ·have h1:i < xs.length:=by omega
  have h2:i < ys.length:=by omega
  refine .inr ⟨⟨xs,xs[i],ys,ys[i],q,by simp [h1],q2,by simp [h2]⟩,Pv (i + 1),fun σ' H' p'=>⟨min xs.length ys.length - (i + 1),by omega,rfl,hlt,p'⟩,fun x H' y=>?_⟩
  obtain⟨t,y,z,ht,hy,hz,rfl,rfl⟩:=y
  exact hs i y z t σ _ (hy xs q) (hz ys q2) ht p
 ·have e:i = min xs.length ys.length:=by omega
  subst e
  exact .inl ⟨⟨xs,ys,q,q2,by omega⟩,hd σ H p⟩
theorem CP.zip {K:Frag} {σ:St} {H:Hp} {Q:VK} {D a b:Addr} {g:TG} {tc:TT} {te:TE} {k:Nat} {fr:List Nat} (xs ys:List V) (Pv:Nat->Hp->Prop)
  (h0:Pv 0 H) (hl:∀ i H',Pv i H'->SqL K H' a xs/\SqL K H' b ys)
  (hs:∀ i x y t H' (N:Hp->Prop),xs[i]? = some x->ys[i]? = some y->H' t = none->Pv i H'->(∀ H'',Pv (i + 1) H''->N H'')->g (.ref t) (compσ k fr σ) (upd H' t (.tup [x,y])) fun σ2 H2=>σ2.drop k = (compσ k fr σ).drop k/\tc σ2 H2 fun b H3 =>
   if b = true then te σ2 H3 (fun y H4=>∃ ys,H4 D = some (.lst ys)/\ys.length < sizeLine/\N (upd H4 D (.lst (ys ++ [y])))) else N H3)
  (hd:∀ H',Pv (min xs.length ys.length) H'->Q (.ref D) H'):CP (Itz K a b) D g tc te k fr σ H Q:=by
 refine⟨fun i m H=>m = min xs.length ys.length - i/\i <= min xs.length ys.length/\Pv i H,⟨min xs.length ys.length,by simp,zero_le _,h0⟩,?_⟩
 rintro i m H ⟨rfl,hi,p⟩
 obtain⟨q,q2⟩:=hl i H p
 by_cases hlt:i < min xs.length ys.length
 ·have h1:i < xs.length:=by omega
  have h2:i < ys.length:=by omega
  refine .inr ⟨⟨xs,xs[i],ys,ys[i],q,by simp [h1],q2,by simp [h2]⟩,fun x H' y=>?_⟩
  obtain⟨t,y,z,ht,hy,hz,rfl,rfl⟩:=y
  exact hs i y z t H (fun H''=>∃ m',m' < min xs.length ys.length - i/\m' = min xs.length ys.length - (i + 1)/\i + 1 <= min xs.length ys.length/\Pv (i + 1) H'') (hy xs q) (hz ys q2) ht p fun H'' p''=>⟨min xs.length ys.length - (i + 1),by omega,rfl,hlt,p''⟩
 ·have e:i = min xs.length ys.length:=by omega
  subst e
  exact .inl ⟨⟨xs,ys,q,q2,by omega⟩,hd H p⟩
end
theorem Dz {X:Cx} {c:Const} {n:Nat} {pos:Pos} {es:List Expr} {te:TE} {t:TA} (h:PE X (.Constant c n pos) te) (h2:PA X es t):PA X (.Constant c n pos :: es) (Fs te t):=Ba h h2 rfl
section
variable {X:Cx}
end
theorem CP.dkeys {σ:St} {H:Hp} {Q:VK} {D a:Addr} {o:Obj} {kvs:List (Key × V)} {g:TG} {tc:TT} {te:TE} {k:Nat} {fr:List Nat} (Pv:Nat->Hp->Prop)
  (h0:Pv 0 H) (hl:∀ i H',Pv i H'->H' a = some (.frz o (.dK kvs)))
  (hs:∀ i kv H' (N:Hp->Prop),kvs[i]? = some kv->Pv i H'->(∀ H'',Pv (i + 1) H''->N H'')->g (kV kv.1) (compσ k fr σ) H' fun σ2 H2=>σ2.drop k = (compσ k fr σ).drop k/\tc σ2 H2 fun b H3 =>
   if b = true then te σ2 H3 (fun y H4=>∃ ys,H4 D = some (.lst ys)/\ys.length < sizeLine/\N (upd H4 D (.lst (ys ++ [y])))) else N H3)
  (hd:∀ H',Pv kvs.length H'->Q (.ref D) H'):CP (Itd a o kvs) D g tc te k fr σ H Q:=by
 refine⟨fun i m H=>m = kvs.length - i/\i <= kvs.length/\Pv i H,⟨kvs.length,by simp,zero_le _,h0⟩,?_⟩
 rintro i m H ⟨rfl,hi,p⟩
 have q:=hl i H p
 by_cases hlt:i < kvs.length
 ·refine .inr ⟨⟨q,hlt⟩,fun x H' y=>?_⟩
  obtain⟨rfl,kv,hy,rfl⟩:=y
  exact hs i kv H' (fun H''=>∃ m',m' < kvs.length - i/\m' = kvs.length - (i + 1)/\i + 1 <= kvs.length/\Pv (i + 1) H'') hy p fun H'' p''=>⟨kvs.length - (i + 1),by omega,rfl,hlt,p''⟩
 ·have e:i = kvs.length:=by omega
  subst e
  exact .inl ⟨⟨q,Nat.le_refl _⟩,hd H p⟩
structure FunD (K:Frag) (x qual:Str) (st:Stmt) (f:Addr) (fd:FuncData) (D:Addr) (ds:List Value):Prop where
 ex:∃ (oc:Value) (od:Option Addr) (kV doc pm:Value) (an:Option Addr) (cdv ct:Value) (osl:Array (Option Value)),
  fd = fnOf x qual (Jc st) (Gi st) (Bq st) (.ref D) kV doc pm an cdv ct/\K.lookup f = some ⟨oc,od,.func fd,osl⟩/\codeIn K cdv qual = true
 kp:keepIn K (.ref f) = true
 dl:∃ (od:Option Addr) (n:Nat) (sl:Array (Option Value)),K.lookup D = some ⟨.type "tuple",od,.seq ds.toArray n,sl⟩
section
variable {P:Program} {w:World} {K:Frag} {mg:Str->Option Value} {base:Heap}
theorem FunD.ok {x qual:Str} {st:Stmt} {f D:Addr} {dl:List Value} {fd:FuncData} {N ps:List Str} {k:Nat} {sp:Sp} (F:FunD K x qual st f fd D dl) (S:Ca N ps (Bq st)) (len:∀ vs H Q E,sp vs H Q E->vs.length = ps.length)
  (hbody:∀ (cdv:Value) (A:Around) (outer:List Env) (s:Shared) (H:Hp) (vs:List V) (Q:VK) (E:XK),Room k (A.deeper (envOfC qual (Bq st) s.heap.objs.size f cdv))->sp vs H Q E ->
   ∃ t,PSs (Sv CX0 P w K mg base N qual (Bq st) f cdv A outer s H E).nox (Gi st) t/\t { nx:=fun _ H'=>Q .non H',rt:=Q } (Nx N vs) H):FnOk P w K mg base CX0 (k + 1) f fd ps sp:=by
 obtain⟨oc,od,kV,doc,pm,an,cdv,ct,osl,rfl,lk,hcd⟩:=F.ex
 refine AhE lk hcd S len fun A outer s H vs Q E hr hsp=>?_
 obtain⟨t,h,q⟩:=hbody cdv A outer s H vs Q E hr hsp
 exact⟨t,h.nox,q⟩
theorem FunD.binds {x qual:Str} {st:Stmt} {f D:Addr} {dl ds:List Value} {fd:FuncData} {ps:List Str} (g:Nat) (F:FunD K x qual st f fd D dl) (hg:ps.length = g + ds.length)
  (h:∀ (kV doc pm:Value) (an:Option Addr) (cdv ct:Value) (us:List Value),us.length = g->∃ k:Option (Array Value)->Sem (List (Str × Value)),bindArgs (fnOf x qual (Jc st) (Gi st) (Bq st) (.ref D) kV doc pm an cdv ct) ⟨us,[]⟩ = seqItems? (.ref D) >>= k/\k (some dl.toArray) = pure (ps.zip (us ++ ds))):Binds K fd ps ds:=by
 obtain⟨oc,od,kV,doc,pm,an,cdv,ct,osl,rfl,lk,hcd⟩:=F.ex
 obtain⟨od2,n,sl,ld⟩:=F.dl
 intro s us X hl
 obtain⟨k,h1,h2⟩:=h kV doc pm an cdv ct us (by rw[length_append,hg] at hl; omega)
 exact PySem.W.binds_K X rfl ld rfl h1 h2
theorem Abi {x qual:Str} {st:Stmt} {f D:Addr} {dl:List Value} {oc:Value} {od an od2:Option Addr} {n:Nat} {osl sl:Array (Option Value)} {kV doc pm cdv ct:Value} (l:K.lookup f = some ⟨oc,od,.func (fnOf x qual (Jc st) (Gi st) (Bq st) (.ref D) kV doc pm an cdv ct),osl⟩)
  (c:codeIn K cdv qual = true) (k:keepIn K (.ref f) = true) (d:K.lookup D = some ⟨.type "tuple",od2,.seq dl.toArray n,sl⟩):FunD K x qual st f (fnOf x qual (Jc st) (Gi st) (Bq st) (.ref D) kV doc pm an cdv ct) D dl:=⟨⟨oc,od,kV,doc,pm,an,cdv,ct,osl,rfl,l,c⟩,k,od2,n,sl,d⟩
end
def AgP:V->List V->Hp->VK->Prop:=fun x vs H Q=>∃ l xs y,x = .ref l/\vs = []/\H l = some (.lst xs)/\xs[xs.length - 1]? = some y/\∀ H',Chg l H H'->H' l = some (.lst xs.dropLast)->Q y H'
theorem AiT {X:Cx}:MtR X "list.pop" AgP:=fun pins s σ H x vs v us Q I rx rv ⟨l,xs,y,e1,e2,h1,hy,q⟩=>AlD pins s σ H x vs v us Q I rx rv ⟨l,xs,y,e1,e2,h1,hy,q _ Chg.put Bm⟩
end L2
namespace My
open PySem L2
def top (i:Nat):Stmt:=PySem.Challenge.pw_bothhands_k35_whole_rows_by_themselves.main.body.getD i (.Pass ⟨0,0,0,0⟩)
abbrev Yn:Stmt:=top 52
theorem sc_qbp:Ca ["_law_cell","_law_by","_law_low","_law_step"] ["_law_cell"] (Bq Yn):=⟨rfl,rfl,rfl,by decide +kernel,rfl,by decide +kernel,by decide +kernel⟩
abbrev Yg:Stmt:=top 53
theorem sc_qbx:Ca ["_law_cell","_law_more","_law_signs_here","_law_words_here","_law_told_here","_law_k","_law_word","_law_rank"] ["_law_cell","_law_more","_law_signs_here"] (Bq Yg):=⟨rfl,rfl,rfl,by decide +kernel,rfl,by decide +kernel,by decide +kernel⟩
abbrev Yb:Stmt:=top 54
theorem sc_qbm:Ca ["_law_cell","_law_told_here","_law_signs_here","_law_words_here","_law_sign","_law_word","_law_rank","_law_marks","_law_bases","_law_joins_here","_law_held","_law_k","_law_base","_law_mark"] ["_law_cell","_law_told_here","_law_signs_here"] (Bq Yb):=⟨rfl,rfl,rfl,by decide +kernel,rfl,by decide +kernel,by decide +kernel⟩
abbrev AcH:Stmt:=top 50
theorem Al9:Ca ["_law_script","_law_k"] ["_law_script","_law_k"] (Bq AcH):=⟨rfl,rfl,rfl,by decide +kernel,rfl,by decide +kernel,by decide +kernel⟩
abbrev Yd:Stmt:=top 55
theorem sc_qbo:Ca ["_law_script","_law_cell","_law_signs_here","_law_told_here","_law_joins_here","_law_mates"] ["_law_script"] (Bq Yd):=⟨rfl,rfl,rfl,by decide +kernel,rfl,by decide +kernel,by decide +kernel⟩
abbrev Xy:Stmt:=top 56
theorem sc_qbr:Ca ["_law_lists_here","_law_words_here","_law_sign","_law_word","_law_rank","_law_one","_law_other"] ["_law_lists_here"] (Bq Xy):=⟨rfl,rfl,rfl,by decide +kernel,rfl,by decide +kernel,by decide +kernel⟩
abbrev Xw:Stmt:=top 57
theorem sc_qbb:Ca ["_law_lists_here","_law_words_here","_law_chosen","_law_groups_here","_law_word"] ["_law_lists_here","_law_words_here","_law_chosen"] (Bq Xw):=⟨rfl,rfl,rfl,by decide +kernel,rfl,by decide +kernel,by decide +kernel⟩
abbrev AcJ:Stmt:=top 35
theorem Ank:Ca ["held","words"] ["held","words"] (Bq AcJ):=⟨rfl,rfl,rfl,by decide +kernel,rfl,by decide +kernel,by decide +kernel⟩
abbrev AbS:Stmt:=top 36
theorem sc_qg:Ca ["rows","length","row"] ["rows","length"] (Bq AbS):=⟨rfl,rfl,rfl,by decide +kernel,rfl,by decide +kernel,by decide +kernel⟩
abbrev AcW:Stmt:=top 29
theorem Ano:Ca ["thing"] ["thing"] (Bq AcW):=⟨rfl,rfl,rfl,by decide +kernel,rfl,by decide +kernel,by decide +kernel⟩
abbrev Xx:Stmt:=top 30
theorem AjQ:Ca ["thing"] ["thing"] (Bq Xx):=⟨rfl,rfl,rfl,by decide +kernel,rfl,by decide +kernel,by decide +kernel⟩
abbrev Xo:Stmt:=top 40
theorem AjV:Ca ["kinds","sign","kind"] ["kinds","sign","kind"] (Bq Xo):=⟨rfl,rfl,rfl,by decide +kernel,rfl,by decide +kernel,by decide +kernel⟩
abbrev AcS:Stmt:=top 37
theorem AmW:Ca ["thing"] ["thing"] (Bq AcS):=⟨rfl,rfl,rfl,by decide +kernel,rfl,by decide +kernel,by decide +kernel⟩
abbrev Acw:Stmt:=top 38
theorem Amv:Ca ["kind","thing"] ["kind","thing"] (Bq Acw):=⟨rfl,rfl,rfl,by decide +kernel,rfl,by decide +kernel,by decide +kernel⟩
abbrev Yf:Stmt:=top 41
theorem sc_qba:Ca ["signs","mates","kinds","sign","kind","rank","first","second"] ["signs","mates"] (Bq Yf):=⟨rfl,rfl,rfl,by decide +kernel,rfl,by decide +kernel,by decide +kernel⟩
abbrev Yt:Stmt:=top 42
theorem sc_qbf:Ca ["signs","ranks","sign","kind","rank"] ["signs"] (Bq Yt):=⟨rfl,rfl,rfl,by decide +kernel,rfl,by decide +kernel,by decide +kernel⟩
abbrev Zc:Stmt:=top 43
theorem sc_qbk:Ca ["mates","found","first","second"] ["mates"] (Bq Zc):=⟨rfl,rfl,rfl,by decide +kernel,rfl,by decide +kernel,by decide +kernel⟩
abbrev AbT:Stmt:=top 39
theorem AmE:Ca ["kinds","sign"] ["kinds","sign"] (Bq AbT):=⟨rfl,rfl,rfl,by decide +kernel,rfl,by decide +kernel,by decide +kernel⟩
abbrev AcQ:Stmt:=top 44
theorem sc_qx:Ca ["kinds","whole","base","mark","kind"] ["kinds","whole","base","mark"] (Bq AcQ):=⟨rfl,rfl,rfl,by decide +kernel,rfl,by decide +kernel,by decide +kernel⟩
abbrev Acd:Stmt:=top 45
theorem sc_qh:Ca ["pairs","whole","sign","going"] ["pairs","whole"] (Bq Acd):=⟨rfl,rfl,rfl,by decide +kernel,rfl,by decide +kernel,by decide +kernel⟩
abbrev Xq:Stmt:=top 46
theorem sc_qbe:Ca ["kinds","joins","pairs","whole","base","mark"] ["kinds","joins"] (Bq Xq):=⟨rfl,rfl,rfl,by decide +kernel,rfl,by decide +kernel,by decide +kernel⟩
abbrev AcB:Stmt:=top 47
theorem sc_qv:Ca ["pairs","wholes","whole","pair"] ["pairs"] (Bq AcB):=⟨rfl,rfl,rfl,by decide +kernel,rfl,by decide +kernel,by decide +kernel⟩
abbrev Ys:Stmt:=Wh (top 48) 0
theorem Aj0:Ca ["self","signs","mates","joins"] ["self","signs","mates","joins"] (Bq Ys):=⟨rfl,rfl,rfl,by decide +kernel,rfl,by decide +kernel,by decide +kernel⟩
abbrev Xs:Stmt:=top 58
theorem sc_qbw:Ca ["_law_groups_here","_law_cells","_law_found","_law_cell","_law_group"] ["_law_groups_here","_law_cells"] (Bq Xs):=⟨rfl,rfl,rfl,by decide +kernel,rfl,by decide +kernel,by decide +kernel⟩
abbrev Yx:Stmt:=Wh (top 48) 1
theorem Aj2:Ca ["self","sign"] ["self","sign"] (Bq Yx):=⟨rfl,rfl,rfl,by decide +kernel,rfl,by decide +kernel,by decide +kernel⟩
abbrev Acj:Stmt:=top 3
theorem sc_qd:Ca ["book","whole","kind"] ["book","whole"] (Bq Acj):=⟨rfl,rfl,rfl,by decide +kernel,rfl,by decide +kernel,by decide +kernel⟩
abbrev Xr:Stmt:=top 2
theorem sc_qbt:Ca ["book","text","wholes","sign"] ["book","text"] (Bq Xr):=⟨rfl,rfl,rfl,by decide +kernel,rfl,by decide +kernel,by decide +kernel⟩
abbrev Yk:Stmt:=top 4
theorem AlN:Ca ["book","text"] ["book","text"] (Bq Yk):=⟨rfl,rfl,rfl,by decide +kernel,rfl,by decide +kernel,by decide +kernel⟩
abbrev Acl:Stmt:=top 9
theorem sc_qm:Ca ["kind","level","most","remainder","least"] ["kind","level","most"] (Bq Acl):=⟨rfl,rfl,rfl,by decide +kernel,rfl,by decide +kernel,by decide +kernel⟩
abbrev Xn:Stmt:=top 10
theorem sc_qby:Ca ["book","text","base","most","kinds","nests","waiting","level","at","kind","inner","ended","nest"] ["book","text","base","most"] (Bq Xn):=⟨rfl,rfl,rfl,by decide +kernel,rfl,by decide +kernel,by decide +kernel⟩
abbrev Xu:Stmt:=top 7
theorem sc_qbz:Ca ["book","text","depth","kind"] ["book","text"] (Bq Xu):=⟨rfl,rfl,rfl,by decide +kernel,rfl,by decide +kernel,by decide +kernel⟩
abbrev AcU:Stmt:=top 8
theorem Amh:Ca ["book","text","base"] ["book","text","base"] (Bq AcU):=⟨rfl,rfl,rfl,by decide +kernel,rfl,by decide +kernel,by decide +kernel⟩
abbrev AcF:Stmt:=top 14
theorem sc_qn:Ca ["nests","number","base","stretches","homes","home","stretch","k","rows"] ["nests","number","base"] (Bq AcF):=⟨rfl,rfl,rfl,by decide +kernel,rfl,by decide +kernel,by decide +kernel⟩
abbrev Acp:Stmt:=top 15
theorem sc_qk:Ca ["kinds","own","ways","last","kind"] ["kinds","own"] (Bq Acp):=⟨rfl,rfl,rfl,by decide +kernel,rfl,by decide +kernel,by decide +kernel⟩
abbrev Xt:Stmt:=Wh (top 48) 3
theorem Aki:Ca ["self","sign"] ["self","sign"] (Bq Xt):=⟨rfl,rfl,rfl,by decide +kernel,rfl,by decide +kernel,by decide +kernel⟩
abbrev Za:Stmt:=top 16
theorem sc_qca:Ca ["book","kinds","bases","pairs","waiting","k","kind","fitting"] ["book","kinds","bases"] (Bq Za):=⟨rfl,rfl,rfl,by decide +kernel,rfl,by decide +kernel,by decide +kernel⟩
abbrev Zb:Stmt:=top 19
theorem sc_qbl:Ca ["ways","own","found","last","way"] ["ways","own"] (Bq Zb):=⟨rfl,rfl,rfl,by decide +kernel,rfl,by decide +kernel,by decide +kernel⟩
abbrev AbX:Stmt:=top 20
theorem sc_qt:Ca ["ways","own","ahead","behind"] ["ways","own"] (Bq AbX):=⟨rfl,rfl,rfl,by decide +kernel,rfl,by decide +kernel,by decide +kernel⟩
abbrev AbL:Stmt:=top 17
theorem sc_qs:Ca ["ways","pair","own","within","ahead"] ["ways","pair","own"] (Bq AbL):=⟨rfl,rfl,rfl,by decide +kernel,rfl,by decide +kernel,by decide +kernel⟩
abbrev AbG:Stmt:=top 18
theorem sc_qb:Ca ["ways","pairs","own","found","pair","way"] ["ways","pairs","own"] (Bq AbG):=⟨rfl,rfl,rfl,by decide +kernel,rfl,by decide +kernel,by decide +kernel⟩
abbrev Acv:Stmt:=top 21
theorem sc_qu:Ca ["book","kinds","bases","own","ways","pairs"] ["book","kinds","bases","own"] (Bq Acv):=⟨rfl,rfl,rfl,by decide +kernel,rfl,by decide +kernel,by decide +kernel⟩
abbrev AcR:Stmt:=top 13
theorem AmR:Ca ["level"] ["level"] (Bq AcR):=⟨rfl,rfl,rfl,by decide +kernel,rfl,by decide +kernel,by decide +kernel⟩
abbrev AcT:Stmt:=top 22
theorem Amk:Ca ["kind","way","level"] ["kind","way","level"] (Bq AcT):=⟨rfl,rfl,rfl,by decide +kernel,rfl,by decide +kernel,by decide +kernel⟩
abbrev Acm:Stmt:=top 23
theorem sc_qe:Ca ["book","row","level","kinds","bases","ways"] ["book","row","level"] (Bq Acm):=⟨rfl,rfl,rfl,by decide +kernel,rfl,by decide +kernel,by decide +kernel⟩
abbrev Yq:Stmt:=top 24
theorem sc_qbs:Ca ["book","text","base","most","wholes","lowest","levels","nests","level","row","found","k","own"] ["book","text","base","most"] (Bq Yq):=⟨rfl,rfl,rfl,by decide +kernel,rfl,by decide +kernel,by decide +kernel⟩
abbrev Zd:Stmt:=top 59
theorem sc_qbd:Ca ["_law_words_here","_law_signs_here","_law_found","_law_sign"] ["_law_words_here","_law_signs_here"] (Bq Zd):=⟨rfl,rfl,rfl,by decide +kernel,rfl,by decide +kernel,by decide +kernel⟩
abbrev Xv:Stmt:=top 60
theorem sc_qbn:Ca ["_law_words_here","_law_signs_here","_law_found","_law_whole_here","_law_word"] ["_law_words_here","_law_signs_here"] (Bq Xv):=⟨rfl,rfl,rfl,by decide +kernel,rfl,by decide +kernel,by decide +kernel⟩
abbrev Yh:Stmt:=top 61
theorem sc_qbc:Ca ["_law_told_here","_law_many","_law_around","_law_number","_law_at","_law_to","_law_level","_law_k"] ["_law_told_here","_law_many"] (Bq Yh):=⟨rfl,rfl,rfl,by decide +kernel,rfl,by decide +kernel,by decide +kernel⟩
abbrev Xp:Stmt:=top 51
theorem Al6:Ca ["_law_found"] ["_law_found"] (Bq Xp):=⟨rfl,rfl,rfl,by decide +kernel,rfl,by decide +kernel,by decide +kernel⟩
abbrev AbZ:Stmt:=top 62
theorem sc_qc:Ca ["_law_told_here","_law_many","_law_last","_law_one"] ["_law_told_here","_law_many"] (Bq AbZ):=⟨rfl,rfl,rfl,by decide +kernel,rfl,by decide +kernel,by decide +kernel⟩
abbrev AcK:Stmt:=top 63
theorem sc_qj:Ca ["_law_signs_here","_law_sorts","_law_spots","_law_spare","_law_found","_law_k"] ["_law_signs_here","_law_sorts","_law_spots","_law_spare"] (Bq AcK):=⟨rfl,rfl,rfl,by decide +kernel,rfl,by decide +kernel,by decide +kernel⟩
abbrev Vb:Stmt:=top 64
theorem sc_qcd:Ca ["_law_script","_law_lists_here","_law_words_here","_law_chosen","_law_groups_here","_law_cell","_law_book","_law_text_here","_law_base","_law_most","_law_handed","_law_told_here","_law_found","_law_signs_here","_law_sorts","_law_around","_law_number","_law_spots","_law_level","_law_alone","_law_kept"] ["_law_script"] (Bq Vb):=⟨rfl,rfl,rfl,by decide +kernel,rfl,by decide +kernel,by decide +kernel⟩
structure Adr where
 f_qbp:Addr
 d_qbp:FuncData
 f_qbx:Addr
 d_qbx:FuncData
 f_qbm:Addr
 d_qbm:FuncData
 f_qr:Addr
 d_qr:FuncData
 f_qbo:Addr
 d_qbo:FuncData
 f_qbr:Addr
 d_qbr:FuncData
 f_qbb:Addr
 d_qbb:FuncData
 f_qf:Addr
 d_qf:FuncData
 f_qg:Addr
 d_qg:FuncData
 f_qa:Addr
 d_qa:FuncData
 f_qcb:Addr
 d_qcb:FuncData
 f_qbu:Addr
 d_qbu:FuncData
 f_qi:Addr
 d_qi:FuncData
 f_qy:Addr
 d_qy:FuncData
 f_qba:Addr
 d_qba:FuncData
 f_qbf:Addr
 d_qbf:FuncData
 f_qbk:Addr
 d_qbk:FuncData
 f_qz:Addr
 d_qz:FuncData
 f_qx:Addr
 d_qx:FuncData
 f_qh:Addr
 d_qh:FuncData
 f_qbe:Addr
 d_qbe:FuncData
 f_qv:Addr
 d_qv:FuncData
 f_qbg:Addr
 d_qbg:FuncData
 f_qbw:Addr
 d_qbw:FuncData
 f_qbh:Addr
 d_qbh:FuncData
 f_qd:Addr
 d_qd:FuncData
 f_qbt:Addr
 d_qbt:FuncData
 f_qbv:Addr
 d_qbv:FuncData
 f_qm:Addr
 d_qm:FuncData
 f_qby:Addr
 d_qby:FuncData
 D_nests_of:Addr
 v_nests_of_0:Value
 f_qbz:Addr
 d_qbz:FuncData
 f_qq:Addr
 d_qq:FuncData
 f_qn:Addr
 d_qn:FuncData
 f_qk:Addr
 d_qk:FuncData
 f_qbi:Addr
 d_qbi:FuncData
 f_qca:Addr
 d_qca:FuncData
 f_qbl:Addr
 d_qbl:FuncData
 f_qt:Addr
 d_qt:FuncData
 f_qs:Addr
 d_qs:FuncData
 f_qb:Addr
 d_qb:FuncData
 f_qu:Addr
 d_qu:FuncData
 f_qo:Addr
 d_qo:FuncData
 f_ql:Addr
 d_ql:FuncData
 f_qe:Addr
 d_qe:FuncData
 f_qbs:Addr
 d_qbs:FuncData
 D_levels_of:Addr
 v_levels_of_0:Value
 v_levels_of_1:Value
 f_qbd:Addr
 d_qbd:FuncData
 f_qbn:Addr
 d_qbn:FuncData
 f_qbc:Addr
 d_qbc:FuncData
 f_qbq:Addr
 d_qbq:FuncData
 f_qc:Addr
 d_qc:FuncData
 f_qj:Addr
 d_qj:FuncData
 f_qcd:Addr
 d_qcd:FuncData
 C_Book:Addr
 a_BEGINNINGS:Addr
 a_JOINED_KINDS:Addr
 a_LEADING_KINDS:Addr
 a_TOLD_KINDS:Addr
structure Txt (K:Frag) (mg:Str->Option Value) (t:Adr):Prop where
 F_qbp:Fun K "_law_signs" "_law_signs" Yn t.f_qbp t.d_qbp
 m_qbp:mg "_law_signs" = some (.ref t.f_qbp)
 F_qbx:Fun K "_law_told" "_law_told" Yg t.f_qbx t.d_qbx
 m_qbx:mg "_law_told" = some (.ref t.f_qbx)
 F_qbm:Fun K "_law_joins" "_law_joins" Yb t.f_qbm t.d_qbm
 m_qbm:mg "_law_joins" = some (.ref t.f_qbm)
 F_qr:Fun K "_law_cell_at" "_law_cell_at" AcH t.f_qr t.d_qr
 m_qr:mg "_law_cell_at" = some (.ref t.f_qr)
 F_qbo:Fun K "_law_lists" "_law_lists" Yd t.f_qbo t.d_qbo
 m_qbo:mg "_law_lists" = some (.ref t.f_qbo)
 F_qbr:Fun K "_law_words" "_law_words" Xy t.f_qbr t.d_qbr
 m_qbr:mg "_law_words" = some (.ref t.f_qbr)
 F_qbb:Fun K "_law_groups" "_law_groups" Xw t.f_qbb t.d_qbb
 m_qbb:mg "_law_groups" = some (.ref t.f_qbb)
 F_qf:Fun K "refuse_unless" "refuse_unless" AcJ t.f_qf t.d_qf
 m_qf:mg "refuse_unless" = some (.ref t.f_qf)
 F_qg:Fun K "check_tuples" "check_tuples" AbS t.f_qg t.d_qg
 m_qg:mg "check_tuples" = some (.ref t.f_qg)
 F_qa:Fun K "is_whole_number" "is_whole_number" AcW t.f_qa t.d_qa
 m_qa:mg "is_whole_number" = some (.ref t.f_qa)
 F_qcb:Fun K "is_sign" "is_sign" Xx t.f_qcb t.d_qcb
 m_qcb:mg "is_sign" = some (.ref t.f_qcb)
 F_qbu:Fun K "add_kind" "add_kind" Xo t.f_qbu t.d_qbu
 m_qbu:mg "add_kind" = some (.ref t.f_qbu)
 F_qi:Fun K "is_told_kind" "is_told_kind" AcS t.f_qi t.d_qi
 m_qi:mg "is_told_kind" = some (.ref t.f_qi)
 F_qy:Fun K "is_rank_of" "is_rank_of" Acw t.f_qy t.d_qy
 m_qy:mg "is_rank_of" = some (.ref t.f_qy)
 F_qba:Fun K "kinds_told" "kinds_told" Yf t.f_qba t.d_qba
 m_qba:mg "kinds_told" = some (.ref t.f_qba)
 F_qbf:Fun K "ranks_told" "ranks_told" Yt t.f_qbf t.d_qbf
 m_qbf:mg "ranks_told" = some (.ref t.f_qbf)
 F_qbk:Fun K "both_ways" "both_ways" Zc t.f_qbk t.d_qbk
 m_qbk:mg "both_ways" = some (.ref t.f_qbk)
 F_qz:Fun K "kind_among" "kind_among" AbT t.f_qz t.d_qz
 m_qz:mg "kind_among" = some (.ref t.f_qz)
 F_qx:Fun K "check_join" "check_join" AcQ t.f_qx t.d_qx
 m_qx:mg "check_join" = some (.ref t.f_qx)
 F_qh:Fun K "ends_in_time" "ends_in_time" Acd t.f_qh t.d_qh
 m_qh:mg "ends_in_time" = some (.ref t.f_qh)
 F_qbe:Fun K "pairs_told" "pairs_told" Xq t.f_qbe t.d_qbe
 m_qbe:mg "pairs_told" = some (.ref t.f_qbe)
 F_qv:Fun K "wholes_told" "wholes_told" AcB t.f_qv t.d_qv
 m_qv:mg "wholes_told" = some (.ref t.f_qv)
 F_qbg:Fun K "__init__" "Book.__init__" Ys t.f_qbg t.d_qbg
 F_qbw:Fun K "_law_text" "_law_text" Xs t.f_qbw t.d_qbw
 m_qbw:mg "_law_text" = some (.ref t.f_qbw)
 F_qbh:Fun K "kind" "Book.kind" Yx t.f_qbh t.d_qbh
 M_qbh:Aci K t.C_Book "kind" t.f_qbh
 F_qd:Fun K "kind_of_whole" "kind_of_whole" Acj t.f_qd t.d_qd
 m_qd:mg "kind_of_whole" = some (.ref t.f_qd)
 F_qbt:Fun K "wholes_of" "wholes_of" Xr t.f_qbt t.d_qbt
 m_qbt:mg "wholes_of" = some (.ref t.f_qbt)
 F_qbv:Fun K "kinds_of" "kinds_of" Yk t.f_qbv t.d_qbv
 m_qbv:mg "kinds_of" = some (.ref t.f_qbv)
 F_qm:Fun K "level_within" "level_within" Acl t.f_qm t.d_qm
 m_qm:mg "level_within" = some (.ref t.f_qm)
 F_qby:FunD K "nests_of" "nests_of" Xn t.f_qby t.d_qby t.D_nests_of [t.v_nests_of_0]
 w_nests_of_0:Vals [.int 20] [t.v_nests_of_0]
 m_qby:mg "nests_of" = some (.ref t.f_qby)
 F_qbz:Fun K "own_base" "own_base" Xu t.f_qbz t.d_qbz
 m_qbz:mg "own_base" = some (.ref t.f_qbz)
 F_qq:Fun K "base_or_own" "base_or_own" AcU t.f_qq t.d_qq
 m_qq:mg "base_or_own" = some (.ref t.f_qq)
 F_qn:Fun K "stretch_rows" "stretch_rows" AcF t.f_qn t.d_qn
 m_qn:mg "stretch_rows" = some (.ref t.f_qn)
 F_qk:Fun K "leading_ways" "leading_ways" Acp t.f_qk t.d_qk
 m_qk:mg "leading_ways" = some (.ref t.f_qk)
 F_qbi:Fun K "mate" "Book.mate" Xt t.f_qbi t.d_qbi
 M_qbi:Aci K t.C_Book "mate" t.f_qbi
 F_qca:Fun K "pairs_in" "pairs_in" Za t.f_qca t.d_qca
 m_qca:mg "pairs_in" = some (.ref t.f_qca)
 F_qbl:Fun K "last_ways" "last_ways" Zb t.f_qbl t.d_qbl
 m_qbl:mg "last_ways" = some (.ref t.f_qbl)
 F_qt:Fun K "ways_filled" "ways_filled" AbX t.f_qt t.d_qt
 m_qt:mg "ways_filled" = some (.ref t.f_qt)
 F_qs:Fun K "way_of_pair" "way_of_pair" AbL t.f_qs t.d_qs
 m_qs:mg "way_of_pair" = some (.ref t.f_qs)
 F_qb:Fun K "ways_with_pairs" "ways_with_pairs" AbG t.f_qb t.d_qb
 m_qb:mg "ways_with_pairs" = some (.ref t.f_qb)
 F_qu:Fun K "ways_in_row" "ways_in_row" Acv t.f_qu t.d_qu
 m_qu:mg "ways_in_row" = some (.ref t.f_qu)
 F_qo:Fun K "way_of_level" "way_of_level" AcR t.f_qo t.d_qo
 m_qo:mg "way_of_level" = some (.ref t.f_qo)
 F_ql:Fun K "level_by_way" "level_by_way" AcT t.f_ql t.d_ql
 m_ql:mg "level_by_way" = some (.ref t.f_ql)
 F_qe:Fun K "levels_in_row" "levels_in_row" Acm t.f_qe t.d_qe
 m_qe:mg "levels_in_row" = some (.ref t.f_qe)
 F_qbs:FunD K "levels_of" "levels_of" Yq t.f_qbs t.d_qbs t.D_levels_of [t.v_levels_of_0,t.v_levels_of_1]
 w_levels_of_0:Vals [.non] [t.v_levels_of_0]
 w_levels_of_1:Vals [.int 20] [t.v_levels_of_1]
 m_qbs:mg "levels_of" = some (.ref t.f_qbs)
 F_qbd:Fun K "_law_wholes" "_law_wholes" Zd t.f_qbd t.d_qbd
 m_qbd:mg "_law_wholes" = some (.ref t.f_qbd)
 F_qbn:Fun K "_law_kinds" "_law_kinds" Xv t.f_qbn t.d_qbn
 m_qbn:mg "_law_kinds" = some (.ref t.f_qbn)
 F_qbc:Fun K "_law_stands" "_law_stands" Yh t.f_qbc t.d_qbc
 m_qbc:mg "_law_stands" = some (.ref t.f_qbc)
 F_qbq:Fun K "_law_whole" "_law_whole" Xp t.f_qbq t.d_qbq
 m_qbq:mg "_law_whole" = some (.ref t.f_qbq)
 F_qc:Fun K "_law_told_right" "_law_told_right" AbZ t.f_qc t.d_qc
 m_qc:mg "_law_told_right" = some (.ref t.f_qc)
 F_qj:Fun K "_law_row_text" "_law_row_text" AcK t.f_qj t.d_qj
 m_qj:mg "_law_row_text" = some (.ref t.f_qj)
 F_qcd:Fun K "law" "law" Vb t.f_qcd t.d_qcd
 m_qcd:mg "law" = some (.ref t.f_qcd)
 m_Book:mg "Book" = some (.ref t.C_Book)
 cl_Book:Cls K t.C_Book
 K_Book:Mk K t.C_Book t.f_qbg
 n_Book_kinds:NoAttr K t.C_Book "kinds"
 n_Book_ranks:NoAttr K t.C_Book "ranks"
 n_Book_mates:NoAttr K t.C_Book "mates"
 n_Book_pairs:NoAttr K t.C_Book "pairs"
 n_Book_wholes:NoAttr K t.C_Book "wholes"
 z_all:mg "all" = none
 z_bool:mg "bool" = none
 z_enumerate:mg "enumerate" = none
 z_int:mg "int" = none
 z_isinstance:mg "isinstance" = none
 z_len:mg "len" = none
 z_list:mg "list" = none
 z_max:mg "max" = none
 z_min:mg "min" = none
 z_range:mg "range" = none
 z_reversed:mg "reversed" = none
 z_str:mg "str" = none
 z_tuple:mg "tuple" = none
 z_zip:mg "zip" = none
 g_BEGINNINGS:mg "BEGINNINGS" = some (.ref t.a_BEGINNINGS)
 q_BEGINNINGS:∀ H,SqT K H t.a_BEGINNINGS [.str "forein",.str "backin"]
 g_JOINED_KINDS:mg "JOINED_KINDS" = some (.ref t.a_JOINED_KINDS)
 q_JOINED_KINDS:∀ H,SqT K H t.a_JOINED_KINDS [.str "fore",.str "back",.str "num",.str "blank",.str "plain"]
 g_LEADING_KINDS:mg "LEADING_KINDS" = some (.ref t.a_LEADING_KINDS)
 q_LEADING_KINDS:∀ H,SqT K H t.a_LEADING_KINDS [.str "fore",.str "back",.str "num"]
 g_MOST_GOINGS:∃ u,mg "MOST_GOINGS" = some u/\RelV (.int 7) u
 g_TOLD_KINDS:mg "TOLD_KINDS" = some (.ref t.a_TOLD_KINDS)
 q_TOLD_KINDS:∀ H,SqT K H t.a_TOLD_KINDS [.str "fore",.str "back",.str "num",.str "blank",.str "mark",.str "forein",.str "backin",.str "out"]
abbrev Sg:=Int × Str × Int
def toldK:List Str:=["fore","back","num","blank","mark","forein","backin","out"]
def Np (k:Str) (r:Int):Prop:=(k = "mark"/\1 <= r)\/(¬ k = "mark"/\r = 0)
def TripAt (H:Hp) (x:V) (s:Sg):Prop:=∃ p,x = .ref p/\H p = some (.tup [.int s.1,.str s.2.1,.int s.2.2])
def PairAt (H:Hp) (x:V) (m:Int × Int):Prop:=∃ p,x = .ref p/\H p = some (.tup [.int m.1,.int m.2])
def LAt {β α:Type} (R:Hp->β->α->Prop) (H:Hp) (xs:List β) (ys:List α):Prop:=xs.length = ys.length/\∀ (i:Nat) (x:β) (y:α),xs[i]? = some x->ys[i]? = some y->R H x y
theorem LAt.get {β α:Type} {R:Hp->β->α->Prop} {H:Hp} {xs:List β} {ys:List α} (h:LAt R H xs ys) {i:Nat} {x:β} (e:xs[i]? = some x):∃ y,ys[i]? = some y/\R H x y:=by
 have hi:i < xs.length:=(List.getElem?_eq_some_iff.mp e).1
 have hy:i < ys.length:=by rw[<- h.1]; exact hi
 exact⟨ys[i],getElem?_eq_getElem hy,h.2 i x _ e (getElem?_eq_getElem hy)⟩
theorem LAt.mono {β α:Type} {R R':Hp->β->α->Prop} {H H':Hp} {xs:List β} {ys:List α} (h:LAt R H xs ys) (m:∀ x y,R H x y->R' H' x y):LAt R' H' xs ys:=⟨h.1,fun i x y e1 e2=>m x y (h.2 i x y e1 e2)⟩
theorem LAt.snoc {β α:Type} {R:Hp->β->α->Prop} {H:Hp} {xs:List β} {ys:List α} {x:β} {y:α} (h:LAt R H xs ys) (r:R H x y):LAt R H (xs ++ [x]) (ys ++ [y]):=by
 refine⟨by simp [h.1],fun i u v e1 e2=>?_⟩
 by_cases hi:i < xs.length
 ·rw[getElem?_append_left hi] at e1
  rw[getElem?_append_left (by rw[<- h.1]; exact hi)] at e2
  exact h.2 i u v e1 e2
 ·rw[getElem?_append_right (by omega)] at e1
  rw[getElem?_append_right (by rw[<- h.1]; omega),<- h.1] at e2
  have hz:i - xs.length = 0:=by
   have:=(List.getElem?_eq_some_iff.mp e1).1
   simp at this; omega
  rw[hz] at e1 e2
  simp at e1 e2
  rw[<- e1,<- e2]; exact r
theorem LAt.nil {β α:Type} {R:Hp->β->α->Prop} {H:Hp}:LAt R H ([]:List β) ([]:List α):=⟨rfl,fun i x y e=>by simp at e⟩
structure Ya (s:Sg):Prop where
 nn:0 <= s.1
 kd:s.2.1 ∈ toldK
 rk:Np s.2.1 s.2.2
def kK (signs:List Sg):List (Key × V):=signs.map fun s=>(.inl s.1,.str s.2.1)
def kR (signs:List Sg):List (Key × V):=signs.map fun s=>(.inl s.1,.int s.2.2)
def kM:List (Int × Int)->List (Key × V)
 | []=>[]
 | m :: r=>(.inl m.1,.str "open") :: (.inl m.2,.str "shut") :: kM r
def kB:List (Int × Int)->List (Key × V)
 | []=>[]
 | m :: r=>(.inl m.1,.int m.2) :: (.inl m.2,.int m.1) :: kB r
def Fq:List (Int × Int)->List Int
 | []=>[]
 | m :: r=>m.1 :: m.2 :: Fq r
theorem Tj (xs ys:List (Int × Int)):Fq (xs ++ ys) = Fq xs ++ Fq ys:=by
 induction xs with
 | nil=>rfl
 | cons x r ih=>simp [Fq,ih]
theorem Qb (xs ys:List (Int × Int)):kM (xs ++ ys) = kM xs ++ kM ys:=by
 induction xs with
 | nil=>rfl
 | cons x r ih=>simp [kM,ih]
theorem Ws (xs ys:List (Int × Int)):kB (xs ++ ys) = kB xs ++ kB ys:=by
 induction xs with
 | nil=>rfl
 | cons x r ih=>simp [kB,ih]
theorem Abk (xs:List (Int × Int)):(kM xs).map (·.1) = (Fq xs).map Sum.inl:=by
 induction xs with
 | nil=>rfl
 | cons x r ih=>simp [kM,Fq,ih]
theorem AiN (xs:List (Int × Int)):(kB xs).map (·.1) = (Fq xs).map Sum.inl:=by
 induction xs with
 | nil=>rfl
 | cons x r ih=>simp [kB,Fq,ih]
theorem Akk (xs:List (Int × Int)):(kM xs).length = 2 * xs.length:=by
 induction xs with
 | nil=>rfl
 | cons x r ih=>simp [kM,ih]; omega
theorem Aj3 (xs:List (Int × Int)):(kB xs).length = 2 * xs.length:=by
 induction xs with
 | nil=>rfl
 | cons x r ih=>simp [kB,ih]; omega
theorem Ng {kvs:List (Key × V)} {n:Int} (h:¬ (Sum.inl n:Key) ∈ kvs.map (·.1)):Cr kvs (Sum.inl n) = none:=by
 cases e:Cr kvs (Sum.inl n:Key) with
 | none=>rfl
 | some v=>exact absurd (Abr e) h
theorem Tw {kvs:List (Key × V)} (nd:(kvs.map (·.1)).Nodup) {k:Key} {v:V} (h:(k,v) ∈ kvs):Cr kvs k = some v:=by
 induction kvs with
 | nil=>cases h
 | cons p r ih =>
  have nd':(p.1 :: r.map (·.1)).Nodup:=nd
  obtain⟨h1,h2⟩:=nodup_cons.mp nd'
  rcases mem_cons.mp h with e | e
  ·subst e; exact Nd rfl
  ·have:¬ p.1 = k:=fun z=>h1 (by rw[z]; exact mem_map.mpr ⟨_,e,rfl⟩)
   rw[Lw this]; exact ih h2 e
theorem Qd {l:List Int} (h:l.Nodup):(l.map (Sum.inl:Int->Key)).Nodup:=by
 induction l with
 | nil=>exact nodup_nil
 | cons a r ih =>
  obtain⟨h1,h2⟩:=nodup_cons.mp h
  refine nodup_cons.mpr ⟨fun m=>h1 ?_,ih h2⟩
  obtain⟨b,hb,e⟩:=mem_map.mp m
  cases e; exact hb
theorem inl_mem {l:List Int} {n:Int}:(Sum.inl n:Key) ∈ l.map (Sum.inl:Int->Key) ↔ n ∈ l:=by
 constructor
 ·intro m; obtain⟨b,hb,e⟩:=mem_map.mp m; cases e; exact hb
 ·intro m; exact mem_map.mpr ⟨n,m,rfl⟩
theorem Gu {n:Nat} (h:n <= 1000):n < sizeLine:=Nv h
theorem Dg {α:Type} {l:List α} {i:Nat} {x:α} (h:l[i]? = some x):l.take (i + 1) = l.take i ++ [x]:=by
 obtain⟨hi,e⟩:=List.getElem?_eq_some_iff.mp h
 rw[List.take_add_one,getElem?_eq_getElem hi,e]
 rfl
theorem Same.new {d:Addr} {H:Hp} {o:HO} (h:H d = none):Same H (upd H d o):=fun q u e=>by rw[Bj (Bv e h)]; exact e
theorem TripAt.mono {H H':Hp} {x:V} {s:Sg} (h:TripAt H x s) (k:∀ q xs,H q = some (.tup xs)->H' q = some (.tup xs)):TripAt H' x s:=by
 obtain⟨p,e,hp⟩:=h
 exact⟨p,e,k p _ hp⟩
theorem PairAt.mono {H H':Hp} {x:V} {s:Int × Int} (h:PairAt H x s) (k:∀ q xs,H q = some (.tup xs)->H' q = some (.tup xs)):PairAt H' x s:=by
 obtain⟨p,e,hp⟩:=h
 exact⟨p,e,k p _ hp⟩
theorem Ck {CX:CXT} {P:Program} {w:World} {K:Frag} {mg:Str->Option Value} {base:Heap} {N:List Str} {qual:Str} {sc:Scope} {f:Addr} {cd:Value} {A:Around} {outer:List Env} {s:Shared} {H:Hp} {E:XK}:(Sv CX P w K mg base N qual sc f cd A outer s H E).K = K:=rfl
section
variable {σ:St} {H:Hp} {Q:VK} {K:Frag} {a d:Addr} {n:Int}
theorem AcD {A B:Prop} (h:B):if (!true) = true then A else B:=Nb h
theorem Ab8 {A B:Prop} (h:A):if (!false) = true then A else B:=Ln h
theorem Afq {P:Bool->Prop} (q:P true):∃ x m t b,[V.int n,V.ty "int"] = [x,V.ty m]/\Ge K H x t/\kitOne K t (.type m) = some b/\P b:=⟨_,_,_,_,rfl,.int n,AaL,q⟩
theorem Ade {P:Bool->Prop} (q:P false):∃ x m t b,[V.int n,V.ty "bool"] = [x,V.ty m]/\Ge K H x t/\kitOne K t (.type m) = some b/\P b:=⟨_,_,_,_,rfl,.int n,Zg,q⟩
theorem Afr {z:Str} {P:Bool->Prop} (q:P true):∃ x m t b,[V.str z,V.ty "str"] = [x,V.ty m]/\Ge K H x t/\kitOne K t (.type m) = some b/\P b:=⟨_,_,_,_,rfl,.str z,AaQ,q⟩
theorem Aj8 {xs:List V} (h:H a = some (.lst xs)) {P:Bool->Prop} (q:P true):∃ x m t b,[V.ref a,V.ty "list"] = [x,V.ty m]/\Ge K H x t/\kitOne K t (.type m) = some b/\P b:=⟨_,_,_,_,rfl,.lst h,Xi,q⟩
theorem Al8 {xs:List V} (h:H a = some (.tup xs)) {P:Bool->Prop} (q:P true):∃ x m t b,[V.ref a,V.ty "tuple"] = [x,V.ty m]/\Ge K H x t/\kitOne K t (.type m) = some b/\P b:=⟨_,_,_,_,rfl,.tup h,AaO,q⟩
theorem Aem {xs:List V} (h:SqL K H a xs) {P:List V->Prop} (q:P xs):∃ p ys,[V.ref a] = [V.ref p]/\(SqL K H p ys\/SqT K H p ys)/\P ys:=⟨a,xs,rfl,.inl h,q⟩
theorem AkK {xs:List V} (h:H a = some (.tup xs)) {P:List V->Prop} (q:P xs):∃ p ys,[V.ref a] = [V.ref p]/\(SqL K H p ys\/SqT K H p ys)/\P ys:=⟨a,xs,rfl,.inr (SqT.of h),q⟩
theorem Amn {kvs:List (Key × V)} (h:H d = some (.dK kvs)) {P:Option V->Prop} (q:P (Cr kvs (.inl n))):∃ a o,V.ref d = V.ref a/\DGet H a (.int n) o/\P o:=⟨d,_,rfl,DGet.k (k:=Sum.inl n) h,q⟩
theorem AdO {kvs:List (Key × V)} {v:V} {R:Hp->Prop} (h:H d = some (.dK kvs)) (q:R (upd H d (.dK (Gy kvs (.inl n) v)))) (hl:kvs.length < sizeLine):∃ a H4,V.ref d = V.ref a/\DPut H a (.int n) v H4/\R H4:=⟨d,_,rfl,DPut.k (k:=Sum.inl n) h hl,q⟩
theorem AmQ {kvs:List (Key × V)} {P:Addr->Prop} (h:H d = some (.dK kvs)) (q:P d):∃ a,V.ref d = V.ref a/\IsD H a/\P a:=⟨d,rfl,.inl ⟨_,.inl h⟩,q⟩
theorem Ajw {kvs:List (Key × V)} {P:Option V->Prop} (h:H d = some (.dK kvs)) (q:P (Cr kvs (.inl n))):∃ o,DGet H d (.int n) o/\P o:=⟨_,DGet.k (k:=Sum.inl n) h,q⟩
theorem Ant {P:Prop} {xs:List V} (h:H a = some (.lst xs)) (q:P):tyV K "list" (.ref a) H/\P:=⟨.inl ⟨rfl,_,SqL.of h⟩,q⟩
theorem Yw {xs:List V} {i:Int} {v:V} (h:SqL K H a xs) (q:Q v H) (hv:atI xs i = some v):AaF K (.ref a) (.int i) H Q:=⟨a,xs,i,v,rfl,rfl,h,hv,q⟩
theorem Ams {xs:List V} {i:Int} {v:V} (h:H a = some (.tup xs)) (q:Q v H) (hv:atI xs i = some v):Wq K (.ref a) (.int i) H Q:=⟨a,xs,i,v,rfl,rfl,SqT.of h,hv,q⟩
end
section
variable {S:List Sg} {M:List (Int × Int)} {s:Sg} {m:Int × Int} {n:Int}
theorem Aii (s:List Sg):(kK s).map (·.1) = (s.map (·.1)).map Sum.inl:=by simp [kK]
theorem AbC:(kK S ++ kM M).map (·.1) = (S.map (·.1) ++ Fq M).map (Sum.inl:Int->Key):=by rw[map_append,Aii,Abk,<- map_append]
theorem Yc (nd:(S.map (·.1) ++ Fq M).Nodup):((kK S ++ kM M).map (·.1)).Nodup:=by rw[AbC]; exact Qd nd
theorem Aec (h:m ∈ M):(Sum.inl m.1,V.str "open") ∈ kM M/\(Sum.inl m.2,V.str "shut") ∈ kM M:=by
 induction M with
 | nil=>cases h
 | cons x r ih =>
  rcases mem_cons.mp h with e | e
  ·subst e; exact⟨mem_cons_self,mem_cons_of_mem _ mem_cons_self⟩
  ·exact⟨mem_cons_of_mem _ (mem_cons_of_mem _ (ih e).1),mem_cons_of_mem _ (mem_cons_of_mem _ (ih e).2)⟩
theorem Aij (nd:(S.map (·.1) ++ Fq M).Nodup) (h:m ∈ M):(Cr (kK S ++ kM M) (Sum.inl m.1)).getD (.str "plain") = .str "open":=by
 rw[Tw (Yc nd) (mem_append_right _ (Aec h).1)]; rfl
theorem Ai4 (nd:(S.map (·.1) ++ Fq M).Nodup) (h:m ∈ M):(Cr (kK S ++ kM M) (Sum.inl m.2)).getD (.str "plain") = .str "shut":=by
 rw[Tw (Yc nd) (mem_append_right _ (Aec h).2)]; rfl
theorem Wm (nd:(S.map (·.1) ++ Fq M).Nodup) (h:s ∈ S):(Cr (kK S ++ kM M) (Sum.inl s.1)).getD (.str "plain") = .str s.2.1:=by
 rw[Tw (v:=.str s.2.1) (Yc nd) (mem_append_left _ (mem_map.mpr ⟨s,h,rfl⟩))]; rfl
theorem Zp (h:¬ n ∈ S.map (·.1) ++ Fq M):(Cr (kK S ++ kM M) (Sum.inl n)).getD (.str "plain") = .str "plain":=by
 rw[Ng (by rw[AbC]; exact fun w=>h (inl_mem.mp w))]; rfl
end
abbrev Jn:=Int × Int × Int
def joinedK:List Str:=["fore","back","num","blank","plain"]
def TrjAt (H:Hp) (x:V) (j:Jn):Prop:=∃ p,x = .ref p/\H p = some (.tup [.int j.1,.int j.2.1,.int j.2.2])
def KvAt (H:Hp) (kv:Key × V) (j:Jn):Prop:=kv.1 = Sum.inl j.1/\∃ p,kv.2 = .ref p/\H p = some (.tup [.int j.2.1,.int j.2.2])
theorem TrjAt.mono {H H':Hp} {x:V} {j:Jn} (h:TrjAt H x j) (k:∀ q xs,H q = some (.tup xs)->H' q = some (.tup xs)):TrjAt H' x j:=by
 obtain⟨p,e,hp⟩:=h
 exact⟨p,e,k p _ hp⟩
theorem KvAt.mono {H H':Hp} {x:Key × V} {j:Jn} (h:KvAt H x j) (k:∀ q xs,H q = some (.tup xs)->H' q = some (.tup xs)):KvAt H' x j:=by
 obtain⟨e1,p,e,hp⟩:=h
 exact⟨e1,p,e,k p _ hp⟩
theorem LAt.tripS {H H':Hp} {xs:List V} {S:List Sg} (h:LAt TripAt H xs S) (s:Same H H'):LAt TripAt H' xs S:=h.mono fun _ _ z=>z.mono fun _ _ e=>s _ _ e
theorem LAt.pairS {H H':Hp} {xs:List V} {S:List (Int × Int)} (h:LAt PairAt H xs S) (s:Same H H'):LAt PairAt H' xs S:=h.mono fun _ _ z=>z.mono fun _ _ e=>s _ _ e
theorem LAt.trjS {H H':Hp} {xs:List V} {S:List Jn} (h:LAt TrjAt H xs S) (s:Same H H'):LAt TrjAt H' xs S:=h.mono fun _ _ z=>z.mono fun _ _ e=>s _ _ e
theorem LAt.kvS {H H':Hp} {xs:List (Key × V)} {S:List Jn} (h:LAt KvAt H xs S) (s:Same H H'):LAt KvAt H' xs S:=h.mono fun _ _ z=>z.mono fun _ _ e=>s _ _ e
theorem LAt.take {β α:Type} {R:Hp->β->α->Prop} {H:Hp} {xs:List β} {ys:List α} (h:LAt R H xs ys) (n:Nat):LAt R H (xs.take n) (ys.take n) :=
 ⟨by rw[length_take,length_take,h.1],fun i x y e1 e2=>by
  rw[getElem?_take] at e1 e2
  split at e1
  ·rename_i hi
   rw[if_pos hi] at e2
   exact h.2 i x y e1 e2
  ·cases e1⟩
theorem LAt.drop {β α:Type} {R:Hp->β->α->Prop} {H:Hp} {xs:List β} {ys:List α} (h:LAt R H xs ys) (n:Nat):LAt R H (xs.drop n) (ys.drop n) :=
 ⟨by rw[length_drop,length_drop,h.1],fun i x y e1 e2=>by
  rw[List.getElem?_drop] at e1 e2
  exact h.2 _ x y e1 e2⟩
theorem LAt.append {β α:Type} {R:Hp->β->α->Prop} {H:Hp} {xs xs':List β} {ys ys':List α} (h:LAt R H xs ys) (h':LAt R H xs' ys'):LAt R H (xs ++ xs') (ys ++ ys') :=
 ⟨by rw[length_append,length_append,h.1,h'.1],fun i x y e1 e2=>by
  by_cases hi:i < xs.length
  ·rw[getElem?_append_left hi] at e1
   rw[getElem?_append_left (by rw[<- h.1]; exact hi)] at e2
   exact h.2 i x y e1 e2
  ·rw[getElem?_append_right (by omega)] at e1
   rw[getElem?_append_right (by rw[<- h.1]; omega),<- h.1] at e2
   exact h'.2 _ x y e1 e2⟩
theorem Lp {α:Type}:∀ {l:List α},(∀ (i j:Nat) (x:α),l[i]? = some x->l[j]? = some x->i = j)->l.Nodup
 | [],_=>nodup_nil
 | a :: r,h=>nodup_cons.mpr ⟨fun m=>by
   obtain⟨j,hj⟩:=getElem?_of_mem m
   have:=h 0 (j + 1) a rfl (by simpa using hj)
   omega,Lp fun i j x h1 h2=>by
   have:=h (i + 1) (j + 1) x (by simpa using h1) (by simpa using h2)
   omega⟩
theorem LAt.uncons {β α:Type} {R:Hp->β->α->Prop} {H:Hp} {x:β} {xs:List β} {y:α} {ys:List α} (h:LAt R H (x :: xs) (y :: ys)):R H x y/\LAt R H xs ys :=
 ⟨h.2 0 x y rfl rfl,by simpa using h.1,fun i u v e1 e2=>h.2 (i + 1) u v e1 e2⟩
def Fi:List Jn->Int->Option (Int × Int)
 | [],_=>none
 | j :: r,n=>if j.1 = n then some j.2 else Fi r n
def Fm (J:List Jn) (n:Int):Int:=match Fi J n with | some m=>m.1 | none=>n
def jGo (J:List Jn):Nat->Int->Int
 | 0,n=>n
 | k + 1,n=>Fm J (jGo J k n)
theorem Uq {J:List Jn} {n:Int} {m:Int × Int} (h:Fi J n = some m):(n,m) ∈ J:=by
 induction J with
 | nil=>cases h
 | cons x r ih =>
  unfold Fi at h
  split at h
  ·rename_i e
   cases h
   rw[<- e]; exact mem_cons_self
  ·exact mem_cons_of_mem _ (ih h)
theorem Aav {H:Hp} {kvs:List (Key × V)} {J:List Jn} (h:LAt KvAt H kvs J) (n:Int) :
  (Fi J n = none/\Cr kvs (Sum.inl n) = none)\/∃ m p,Fi J n = some m/\Cr kvs (Sum.inl n) = some (.ref p)/\H p = some (.tup [.int m.1,.int m.2]):=by
 induction kvs generalizing J with
 | nil =>
  cases J with
  | nil=>exact .inl ⟨rfl,rfl⟩
  | cons j r=>have:=h.1; simp at this
 | cons kv ks ih =>
  cases J with
  | nil=>have:=h.1; simp at this
  | cons j r =>
   obtain⟨⟨h1,p,e,hp⟩,h3⟩:=h.uncons
   unfold Fi
   by_cases z:j.1 = n
   ·rw[if_pos z]
    exact .inr ⟨j.2,p,rfl,by rw[Nd (by rw[h1,z]),e],hp⟩
   ·rw[if_neg z,Lw (by rw[h1]; intro w; exact z (Sum.inl.inj w))]
    exact ih h3
def kW (J:List Jn):List (List Key × V):=J.map fun j=>([Sum.inl j.2.1,Sum.inl j.2.2],V.int j.1)
theorem AmM {J:List Jn} {a b:Int} (h:¬ (a,b) ∈ J.map (·.2)):Cr (kW J) [Sum.inl a,Sum.inl b] = none:=by
 cases e:Cr (kW J) ([Sum.inl a,Sum.inl b]:List Key) with
 | none=>rfl
 | some v =>
  have:=Abr e
  unfold kW at this
  rw[map_map] at this
  obtain⟨j,hj,z⟩:=mem_map.mp this
  have z':([Sum.inl j.2.1,Sum.inl j.2.2]:List Key) = [Sum.inl a,Sum.inl b]:=z
  injection z' with z1 z2
  injection z2 with z3 z4
  exact absurd (mem_map.mpr ⟨j,hj,Prod.ext (Sum.inl.inj z1) (Sum.inl.inj z3)⟩) h
def knd (kk:List (Key × V)) (n:Int):V:=(Cr kk (Sum.inl n)).getD (.str "plain")
structure AbY (kk:List (Key × V)) (J:List Jn):Prop where
 nn:∀ j ∈ J,0 <= j.1/\0 <= j.2.1/\0 <= j.2.2
 mr:∀ j ∈ J,knd kk j.2.2 = .str "mark"
 kd:∀ j ∈ J,∃ k ∈ joinedK,knd kk j.1 = .str k/\knd kk j.2.1 = .str k
 nw:(J.map (·.1)).Nodup
 np:(J.map (·.2)).Nodup
 en:∀ j ∈ J,Fi J (jGo J 7 j.1) = none
 ln:J.length <= 400
theorem Ajj {c A B:Prop} [Decidable c] (hc:c) (h:A):if decide c = true then A else B:=by
 rw[if_pos (decide_eq_true hc)]; exact h
theorem AfP {H:Hp} {a:Addr} {u o:HO} (h:H a = some u):upd (upd H a o) a u = H:=by
 rw[Gj]; funext b; unfold upd; split
 ·rename_i e; rw[e,h]
 ·rfl
theorem AlU {H:Hp} {a:Addr} {u:HO} {o:Obj}:Rd (upd H a (.frz o u)) a u:=.inr ⟨o,Bm⟩
theorem Rl {α:Type} {l:List α} {i:Nat} {x:α} (nd:l.Nodup) (h:l[i]? = some x):¬ x ∈ l.take i:=by
 obtain⟨hi,e⟩:=List.getElem?_eq_some_iff.mp h
 rw[<- take_append_drop i l,drop_eq_getElem_cons hi,e] at nd
 intro m
 exact (nodup_append.mp nd).2.2 _ m _ mem_cons_self rfl
theorem On {α β:Type} {l:List α} {f:α->β} {i:Nat} {x:α} (nd:(l.map f).Nodup) (h:l[i]? = some x):¬ f x ∈ (l.take i).map f:=by
 rw[map_take]
 exact Rl nd (by rw[getElem?_map,h]; rfl)
def bkF (dk dr dm dp dw:Addr):List (Str × V):=Bz "wholes" (.ref dw) (Bz "pairs" (.ref dp) (Bz "mates" (.ref dm) (Bz "ranks" (.ref dr) (Bz "kinds" (.ref dk) []))))
theorem AeQ {dk dr dm dp dw:Addr}:(bkF dk dr dm dp dw).lookup ("kinds" : Str) = some (.ref dk):=by
 unfold bkF
 rw[Db,if_neg (by decide +kernel),Db,if_neg (by decide +kernel),Db,if_neg (by decide +kernel),Db,if_neg (by decide +kernel),Db,if_pos rfl]
theorem AeV {dk dr dm dp dw:Addr}:(bkF dk dr dm dp dw).lookup ("mates" : Str) = some (.ref dm):=by
 unfold bkF
 rw[Db,if_neg (by decide +kernel),Db,if_neg (by decide +kernel),Db,if_pos rfl]
theorem Adi {dk dr dm dp dw:Addr} {m:Str} (h1:¬ m = "wholes") (h2:¬ m = "pairs") (h3:¬ m = "mates") (h4:¬ m = "ranks") (h5:¬ m = "kinds"):(bkF dk dr dm dp dw).lookup m = none:=by
 unfold bkF
 rw[Db,if_neg h1,Db,if_neg h2,Db,if_neg h3,Db,if_neg h4,Db,if_neg h5]
 rfl
theorem Zz {dk dr dm dp dw:Addr}:(bkF dk dr dm dp dw).lookup ("kind" : Str) = none:=Adi (by decide +kernel) (by decide +kernel) (by decide +kernel) (by decide +kernel) (by decide +kernel)
theorem Aap {dk dr dm dp dw:Addr}:(bkF dk dr dm dp dw).lookup ("mate" : Str) = none:=Adi (by decide +kernel) (by decide +kernel) (by decide +kernel) (by decide +kernel) (by decide +kernel)
def BookAt (C:Addr) (H:Hp) (b:Addr) (k r m p:List (Key × V)) (w:List (List Key × V)):Prop :=
 ∃ dx dk dr dm dp dw,H b = some (.ins C dx (bkF dk dr dm dp dw))/\H dk = some (.dK k)/\H dr = some (.dK r)/\H dm = some (.dK m)/\H dp = some (.dK p)/\H dw = some (.dT w)
theorem BookAt.mono {C:Addr} {H H':Hp} {b:Addr} {k r m p:List (Key × V)} {w:List (List Key × V)} (h:BookAt C H b k r m p w) (s:∀ q o,H q = some o->(∀ xs,o ≠ .lst xs)->H' q = some o):BookAt C H' b k r m p w:=by
 obtain⟨dx,dk,dr,dm,dp,dw,h1,h2,h3,h4,h5,h6⟩:=h
 exact⟨dx,dk,dr,dm,dp,dw,s _ _ h1 (fun _ z=>nomatch z),s _ _ h2 (fun _ z=>nomatch z),s _ _ h3 (fun _ z=>nomatch z),s _ _ h4 (fun _ z=>nomatch z),s _ _ h5 (fun _ z=>nomatch z),s _ _ h6 (fun _ z=>nomatch z)⟩
theorem AaD {C b:Addr} {H:Hp} {k r m p:List (Key × V)} {w:List (List Key × V)} {nm:Str} {P:Prop} (h:BookAt C H b k r m p w) (hm:∀ {dk dr dm dp dw:Addr},(bkF dk dr dm dp dw).lookup nm = none) (q:P) :
  ∃ a dx fs,V.ref b = V.ref a/\H a = some (.ins C dx fs)/\fs.lookup nm = none/\P:=by
 obtain⟨dx,dk,dr,dm,dp,dw,h1,_⟩:=h
 exact⟨b,dx,_,rfl,h1,hm,q⟩
def Keep (p:Addr) (H H':Hp):Prop:=∀ q o,H q = some o->q ≠ p->H' q = some o
theorem Keep.trans {p:Addr} {H H1 H2:Hp} (a:Keep p H H1) (b:Keep p H1 H2):Keep p H H2:=fun q o h n=>b q o (a q o h n) n
theorem Keep.new {p d:Addr} {H:Hp} {o:HO} (h:H d = none):Keep p H (upd H d o):=fun q u e _=>by rw[Bj (Bv e h)]; exact e
theorem Keep.put {p:Addr} {H:Hp} {o:HO}:Keep p H (upd H p o):=fun q u e n=>by rw[Bj n]; exact e
theorem Keep.free {p:Addr} {H H':Hp} {o:HO} (k:Keep p H H') (hp:H' p = some o) {d:Addr} (h:H' d = none):H d = none:=by
 cases e:H d with
 | none=>rfl
 | some u =>
  by_cases z:d = p
  ·subst z; rw[hp] at h; cases h
  ·rw[k _ _ e z] at h; cases h
def Abo (C:Addr):Sp:=fun vs H Q _=>∃ p dx a b cc xs ys zs signs mates J,vs = [.ref p,.ref a,.ref b,.ref cc]/\H p = some (.ins C dx [])/\H a = some (.lst xs)/\H b = some (.lst ys)/\H cc = some (.lst zs)/\LAt TripAt H xs signs/\LAt PairAt H ys mates/\LAt TrjAt H zs J /\
 (∀ s ∈ signs,Ya s)/\(∀ m ∈ mates,0 <= m.1/\0 <= m.2)/\(signs.map (·.1) ++ Fq mates).Nodup/\AbY (kK signs ++ kM mates) J/\signs.length + 2 * mates.length <= 400 /\
 ∀ H' kvs dx dk dr dm dp dw,Keep p H H'->H dk = none->H dr = none->H dm = none->H dp = none->H dw = none->H' p = some (.ins C dx (bkF dk dr dm dp dw))->H' dk = some (.dK (kK signs ++ kM mates))->H' dr = some (.dK (kR signs))->H' dm = some (.dK (kB mates))->H' dp = some (.dK kvs)->H' dw = some (.dT (kW J))->LAt KvAt H' kvs J->Q .non H'
def Wl (C:Addr):Sp:=fun vs H Q _=>∃ b n k r m p w,vs = [.ref b,.int n]/\BookAt C H b k r m p w/\Q ((Cr k (Sum.inl n)).getD (.str "plain")) H
theorem AdU {C b:Addr} {n:Int} {k r m p:List (Key × V)} {w:List (List Key × V)} {H:Hp} {Q:VK} {E:XK} (h:BookAt C H b k r m p w) (q:Q ((Cr k (Sum.inl n)).getD (.str "plain")) H):Wl C [.ref b,.int n] H Q E:=⟨b,n,k,r,m,p,w,rfl,h,q⟩
def Aa0 (C:Addr):Sp:=fun vs H Q _=>∃ b n k r m p w,vs = [.ref b,.int n]/\BookAt C H b k r m p w/\Q ((Cr m (Sum.inl n)).getD .non) H
inductive PV where
 | non | bl (b:Bool) | int (i:Int) | str (x:Str)
 | lst (xs:List PV) | tup (xs:List PV) | ctp (xs:List PV)
 | dk (kvs:List (Key × PV)) | dt (kvs:List (List Key × PV))
 | bk (S:List Sg) (M:List (Int × Int)) (J:List Jn)
 | scr (ns:List Int)
 | exc (c:Addr) | cls (c:Addr) | ty (n:String)
inductive Rep (K:Frag) (C:Addr) (G:Hp):V->PV->Prop where
 | non:Rep K C G .non .non
 | bl (b:Bool):Rep K C G (.bl b) (.bl b)
 | int (i:Int):Rep K C G (.int i) (.int i)
 | str (x:Str):Rep K C G (.str x) (.str x)
 | lst {a:Addr} {vs:List V} {ps:List PV} (e:G a = some (.lst vs)) (l:vs.length = ps.length) (h:∀ (i:Nat) (v:V) (p:PV),vs[i]? = some v->ps[i]? = some p->Rep K C G v p):Rep K C G (.ref a) (.lst ps)
 | tup {a:Addr} {vs:List V} {ps:List PV} (e:G a = some (.tup vs)) (l:vs.length = ps.length) (h:∀ (i:Nat) (v:V) (p:PV),vs[i]? = some v->ps[i]? = some p->Rep K C G v p):Rep K C G (.ref a) (.tup ps)
 | ctp {a:Addr} {vs:List V} {ps:List PV} (e:∀ H,SqT K H a vs) (l:vs.length = ps.length) (h:∀ (i:Nat) (v:V) (p:PV),vs[i]? = some v->ps[i]? = some p->Rep K C G v p):Rep K C G (.ref a) (.ctp ps)
 | dk {a:Addr} {kvs:List (Key × V)} {ps:List (Key × PV)} (e:G a = some (.dK kvs)) (l:kvs.length = ps.length) (hk:∀ (i:Nat) (v:Key × V) (p:Key × PV),kvs[i]? = some v->ps[i]? = some p->v.1 = p.1)
   (h:∀ (i:Nat) (v:Key × V) (p:Key × PV),kvs[i]? = some v->ps[i]? = some p->Rep K C G v.2 p.2):Rep K C G (.ref a) (.dk ps)
 | dt {a:Addr} {kvs:List (List Key × V)} {ps:List (List Key × PV)} (e:G a = some (.dT kvs)) (l:kvs.length = ps.length) (hk:∀ (i:Nat) (v:List Key × V) (p:List Key × PV),kvs[i]? = some v->ps[i]? = some p->v.1 = p.1)
   (h:∀ (i:Nat) (v:List Key × V) (p:List Key × PV),kvs[i]? = some v->ps[i]? = some p->Rep K C G v.2 p.2):Rep K C G (.ref a) (.dt ps)
 | bk {b:Addr} {S:List Sg} {M:List (Int × Int)} {J:List Jn} {kvs:List (Key × V)} (h:BookAt C G b (kK S ++ kM M) (kR S) (kB M) kvs (kW J)) (l:LAt KvAt G kvs J):Rep K C G (.ref b) (.bk S M J)
 | scr {a:Addr} {ns:List Int} (h:SqL K G a (ns.map V.int)):Rep K C G (.ref a) (.scr ns)
 | exc {a c:Addr} (e:G a = some (.ext (AnL a c))):Rep K C G (.ref a) (.exc c)
 | cls {c:Addr}:Rep K C G (.ref c) (.cls c)
 | ty {n:String}:Rep K C G (.ty n) (.ty n)
section
variable {K:Frag} {C:Addr} {ω:Om} {G G' H H':Hp} {v:V} {p:PV} {a:Addr}
theorem Rep.mono (h:Rep K C G v p) (s:Same G G'):Rep K C G' v p:=by
 induction h with
 | non=>exact .non
 | bl b=>exact .bl b
 | int i=>exact .int i
 | str x=>exact .str x
 | lst e l _ ih=>exact .lst (s _ _ e) l ih
 | tup e l _ ih=>exact .tup (s _ _ e) l ih
 | ctp e l _ ih=>exact .ctp e l ih
 | dk e l hk _ ih=>exact .dk (s _ _ e) l hk ih
 | dt e l hk _ ih=>exact .dt (s _ _ e) l hk ih
 | bk h l=>exact .bk (h.mono fun _ _ e _=>s _ _ e) (l.kvS s)
 | scr h=>exact .scr (s.seq h)
 | exc e=>exact .exc (s _ _ e)
 | cls=>exact .cls
 | ty=>exact .ty
def KRep {κ:Type} (K:Frag) (C:Addr) (G:Hp) (v:κ × V) (p:κ × PV):Prop:=v.1 = p.1/\Rep K C G v.2 p.2
theorem KRep.mono {κ:Type} {v:κ × V} {p:κ × PV} (h:KRep K C G v p) (s:Same G G'):KRep K C G' v p:=⟨h.1,h.2.mono s⟩
abbrev Reps (K:Frag) (C:Addr) (G:Hp) (vs:List V) (ps:List PV):Prop:=LAt (Rep K C) G vs ps
theorem Reps.mono {vs:List V} {ps:List PV} (h:Reps K C G vs ps) (s:Same G G'):Reps K C G' vs ps:=LAt.mono h fun _ _ z=>z.mono s
theorem KReps.mono {κ:Type} {vs:List (κ × V)} {ps:List (κ × PV)} (h:LAt (KRep K C) G vs ps) (s:Same G G'):LAt (KRep K C) G' vs ps:=LAt.mono h fun _ _ z=>z.mono s
theorem Rep.ofL {vs:List V} {ps:List PV} (e:G a = some (.lst vs)) (h:Reps K C G vs ps):Rep K C G (.ref a) (.lst ps):=.lst e h.1 h.2
theorem Rep.ofT {vs:List V} {ps:List PV} (e:G a = some (.tup vs)) (h:Reps K C G vs ps):Rep K C G (.ref a) (.tup ps):=.tup e h.1 h.2
theorem Rep.ofD {vs:List (Key × V)} {ps:List (Key × PV)} (e:G a = some (.dK vs)) (h:LAt (KRep K C) G vs ps):Rep K C G (.ref a) (.dk ps):=.dk e h.1 (fun i v p h1 h2=>(h.2 i v p h1 h2).1) (fun i v p h1 h2=>(h.2 i v p h1 h2).2)
theorem Rep.ofDt {vs:List (List Key × V)} {ps:List (List Key × PV)} (e:G a = some (.dT vs)) (h:LAt (KRep K C) G vs ps):Rep K C G (.ref a) (.dt ps):=.dt e h.1 (fun i v p h1 h2=>(h.2 i v p h1 h2).1) (fun i v p h1 h2=>(h.2 i v p h1 h2).2)
def Rz (o:HO):Prop:=∀ xs,o ≠ .tup xs
def OwnA (K:Frag) (C:Addr) (G H:Hp) (a:Addr):PV->Prop
 | .lst ps=>∃ vs,H a = some (.lst vs)/\Reps K C G vs ps
 | .dk ps=>∃ kvs,H a = some (.dK kvs)/\LAt (KRep K C) G kvs ps
 | .dt ps=>∃ kvs,H a = some (.dT kvs)/\LAt (KRep K C) G kvs ps
 | _=>False
theorem OwnA.ofL {vs:List V} {ps:List PV} (e:H a = some (.lst vs)) (r:Reps K C G vs ps):OwnA K C G H a (.lst ps):=⟨vs,e,r⟩
theorem OwnA.ofD {vs:List (Key × V)} {ps:List (Key × PV)} (e:H a = some (.dK vs)) (r:LAt (KRep K C) G vs ps):OwnA K C G H a (.dk ps):=⟨vs,e,r⟩
theorem OwnA.here (h:OwnA K C G H a p):H a ≠ none:=by
 cases p <;> first | exact h.elim | (obtain⟨_,e,_⟩:=h; rw[e]; exact fun z=>nomatch z)
theorem OwnA.thing (h:OwnA K C G H a p):∃ o,H a = some o/\Rz o:=by
 cases p <;> first | exact h.elim | (obtain⟨_,e,_⟩:=h; exact⟨_,e,fun _ z=>nomatch z⟩)
theorem OwnA.mono (h:OwnA K C G H a p) (s:Same G G') (e:H' a = H a):OwnA K C G' H' a p:=by
 cases p <;> first | exact h.elim | (obtain⟨vs,e1,l⟩:=h; exact⟨vs,by rw[e]; exact e1,l.mono s⟩) | (obtain⟨vs,e1,l⟩:=h; exact⟨vs,by rw[e]; exact e1,KReps.mono l s⟩)
def RepB (K:Frag) (C:Addr) (G H:Hp) (v:V) (p:PV):Prop:=Rep K C G v p\/∃ a,v = .ref a/\OwnA K C G H a p
structure Grow (G H G' H':Hp):Prop where
 g:Same G G'
 h:Same H H'
 i:Same G' H'
 n:∀ a o,H a = some o->Rz o->G a = none->G' a = none
theorem Grow.refl (s:Same G H):Grow G H G H:=⟨Same.refl _,Same.refl _,s,fun _ _ _ _ h=>h⟩
theorem _root_.L2.Same.eq (s:Same H H') {a:Addr} (h:H a ≠ none):H' a = H a:=by
 cases e:H a with
 | none=>exact absurd e h
 | some o=>exact s _ _ e
theorem Grow.trans {G1 H1:Hp} (x:Grow G H G1 H1) (y:Grow G1 H1 G' H'):Grow G H G' H':=⟨x.g.trans y.g,x.h.trans y.h,y.i,fun a o h1 t h2=>y.n a o (x.h _ _ h1) t (x.n a o h1 t h2)⟩
theorem RepB.grow (h:RepB K C G H v p) (w:Grow G H G' H'):RepB K C G' H' v p:=by
 rcases h with h | ⟨a,e,h⟩
 ·exact .inl (h.mono w.g)
 ·exact .inr ⟨a,e,h.mono w.g (w.h.eq h.here)⟩
theorem Grow.put {o:HO} (s:Same G H) (n:H a = none) (s2:Same H H') (e:H' a = some o):Grow G H (upd G a o) H':=by
 have gn:G a = none:=s.free n
 refine⟨Same.new gn,s2,fun b u h=>?_,fun b u h1 _ h2=>?_⟩
 ·by_cases z:b = a
  ·subst z; rw[Bm] at h; rw[e]; exact h
  ·rw[Bj z] at h; exact s2 _ _ (s _ _ h)
 ·rw[Bj (by intro z; subst z; rw[n] at h1; cases h1)]; exact h2
theorem Grow.own (s:Same G H) (s2:Same H H'):Grow G H G H':=⟨Same.refl _,s2,s.trans s2,fun _ _ _ _ h=>h⟩
end
inductive Sl where
 | un | sh (p:PV) | bo (p:PV) | ow (p:PV) | fz (z:Addr × Obj × List (Key × V)) (kvs:List (Key × PV)) | bz (kvs:List (Key × PV)) | fl (z:Addr × List V) (ps:List PV) | om (a:Addr) (p:PV)
abbrev Bi:=List Sl
def SlOk (K:Frag) (C:Addr) (G0 H0:Hp) (own:Nat->Option Addr) (G:Hp) (σ:St) (H:Hp) (i:Nat):Sl->Prop
 | .un=>True
 | .sh p=>∃ v,σ[i]? = some (some v)/\Rep K C G v p
 | .bo p=>∃ v,σ[i]? = some (some v)/\RepB K C G0 H0 v p
 | .ow p=>∃ a,σ[i]? = some (some (.ref a))/\own i = some a/\OwnA K C G H a p
 | .fz z kvs=>σ[i]? = some (some (.ref z.1))/\own i = some z.1/\H z.1 = some (.frz z.2.1 (.dK z.2.2))/\LAt (KRep K C) G z.2.2 kvs
 | .bz kvs=>∃ a o vs,σ[i]? = some (some (.ref a))/\H0 a = some (.frz o (.dK vs))/\LAt (KRep K C) G vs kvs
 | .fl z ps=>σ[i]? = some (some (.ref z.1))/\own i = some z.1/\H z.1 = some (.lst z.2)/\Reps K C G z.2 ps
 | .om a p=>σ[i]? = some (some (.ref a))/\own i = some a/\OwnA K C G H a p
structure Om where
 E:XK
 X:Nat->Prop
 ca:Nat->Addr
def Om.no:Om:=⟨fun _ _ _=>False,fun _=>False,fun _=>0⟩
structure Sat (K:Frag) (C:Addr) (ω:Om) (B G0 H0:Hp) (own:Nat->Option Addr) (G:Hp) (σ:St) (H:Hp) (ρ:Bi):Prop where
 kb:Same B G
 gr:Grow G0 H0 G H
 len:σ.length = ρ.length
 inj:∀ i j a,own i = some a->own j = some a->i = j
 fr:∀ i a,own i = some a->H0 a = none/\G a = none/\∃ o,H a = some o/\Rz o
 sl:∀ i s,ρ[i]? = some s->SlOk K C G0 H0 own G σ H i s
 ex:∀ x H',Same H0 H'->ω.X x->ω.E (.ref (ω.ca x)) none H'
abbrev UE:=Bi->(PV->Prop)->Prop
abbrev UT:=Bi->(Bool->Prop)->Prop
abbrev UA:=Bi->(List PV->Prop)->Prop
structure Fp where
 nx:Bi->Prop
 rt:PV->Prop
 bk:Bi->Prop
 ct:Bi->Prop
abbrev US:=Fp->Bi->Prop
section
variable (K:Frag) (C:Addr) (ω:Om)
def EB (t:TE) (u:UE):Prop:=∀ (B G0 H0:Hp) (own:Nat->Option Addr) (G:Hp) (σ:St) (H:Hp) (ρ:Bi) (P:PV->Prop) (Q:VK),Sat K C ω B G0 H0 own G σ H ρ->u ρ P->(∀ v p G' H',Grow G H G' H'->RepB K C G' H' v p->P p->Q v H')->t σ H Q
def EU (t:TE) (u:UE):Prop:=∀ (B G0 H0:Hp) (own:Nat->Option Addr) (G:Hp) (σ:St) (H:Hp) (ρ:Bi) (P:PV->Prop) (Q:VK),Sat K C ω B G0 H0 own G σ H ρ->u ρ P->(∀ v p G' H',Grow G H G' H'->Rep K C G' v p->P p->Q v H')->t σ H Q
def EF (t:TE) (u:UE):Prop:=∀ (B G0 H0:Hp) (own:Nat->Option Addr) (G:Hp) (σ:St) (H:Hp) (ρ:Bi) (P:PV->Prop) (Q:VK),Sat K C ω B G0 H0 own G σ H ρ->u ρ P->(∀ a p G' H',Grow G H G' H'->H a = none->G' a = none->OwnA K C G' H' a p->P p->Q (.ref a) H')->t σ H Q
def TU (t:TT) (u:UT):Prop:=∀ (B G0 H0:Hp) (own:Nat->Option Addr) (G:Hp) (σ:St) (H:Hp) (ρ:Bi) (P:Bool->Prop) (Q:Bool->Hp->Prop),Sat K C ω B G0 H0 own G σ H ρ->u ρ P->(∀ b G' H',Grow G H G' H'->P b->Q b H')->t σ H Q
def ArgsOk (G H:Hp):List Bool->List V->List PV->Prop
 | [],[],[]=>True
 | true :: ms,v :: vs,p :: ps=>Rep K C G v p/\ArgsOk G H ms vs ps
 | false :: ms,v :: vs,p :: ps=>RepB K C G H v p/\ArgsOk G H ms vs ps
 | _,_,_=>False
def AU (ms:List Bool) (t:TA) (u:UA):Prop:=∀ (B G0 H0:Hp) (own:Nat->Option Addr) (G:Hp) (σ:St) (H:Hp) (ρ:Bi) (P:List PV->Prop) (Q:List V->Hp->Prop),Sat K C ω B G0 H0 own G σ H ρ->u ρ P->(∀ vs ps G' H',Grow G H G' H'->ArgsOk K C G' H' ms vs ps->P ps->Q vs H')->t σ H Q
inductive Rm where
 | sh | fr | mu (a:Addr)
def ROk (rm:Rm) (H0 G H:Hp) (v:V) (p:PV):Prop:=match rm with
 | .sh=>Rep K C G v p
 | .fr=>∃ a,v = .ref a/\H0 a = none/\G a = none/\OwnA K C G H a p
 | .mu b=>∃ p1 p2 a,p = .tup [p1,p2]/\v = .ref a/\H0 a = none/\a ≠ b/\G a = none/\OwnA K C G H a p1/\G b = none/\OwnA K C G H b p2
structure AbJ (rm:Rm) (B G0 H0:Hp) (D:Ends) (d:Fp):Prop where
 nx:∀ own G σ H ρ,Sat K C ω B G0 H0 own G σ H ρ->d.nx ρ->D.nx σ H
 rt:∀ G H v p,Grow G0 H0 G H->ROk K C rm H0 G H v p->d.rt p->D.rt v H
 bk:∀ own G σ H ρ,Sat K C ω B G0 H0 own G σ H ρ->d.bk ρ->D.bk σ H
 ct:∀ own G σ H ρ,Sat K C ω B G0 H0 own G σ H ρ->d.ct ρ->D.ct σ H
def SU (rm:Rm) (t:TS) (u:US):Prop:=∀ (B G0 H0:Hp) (own:Nat->Option Addr) (G:Hp) (σ:St) (H:Hp) (ρ:Bi) (D:Ends) (d:Fp),Sat K C ω B G0 H0 own G σ H ρ->AbJ K C ω rm B G0 H0 D d->u d ρ->t D σ H
def GU (top:Nat) (g:TG) (u:PV->Bi->(Bi->Prop)->Prop):Prop:=∀ (B G0 H0:Hp) (own:Nat->Option Addr) (G:Hp) (σ:St) (H:Hp) (ρ:Bi) (v:V) (p:PV) (P:Bi->Prop) (R:St->Hp->Prop),Sat K C ω B G0 H0 own G σ H ρ->Rep K C G v p->u p ρ P ->
 (∀ own' σ' ρ',Sat K C ω B G0 H0 own' G σ' H ρ'->σ'.drop top = σ.drop top->P ρ'->R σ' H)->g v σ H R
def GsU (top:Nat) (g:TGs) (u:List PV->Bi->(Bi->Prop)->Prop):Prop:=∀ (B G0 H0:Hp) (own:Nat->Option Addr) (G:Hp) (σ:St) (H:Hp) (ρ:Bi) (vs:List V) (ps:List PV) (P:Bi->Prop) (R:St->Hp->Prop),Sat K C ω B G0 H0 own G σ H ρ->Reps K C G vs ps->u ps ρ P ->
 (∀ own' σ' ρ',Sat K C ω B G0 H0 own' G σ' H ρ'->σ'.drop top = σ.drop top->P ρ'->R σ' H)->g vs σ H R
end
section
variable {K:Frag} {C:Addr} {ω:Om} {B G0 H0 G G' H H':Hp} {own:Nat->Option Addr} {σ:St} {ρ:Bi}
theorem SlOk.grow {i:Nat} {s:Sl} (h:SlOk K C G0 H0 own G σ H i s) (w:Grow G H G' H'):SlOk K C G0 H0 own G' σ H' i s:=by
 cases s with
 | un=>trivial
 | sh p=>obtain⟨v,e,r⟩:=h; exact⟨v,e,r.mono w.g⟩
 | bo p=>exact h
 | ow p=>obtain⟨a,e,o,r⟩:=h; exact⟨a,e,o,r.mono w.g (w.h.eq r.here)⟩
 | fz z kvs=>obtain⟨e,o,h1,h2⟩:=h; exact⟨e,o,w.h _ _ h1,KReps.mono h2 w.g⟩
 | bz kvs=>obtain⟨a,o,vs,e,h1,h2⟩:=h; exact⟨a,o,vs,e,h1,KReps.mono h2 w.g⟩
 | fl z ps=>obtain⟨e,o,h1,h2⟩:=h; exact⟨e,o,w.h _ _ h1,h2.mono w.g⟩
 | om a p=>obtain⟨e,o,r⟩:=h; exact⟨e,o,r.mono w.g (w.h.eq r.here)⟩
theorem Sat.grow (S:Sat K C ω B G0 H0 own G σ H ρ) (w:Grow G H G' H'):Sat K C ω B G0 H0 own G' σ H' ρ :=
 ⟨S.kb.trans w.g,S.gr.trans w,S.len,S.inj,fun i a e=>let ⟨f0,fg,o,ho,ht⟩:=S.fr i a e; ⟨f0,w.n a o ho ht fg,o,w.h _ _ ho,ht⟩,fun i s e=>(S.sl i s e).grow w,S.ex⟩
theorem Sat.base {B':Hp} (S:Sat K C ω B G0 H0 own G σ H ρ) (h:Same B' G):Sat K C ω B' G0 H0 own G σ H ρ:=⟨h,S.gr,S.len,S.inj,S.fr,S.sl,S.ex⟩
def Jo (own:Nat->Option Addr) (i:Nat):Nat->Option Addr:=fun j=>if j = i then none else own j
def Rc (own:Nat->Option Addr) (i:Nat) (a:Addr):Nat->Option Addr:=fun j=>if j = i then some a else own j
theorem Fc {own:Nat->Option Addr} {i j:Nat} {a:Addr} (h:Jo own i j = some a):j ≠ i/\own j = some a:=by
 unfold Jo at h
 split at h
 ·cases h
 ·rename_i z; exact⟨z,h⟩
theorem Nc {α:Type} {l:List α} {i j:Nat} {x s:α} (h:(l.set i x)[j]? = some s):(j = i/\s = x/\i < l.length)\/(j ≠ i/\l[j]? = some s):=by
 by_cases z:j = i
 ·subst z
  rw[List.getElem?_set_self'] at h
  cases e:l[j]? with
  | none=>rw[e] at h; cases h
  | some y=>rw[e] at h; cases h; exact .inl ⟨rfl,rfl,(List.getElem?_eq_some_iff.mp e).1⟩
 ·rw[getElem?_set_ne (Ne.symm z)] at h; exact .inr ⟨z,h⟩
theorem Th {α:Type} {l:List α} {i j:Nat} {x:α} (z:j ≠ i):(l.set i x)[j]? = l[j]?:=getElem?_set_ne (Ne.symm z)
theorem Ju {α:Type} {l:List α} {i:Nat} {x:α} (h:i < l.length):(l.set i x)[i]? = some x:=by rw[getElem?_set_self h]
theorem SlOk.other {own':Nat->Option Addr} {σ':St} {i:Nat} {s:Sl} (h:SlOk K C G0 H0 own G σ H i s) (e1:σ'[i]? = σ[i]?) (e2:own' i = own i):SlOk K C G0 H0 own' G σ' H i s:=by
 cases s with
 | un=>trivial
 | sh p=>obtain⟨v,e,r⟩:=h; exact⟨v,e1.trans e,r⟩
 | bo p=>obtain⟨v,e,r⟩:=h; exact⟨v,e1.trans e,r⟩
 | ow p=>obtain⟨a,e,o,r⟩:=h; exact⟨a,e1.trans e,e2.trans o,r⟩
 | fz z kvs=>obtain⟨e,o,r⟩:=h; exact⟨e1.trans e,e2.trans o,r⟩
 | bz kvs=>obtain⟨a,o,vs,e,r⟩:=h; exact⟨a,o,vs,e1.trans e,r⟩
 | fl z ps=>obtain⟨e,o,r⟩:=h; exact⟨e1.trans e,e2.trans o,r⟩
 | om a p=>obtain⟨e,o,r⟩:=h; exact⟨e1.trans e,e2.trans o,r⟩
theorem Sat.setS (S:Sat K C ω B G0 H0 own G σ H ρ) {i:Nat} {v:V} {p:PV} (r:Rep K C G v p):Sat K C ω B G0 H0 (Jo own i) G (σ.set i (some v)) H (ρ.set i (.sh p)):=by
 refine⟨S.kb,S.gr,by rw[length_set,length_set,S.len],fun j k a h1 h2=>S.inj j k a (Fc h1).2 (Fc h2).2,fun j a h=>S.fr j a (Fc h).2,fun j s h=>?_,S.ex⟩
 rcases Nc h with ⟨rfl,rfl,hl⟩ | ⟨z,h⟩
 ·exact⟨v,Ju (by rw[S.len]; exact hl),r⟩
 ·exact (S.sl j s h).other (Th z) (by unfold Jo; rw[if_neg z])
theorem Sat.setO (S:Sat K C ω B G0 H0 own G σ H ρ) {i:Nat} {a:Addr} {p:PV} (r:OwnA K C G H a p) (f0:H0 a = none) (fg:G a = none) (fo:∀ j,own j ≠ some a):Sat K C ω B G0 H0 (Rc own i a) G (σ.set i (some (.ref a))) H (ρ.set i (.ow p)):=by
 refine⟨S.kb,S.gr,by rw[length_set,length_set,S.len],fun j k b h1 h2=>?_,fun j b h=>?_,fun j s h=>?_,S.ex⟩
 ·unfold Rc at h1 h2
  split at h1 <;> split at h2
  ·rename_i z1 z2; rw[z1,z2]
  ·cases h1; exact absurd h2 (fo k)
  ·cases h2; exact absurd h1 (fo j)
  ·exact S.inj j k b h1 h2
 ·unfold Rc at h
  split at h
  ·cases h; exact⟨f0,fg,r.thing⟩
  ·exact S.fr j b h
 ·rcases Nc h with ⟨rfl,rfl,hl⟩ | ⟨z,h⟩
  ·exact⟨a,Ju (by rw[S.len]; exact hl),by unfold Rc; rw[if_pos rfl],r⟩
  ·exact (S.sl j s h).other (Th z) (by unfold Rc; rw[if_neg z])
theorem Sat.chg (S:Sat K C ω B G0 H0 own G σ H ρ) {i:Nat} {a:Addr} {p:PV} (e:own i = some a) (hi:σ[i]? = some (some (.ref a))) (c:Chg a H H') (r:OwnA K C G H' a p):Sat K C ω B G0 H0 own G σ H' (ρ.set i (.ow p)):=by
 obtain⟨f0,fg,fh⟩:=S.fr i a e
 have ng:∀ b o,G b = some o->b ≠ a:=fun b o h z=>by subst z; rw[fg] at h; cases h
 refine⟨S.kb,⟨S.gr.g,fun b o h=>c _ _ (S.gr.h _ _ h) (by intro z; subst z; rw[f0] at h; cases h),fun b o h=>c _ _ (S.gr.i _ _ h) (ng b o h),S.gr.n⟩,by rw[length_set,S.len],S.inj,fun j b h=>?_,fun j s h=>?_,S.ex⟩
 ·obtain⟨q0,qg,o,qh,qt⟩:=S.fr j b h
  refine⟨q0,qg,?_⟩
  by_cases z:b = a
  ·subst z; exact r.thing
  ·exact⟨o,c _ _ qh z,qt⟩
 ·rcases Nc h with ⟨rfl,rfl,hl⟩ | ⟨z,h⟩
  ·exact⟨a,hi,e,r⟩
  ·have q:=S.sl j s h
   cases s with
   | un=>trivial
   | sh p=>exact q
   | bo p=>exact q
   | bz kvs=>exact q
   | fz y kvs =>
    obtain⟨e1,o,h1,h2⟩:=q
    exact⟨e1,o,c _ _ h1 fun w=>z (S.inj j i a (by rw[<- w]; exact o) e),h2⟩
   | fl y ps =>
    obtain⟨e1,o,h1,h2⟩:=q
    exact⟨e1,o,c _ _ h1 fun w=>z (S.inj j i a (by rw[<- w]; exact o) e),h2⟩
   | om b p' =>
    obtain⟨e1,o,r1⟩:=q
    refine⟨e1,o,r1.mono (Same.refl _) ?_⟩
    cases w:H b with
    | none=>exact absurd w r1.here
    | some o'=>exact c _ _ w fun w=>z (S.inj j i a (by rw[<- w]; exact o) e)
   | ow p' =>
    obtain⟨b,e1,o,r1⟩:=q
    have nb:b ≠ a:=fun w=>z (S.inj j i a (by rw[<- w]; exact o) e)
    refine⟨b,e1,o,r1.mono (Same.refl _) ?_⟩
    cases w:H b with
    | none=>exact absurd w r1.here
    | some o=>exact c _ _ w nb
def Qj:Sl->Sl
 | .ow p=>.sh p
 | s=>s
def Jv (i:Nat) (ρ:Bi):Bi:=match ρ[i]? with
 | some s=>ρ.set i (Qj s)
 | none=>ρ
theorem Sat.share (S:Sat K C ω B G0 H0 own G σ H ρ) (i:Nat):∃ own' G',Sat K C ω B G0 H0 own' G' σ H (Jv i ρ):=by
 cases e:ρ[i]? with
 | none=>exact⟨own,G,by unfold Jv; rw[e]; exact S⟩
 | some s =>
  have hl:i < ρ.length:=(List.getElem?_eq_some_iff.mp e).1
  have same:Qj s = s->∃ own' G',Sat K C ω B G0 H0 own' G' σ H (Jv i ρ):=fun z=>⟨own,G,by
   unfold Jv; rw[e]
   have:ρ.set i (Qj s) = ρ:=by
    rw[z]
    refine ext_getElem? fun j=>?_
    by_cases w:j = i
    ·subst w; rw[Ju hl,e]
    ·rw[Th w]
   simp only [this]; exact S⟩
  cases s with
  | un=>exact same rfl
  | sh p=>exact same rfl
  | bo p=>exact same rfl
  | fz _ _=>exact same rfl
  | bz _=>exact same rfl
  | fl _ _=>exact same rfl
  | om _ _=>exact same rfl
  | ow p =>
   obtain⟨a,e1,o,r⟩:=S.sl i _ e
   obtain⟨f0,fg,ob,hob,_⟩:=S.fr i a o
   have sg:Same G (upd G a ob):=Same.new fg
   have rp:Rep K C (upd G a ob) (.ref a) p:=by
    cases p <;> first | exact r.elim | skip
    ·obtain⟨vs,h1,h2⟩:=r; rw[hob] at h1; cases h1; exact Rep.ofL Bm (h2.mono sg)
    ·obtain⟨vs,h1,h2⟩:=r; rw[hob] at h1; cases h1; exact Rep.ofD Bm (KReps.mono h2 sg)
    ·obtain⟨vs,h1,h2⟩:=r; rw[hob] at h1; cases h1; exact Rep.ofDt Bm (KReps.mono h2 sg)
   have gi:Same (upd G a ob) H:=fun b u h=>by
    by_cases z:b = a
    ·subst z; rw[Bm] at h; rw[hob]; exact h
    ·rw[Bj z] at h; exact S.gr.i _ _ h
   have ge:∀ b,b ≠ a->upd G a ob b = G b:=fun b z=>Bj z
   refine⟨Jo own i,upd G a ob,S.kb.trans sg,⟨S.gr.g.trans sg,S.gr.h,gi,fun b u h1 t h2=>?_⟩,?_,fun j k b h1 h2=>S.inj j k b (Fc h1).2 (Fc h2).2,fun j b h=>?_,fun j s h=>?_,S.ex⟩
   ·rw[ge b (by intro z; subst z; rw[f0] at h1; cases h1)]; exact S.gr.n b u h1 t h2
   ·unfold Jv; rw[e]; simp only [length_set]; exact S.len
   ·obtain⟨nj,h⟩:=Fc h
    obtain⟨q0,qg,qh⟩:=S.fr j b h
    exact⟨q0,by rw[ge b (by intro z; subst z; exact nj (S.inj j i b h o))]; exact qg,qh⟩
   ·have h':(ρ.set i (.sh p))[j]? = some s:=by
     unfold Jv at h; rw[e] at h; exact h
    rcases Nc h' with ⟨rfl,rfl,_⟩ | ⟨z,h2⟩
    ·exact⟨_,e1,rp⟩
    ·have q:=S.sl j s h2
     cases s with
     | un=>trivial
     | sh p'=>obtain⟨v,w1,w2⟩:=q; exact⟨v,w1,w2.mono sg⟩
     | bo p'=>exact q
     | fz y kvs=>obtain⟨w0,w1,w2,w3⟩:=q; exact⟨w0,by unfold Jo; rw[if_neg z]; exact w1,w2,KReps.mono w3 sg⟩
     | bz kvs=>obtain⟨b,o,vs,w0,w1,w2⟩:=q; exact⟨b,o,vs,w0,w1,KReps.mono w2 sg⟩
     | fl y ps=>obtain⟨w0,w1,w2,w3⟩:=q; exact⟨w0,by unfold Jo; rw[if_neg z]; exact w1,w2,w3.mono sg⟩
     | om b p'=>obtain⟨w0,w1,w2⟩:=q; exact⟨w0,by unfold Jo; rw[if_neg z]; exact w1,w2.mono sg rfl⟩
     | ow p' =>
      obtain⟨b,w1,w2,w3⟩:=q
      exact⟨b,w1,by unfold Jo; rw[if_neg z]; exact w2,w3.mono sg rfl⟩
end
section
variable {K:Frag} {C:Addr} {ω:Om}
theorem EU.eb {t:TE} {u:UE} (h:EU K C ω t u):EB K C ω t u:=fun B G0 H0 own G σ H ρ P Q S hu k=>h B G0 H0 own G σ H ρ P Q S hu fun v p G' H' w r hp=>k v p G' H' w (.inl r) hp
theorem EF.eb {t:TE} {u:UE} (h:EF K C ω t u):EB K C ω t u:=fun B G0 H0 own G σ H ρ P Q S hu k=>h B G0 H0 own G σ H ρ P Q S hu fun a p G' H' w _ _ r hp=>k _ p G' H' w (.inr ⟨a,rfl,r⟩) hp
theorem AeX {G H G' H':Hp} {a:Addr} {p:PV} (w:Grow G H G' H') (n:H a = none) (g:G' a = none) (r:OwnA K C G' H' a p):∃ G'',Grow G H G'' H'/\Rep K C G'' (.ref a) p:=by
 obtain⟨ob,hob⟩:∃ ob,H' a = some ob:=by
  cases e:H' a with
  | none=>exact absurd e r.here
  | some x=>exact⟨x,rfl⟩
 have sg:Same G' (upd G' a ob):=Same.new g
 refine⟨upd G' a ob,⟨w.g.trans sg,w.h,fun b u h=>?_,fun b u h1 t h2=>?_⟩,?_⟩
 ·by_cases z:b = a
  ·subst z; rw[Bm] at h; rw[hob]; exact h
  ·rw[Bj z] at h; exact w.i _ _ h
 ·rw[Bj (by intro z; subst z; rw[n] at h1; cases h1)]; exact w.n b u h1 t h2
 ·cases p <;> first | exact r.elim | skip
  ·obtain⟨vs,h1,h2⟩:=r; rw[hob] at h1; cases h1; exact Rep.ofL Bm (h2.mono sg)
  ·obtain⟨vs,h1,h2⟩:=r; rw[hob] at h1; cases h1; exact Rep.ofD Bm (KReps.mono h2 sg)
  ·obtain⟨vs,h1,h2⟩:=r; rw[hob] at h1; cases h1; exact Rep.ofDt Bm (KReps.mono h2 sg)
theorem EF.eu {t:TE} {u:UE} (h:EF K C ω t u):EU K C ω t u:=fun B G0 H0 own G σ H ρ P Q S hu k=>h B G0 H0 own G σ H ρ P Q S hu fun a p G' H' w n g r hp =>
 let ⟨G'',w2,r2⟩:=AeX w n g r
 k _ p G'' H' w2 r2 hp
def Sl.val:Sl->Option PV
 | .un=>none
 | .sh p=>some p
 | .bo p=>some p
 | .ow p=>some p
 | .fz _ _=>none
 | .bz _=>none
 | .fl _ ps=>some (.lst ps)
 | .om _ p=>some p
def AkV (i:Nat):UE:=fun ρ P=>∃ s p,ρ[i]? = some s/\s.val = some p/\P p
def Agw (i:Nat):UE:=fun ρ P=>∃ p,ρ[i]? = some (.sh p)/\P p
theorem Bb {i:Nat}:EB K C ω (Fg i) (AkV i):=fun B G0 H0 own G σ H ρ P Q S ⟨s,p,h1,h2,h3⟩ k=>by
 have q:=S.sl i s h1
 have w:=Grow.refl S.gr.i
 cases s with
 | un=>cases h2
 | sh p'=>cases h2; obtain⟨v,e,r⟩:=q; exact⟨v,e,k v _ G H w (.inl r) h3⟩
 | bo p'=>cases h2; obtain⟨v,e,r⟩:=q; exact⟨v,e,k v _ G H w (r.grow S.gr) h3⟩
 | ow p'=>cases h2; obtain⟨a,e,_,r⟩:=q; exact⟨_,e,k _ _ G H w (.inr ⟨a,rfl,r⟩) h3⟩
 | fz _ _=>cases h2
 | bz _=>cases h2
 | fl z ps=>cases h2; obtain⟨e,_,h1,r⟩:=q; exact⟨_,e,k _ _ G H w (.inr ⟨z.1,rfl,OwnA.ofL h1 r⟩) h3⟩
 | om a p'=>cases h2; obtain⟨e,_,r⟩:=q; exact⟨_,e,k _ _ G H w (.inr ⟨a,rfl,r⟩) h3⟩
theorem Br {i:Nat}:EU K C ω (Fg i) (Agw i):=fun B G0 H0 own G σ H ρ P Q S ⟨p,h1,h3⟩ k=>by
 obtain⟨v,e,r⟩:=S.sl i _ h1
 exact⟨v,e,k v _ G H (Grow.refl S.gr.i) r h3⟩
def uC (p:PV):UE:=fun _ P=>P p
theorem Tm {v:V} {p:PV} (h:∀ G,Rep K C G v p):EU K C ω (tC v) (uC p):=fun B G0 H0 own G σ H ρ P Q S hu k=>k v p G H (Grow.refl S.gr.i) (h G) hu
theorem Bg {i:Int}:EU K C ω (tC (.int i)) (uC (.int i)):=Tm fun _=>.int i
theorem Rg {b:Bool}:EU K C ω (tC (.bl b)) (uC (.bl b)):=Tm fun _=>.bl b
theorem Cn {x:Str}:EU K C ω (tC (.str x)) (uC (.str x)):=Tm fun _=>.str x
theorem Uv:EU K C ω (tC .non) (uC .non):=Tm fun _=>.non
theorem RepB.int {G H:Hp} {v:V} {i:Int} (h:RepB K C G H v (.int i)):v = .int i:=by
 rcases h with h | ⟨a,_,h⟩
 ·cases h; rfl
 ·exact h.elim
theorem RepB.bl {G H:Hp} {v:V} {b:Bool} (h:RepB K C G H v (.bl b)):v = .bl b:=by
 rcases h with h | ⟨a,_,h⟩
 ·cases h; rfl
 ·exact h.elim
theorem RepB.str {G H:Hp} {v:V} {b:Str} (h:RepB K C G H v (.str b)):v = .str b:=by
 rcases h with h | ⟨a,_,h⟩
 ·cases h; rfl
 ·exact h.elim
theorem RepB.lst {G H:Hp} {v:V} {ps:List PV} (i:Same G H) (h:RepB K C G H v (.lst ps)):∃ a vs,v = .ref a/\H a = some (.lst vs)/\Reps K C G vs ps:=by
 rcases h with h | ⟨a,e,vs,h1,h2⟩
 ·cases h with
  | lst e l q=>exact⟨_,_,rfl,i _ _ e,l,q⟩
 ·exact⟨a,vs,e,h1,h2⟩
theorem RepB.tup {G H:Hp} {v:V} {ps:List PV} (i:Same G H) (h:RepB K C G H v (.tup ps)):∃ a vs,v = .ref a/\H a = some (.tup vs)/\Reps K C G vs ps:=by
 rcases h with h | ⟨a,e,h⟩
 ·cases h with
  | tup e l q=>exact⟨_,_,rfl,i _ _ e,l,q⟩
 ·exact h.elim
theorem RepB.scr {G H:Hp} {v:V} {ns:List Int} (i:Same G H) (h:RepB K C G H v (.scr ns)):∃ a,v = .ref a/\SqL K H a (ns.map V.int):=by
 rcases h with h | ⟨a,e,h⟩
 ·cases h with
  | scr e=>exact⟨_,rfl,i.seq e⟩
 ·exact h.elim
theorem RepB.dk {G H:Hp} {v:V} {ps:List (Key × PV)} (i:Same G H) (h:RepB K C G H v (.dk ps)):∃ a kvs,v = .ref a/\H a = some (.dK kvs)/\LAt (KRep K C) G kvs ps:=by
 rcases h with h | ⟨a,e,vs,h1,h2⟩
 ·cases h with
  | dk e l hk q=>exact⟨_,_,rfl,i _ _ e,l,fun i v p h1 h2=>⟨hk i v p h1 h2,q i v p h1 h2⟩⟩
 ·exact⟨a,vs,e,h1,h2⟩
theorem RepB.dt {G H:Hp} {v:V} {ps:List (List Key × PV)} (i:Same G H) (h:RepB K C G H v (.dt ps)):∃ a kvs,v = .ref a/\H a = some (.dT kvs)/\LAt (KRep K C) G kvs ps:=by
 rcases h with h | ⟨a,e,vs,h1,h2⟩
 ·cases h with
  | dt e l hk q=>exact⟨_,_,rfl,i _ _ e,l,fun i v p h1 h2=>⟨hk i v p h1 h2,q i v p h1 h2⟩⟩
 ·exact⟨a,vs,e,h1,h2⟩
theorem two {ta tb:TE} {ua ub:UE} {r:R2} (ha:EB K C ω ta ua) (hb:EB K C ω tb ub) {B G0 H0:Hp} {own:Nat->Option Addr} {G:Hp} {σ:St} {H:Hp} {ρ:Bi} {Q:VK} {P:PV->PV->Prop} (S:Sat K C ω B G0 H0 own G σ H ρ)
  (hu:ua ρ fun p=>ub ρ fun q=>P p q) (k:∀ v w p q G' H',Grow G H G' H'->RepB K C G' H' v p->RepB K C G' H' w q->P p q->r v w H' Q):tOp r ta tb σ H Q :=
 ha B G0 H0 own G σ H ρ _ _ S hu fun v p G1 H1 w1 r1 h1=>hb B G0 H0 own G1 σ H1 ρ _ _ (S.grow w1) h1 fun w q G2 H2 w2 r2 h2=>k v w p q G2 H2 (w1.trans w2) (r1.grow w2) r2 h2
def bI0 (g:Int->Int->PV) (p q:PV) (P:PV->Prop):Prop:=∃ i j,p = .int i/\q = .int j/\P (g i j)
def uI0 (g:Int->Int->PV) (ua ub:UE):UE:=fun ρ P=>ua ρ fun p=>ub ρ fun q=>bI0 g p q P
def bI (c:Int->Int->Prop) (g:Int->Int->PV) (p q:PV) (P:PV->Prop):Prop:=∃ i j,p = .int i/\q = .int j/\c i j/\P (g i j)
def uI (c:Int->Int->Prop) (g:Int->Int->PV) (ua ub:UE):UE:=fun ρ P=>ua ρ fun p=>ub ρ fun q=>bI c g p q P
theorem Fa {g:Int->Int->V} {g':Int->Int->PV} {ta tb:TE} {ua ub:UE} (hg:∀ G i j,Rep K C G (g i j) (g' i j)) (ha:EB K C ω ta ua) (hb:EB K C ω tb ub):EU K C ω (tOp (rI0 g) ta tb) (uI0 g' ua ub) :=
 fun B G0 H0 own G σ H ρ P Q S hu k=>two ha hb S hu fun v w p q G' H' gr r1 r2 ⟨i,j,e1,e2,h⟩=>by
  subst e1 e2
  exact⟨i,j,r1.int,r2.int,k _ _ G' H' gr (hg G' i j) h⟩
theorem Cz {c:Int->Int->Prop} {g:Int->Int->V} {g':Int->Int->PV} {ta tb:TE} {ua ub:UE} (hg:∀ G i j,Rep K C G (g i j) (g' i j)) (ha:EB K C ω ta ua) (hb:EB K C ω tb ub):EU K C ω (tOp (rI c g) ta tb) (uI c g' ua ub) :=
 fun B G0 H0 own G σ H ρ P Q S hu k=>two ha hb S hu fun v w p q G' H' gr r1 r2 ⟨i,j,e1,e2,hc,h⟩=>by
  subst e1 e2
  exact⟨i,j,r1.int,r2.int,hc,k _ _ G' H' gr (hg G' i j) h⟩
def bU (g:Int->PV) (p:PV) (P:PV->Prop):Prop:=∃ i,p = .int i/\P (g i)
def uU (g:Int->PV) (ua:UE):UE:=fun ρ P=>ua ρ fun p=>bU g p P
theorem Ug {g:Int->V} {g':Int->PV} {ta:TE} {ua:UE} (hg:∀ G i,Rep K C G (g i) (g' i)) (ha:EB K C ω ta ua):EU K C ω (tUn (rU g) ta) (uU g' ua) :=
 fun B G0 H0 own G σ H ρ P Q S hu k=>ha B G0 H0 own G σ H ρ _ _ S hu fun v p G' H' w r ⟨i,e,h⟩=>by
  subst e
  exact⟨i,r.int,k _ _ G' H' w (hg G' i) h⟩
def Aao (neg:Bool) (p q:PV) (P:PV->Prop):Prop:=(∃ i j,p = .int i/\q = .int j/\P (.bl (if neg then !decide (i = j) else decide (i = j))))\/(∃ i j,p = .str i/\q = .str j/\P (.bl (if neg then !decide (i = j) else decide (i = j))))
def AfM (neg:Bool) (ua ub:UE):UE:=fun ρ P=>ua ρ fun p=>ub ρ fun q=>Aao neg p q P
theorem Dv {ta tb:TE} {ua ub:UE} (ha:EB K C ω ta ua) (hb:EB K C ω tb ub):EU K C ω (tOp rEq ta tb) (AfM false ua ub) :=
 fun B G0 H0 own G σ H ρ P Q S hu k=>two ha hb S hu fun v w p q G' H' gr r1 r2 h=>by
  rcases h with ⟨i,j,e1,e2,h⟩ | ⟨i,j,e1,e2,h⟩
  ·subst e1 e2; rw[r1.int,r2.int]; exact Ahp (k _ _ G' H' gr (.bl _) h)
  ·subst e1 e2; rw[r1.str,r2.str]; exact AhW (k _ _ G' H' gr (.bl _) h)
theorem Acq {ta tb:TE} {ua ub:UE} (ha:EB K C ω ta ua) (hb:EB K C ω tb ub):EU K C ω (tOp rNe ta tb) (AfM true ua ub) :=
 fun B G0 H0 own G σ H ρ P Q S hu k=>two ha hb S hu fun v w p q G' H' gr r1 r2 h=>by
  rcases h with ⟨i,j,e1,e2,h⟩ | ⟨i,j,e1,e2,h⟩
  ·subst e1 e2; rw[r1.int,r2.int]; exact AhG (k _ _ G' H' gr (.bl _) h)
  ·subst e1 e2; rw[r1.str,r2.str]; exact AgR (k _ _ G' H' gr (.bl _) h)
def isN:PV->Bool
 | .non=>true
 | _=>false
theorem Adw {G H:Hp} {v:V} {p:PV} (r:RepB K C G H v p):decide (v = .non) = isN p:=by
 rcases r with r | ⟨a,e,r⟩
 ·cases r <;> first | rfl | exact decide_eq_false (fun z=>nomatch z)
 ·subst e
  cases p <;> first | exact r.elim | exact decide_eq_false (fun z=>nomatch z)
def AbN (neg:Bool) (ua:UE):UE:=fun ρ P=>ua ρ fun p=>P (.bl (if neg then !isN p else isN p))
theorem Akg {ta:TE} {ua:UE} (ha:EB K C ω ta ua):EU K C ω (AlQ ta) (AbN false ua) :=
 fun B G0 H0 own G σ H ρ P Q S hu k=>ha B G0 H0 own G σ H ρ _ _ S hu fun v p G' H' w r h=>by rw[Adw r]; exact k _ _ G' H' w (.bl _) h
theorem Lx {ta:TE} {ua:UE} (ha:EB K C ω ta ua):EU K C ω (Ahh ta) (AbN true ua) :=
 fun B G0 H0 own G σ H ρ P Q S hu k=>ha B G0 H0 own G σ H ρ _ _ S hu fun v p G' H' w r h=>by rw[Adw r]; exact k _ _ G' H' w (.bl _) h
def bB (p:PV) (P:Bool->Prop):Prop:=∃ b,p = .bl b/\P b
def uB (ua:UE):UT:=fun ρ P=>ua ρ fun p=>bB p P
theorem Cw {ta:TE} {ua:UE} (ha:EB K C ω ta ua):TU K C ω (tB ta) (uB ua) :=
 fun B G0 H0 own G σ H ρ P Q S hu k=>ha B G0 H0 own G σ H ρ _ _ S hu fun v p G' H' w r ⟨b,e,h⟩=>by subst e; exact⟨b,r.bl,k b G' H' w h⟩
theorem Lb {ta:TE} {ua:UE} (ha:EB K C ω ta ua):TU K C ω (AbE ta) (uB ua) :=
 fun B G0 H0 own G σ H ρ P Q S hu k=>ha B G0 H0 own G σ H ρ _ _ S hu fun v p G' H' w r ⟨b,e,h⟩=>by subst e; exact⟨b,r.bl,k b G' H' w h⟩
def Alz (ua ub:UT):UT:=fun ρ P=>ua ρ fun b=>if b = true then ub ρ P else P false
def uOr (ua ub:UT):UT:=fun ρ P=>ua ρ fun b=>if b = true then P true else ub ρ P
def AjO (ua:UT):UT:=fun ρ P=>ua ρ fun b=>P (!b)
theorem Vl {ta tb:TT} {ua ub:UT} (ha:TU K C ω ta ua) (hb:TU K C ω tb ub):TU K C ω (Agi ta tb) (Alz ua ub) :=
 fun B G0 H0 own G σ H ρ P Q S hu k=>ha B G0 H0 own G σ H ρ _ _ S hu fun b G' H' w h=>by
  cases b with
  | true=>exact Ln (hb B G0 H0 own G' σ H' ρ P Q (S.grow w) (by simpa using h) fun c G2 H2 w2 h2=>k c G2 H2 (w.trans w2) h2)
  | false=>exact Nb (k _ G' H' w (by simpa using h))
theorem Nj {ta tb:TT} {ua ub:UT} (ha:TU K C ω ta ua) (hb:TU K C ω tb ub):TU K C ω (tOr ta tb) (uOr ua ub) :=
 fun B G0 H0 own G σ H ρ P Q S hu k=>ha B G0 H0 own G σ H ρ _ _ S hu fun b G' H' w h=>by
  cases b with
  | false=>exact Nb (hb B G0 H0 own G' σ H' ρ P Q (S.grow w) (by simpa using h) fun c G2 H2 w2 h2=>k c G2 H2 (w.trans w2) h2)
  | true=>exact Ln (k _ G' H' w (by simpa using h))
theorem Nu {ta:TT} {ua:UT} (ha:TU K C ω ta ua):TU K C ω (AfG ta) (AjO ua) :=
 fun B G0 H0 own G σ H ρ P Q S hu k=>ha B G0 H0 own G σ H ρ _ _ S hu fun b G' H' w h=>k _ G' H' w h
def AhI (ua ub:UE):UE:=fun ρ P=>ua ρ fun p=>bB p fun b=>if b = true then ub ρ P else P (.bl false)
def Ahx (ua:UE):UE:=fun ρ P=>ua ρ fun p=>bB p fun b=>P (.bl (!b))
theorem AiI {ta tb:TE} {ua ub:UE} (ha:EB K C ω ta ua) (hb:EU K C ω tb ub):EU K C ω (AcV ta tb) (AhI ua ub) :=
 fun B G0 H0 own G σ H ρ P Q S hu k=>ha B G0 H0 own G σ H ρ _ _ S hu fun v p G' H' w r ⟨b,e,h⟩=>by
  subst e
  refine⟨b,r.bl,?_⟩
  cases b with
  | true=>exact Ln (hb B G0 H0 own G' σ H' ρ P Q (S.grow w) (by simpa using h) fun c p2 G2 H2 w2 h2=>k c p2 G2 H2 (w.trans w2) h2)
  | false=>exact Nb (k _ _ G' H' w (.bl _) (by simpa using h))
theorem AhY {ta:TE} {ua:UE} (ha:EB K C ω ta ua):EU K C ω (Ab6 ta) (Ahx ua) :=
 fun B G0 H0 own G σ H ρ P Q S hu k=>ha B G0 H0 own G σ H ρ _ _ S hu fun v p G' H' w r ⟨b,e,h⟩=>by subst e; exact⟨b,r.bl,k _ _ G' H' w (.bl _) h⟩
def uIf (uc:UT) (ua ub:UE):UE:=fun ρ P=>uc ρ fun b=>if b = true then ua ρ P else ub ρ P
theorem Nz {tc:TT} {ta tb:TE} {uc:UT} {ua ub:UE} (hc:TU K C ω tc uc) (ha:EU K C ω ta ua) (hb:EU K C ω tb ub):EU K C ω (tIf tc ta tb) (uIf uc ua ub) :=
 fun B G0 H0 own G σ H ρ P Q S hu k=>hc B G0 H0 own G σ H ρ _ _ S hu fun b G' H' w h=>by
  cases b with
  | true=>exact Ln (ha B G0 H0 own G' σ H' ρ P Q (S.grow w) (by simpa using h) fun c p2 G2 H2 w2 h2=>k c p2 G2 H2 (w.trans w2) h2)
  | false=>exact Nb (hb B G0 H0 own G' σ H' ρ P Q (S.grow w) (by simpa using h) fun c p2 G2 H2 w2 h2=>k c p2 G2 H2 (w.trans w2) h2)
end
section
variable {K:Frag} {C:Addr} {ω:Om}
theorem ArgsOk.len {G H:Hp}:∀ {ms:List Bool} {vs:List V} {ps:List PV},ArgsOk K C G H ms vs ps->vs.length = ms.length/\ps.length = ms.length
 | [],[],[],_=>⟨rfl,rfl⟩
 | true :: _,_ :: _,_ :: _,h=>⟨congrArg Nat.succ h.2.len.1,congrArg Nat.succ h.2.len.2⟩
 | false :: _,_ :: _,_ :: _,h=>⟨congrArg Nat.succ h.2.len.1,congrArg Nat.succ h.2.len.2⟩
 | [],_ :: _,_,h=>h.elim
 | [],[],_ :: _,h=>h.elim
 | true :: _,[],_,h=>by cases h
 | false :: _,[],_,h=>by cases h
 | true :: _,_ :: _,[],h=>by cases h
 | false :: _,_ :: _,[],h=>by cases h
theorem ArgsOk.reps {G H:Hp}:∀ {n:Nat} {vs:List V} {ps:List PV},ArgsOk K C G H (replicate n true) vs ps->Reps K C G vs ps
 | 0,[],[],_=>LAt.nil
 | 0,_ :: _,_,h=>by cases h
 | 0,[],_ :: _,h=>by cases h
 | _ + 1,[],_,h=>by cases h
 | _ + 1,_ :: _,[],h=>by cases h
 | n + 1,v :: vs,p :: ps,h=>by
  have h1:Rep K C G v p:=h.1
  have h2:Reps K C G vs ps:=ArgsOk.reps (n:=n) h.2
  exact⟨congrArg Nat.succ h2.1,fun i x y e1 e2=>by
   cases i with
   | zero=>cases e1; cases e2; exact h1
   | succ i=>exact h2.2 i x y (by simpa using e1) (by simpa using e2)⟩
def AkY:UA:=fun _ P=>P []
def Acs (ua:UE) (ur:UA):UA:=fun ρ P=>ua ρ fun p=>ur ρ fun ps=>P (p :: ps)
theorem Bh:AU K C ω [] Na AkY:=fun B G0 H0 own G σ H ρ P Q S hu k=>k [] [] G H (Grow.refl S.gr.i) trivial hu
theorem Bs {ms:List Bool} {ta:TE} {tr:TA} {ua:UE} {ur:UA} (ha:EU K C ω ta ua) (hr:AU K C ω ms tr ur):AU K C ω (true :: ms) (Fs ta tr) (Acs ua ur) :=
 fun B G0 H0 own G σ H ρ P Q S hu k=>ha B G0 H0 own G σ H ρ _ _ S hu fun v p G1 H1 w1 r1 h1=>hr B G0 H0 own G1 σ H1 ρ _ _ (S.grow w1) h1 fun vs ps G2 H2 w2 r2 h2=>k (v :: vs) (p :: ps) G2 H2 (w1.trans w2) ⟨r1.mono w2.g,r2⟩ h2
theorem Bp {ms:List Bool} {ta:TE} {tr:TA} {ua:UE} {ur:UA} (ha:EB K C ω ta ua) (hr:AU K C ω ms tr ur):AU K C ω (false :: ms) (Fs ta tr) (Acs ua ur) :=
 fun B G0 H0 own G σ H ρ P Q S hu k=>ha B G0 H0 own G σ H ρ _ _ S hu fun v p G1 H1 w1 r1 h1=>hr B G0 H0 own G1 σ H1 ρ _ _ (S.grow w1) h1 fun vs ps G2 H2 w2 r2 h2=>k (v :: vs) (p :: ps) G2 H2 (w1.trans w2) ⟨r1.grow w2,r2⟩ h2
def AkN (u:UA):UE:=fun ρ P=>u ρ fun ps=>P (.lst ps)
def AkZ (u:UA):UE:=fun ρ P=>u ρ fun ps=>P (.tup ps)
theorem Dn (n:Nat) {t:TA} {u:UA} (h:AU K C ω (replicate n true) t u) (hn:n <= 1000:=by decide):EF K C ω (Xz t) (AkN u) :=
 fun B G0 H0 own G σ H ρ P Q S hu k=>h B G0 H0 own G σ H ρ _ _ S hu fun vs ps G1 H1 w1 r1 h1=>by
  have hl:vs.length = n:=by rw[r1.len.1,length_replicate]
  refine⟨Nat.le_of_lt (Nv (by omega)),fun a H2 ha s2 e2=>?_⟩
  have w2:=w1.trans (Grow.own w1.i s2)
  exact k a _ G1 H2 w2 (w1.h.free ha) (w1.i.free ha) (OwnA.ofL e2 r1.reps) h1
theorem Gm (n:Nat) {t:TA} {u:UA} (h:AU K C ω (replicate n true) t u) (hn:n <= 1000:=by decide):EU K C ω (Acz t) (AkZ u) :=
 fun B G0 H0 own G σ H ρ P Q S hu k=>h B G0 H0 own G σ H ρ _ _ S hu fun vs ps G1 H1 w1 r1 h1=>by
  have hl:vs.length = n:=by rw[r1.len.1,length_replicate]
  refine⟨Nat.le_of_lt (Nv (by omega)),fun a H2 ha s2 e2=>?_⟩
  have w2:=Grow.put w1.i ha s2 e2
  exact k _ _ _ H2 (w1.trans w2) (Rep.ofT Bm (r1.reps.mono w2.g)) h1
theorem LAt.get' {β α:Type} {R:Hp->β->α->Prop} {H:Hp} {xs:List β} {ys:List α} (h:LAt R H xs ys) {i:Nat} {y:α} (e:ys[i]? = some y):∃ x,xs[i]? = some x/\R H x y:=by
 have hi:i < ys.length:=(List.getElem?_eq_some_iff.mp e).1
 have hx:i < xs.length:=by rw[h.1]; exact hi
 exact⟨xs[i],getElem?_eq_getElem hx,h.2 i _ y (getElem?_eq_getElem hx) e⟩
theorem LAt.atI {β α:Type} {R:Hp->β->α->Prop} {H:Hp} {xs:List β} {ys:List α} (h:LAt R H xs ys) {i:Int} {y:α} (e:L2.atI ys i = some y):∃ x,L2.atI xs i = some x/\R H x y:=by
 unfold L2.atI at e ⊢
 rw[h.1]
 cases z:ixN ys.length i with
 | none=>rw[z] at e; cases e
 | some j=>rw[z] at e; exact h.get' e
theorem Fk {G:Hp} (ns:List Int):Reps K C G (ns.map V.int) (ns.map PV.int) :=
 ⟨by simp,fun i v p h1 h2=>by
  rw[getElem?_map] at h1 h2
  cases e:ns[i]? with
  | none=>rw[e] at h1; cases h1
  | some n=>rw[e] at h1 h2; cases h1; cases h2; exact .int n⟩
def Tx (p q:PV) (P:PV->Prop):Prop:=∃ i ps x,q = .int i/\(p = .lst ps\/∃ ns,p = .scr ns/\ps = ns.map .int)/\atI ps i = some x/\P x
def AjK (ua ub:UE):UE:=fun ρ P=>ua ρ fun p=>ub ρ fun q=>Tx p q P
theorem Cv {ta tb:TE} {ua ub:UE} (ha:EB K C ω ta ua) (hb:EB K C ω tb ub):EU K C ω (tOp (AaF K) ta tb) (AjK ua ub) :=
 fun B G0 H0 own G σ H ρ P Q S hu k=>two ha hb S hu fun v w p q G' H' gr r1 r2 ⟨i,ps,x,e1,e2,e3,h⟩=>by
  subst e1
  rcases e2 with e2 | ⟨ns,e2,e4⟩
  ·subst e2
   obtain⟨a,vs,rfl,ea,l⟩:=r1.lst gr.i
   obtain⟨y,hy,ry⟩:=l.atI e3
   exact⟨a,vs,i,y,rfl,r2.int,SqL.of ea,hy,k y x G' H' gr ry h⟩
  ·subst e2 e4
   obtain⟨a,rfl,ea⟩:=r1.scr gr.i
   obtain⟨y,hy,ry⟩:=(Fk (K:=K) (C:=C) (G:=G') ns).atI e3
   exact⟨a,_,i,y,rfl,r2.int,ea,hy,k y x G' H' gr ry h⟩
def Aac (p q:PV) (P:PV->Prop):Prop:=∃ i ps x,q = .int i/\p = .tup ps/\atI ps i = some x/\P x
def Ajm (ua ub:UE):UE:=fun ρ P=>ua ρ fun p=>ub ρ fun q=>Aac p q P
theorem Dh {ta tb:TE} {ua ub:UE} (ha:EB K C ω ta ua) (hb:EB K C ω tb ub):EU K C ω (tOp (Wq K) ta tb) (Ajm ua ub) :=
 fun B G0 H0 own G σ H ρ P Q S hu k=>two ha hb S hu fun v w p q G' H' gr r1 r2 ⟨i,ps,x,e1,e2,e3,h⟩=>by
  subst e1 e2
  obtain⟨a,vs,rfl,ea,l⟩:=r1.tup gr.i
  obtain⟨y,hy,ry⟩:=l.atI e3
  exact⟨a,vs,i,y,rfl,r2.int,SqT.of ea,hy,k y x G' H' gr ry h⟩
abbrev UO:=Bi->(Option Int->Prop)->Prop
def OU (K:Frag) (C:Addr) (ω:Om) (t:TO) (u:UO):Prop:=∀ (B G0 H0:Hp) (own:Nat->Option Addr) (G:Hp) (σ:St) (H:Hp) (ρ:Bi) (P:Option Int->Prop) (Q:Option Int->Hp->Prop),Sat K C ω B G0 H0 own G σ H ρ->u ρ P->(∀ o G' H',Grow G H G' H'->P o->Q o H')->t σ H Q
def Aa1:UO:=fun _ P=>P none
def AbI (p:PV) (P:Option Int->Prop):Prop:=∃ i,p = .int i/\P (some i)
def Aho (ua:UE):UO:=fun ρ P=>ua ρ fun p=>AbI p P
theorem Vt:OU K C ω Aa7 Aa1:=fun B G0 H0 own G σ H ρ P Q S hu k=>k none G H (Grow.refl S.gr.i) hu
theorem Jd {ta:TE} {ua:UE} (ha:EB K C ω ta ua):OU K C ω (Agt ta) (Aho ua) :=
 fun B G0 H0 own G σ H ρ P Q S hu k=>ha B G0 H0 own G σ H ρ _ _ S hu fun v p G' H' w r ⟨i,e,h⟩=>by subst e; exact⟨i,r.int,k _ G' H' w h⟩
def Gr {α:Type} (xs:List α) (lo hi:Option Int):List α:=(xs.drop (HT.sIx xs.length 0 lo)).take (HT.sIx xs.length xs.length hi - HT.sIx xs.length 0 lo)
theorem Rv {α β:Type} (f:α->β) (xs:List α) (lo hi:Option Int):Gr (xs.map f) lo hi = (Gr xs lo hi).map f:=by
 unfold Gr; rw[length_map,map_take,List.map_drop]
theorem Reps.cut {G:Hp} {vs:List V} {ps:List PV} (h:Reps K C G vs ps) (lo hi:Option Int):Reps K C G (Uc vs lo hi) (Gr ps lo hi):=by
 unfold Uc Gr
 rw[h.1]
 exact (LAt.drop h _).take _
def Acc (p:PV) (lo hi:Option Int) (P:PV->Prop):Prop:=∃ ps,(p = .lst ps\/∃ ns,p = .scr ns/\ps = ns.map .int)/\P (.lst (Gr ps lo hi))
def AkR (ua:UE) (ul uh:UO):UE:=fun ρ P=>ua ρ fun p=>ul ρ fun lo=>uh ρ fun hi=>Acc p lo hi P
theorem Rb {ta:TE} {tl th:TO} {ua:UE} {ul uh:UO} (ha:EB K C ω ta ua) (hl:OU K C ω tl ul) (hh:OU K C ω th uh):EF K C ω (tSl (AhH K) ta tl th) (AkR ua ul uh) :=
 fun B G0 H0 own G σ H ρ P Q S hu k=>ha B G0 H0 own G σ H ρ _ _ S hu fun v p G1 H1 w1 r1 h1=>hl B G0 H0 own G1 σ H1 ρ _ _ (S.grow w1) h1 fun lo G2 H2 w2 h2=>hh B G0 H0 own G2 σ H2 ρ _ _ ((S.grow w1).grow w2) h2 fun hi G3 H3 w3 h3=>by
  have w:=(w1.trans w2).trans w3
  have r:=(r1.grow w2).grow w3
  obtain⟨ps,e,h⟩:=h3
  rcases e with e | ⟨ns,e,e4⟩
  ·subst e
   obtain⟨a,vs,rfl,ea,l⟩:=r.lst w3.i
   exact⟨a,vs,rfl,SqL.of ea,fun b H4 hb s4 e4=>k b _ G3 H4 (w.trans (Grow.own w3.i s4)) (w.h.free hb) (w3.i.free hb) (OwnA.ofL e4 (l.cut lo hi)) h⟩
  ·subst e e4
   obtain⟨a,rfl,ea⟩:=r.scr w3.i
   exact⟨a,_,rfl,ea,fun b H4 hb s4 e4=>k b _ G3 H4 (w.trans (Grow.own w3.i s4)) (w.h.free hb) (w3.i.free hb) (OwnA.ofL e4 ((Fk ns).cut lo hi)) h⟩
theorem AfR {G:Hp} {vs ws:List V} {ps qs:List PV} (h:Reps K C G vs ps) (h':Reps K C G ws qs):Reps K C G (vs ++ ws) (ps ++ qs):=LAt.append h h'
def Af1 (p q:PV) (P:PV->Prop):Prop:=∃ ps qs,p = .lst ps/\q = .lst qs/\ps.length + qs.length <= 100000/\P (.lst (ps ++ qs))
def Alm (ua ub:UE):UE:=fun ρ P=>ua ρ fun p=>ub ρ fun q=>Af1 p q P
theorem Sr {n:Nat} (h:n <= 100000):n < sizeLine:=Nat.lt_of_le_of_lt h (by decide)
theorem Uw {ta tb:TE} {ua ub:UE} (ha:EB K C ω ta ua) (hb:EB K C ω tb ub):EF K C ω (tOp AgL ta tb) (Alm ua ub) :=
 fun B G0 H0 own G σ H ρ P Q S hu k=>two ha hb S hu fun v w p q G' H' gr r1 r2 ⟨ps,qs,e1,e2,hl,h⟩=>by
  subst e1 e2
  obtain⟨a,vs,rfl,ea,l⟩:=r1.lst gr.i
  obtain⟨b,ws,rfl,eb,l2⟩:=r2.lst gr.i
  exact⟨a,b,vs,ws,rfl,rfl,ea,eb,Nat.le_of_lt (Sr (by rw[l.1,l2.1]; exact hl)),fun c H4 hc s4 e4=>k c _ G' H4 (gr.trans (Grow.own gr.i s4)) (gr.h.free hc) (gr.i.free hc) (OwnA.ofL e4 (AfR l l2)) h⟩
def uCB (ur:List PV->(PV->Prop)->Prop) (u:UA):UE:=fun ρ P=>u ρ fun ps=>ur ps P
theorem Va {ms:List Bool} {r:List V->Hp->VK->Prop} {ur:List PV->(PV->Prop)->Prop} {t:TA} {u:UA}
  (hr:∀ G H vs ps P Q,Same G H->ArgsOk K C G H ms vs ps->ur ps P->(∀ v p,Rep K C G v p->P p->Q v H)->r vs H Q) (ha:AU K C ω ms t u):EU K C ω (tCB r t) (uCB ur u) :=
 fun B G0 H0 own G σ H ρ P Q S hu k=>ha B G0 H0 own G σ H ρ _ _ S hu fun vs ps G1 H1 w1 r1 h1=>hr G1 H1 vs ps P Q w1.i r1 h1 fun v p rv hp=>k v p G1 H1 w1 rv hp
theorem Oy {G H:Hp} {m:Bool} {vs:List V} {ps:List PV} (h:ArgsOk K C G H [m] vs ps):∃ v p,vs = [v]/\ps = [p]/\RepB K C G H v p:=by
 match vs,ps,m,h with
 | [v],[p],true,h=>exact⟨v,p,rfl,rfl,.inl h.1⟩
 | [v],[p],false,h=>exact⟨v,p,rfl,rfl,h.1⟩
 | [],_,true,h=>cases h
 | [],_,false,h=>cases h
 | _ :: _,[],true,h=>cases h
 | _ :: _,[],false,h=>cases h
 | _ :: _ :: _,[_],true,h=>cases h.2
 | _ :: _ :: _,[_],false,h=>cases h.2
 | [_],_ :: _ :: _,true,h=>cases h.2
 | [_],_ :: _ :: _,false,h=>cases h.2
 | _ :: _ :: _,_ :: _ :: _,true,h=>cases h.2
 | _ :: _ :: _,_ :: _ :: _,false,h=>cases h.2
theorem Rt {G H:Hp} {m n:Bool} {vs:List V} {ps:List PV} (h:ArgsOk K C G H [m,n] vs ps):∃ v w p q,vs = [v,w]/\ps = [p,q]/\RepB K C G H v p/\RepB K C G H w q:=by
 match vs,ps,m,h with
 | v :: vs,p :: ps,true,h=>obtain⟨w,q,rfl,rfl,r⟩:=Oy h.2; exact⟨v,w,p,q,rfl,rfl,.inl h.1,r⟩
 | v :: vs,p :: ps,false,h=>obtain⟨w,q,rfl,rfl,r⟩:=Oy h.2; exact⟨v,w,p,q,rfl,rfl,h.1,r⟩
 | [],_,true,h=>cases h
 | [],_,false,h=>cases h
 | _ :: _,[],true,h=>cases h
 | _ :: _,[],false,h=>cases h
def Yi (ps:List PV) (P:PV->Prop):Prop:=∃ n:Nat,(ps = [.scr []]/\n = 0\/(∃ xs,ps = [.lst xs]/\n = xs.length)\/(∃ xs,ps = [.tup xs]/\n = xs.length)\/∃ ns,ps = [.scr ns]/\n = ns.length)/\P (.int n)
theorem Dr {m:Bool} {t:TA} {u:UA} (ha:AU K C ω [m] t u):EU K C ω (tCB (fun xs H Q=>∃ p ys,xs = [.ref p]/\(SqL K H p ys\/SqT K H p ys)/\Q (.int ys.length) H) t) (uCB Yi u) :=
 Va (fun G H vs ps P Q i ok h k=>by
  obtain⟨v,p,rfl,rfl,r⟩:=Oy ok
  obtain⟨n,h1,h2⟩:=h
  rcases h1 with ⟨e,rfl⟩ | ⟨xs,e,rfl⟩ | ⟨xs,e,rfl⟩ | ⟨ns,e,rfl⟩
  ·cases e
   obtain⟨a,rfl,ea⟩:=r.scr i
   exact⟨a,_,rfl,.inl ea,k _ _ (.int _) h2⟩
  ·cases e
   obtain⟨a,vs,rfl,ea,l⟩:=r.lst i
   exact⟨a,vs,rfl,.inl (SqL.of ea),by rw[l.1]; exact k _ _ (.int _) h2⟩
  ·cases e
   obtain⟨a,vs,rfl,ea,l⟩:=r.tup i
   exact⟨a,vs,rfl,.inr (SqT.of ea),by rw[l.1]; exact k _ _ (.int _) h2⟩
  ·cases e
   obtain⟨a,rfl,ea⟩:=r.scr i
   exact⟨a,_,rfl,.inl ea,by rw[length_map]; exact k _ _ (.int _) h2⟩) ha
def AgD (ps:List PV) (P:PV->Prop):Prop:=∃ i j:Int,ps = [.int i,.int j]/\P (.int (if j < i then j else i))
def Ahg (ps:List PV) (P:PV->Prop):Prop:=∃ i j:Int,ps = [.int i,.int j]/\P (.int (if j > i then j else i))
theorem Ae6 {m n:Bool} {t:TA} {u:UA} (ha:AU K C ω [m,n] t u):EU K C ω (tCB (fun xs H Q=>∃ i j,xs = [.int i,.int j]/\Q (.int (if j < i then j else i)) H) t) (uCB AgD u) :=
 Va (fun G H vs ps P Q i ok h k=>by
  obtain⟨v,w,p,q,rfl,rfl,r1,r2⟩:=Rt ok
  obtain⟨x,y,e,h⟩:=h
  cases e
  exact⟨x,y,by rw[r1.int,r2.int],k _ _ (.int _) h⟩) ha
theorem Ak6 {m n:Bool} {t:TA} {u:UA} (ha:AU K C ω [m,n] t u):EU K C ω (tCB (fun xs H Q=>∃ i j,xs = [.int i,.int j]/\Q (.int (if j > i then j else i)) H) t) (uCB Ahg u) :=
 Va (fun G H vs ps P Q i ok h k=>by
  obtain⟨v,w,p,q,rfl,rfl,r1,r2⟩:=Rt ok
  obtain⟨x,y,e,h⟩:=h
  cases e
  exact⟨x,y,by rw[r1.int,r2.int],k _ _ (.int _) h⟩) ha
def Ag4 (ps:List PV) (P:PV->Prop):Prop:=(∃ i:Int,ps = [.int i]/\P (.int i))\/∃ b:Bool,ps = [.bl b]/\P (.int (if b then 1 else 0))
theorem Abw {m:Bool} {t:TA} {u:UA} (ha:AU K C ω [m] t u):EU K C ω (tCB (fun xs H Q=>(∃ i,xs = [.int i]/\Q (.int i) H)\/∃ k,xs = [.bl k]/\Q (.int (if k then 1 else 0)) H) t) (uCB Ag4 u) :=
 Va (fun G H vs ps P Q i ok h k=>by
  obtain⟨v,p,rfl,rfl,r⟩:=Oy ok
  rcases h with ⟨x,e,h⟩ | ⟨x,e,h⟩
  ·cases e; exact .inl ⟨x,by rw[r.int],k _ _ (.int _) h⟩
  ·cases e; exact .inr ⟨x,by rw[r.bl],k _ _ (.int _) h⟩) ha
def Ad3 (ps:List PV) (P:PV->Prop):Prop:=∃ xs,(ps = [.lst xs]\/ps = [.tup xs]\/∃ ns,ps = [.scr ns]/\xs = ns.map .int)/\P (.lst xs)
theorem Od {m:Bool} {t:TA} {u:UA} (ha:AU K C ω [m] t u):EF K C ω (tCB (fun xs H Q=>∃ p ys,xs = [.ref p]/\(SqL K H p ys\/SqT K H p ys)/\∀ l H',H l = none->Same H H'->H' l = some (.lst ys)->Q (.ref l) H') t) (uCB Ad3 u) :=
 fun B G0 H0 own G σ H ρ P Q S hu k=>ha B G0 H0 own G σ H ρ _ _ S hu fun vs ps G1 H1 w1 r1 h1=>by
  obtain⟨v,p,rfl,rfl,r⟩:=Oy r1
  obtain⟨xs,h1,h2⟩:=h1
  rcases h1 with e | e | ⟨ns,e,rfl⟩
  ·cases e
   obtain⟨a,vs,rfl,ea,l⟩:=r.lst w1.i
   exact⟨a,vs,rfl,.inl (SqL.of ea),fun b H4 hb s4 e4=>k b _ G1 H4 (w1.trans (Grow.own w1.i s4)) (w1.h.free hb) (w1.i.free hb) (OwnA.ofL e4 l) h2⟩
  ·cases e
   obtain⟨a,vs,rfl,ea,l⟩:=r.tup w1.i
   exact⟨a,vs,rfl,.inr (SqT.of ea),fun b H4 hb s4 e4=>k b _ G1 H4 (w1.trans (Grow.own w1.i s4)) (w1.h.free hb) (w1.i.free hb) (OwnA.ofL e4 l) h2⟩
  ·cases e
   obtain⟨a,rfl,ea⟩:=r.scr w1.i
   exact⟨a,_,rfl,.inl ea,fun b H4 hb s4 e4=>k b _ G1 H4 (w1.trans (Grow.own w1.i s4)) (w1.h.free hb) (w1.i.free hb) (OwnA.ofL e4 (Fk ns)) h2⟩
end
section
variable {K:Frag} {C:Addr} {ω:Om} {rm:Rm}
def AgW:US:=fun d ρ=>d.nx ρ
def Agg (u w:US):US:=fun d ρ=>u { d with nx:=w d } ρ
theorem Df:SU K C ω rm AcL AgW:=fun B G0 H0 own G σ H ρ D d S F h=>F.nx own G σ H ρ S h
theorem Bk {t t':TS} {u u':US} (h:SU K C ω rm t u) (h':SU K C ω rm t' u'):SU K C ω rm (Wk t t') (Agg u u'):=fun B G0 H0 own G σ H ρ D d S F hu =>
 h B G0 H0 own G σ H ρ { D with nx:=t' D } { d with nx:=u' d } S ⟨fun own' G' σ' H' ρ' S' q=>h' B G0 H0 own' G' σ' H' ρ' D d S' F q,F.rt,F.bk,F.ct⟩ hu
def Zu (i:Nat) (u:US):US:=fun d ρ=>u d (Jv i ρ)
theorem Zh (i:Nat) {t:TS} {u:US} (h:SU K C ω rm t u):SU K C ω rm t (Zu i u):=fun B G0 H0 own G σ H ρ D d S F hu =>
 let ⟨own',G',S'⟩:=S.share i
 h B G0 H0 own' G' σ H _ D d S' F hu
def AfT (ua:UE):US:=fun d ρ=>ua ρ d.rt
theorem Dq {ta:TE} {ua:UE} (ha:EU K C ω ta ua):SU K C ω .sh (Ty ta) (AfT ua):=fun B G0 H0 own G σ H ρ D d S F hu =>
 ha B G0 H0 own G σ H ρ _ _ S hu fun v p G' H' w r h=>F.rt G' H' v p (S.gr.trans w) r h
theorem Qy {ta:TE} {ua:UE} (ha:EF K C ω ta ua):SU K C ω .fr (Ty ta) (AfT ua):=fun B G0 H0 own G σ H ρ D d S F hu =>
 ha B G0 H0 own G σ H ρ _ _ S hu fun a p G' H' w n g r h=>F.rt G' H' _ p (S.gr.trans w) ⟨a,rfl,S.gr.h.free n,g,r⟩ h
def AhV (i:Nat):US:=fun d ρ=>∃ p,ρ[i]? = some (.ow p)/\d.rt p
theorem Fv {i:Nat}:SU K C ω .fr (Ty (Fg i)) (AhV i):=fun B G0 H0 own G σ H ρ D d S F ⟨p,e,h⟩=>by
 obtain⟨a,e1,o,r⟩:=S.sl i _ e
 obtain⟨f0,fg,_⟩:=S.fr i a o
 exact⟨_,e1,F.rt G H _ p S.gr ⟨a,rfl,f0,fg,r⟩ h⟩
def Akt (uc:UT) (u w:US):US:=fun d ρ=>uc ρ fun b=>if b = true then u d ρ else w d ρ
theorem Dl {tc:TT} {t t':TS} {uc:UT} {u u':US} (hc:TU K C ω tc uc) (h:SU K C ω rm t u) (h':SU K C ω rm t' u'):SU K C ω rm (Af0 tc t t') (Akt uc u u'):=fun B G0 H0 own G σ H ρ D d S F hu =>
 hc B G0 H0 own G σ H ρ _ _ S hu fun b G' H' w q=>by
  cases b with
  | true=>exact Ln (h B G0 H0 own G' σ H' ρ D d (S.grow w) F (by simpa using q))
  | false=>exact Nb (h' B G0 H0 own G' σ H' ρ D d (S.grow w) F (by simpa using q))
def Ajg (i:Nat) (ua:UE):US:=fun d ρ=>ua ρ fun p=>d.nx (ρ.set i (.sh p))
theorem Bu {i:Nat} {ta:TE} {ua:UE} (ha:EU K C ω ta ua):SU K C ω rm (Ld ta (Gf i)) (Ajg i ua):=fun B G0 H0 own G σ H ρ D d S F hu =>
 ha B G0 H0 own G σ H ρ _ _ S hu fun v p G' H' w r h=>F.nx _ G' _ H' _ ((S.grow w).setS r) h
def Ahc (i:Nat) (ua:UE):US:=fun d ρ=>ua ρ fun p=>d.nx (ρ.set i (.ow p))
theorem Dk {i:Nat} {ta:TE} {ua:UE} (ha:EF K C ω ta ua):SU K C ω rm (Ld ta (Gf i)) (Ahc i ua):=fun B G0 H0 own G σ H ρ D d S F hu =>
 ha B G0 H0 own G σ H ρ _ _ S hu fun a p G' H' w n g r h=>F.nx _ G' _ H' _ ((S.grow w).setO r (S.gr.h.free n) g fun j z=>(let ⟨_,_,o,ho,_⟩:=S.fr j a z; by rw[n] at ho; cases ho)) h
def AcX (i:Nat):PV->Bi->(Bi->Prop)->Prop:=fun p ρ P=>P (ρ.set i (.sh p))
theorem Zn {α:Type}:∀ {l:List α} {i top:Nat} {x:α},i < top->(l.set i x).drop top = l.drop top
 | [],_,_,_,_=>rfl
 | _ :: _,_,0,_,h=>by omega
 | _ :: _,0,_ + 1,_,_=>rfl
 | _ :: l,i + 1,t + 1,x,h=>Zn (l:=l) (i:=i) (top:=t) (by omega)
theorem By {top i:Nat} (hi:i < top:=by decide):GU K C ω top (Gf i) (AcX i):=fun B G0 H0 own G σ H ρ v p P R S r h k=>k _ _ _ (S.setS r) (Zn hi) h
def Adx:List PV->Bi->(Bi->Prop)->Prop:=fun ps ρ P=>ps = []/\P ρ
def Abb (u:PV->Bi->(Bi->Prop)->Prop) (us:List PV->Bi->(Bi->Prop)->Prop):List PV->Bi->(Bi->Prop)->Prop:=fun ps ρ P=>∃ p r,ps = p :: r/\u p ρ fun ρ'=>us r ρ' P
theorem Gc {top:Nat}:GsU K C ω top Acn Adx:=fun B G0 H0 own G σ H ρ vs ps P R S r ⟨e,h⟩ k=>by
 subst e
 exact⟨List.eq_nil_of_length_eq_zero r.1,k _ _ _ S rfl h⟩
theorem Da {top:Nat} {g:TG} {gs:TGs} {u:PV->Bi->(Bi->Prop)->Prop} {us:List PV->Bi->(Bi->Prop)->Prop} (hg:GU K C ω top g u) (hs:GsU K C ω top gs us):GsU K C ω top (Vh g gs) (Abb u us):=fun B G0 H0 own G σ H ρ vs ps P R S r ⟨p,q,e,h⟩ k=>by
 subst e
 match vs,r with
 | [],r=>have:=r.1; simp at this
 | v :: vs,r =>
  obtain⟨r1,r2⟩:=r.uncons
  exact⟨v,vs,rfl,hg B G0 H0 own G σ H ρ v p _ _ S r1 h fun own' σ' ρ' S' dr h'=>hs B G0 H0 own' G σ' H ρ' vs q P R S' r2 h' fun own2 σ2 ρ2 S2 dr2 h2=>k own2 σ2 ρ2 S2 (dr2.trans dr) h2⟩
def Yj (n:Nat) (us:List PV->Bi->(Bi->Prop)->Prop):PV->Bi->(Bi->Prop)->Prop:=fun p ρ P=>∃ ps,p = .tup ps/\ps.length = n/\us ps ρ P
theorem Gv {top n:Nat} {gs:TGs} {us:List PV->Bi->(Bi->Prop)->Prop} (hs:GsU K C ω top gs us):GU K C ω top (Vv K n gs) (Yj n us):=fun B G0 H0 own G σ H ρ v p P R S r ⟨ps,e,hl,h⟩ k=>by
 subst e
 cases r with
 | tup e l q=>exact⟨_,_,rfl,SqT.of (S.gr.i _ _ e),by rw[l]; exact hl,hs B G0 H0 own G σ H ρ _ ps P R S ⟨l,q⟩ h k⟩
def Akb (ua:UE) (ug:PV->Bi->(Bi->Prop)->Prop):US:=fun d ρ=>ua ρ fun p=>ug p ρ d.nx
theorem Ako {top:Nat} {ta:TE} {ua:UE} {g:TG} {ug:PV->Bi->(Bi->Prop)->Prop} (ha:EU K C ω ta ua) (hg:GU K C ω top g ug):SU K C ω rm (Ld ta g) (Akb ua ug):=fun B G0 H0 own G σ H ρ D d S F hu =>
 ha B G0 H0 own G σ H ρ _ _ S hu fun v p G' H' w r h=>hg B G0 H0 own G' σ H' ρ v p _ _ (S.grow w) r h fun own' σ' ρ' S' _ q=>F.nx own' G' σ' H' ρ' S' q
theorem Jy {G:Hp} {vs:List V} {ps:List PV} {v:V} {p:PV} (h:Reps K C G vs ps) (r:Rep K C G v p):Reps K C G (vs ++ [v]) (ps ++ [p]):=LAt.snoc h r
theorem Sat.list {B G0 H0 G H:Hp} {own:Nat->Option Addr} {σ:St} {ρ:Bi} {i:Nat} {ps:List PV} (S:Sat K C ω B G0 H0 own G σ H ρ) (e:ρ[i]? = some (.ow (.lst ps))):∃ a vs,σ[i]? = some (some (.ref a))/\own i = some a/\H a = some (.lst vs)/\Reps K C G vs ps:=by
 obtain⟨a,e1,o,vs,h1,h2⟩:=S.sl i _ e
 exact⟨a,vs,e1,o,h1,h2⟩
theorem Aa3 {B G0 H0 G H:Hp} {own:Nat->Option Addr} {σ:St} {ρ:Bi} {i:Nat} {r:V->List V->Hp->VK->Prop} {t:TA} {Q:VK} {ps:List PV} (S:Sat K C ω B G0 H0 own G σ H ρ) (e:ρ[i]? = some (.ow (.lst ps)))
  (k:∀ a vs,σ[i]? = some (some (.ref a))->own i = some a->H a = some (.lst vs)->Reps K C G vs ps->t σ H fun xs H2=>r (.ref a) xs H2 Q):tBM K "list" r (Fg i) t σ H Q:=by
 obtain⟨a,vs,e1,o,h1,h2⟩:=S.list e
 exact⟨_,e1,.inl ⟨rfl,_,SqL.of h1⟩,k a vs e1 o h1 h2⟩
def Afw (i:Nat) (ρ:Bi) (N:Bi->Prop) (qs:List PV):Prop:=∃ q ps,qs = [q]/\ρ[i]? = some (.ow (.lst ps))/\ps.length < 100000/\N (ρ.set i (.ow (.lst (ps ++ [q]))))
def Ahs (i:Nat) (u:UA):US:=fun d ρ=>(∃ ps,ρ[i]? = some (.ow (.lst ps)))/\u ρ fun qs=>Afw i ρ d.nx qs
theorem Fx {i:Nat} {t:TA} {u:UA} (ha:AU K C ω [true] t u):SU K C ω rm (Uy (tBM K "list" Oq (Fg i) t)) (Ahs i u):=fun B G0 H0 own G σ H ρ D d S F ⟨⟨ps0,e0⟩,hu⟩ =>
 Aa3 S e0 fun a vs0 e1 o _ _=>ha B G0 H0 own G σ H ρ _ _ S hu fun xs qs G' H' w ok ⟨q,ps,eq,ep,hl,h⟩=>by
  have S':=S.grow w
  obtain⟨a',vs,e1',o',h1,h2⟩:=S'.list ep
  rw[o] at o'; cases o'
  subst eq
  match xs,ok with
  | [x],ok =>
   have rx:Rep K C G' x q:=ok.1
   exact⟨a,vs,x,rfl,rfl,h1,Sr (by rw[h2.1]; omega),fun H2 c e2=>F.nx own G' σ H2 _ (S'.chg o e1 c (OwnA.ofL e2 (Jy h2 rx))) h⟩
  | [],ok=>cases ok
  | _ :: _ :: _,ok=>cases ok.2
theorem Aa2:EF K C ω AaE (fun _ P=>P (.dk [])):=fun B G0 H0 own G σ H ρ P Q S hu k p hp =>
 k p _ G _ (Grow.own S.gr.i (Same.new hp)) hp (S.gr.i.free hp) (by first | exact OwnA.ofD Bm LAt.nil | exact OwnA.ofDt Bm LAt.nil) hu
def kP:Key->PV
 | .inl i=>.int i
 | .inr x=>.str x
def Fy {κ:Type} [DecidableEq κ] (kvs:List (κ × PV)) (k:κ):Option PV:=(kvs.find? fun kv=>decide (kv.1 = k)).map (·.2)
def Lq {κ:Type} [DecidableEq κ] (kvs:List (κ × PV)) (k:κ) (v:PV):List (κ × PV) :=
 if kvs.any (fun kv=>decide (kv.1 = k)) then kvs.map (fun kv=>if kv.1 = k then (kv.1,v) else kv) else kvs ++ [(k,v)]
theorem Ut {κ:Type} [DecidableEq κ] {G:Hp}:∀ {kvs:List (κ × V)} {ps:List (κ × PV)} (k:κ),LAt (KRep K C) G kvs ps->(Cr kvs k = none/\Fy ps k = none)\/∃ v p,Cr kvs k = some v/\Fy ps k = some p/\Rep K C G v p
 | [],[],_,_=>.inl ⟨rfl,rfl⟩
 | [],_ :: _,_,h=>by have:=h.1; simp at this
 | _ :: _,[],_,h=>by have:=h.1; simp at this
 | x :: xs,y :: ys,k,h=>by
  obtain⟨⟨e,r⟩,h2⟩:=h.uncons
  unfold Cr Fy
  rw[find?_cons,find?_cons,<- e]
  by_cases z:x.1 = k
  ·rw[decide_eq_true z]; exact .inr ⟨_,_,rfl,rfl,r⟩
  ·rw[decide_eq_false z]; exact Ut k h2
theorem Acf {G H:Hp} {v:V} {k:Key} (h:RepB K C G H v (kP k)):v = kV k:=by
 cases k with
 | inl i=>exact h.int
 | inr x=>exact h.str
end
section
variable {K:Frag} {C:Addr} {ω:Om} {rm:Rm}
theorem Al1 {κ:Type} [DecidableEq κ] {G:Hp} {kvs:List (κ × V)} {ps:List (κ × PV)} {k:κ} {v:V} {p:PV} (h:LAt (KRep K C) G kvs ps) (r:Rep K C G v p):LAt (KRep K C) G (Gy kvs k v) (Lq ps k p):=by
 have hany:(kvs.any fun kv=>decide (kv.1 = k)) = (ps.any fun kv=>decide (kv.1 = k)):=by
  clear r
  induction kvs generalizing ps with
  | nil=>cases ps with
   | nil=>rfl
   | cons y ys=>have:=h.1; simp at this
  | cons x xs ih=>cases ps with
   | nil=>have:=h.1; simp at this
   | cons y ys =>
    obtain⟨⟨e,_⟩,h2⟩:=h.uncons
    rw[any_cons,any_cons,e,ih h2]
 unfold Gy Lq
 rw[hany]
 split
 ·refine⟨by rw[length_map,length_map,h.1],fun i x y e1 e2=>?_⟩
  rw[getElem?_map] at e1 e2
  obtain⟨x',hx,rfl⟩:=map_eq_some_iff.mp e1
  obtain⟨y',hy,rfl⟩:=map_eq_some_iff.mp e2
  obtain⟨q1,q2⟩:=h.2 i x' y' hx hy
  by_cases z:x'.1 = k
  ·rw[if_pos z,if_pos (by rw[<- q1]; exact z)]; exact⟨q1,r⟩
  ·rw[if_neg z,if_neg (by rw[<- q1]; exact z)]; exact⟨q1,q2⟩
 ·exact LAt.snoc h ⟨rfl,r⟩
def Afl (neg:Bool) (q p:PV) (P:PV->Prop):Prop:=∃ kvs k,p = .dk kvs/\q = kP k/\P (.bl (if neg then !(Fy kvs k).isSome else (Fy kvs k).isSome))
def Alu (neg:Bool) (ua ub:UE):UE:=fun ρ P=>ua ρ fun q=>ub ρ fun p=>Afl neg q p P
theorem Wj {G H:Hp} {v w:V} {kvs:List (Key × PV)} {k:Key} (i:Same G H) (r1:RepB K C G H w (.dk kvs)) (r2:RepB K C G H v (kP k)):∃ a o,w = .ref a/\IsD H a/\DGet H a v o/\((o = none/\Fy kvs k = none)\/∃ x p,o = some x/\Fy kvs k = some p/\Rep K C G x p):=by
 obtain⟨a,vs,rfl,ea,l⟩:=r1.dk i
 rw[Acf r2]
 refine⟨a,Cr vs k,rfl,.inl ⟨_,.inl ea⟩,DGet.k ea,?_⟩
 rcases Ut k l with ⟨h1,h2⟩ | ⟨x,p,h1,h2,h3⟩
 ·exact .inl ⟨h1,h2⟩
 ·exact .inr ⟨x,p,h1,h2,h3⟩
theorem AjY {ta tb:TE} {ua ub:UE} (ha:EB K C ω ta ua) (hb:EB K C ω tb ub):EU K C ω (Afi ta tb) (Alu false ua ub):=fun B G0 H0 own G σ H ρ P Q S hu k =>
 ha B G0 H0 own G σ H ρ _ _ S hu fun v q G1 H1 w1 r1 h1=>hb B G0 H0 own G1 σ H1 ρ _ _ (S.grow w1) h1 fun w p G2 H2 w2 r2 ⟨kvs,key,e1,e2,h⟩=>by
  subst e1 e2
  obtain⟨a,o,rfl,_,hg,ho⟩:=Wj w2.i r2 (r1.grow w2)
  refine⟨a,o,rfl,hg,?_⟩
  have:o.isSome = (Fy kvs key).isSome:=by
   rcases ho with ⟨h1,h2⟩ | ⟨x,p,h1,h2,h3⟩
   ·rw[h1,h2]; rfl
   ·rw[h1,h2]; rfl
  rw[this]
  exact k _ _ G2 H2 (w1.trans w2) (.bl _) h
def Um (p q:PV) (P:PV->Prop):Prop:=∃ kvs k x,p = .dk kvs/\q = kP k/\Fy kvs k = some x/\P x
def AhD (ua ub:UE):UE:=fun ρ P=>ua ρ fun p=>ub ρ fun q=>Um p q P
theorem Abd {ta tb:TE} {ua ub:UE} (ha:EB K C ω ta ua) (hb:EB K C ω tb ub):EU K C ω (Ym ta tb) (AhD ua ub):=fun B G0 H0 own G σ H ρ P Q S hu k =>
 ha B G0 H0 own G σ H ρ _ _ S hu fun v q G1 H1 w1 r1 h1=>hb B G0 H0 own G1 σ H1 ρ _ _ (S.grow w1) h1 fun w p G2 H2 w2 r2 ⟨kvs,key,x,e1,e2,e3,h⟩=>by
  subst e1 e2
  obtain⟨a,o,rfl,_,hg,ho⟩:=Wj w2.i (r1.grow w2) r2
  rcases ho with ⟨h1,h2⟩ | ⟨y,p,h1,h2,h3⟩
  ·rw[e3] at h2; cases h2
  ·rw[e3] at h2; cases h2
   subst h1
   exact⟨a,y,rfl,hg,k _ _ G2 H2 (w1.trans w2) h3 h⟩
def Zl (kvs:List (Key × PV)) (q z:PV) (P:PV->Prop):Prop:=∃ k,q = kP k/\P ((Fy kvs k).getD z)
def AdN (i:Nat) (ub uc:UE):UE:=fun ρ P=>∃ s kvs,ρ[i]? = some s/\s.val = some (.dk kvs)/\ub ρ fun q=>uc ρ fun z=>Zl kvs q z P
theorem Aak {i:Nat} {tb tc:TE} {ub uc:UE} (hb:EB K C ω tb ub) (hc:EU K C ω tc uc):EU K C ω (Zj (Fg i) tb tc) (AdN i ub uc):=fun B G0 H0 own G σ H ρ P Q S ⟨s,kvs,e,ev,hu⟩ k =>
 Bb B G0 H0 own G σ H ρ (fun p=>p = .dk kvs) _ S ⟨s,_,e,ev,rfl⟩ fun v q G1 H1 w1 r1 e0=>by
  subst e0
  obtain⟨a,vs,rfl,ea,l⟩:=r1.dk w1.i
  refine⟨a,rfl,.inl ⟨_,.inl ea⟩,hb B G0 H0 own G1 σ H1 ρ _ _ (S.grow w1) hu fun w p G2 H2 w2 r2 h2=>hc B G0 H0 own G2 σ H2 ρ _ _ ((S.grow w1).grow w2) h2 fun z pz G3 H3 w3 r3 ⟨key,e2,h⟩=>?_⟩
  subst e2
  obtain⟨a',o,e,_,hg,ho⟩:=Wj w3.i ((r1.grow w2).grow w3) (r2.grow w3)
  cases e
  refine⟨o,hg,?_⟩
  have w:=(w1.trans w2).trans w3
  rcases ho with ⟨h1,h2⟩ | ⟨y,p,h1,h2,h3⟩
  ·rw[h2] at h; subst h1; exact k _ _ G3 H3 w r3 h
  ·rw[h2] at h; subst h1; exact k _ _ G3 H3 w h3 h
def AbH (i:Nat) (ρ:Bi) (N:Bi->Prop) (p q:PV):Prop:=∃ kvs k,ρ[i]? = some (.ow (.dk kvs))/\q = kP k/\kvs.length < 100000/\N (ρ.set i (.ow (.dk (Lq kvs k p))))
def Agy (i:Nat) (ub uv:UE):US:=fun d ρ=>(∃ kvs,ρ[i]? = some (.ow (.dk kvs)))/\uv ρ fun p=>ub ρ fun q=>AbH i ρ d.nx p q
theorem Qi {i:Nat} {tb tv:TE} {ub uv:UE} (hb:EB K C ω tb ub) (hv:EU K C ω tv uv):SU K C ω rm (AcO (Fg i) tb tv) (Agy i ub uv):=fun B G0 H0 own G σ H ρ D d S F ⟨⟨kvs0,e0⟩,hu⟩ =>
 hv B G0 H0 own G σ H ρ _ _ S hu fun v p G1 H1 w1 r1 h1=>by
  have S1:=S.grow w1
  obtain⟨a,ea,o,_⟩:=S.sl i _ e0
  refine⟨_,ea,hb B G0 H0 own G1 σ H1 ρ _ _ S1 h1 fun w q G2 H2 w2 r2 ⟨kvs,k,e,e2,hl,h⟩=>?_⟩
  subst e2
  have S2:=S1.grow w2
  obtain⟨a',ea',o',vs,ha,l⟩:=S2.sl i _ e
  rw[o] at o'; cases o'
  rw[Acf r2]
  exact⟨a,_,rfl,DPut.k ha (Sr (by rw[l.1]; omega)),F.nx own G2 σ _ _ (S2.chg o ea Chg.put (OwnA.ofD Bm (Al1 l (r1.mono w2.g)))) h⟩
end
section
variable {K:Frag} {C:Addr} {ω:Om} {rm:Rm}
abbrev UI:=Bi->(List PV->Prop)->Prop
def Sw (ps:List PV) (ug:PV->Bi->(Bi->Prop)->Prop) (ub:US):US:=fun d ρ=>∃ I:Nat->Bi->Prop,I 0 ρ/\(∀ k p ρ,ps[k]? = some p->I k ρ->ug p ρ fun ρ'=>ub { d with nx:=I (k + 1),ct:=I (k + 1),bk:=d.nx } ρ')/\∀ ρ,I ps.length ρ->d.nx ρ
def Af6 (ui:UI) (ug:PV->Bi->(Bi->Prop)->Prop) (ub:US):US:=fun d ρ=>ui ρ fun ps=>Sw ps ug ub d ρ
def bL (p:PV) (R:List PV->Prop):Prop:=∃ ps,(p = .lst ps\/∃ ns,p = .scr ns/\ps = ns.map .int)/\R ps
def uiL (ua:UE):UI:=fun ρ R=>ua ρ fun p=>bL p R
theorem Jt {B B1 G0 H0:Hp} {D:Ends} {d:Fp} {N:Bi->Prop} {M:St->Hp->Prop} (F:AbJ K C ω rm B G0 H0 D d) (hb:Same B B1) (hM:∀ own G σ H ρ,Sat K C ω B1 G0 H0 own G σ H ρ->N ρ->M σ H) :
  AbJ K C ω rm B1 G0 H0 { D with nx:=M,ct:=M,bk:=D.nx } { d with nx:=N,ct:=N,bk:=d.nx } :=
 ⟨hM,F.rt,fun own G σ H ρ S h=>F.nx own G σ H ρ (S.base (hb.trans S.kb)) h,hM⟩
theorem Sn {top:Nat} {ta:TE} {ua:UE} {g:TG} {ug:PV->Bi->(Bi->Prop)->Prop} {tb:TS} {ub:US} (ha:EU K C ω ta ua) (hg:GU K C ω top g ug) (hb:SU K C ω rm tb ub):SU K C ω rm (Ly (Qf K ta) g tb) (Af6 (uiL ua) ug ub) :=
 fun B G0 H0 own G σ H ρ D d S F hu=>ha B G0 H0 own G σ H ρ _ _ S hu fun v p G1 H1 w1 r1 ⟨ps,e,I,i0,ist,iend⟩=>by
  have S1:=S.grow w1
  obtain⟨a,vs,rfl,sq,rp⟩:∃ a vs,v = .ref a/\SqL K G1 a vs/\Reps K C G1 vs ps:=by
   rcases e with e | ⟨ns,e,e2⟩
   ·subst e
    cases r1 with
    | lst e l q=>exact⟨_,_,rfl,SqL.of e,l,q⟩
   ·subst e e2
    cases r1 with
    | scr e=>exact⟨_,_,rfl,e,Fk ns⟩
  refine⟨a,rfl,⟨vs,w1.i.seq sq⟩,Rr (xs:=vs) (fun k σ' H'=>∃ own' G' ρ',Sat K C ω G1 G0 H0 own' G' σ' H' ρ'/\I k ρ') ⟨own,G1,ρ,S1.base (Same.refl _),i0⟩ (fun k σ' H' _ ⟨own',G',ρ',S',_⟩=>(S'.kb.trans S'.gr.i).seq sq) (fun k x σ' H' hx ⟨own',G',ρ',S',hi⟩=>?_) fun σ' H' ⟨own',G',ρ',S',hi⟩=>?_⟩
  ·obtain⟨q,hq,rq⟩:=rp.get hx
   exact hg G1 G0 H0 own' G' σ' H' ρ' x q _ _ S' (rq.mono S'.kb) (ist k q ρ' hq hi) fun own2 σ2 ρ2 S2 _ h2=>hb G1 G0 H0 own2 G' σ2 H' ρ2 _ _ S2 (Jt F S1.kb fun own3 G3 σ3 H3 ρ3 S3 h3=>⟨own3,G3,ρ3,S3,h3⟩) h2
  ·rw[rp.1] at hi
   exact F.nx own' G' σ' H' ρ' (S'.base (S1.kb.trans S'.kb)) (iend ρ' hi)
def uiB (i:Nat):UI:=fun ρ R=>∃ s p ps,ρ[i]? = some s/\(s = .bo p\/s = .sh p)/\(p = .lst ps\/∃ ns,p = .scr ns/\ps = ns.map .int)/\R ps
theorem Ni {top:Nat} {i:Nat} {g:TG} {ug:PV->Bi->(Bi->Prop)->Prop} {tb:TS} {ub:US} (hg:GU K C ω top g ug) (hb:SU K C ω rm tb ub):SU K C ω rm (Ly (Qf K (Fg i)) g tb) (Af6 (uiB i) ug ub) :=
 fun B G0 H0 own G σ H ρ D d S F ⟨s,p,ps,es,ek,e,I,i0,ist,iend⟩=>by
  have key:∃ a vs,σ[i]? = some (some (.ref a))/\(∀ G' H',Same G G'->Same H0 H'->Same G' H'->SqL K H' a vs)/\Reps K C G vs ps:=by
   rcases ek with ek | ek
   ·subst ek
    obtain⟨v,ev,rb⟩:=S.sl i _ es
    rcases e with e | ⟨ns,e,e2⟩
    ·subst e
     rcases rb with rb | ⟨a,e2,vs,h1,h2⟩
     ·cases rb with
      | lst e l q=>exact⟨_,_,ev,fun G' H' s1 s2 s3=>SqL.of (s3 _ _ (s1 _ _ (S.gr.g _ _ e))),l,fun j x y h1 h2=>(q j x y h1 h2).mono S.gr.g⟩
     ·subst e2
      exact⟨a,vs,ev,fun G' H' s1 s2 s3=>SqL.of (s2 _ _ h1),h2.mono S.gr.g⟩
    ·subst e e2
     rcases rb with rb | ⟨a,e2,h⟩
     ·cases rb with
      | scr e=>exact⟨_,_,ev,fun G' H' s1 s2 s3=>s3.seq (s1.seq (S.gr.g.seq e)),Fk ns⟩
     ·exact h.elim
   ·subst ek
    obtain⟨v,ev,rb⟩:=S.sl i _ es
    rcases e with e | ⟨ns,e,e2⟩
    ·subst e
     cases rb with
     | lst e l q=>exact⟨_,_,ev,fun G' H' s1 s2 s3=>SqL.of (s3 _ _ (s1 _ _ e)),l,q⟩
    ·subst e e2
     cases rb with
     | scr e=>exact⟨_,_,ev,fun G' H' s1 s2 s3=>s3.seq (s1.seq e),Fk ns⟩
  obtain⟨a,vs,ev,sq,rp⟩:=key
  refine⟨_,ev,a,rfl,⟨vs,sq G H (Same.refl _) S.gr.h S.gr.i⟩,Rr (xs:=vs) (fun k σ' H'=>∃ own' G' ρ',Sat K C ω G G0 H0 own' G' σ' H' ρ'/\I k ρ') ⟨own,G,ρ,S.base (Same.refl _),i0⟩ (fun k σ' H' _ ⟨own',G',ρ',S',_⟩=>sq G' H' S'.kb S'.gr.h S'.gr.i) (fun k x σ' H' hx ⟨own',G',ρ',S',hi⟩=>?_) fun σ' H' ⟨own',G',ρ',S',hi⟩=>?_⟩
  ·obtain⟨q,hq,rq⟩:=rp.get hx
   exact hg G G0 H0 own' G' σ' H' ρ' x q _ _ S' (rq.mono S'.kb) (ist k q ρ' hq hi) fun own2 σ2 ρ2 S2 _ h2=>hb G G0 H0 own2 G' σ2 H' ρ2 _ _ S2 (Jt F S.kb fun own3 G3 σ3 H3 ρ3 S3 h3=>⟨own3,G3,ρ3,S3,h3⟩) h2
  ·rw[rp.1] at hi
   exact F.nx own' G' σ' H' ρ' (S'.base (S.kb.trans S'.kb)) (iend ρ' hi)
def Vo (lo:Int) (n:Nat) (ug:PV->Bi->(Bi->Prop)->Prop) (ub:US):US:=fun d ρ=>∃ I:Nat->Bi->Prop,I 0 ρ/\(∀ k ρ,k < n->I k ρ->ug (.int (lo + k)) ρ fun ρ'=>ub { d with nx:=I (k + 1),ct:=I (k + 1),bk:=d.nx } ρ')/\∀ ρ,I n ρ->d.nx ρ
def bR1 (R:Nat->Prop) (ps:List PV):Prop:=∃ j:Int,ps = [.int j]/\-(2 ^ 62) <= j/\j < 2 ^ 62/\R j.toNat
def AgO (u:UA) (ug:PV->Bi->(Bi->Prop)->Prop) (ub:US):US:=fun d ρ=>u ρ fun ps=>bR1 (fun n=>Vo 0 n ug ub d ρ) ps
def bR2 (R:Int->Nat->Prop) (ps:List PV):Prop:=∃ i j:Int,ps = [.int i,.int j]/\(-(2 ^ 62) <= i/\i < 2 ^ 62/\-(2 ^ 62) <= j/\j < 2 ^ 62)/\R i (j - i).toNat
def AhB (u:UA) (ug:PV->Bi->(Bi->Prop)->Prop) (ub:US):US:=fun d ρ=>u ρ fun ps=>bR2 (fun i n=>Vo i n ug ub d ρ) ps
theorem Ag5 {top:Nat} {B G0 H0 G H:Hp} {own:Nat->Option Addr} {σ:St} {ρ:Bi} {D:Ends} {d:Fp} {lo:Int} {n:Nat} {g:TG} {ug:PV->Bi->(Bi->Prop)->Prop} {tb:TS} {ub:US} (hg:GU K C ω top g ug) (hb:SU K C ω rm tb ub) (S:Sat K C ω B G0 H0 own G σ H ρ) (F:AbJ K C ω rm B G0 H0 D d) (h:Vo lo n ug ub d ρ) :
  ∃ W:Nat->Nat->St->Hp->Prop,(∃ m,W 0 m σ H)/\∀ i m σ H,W i m σ H->((Itr lo n).stop i H/\D.nx σ H)\/((Itr lo n).go i H/\∃ N:St->Hp->Prop,(∀ σ' H',N σ' H'->∃ m',m' < m/\W (i + 1) m' σ' H')/\∀ x H',(Itr lo n).yld i H x H'->g x σ H' fun σ2 H2=>tb { D with nx:=N,ct:=N,bk:=D.nx } σ2 H2):=by
 obtain⟨I,i0,ist,iend⟩:=h
 refine Wx (fun k σ' H'=>∃ own' G' ρ',Sat K C ω B G0 H0 own' G' σ' H' ρ'/\I k ρ') ⟨own,G,ρ,S,i0⟩ (fun k σ' H' hk ⟨own',G',ρ',S',hi⟩=>?_) fun σ' H' ⟨own',G',ρ',S',hi⟩=>F.nx own' G' σ' H' ρ' S' (iend ρ' hi)
 exact hg B G0 H0 own' G' σ' H' ρ' _ _ _ _ S' (.int _) (ist k ρ' hk hi) fun own2 σ2 ρ2 S2 _ h2=>hb B G0 H0 own2 G' σ2 H' ρ2 _ _ S2 (Jt F (Same.refl _) fun own3 G3 σ3 H3 ρ3 S3 h3=>⟨own3,G3,ρ3,S3,h3⟩) h2
theorem AaV {top:Nat} {m:Bool} {t:TA} {u:UA} {g:TG} {ug:PV->Bi->(Bi->Prop)->Prop} {tb:TS} {ub:US} (ha:AU K C ω [m] t u) (hg:GU K C ω top g ug) (hb:SU K C ω rm tb ub):SU K C ω rm (Ly (Vf t) g tb) (AgO u ug ub) :=
 fun B G0 H0 own G σ H ρ D d S F hu=>ha B G0 H0 own G σ H ρ _ _ S hu fun vs ps G1 H1 w1 ok ⟨j,e,h1,h2,h⟩=>by
  obtain⟨v,p,rfl,e2,r⟩:=Oy ok
  rw[e] at e2; cases e2
  exact⟨j,by rw[r.int],h1,h2,Ag5 hg hb (S.grow w1) F h⟩
theorem Sy {top:Nat} {m n:Bool} {t:TA} {u:UA} {g:TG} {ug:PV->Bi->(Bi->Prop)->Prop} {tb:TS} {ub:US} (ha:AU K C ω [m,n] t u) (hg:GU K C ω top g ug) (hb:SU K C ω rm tb ub):SU K C ω rm (Ly (Ag2 t) g tb) (AhB u ug ub) :=
 fun B G0 H0 own G σ H ρ D d S F hu=>ha B G0 H0 own G σ H ρ _ _ S hu fun vs ps G1 H1 w1 ok ⟨i,j,e,h1,h⟩=>by
  obtain⟨v,w,p,q,rfl,e2,r1,r2⟩:=Rt ok
  rw[e] at e2; cases e2
  exact⟨i,j,by rw[r1.int,r2.int],h1,Ag5 hg hb (S.grow w1) F h⟩
end
section
variable {K:Frag} {C:Addr} {ω:Om}
def boS:Sl->Sl
 | .ow p=>.bo p
 | .fz _ kvs=>.bz kvs
 | .fl _ ps=>.bo (.lst ps)
 | .om _ p=>.bo p
 | s=>s
def compρ (k:Nat) (fr:List Nat) (ρ:Bi):Bi:=replicate k .un ++ fr.map fun i=>boS ((ρ[i]?).getD .un)
theorem Sat.comp {B G0 H0 G1 H1:Hp} {own:Nat->Option Addr} {σ:St} {ρ:Bi} (S:Sat K C ω B G0 H0 own G1 σ H1 ρ) (k:Nat) (fr:List Nat) {G H:Hp} (w:Grow G1 H1 G H):Sat K C Om.no G1 G1 H1 (fun _=>none) G (compσ k fr σ) H (compρ k fr ρ):=by
 refine⟨w.g,w,?_,fun i j a h=>(by cases h),fun i a h=>(by cases h),fun i s h=>?_,fun _ _ _ z=>z.elim⟩
 ·unfold compσ compρ; simp
 ·by_cases hk:i < k
  ·unfold compρ at h
   rw[getElem?_append_left (by rw[length_replicate]; exact hk),getElem?_replicate,if_pos hk] at h
   cases h; trivial
  ·unfold compρ at h
   rw[getElem?_append_right (by rw[length_replicate]; omega),length_replicate,getElem?_map] at h
   obtain⟨j,hj,e⟩:=map_eq_some_iff.mp h
   have hσ:(compσ k fr σ)[i]? = some (σ[j]?).join:=by
    unfold compσ
    rw[getElem?_append_right (by rw[length_replicate]; omega),length_replicate,getElem?_map,hj]; rfl
   cases e2:ρ[j]? with
   | none=>rw[e2] at e; cases e; trivial
   | some s0 =>
    rw[e2] at e
    have q:=S.sl j s0 e2
    cases s0 with
    | un=>cases e; trivial
    | sh p=>cases e; obtain⟨v,ev,r⟩:=q; exact⟨v,by rw[hσ,ev]; rfl,r.mono w.g⟩
    | bo p=>cases e; obtain⟨v,ev,r⟩:=q; exact⟨v,by rw[hσ,ev]; rfl,r.grow S.gr⟩
    | ow p=>cases e; obtain⟨a,ev,_,r⟩:=q; exact⟨_,by rw[hσ,ev]; rfl,.inr ⟨a,rfl,r⟩⟩
    | fz z kvs=>cases e; obtain⟨ev,_,h1,h2⟩:=q; exact⟨z.1,z.2.1,z.2.2,by rw[hσ,ev]; rfl,h1,KReps.mono h2 w.g⟩
    | bz kvs=>cases e; obtain⟨a,o,vs,ev,h1,h2⟩:=q; exact⟨a,o,vs,by rw[hσ,ev]; rfl,S.gr.h _ _ h1,KReps.mono h2 w.g⟩
    | fl z ps=>cases e; obtain⟨ev,_,h1,h2⟩:=q; exact⟨_,by rw[hσ,ev]; rfl,.inr ⟨z.1,rfl,OwnA.ofL h1 h2⟩⟩
    | om a p=>cases e; obtain⟨ev,_,r⟩:=q; exact⟨_,by rw[hσ,ev]; rfl,.inr ⟨a,rfl,r⟩⟩
def AgX:UT:=fun _ P=>P true
theorem Gk:TU K C ω AcN AgX:=fun B G0 H0 own G σ H ρ P Q S hu k=>k true G H (Grow.refl S.gr.i) hu
def Li (ps:List PV) (ug:PV->Bi->(Bi->Prop)->Prop) (uc:UT) (ue:UE) (ρ':Bi) (P:PV->Prop):Prop:=∃ I:Nat->List PV->Prop,I 0 []/\(∀ n p rs,ps[n]? = some p->I n rs->ug p ρ' fun ρ2=>uc ρ2 fun b=>if b = true then ue ρ2 fun q=>I (n + 1) (rs ++ [q]) else I (n + 1) rs)/\∀ rs,I ps.length rs->P (.lst rs)
def CSt (K:Frag) (C:Addr) (G1 H1:Hp) (D:Addr) (I:Nat->List PV->Prop) (n:Nat) (H:Hp):Prop:=∃ G ys rs,Grow G1 H1 G H/\G D = none/\H D = some (.lst ys)/\Reps K C G ys rs/\rs.length <= n/\I n rs
theorem Si {B G0 H0 G1 H1:Hp} {own:Nat->Option Addr} {σ:St} {ρ:Bi} (S:Sat K C ω B G0 H0 own G1 σ H1 ρ) {k:Nat} {fr:List Nat} {g:TG} {ug:PV->Bi->(Bi->Prop)->Prop} {tc:TT} {uc:UT} {te:TE} {ue:UE} (hg:GU K C Om.no k g ug) (hc:TU K C Om.no tc uc) (he:EU K C Om.no te ue) {D:Addr} (hD:H1 D = none) {I:Nat->List PV->Prop} {n:Nat} (hn:n < 100000) {x:V} {p:PV} {H':Hp} {N:Hp->Prop}
  (rx:∀ G,Same G1 G->Rep K C G x p) (st:CSt K C G1 H1 D I n H') (hN:∀ H'',CSt K C G1 H1 D I (n + 1) H''->N H'') (hs:∀ rs,I n rs->ug p (compρ k fr ρ) fun ρ2=>uc ρ2 fun b=>if b = true then ue ρ2 fun q=>I (n + 1) (rs ++ [q]) else I (n + 1) rs) :
  g x (compσ k fr σ) H' fun σ2 H2=>σ2.drop k = (compσ k fr σ).drop k/\tc σ2 H2 fun b H3=>if b = true then te σ2 H3 (fun y H4=>∃ ys,H4 D = some (.lst ys)/\ys.length < sizeLine/\N (upd H4 D (.lst (ys ++ [y])))) else N H3:=by
 obtain⟨G,ys,rs,w,gD,eD,ry,hl,hi⟩:=st
 refine hg G1 G1 H1 _ G _ H' _ x p _ _ (S.comp k fr w) (rx G w.g) (hs rs hi) fun own' σ' ρ' S' dr h=>⟨dr,hc G1 G1 H1 own' G σ' H' ρ' _ _ S' h fun b G3 H3 w3 h3=>?_⟩
 cases b with
 | false=>exact Nb (hN _ ⟨G3,ys,rs,w.trans w3,w3.n D _ eD (fun _ z=>nomatch z) gD,w3.h _ _ eD,ry.mono w3.g,by omega,by simpa using h3⟩)
 | true =>
  refine Ln (he G1 G1 H1 own' G3 σ' H3 ρ' _ _ (S'.grow w3) (by simpa using h3) fun y q G4 H4 w4 r4 h4=>?_)
  have w34:=w3.trans w4
  have g4:G4 D = none:=w34.n D _ eD (fun _ z=>nomatch z) gD
  have e4:H4 D = some (.lst ys):=w34.h _ _ eD
  refine⟨ys,e4,Sr (by rw[ry.1]; omega),hN _ ⟨G4,_,_,⟨(w.trans w34).g,fun b u h=>?_,fun b u h=>?_,(w.trans w34).n⟩,g4,Bm,Jy (ry.mono w34.g) r4,by rw[length_append]; simp; omega,h4⟩⟩
  ·rw[Bj (by intro z; subst z; rw[hD] at h; cases h)]; exact (w.trans w34).h _ _ h
  ·rw[Bj (by intro z; subst z; rw[g4] at h; cases h)]; exact w34.i _ _ h
theorem Nr {G1 H1:Hp} {D:Addr} {I:Nat->List PV->Prop} (i:Same G1 H1) (hD:H1 D = none) (h:I 0 []):CSt K C G1 H1 D I 0 (upd H1 D (.lst [])) :=
 ⟨G1,[],[],Grow.own i (Same.new hD),i.free hD,Bm,LAt.nil,by simp,h⟩
def Ago (ua:UE) (ug:PV->Bi->(Bi->Prop)->Prop) (uc:UT) (ue:UE) (k:Nat) (fr:List Nat):UE:=fun ρ P=>ua ρ fun p=>bL p fun ps=>ps.length <= 100000/\Li ps ug uc ue (compρ k fr ρ) P
theorem Ga {ta:TE} {ua:UE} {k:Nat} {fr:List Nat} {g:TG} {ug:PV->Bi->(Bi->Prop)->Prop} {tc:TT} {uc:UT} {te:TE} {ue:UE} (ha:EB K C ω ta ua) (hg:GU K C Om.no k g ug) (hc:TU K C Om.no tc uc) (he:EU K C Om.no te ue):EF K C ω (Gz (Qf K ta) g tc te k fr) (Ago ua ug uc ue k fr) :=
 fun B G0 H0 own G σ H ρ P Q S hu kk=>Oh (AnR (ha B G0 H0 own G σ H ρ _ _ S hu fun v p G1 H1 w1 r1 ⟨ps,e,hl,I,i0,ist,iend⟩=>by
  have S1:=S.grow w1
  obtain⟨a,vs,rfl,sq,rp⟩:∃ a vs,v = .ref a/\SqL K H1 a vs/\Reps K C G1 vs ps:=by
   rcases e with e | ⟨ns,e,e2⟩
   ·subst e
    obtain⟨a,vs,rfl,ea,l⟩:=r1.lst w1.i
    exact⟨a,vs,rfl,SqL.of ea,l⟩
   ·subst e e2
    obtain⟨a,rfl,ea⟩:=r1.scr w1.i
    exact⟨a,_,rfl,ea,Fk ns⟩
  refine⟨a,rfl,⟨vs,sq⟩,fun D hD=>CP.list vs (CSt K C G1 H1 D I) (Nr w1.i hD i0) (fun n H' _ ⟨G',_,_,w,_⟩=>w.h.seq sq) (fun n x H' N hx st hN=>?_) fun H' st=>?_⟩
  ·obtain⟨q,hq,rq⟩:=rp.get hx
   have hn:n < ps.length:=(List.getElem?_eq_some_iff.mp hq).1
   exact Si S1 hg hc he hD (by omega) (fun G' s=>rq.mono s) st hN fun rs hi=>ist n q rs hq hi
  ·obtain⟨G',ys,rs,w,gD,eD,ry,_,hi⟩:=st
   rw[rp.1] at hi
   exact kk D _ G' H' (w1.trans w) (w1.h.free hD) gD (OwnA.ofL eD ry) (iend rs hi)))
def Aad (ug:PV->Bi->(Bi->Prop)->Prop) (uc:UT) (ue:UE) (ρ':Bi) (P:PV->Prop) (ps:List PV):Prop:=∃ j:Int,ps = [.int j]/\-(2 ^ 62) <= j/\j < 100000/\∃ I:Nat->List PV->Prop,I 0 []/\(∀ n rs,n < j.toNat->I n rs->ug (.int (0 + n)) ρ' fun ρ2=>uc ρ2 fun b=>if b = true then ue ρ2 fun q=>I (n + 1) (rs ++ [q]) else I (n + 1) rs)/\∀ rs,I j.toNat rs->P (.lst rs)
def AdB (u:UA) (ug:PV->Bi->(Bi->Prop)->Prop) (uc:UT) (ue:UE) (k:Nat) (fr:List Nat):UE:=fun ρ P=>u ρ fun ps=>Aad ug uc ue (compρ k fr ρ) P ps
theorem Zi {m:Bool} {t:TA} {u:UA} {k:Nat} {fr:List Nat} {g:TG} {ug:PV->Bi->(Bi->Prop)->Prop} {tc:TT} {uc:UT} {te:TE} {ue:UE} (ha:AU K C ω [m] t u) (hg:GU K C Om.no k g ug) (hc:TU K C Om.no tc uc) (he:EU K C Om.no te ue):EF K C ω (Gz (Vf t) g tc te k fr) (AdB u ug uc ue k fr) :=
 fun B G0 H0 own G σ H ρ P Q S hu kk=>Oh (Amw (ha B G0 H0 own G σ H ρ _ _ S hu fun vs ps G1 H1 w1 ok ⟨j,e,h1,h2,I,i0,ist,iend⟩=>by
  have S1:=S.grow w1
  obtain⟨v,p,rfl,e2,r⟩:=Oy ok
  rw[e] at e2; cases e2
  refine⟨j,by rw[r.int],h1,by omega,fun D hD=>CP.range (CSt K C G1 H1 D I) (Nr w1.i hD i0) (fun n H' N hx st hN=>Si S1 hg hc he hD (by omega) (fun G' s=>.int _) st hN fun rs hi=>ist n rs hx hi) fun H' st=>?_⟩
  obtain⟨G',ys,rs,w,gD,eD,ry,_,hi⟩:=st
  exact kk D _ G' H' (w1.trans w) (w1.h.free hD) gD (OwnA.ofL eD ry) (iend rs hi)))
end
section
variable {K:Frag} {C:Addr} {ω:Om}
abbrev PSp:=List PV->(PV->Prop)->Prop
def spOf (K:Frag) (C:Addr) (ms:List Bool) (rm:Rm) (psp:PSp):Sp:=fun vs H Q _=>∃ G ps P,Same G H/\ArgsOk K C G H ms vs ps/\psp ps P/\∀ G' H' v p,Grow G H G' H'->ROk K C rm H G' H' v p->P p->Q v H'
def Vi (psp:PSp) (u:UA):UE:=fun ρ P=>u ρ fun ps=>psp ps P
theorem Ds {ms:List Bool} {psp:PSp} {E:XK} {t:TA} {u:UA} (ha:AU K C ω ms t u):EU K C ω (Ri (spOf K C ms .sh psp) [] E t) (Vi psp u) :=
 fun B G0 H0 own G σ H ρ P Q S hu k=>ha B G0 H0 own G σ H ρ _ _ S hu fun vs ps G1 H1 w1 ok h=>by
  rw[append_nil]
  exact⟨G1,ps,P,w1.i,ok,h,fun G' H' v p w r hp=>k v p G' H' (w1.trans w) r hp⟩
theorem Do {ms:List Bool} {psp:PSp} {E:XK} {t:TA} {u:UA} (ha:AU K C ω ms t u):EF K C ω (Ri (spOf K C ms .fr psp) [] E t) (Vi psp u) :=
 fun B G0 H0 own G σ H ρ P Q S hu k=>ha B G0 H0 own G σ H ρ _ _ S hu fun vs ps G1 H1 w1 ok h=>by
  rw[append_nil]
  exact⟨G1,ps,P,w1.i,ok,h,fun G' H' v p w ⟨a,e,n,g,r⟩ hp=>by subst e; exact k a p G' H' (w1.trans w) (w1.h.free n) g r hp⟩
def Uk (n:Nat) (ms:List Bool) (ps:List PV):Bi:=zipWith (fun m p=>if m = true then Sl.sh p else Sl.bo p) ms ps ++ replicate (n - ps.length) .un
def Agf (rm:Rm) (P:PV->Prop):Bi->Prop:=match rm with
 | .sh=>fun _=>P .non
 | .fr=>fun _=>False
 | .mu _=>fun _=>False
theorem ArgsOk.slots {G H:Hp} {own:Nat->Option Addr}:∀ {ms:List Bool} {vs:List V} {ps:List PV} {i:Nat} {s:Sl} {σ:St} (k:Nat),ArgsOk K C G H ms vs ps->(∀ j v,vs[j]? = some v->σ[k + j]? = some (some v))->(zipWith (fun m p=>if m = true then Sl.sh p else Sl.bo p) ms ps)[i]? = some s->SlOk K C G H own G σ H (k + i) s
 | true :: ms,v :: vs,p :: ps,0,s,σ,k,ok,hσ,h=>by cases h; exact⟨v,hσ 0 v rfl,ok.1⟩
 | false :: ms,v :: vs,p :: ps,0,s,σ,k,ok,hσ,h=>by cases h; exact⟨v,hσ 0 v rfl,ok.1⟩
 | true :: ms,v :: vs,p :: ps,i + 1,s,σ,k,ok,hσ,h=>by
  have:=ArgsOk.slots (i:=i) (s:=s) (σ:=σ) (own:=own) (k + 1) ok.2 (fun j w hj=>by rw[show k + 1 + j = k + (j + 1) by omega]; exact hσ (j + 1) w (by simpa using hj)) (by simpa using h)
  rwa [show k + 1 + i = k + (i + 1) by omega] at this
 | false :: ms,v :: vs,p :: ps,i + 1,s,σ,k,ok,hσ,h=>by
  have:=ArgsOk.slots (i:=i) (s:=s) (σ:=σ) (own:=own) (k + 1) ok.2 (fun j w hj=>by rw[show k + 1 + j = k + (j + 1) by omega]; exact hσ (j + 1) w (by simpa using hj)) (by simpa using h)
  rwa [show k + 1 + i = k + (i + 1) by omega] at this
 | [],_,_,_,_,_,_,_,_,h=>by simp at h
 | _ :: _,_,[],_,_,_,_,_,_,h=>by simp at h
 | true :: _,[],_ :: _,_,_,_,_,ok,_,_=>by cases ok
 | false :: _,[],_ :: _,_,_,_,_,ok,_,_=>by cases ok
theorem Cq {ms:List Bool} {rm:Rm} {psp:PSp} {N:List Str} {vs:List V} {H:Hp} {Q:VK} {E:XK} {t:TS} {u:US} (h:spOf K C ms rm psp vs H Q E) (hn:ms.length <= N.length) (hs:SU K C Om.no rm t u)
  (hp:∀ ps P,psp ps P->u ⟨Agf rm P,P,fun _=>False,fun _=>False⟩ (Uk N.length ms ps)):t { nx:=fun _ H'=>Q .non H',rt:=Q } (L2.Nx N vs) H:=by
 obtain⟨G,ps,P,i,ok,hq,k⟩:=h
 obtain⟨l1,l2⟩:=ok.len
 have hz:(zipWith (fun m p=>if m = true then Sl.sh p else Sl.bo p) ms ps).length = ps.length:=by rw[List.length_zipWith,l2]; omega
 refine hs G G H (fun _=>none) G _ H _ _ ⟨Agf rm P,P,fun _=>False,fun _=>False⟩ ⟨Same.refl _,Grow.refl i,?_,fun i j a z=>(by cases z),fun i a z=>(by cases z),fun j s hj=>?_,fun _ _ _ z=>z.elim⟩ ⟨fun own' G' σ' H' ρ' S' q=>?_,fun G' H' v p w r hp=>k G' H' v p w r hp,fun _ _ _ _ _ _ q=>q.elim,fun _ _ _ _ _ _ q=>q.elim⟩ (hp ps P hq)
 ·unfold L2.Nx Uk
  rw[length_append,length_append,length_map,hz,length_replicate,length_replicate,l1,l2]
 ·unfold Uk at hj
  by_cases z:j < ps.length
  ·rw[getElem?_append_left (by rw[hz]; exact z)] at hj
   have q:=ArgsOk.slots (own:=fun _=>none) (σ:=L2.Nx N vs) 0 ok (fun j v hv=>by
    unfold L2.Nx
    rw[Nat.zero_add,getElem?_append_left (by rw[length_map]; exact (List.getElem?_eq_some_iff.mp hv).1),getElem?_map,hv]; rfl) hj
   rwa [Nat.zero_add] at q
  ·rw[getElem?_append_right (by rw[hz]; omega),getElem?_replicate] at hj
   split at hj
   ·cases hj; trivial
   ·cases hj
 ·cases rm with
  | sh=>exact k G' H' .non .non S'.gr .non q
  | fr=>exact q.elim
  | mu _=>exact q.elim
theorem spOf.len {ms:List Bool} {rm:Rm} {psp:PSp} {vs:List V} {H:Hp} {Q:VK} {E:XK} (h:spOf K C ms rm psp vs H Q E):vs.length = ms.length:=by
 obtain⟨G,ps,P,i,ok,_⟩:=h
 exact ok.len.1
end
section
variable {K:Frag} {C:Addr} {ω:Om}
def Ry:PV->Bool
 | .non=>true
 | .int _=>true
 | .str _=>true
 | _=>false
theorem Ti {G:Hp} {v:V} {p:PV} (h:Rep K C G v p) (f:Ry p = true):Lm v = true:=by
 cases h <;> first | rfl | (cases f; done)
theorem Wn {G:Hp} {v w:V} {p q:PV} (h1:Rep K C G v p) (h2:Rep K C G w q) (f1:Ry p = true) (f2:Ry q = true):eqV v w = true ↔ p = q:=by
 cases h1 <;> first | (cases f1; done) | (cases h2 <;> first | (cases f2; done) | (simp [eqV]))
inductive Cmp:Nat->PV->PV->Prop where
 | flat {n:Nat} {p q:PV} (hp:Ry p = true) (hq:Ry q = true):Cmp n p q
 | bl {n:Nat} {x y:Bool}:Cmp n (.bl x) (.bl y)
 | lst {n:Nat} {xs ys:List PV} (h:xs.length = ys.length->∀ (i:Nat) (x y:PV),xs[i]? = some x->ys[i]? = some y->Cmp n x y):Cmp (n + 1) (.lst xs) (.lst ys)
 | tup {n:Nat} {xs ys:List PV} (h:∀ (i:Nat) (x y:PV),xs[i]? = some x->ys[i]? = some y->Cmp n x y):Cmp (n + 1) (.tup xs) (.tup ys)
theorem No {α:Type} {xs ys:List α} (hl:xs.length = ys.length) (h:∀ (i:Nat) (x y:α),xs[i]? = some x->ys[i]? = some y->x = y):xs = ys:=by
 refine ext_getElem? fun i=>?_
 cases e1:xs[i]? with
 | none=>rw[getElem?_eq_none (by have:=List.getElem?_eq_none_iff.mp e1; omega)]
 | some x =>
  have hi:i < ys.length:=by have:=(List.getElem?_eq_some_iff.mp e1).1; omega
  rw[getElem?_eq_getElem hi,h i x _ e1 (getElem?_eq_getElem hi)]
theorem Cmp.fn {G:Hp} {n:Nat} {p q:PV} (c:Cmp n p q):∀ {v:V},Rep K C G v p->Rep K C G v q->p = q:=by
 induction c with
 | flat hp hq=>intro v h1 h2; cases h1 <;> first | (cases hp; done) | (cases h2 <;> first | (cases hq; done) | rfl)
 | bl=>intro v h1 h2; cases h1; cases h2; rfl
 | @lst n xs ys h ih =>
  intro v h1 h2
  cases h1 with
  | lst e1 l1 q1=>cases h2 with
   | lst e2 l2 q2 =>
    rw[e1] at e2; cases e2
    have hl:xs.length = ys.length:=l1.symm.trans l2
    refine congrArg _ (No hl fun i x y hx hy=>?_)
    have hi:=(List.getElem?_eq_some_iff.mp hx).1
    obtain⟨w,hw⟩:=(⟨_,getElem?_eq_getElem (by rw[l1]; exact hi)⟩:∃ w,_ = some w)
    exact ih hl i x y hx hy (q1 i w x hw hx) (q2 i w y hw hy)
 | @tup n xs ys h ih =>
  intro v h1 h2
  cases h1 with
  | tup e1 l1 q1=>cases h2 with
   | tup e2 l2 q2 =>
    rw[e1] at e2; cases e2
    have hl:xs.length = ys.length:=l1.symm.trans l2
    refine congrArg _ (No hl fun i x y hx hy=>?_)
    have hi:=(List.getElem?_eq_some_iff.mp hx).1
    obtain⟨w,hw⟩:=(⟨_,getElem?_eq_getElem (by rw[l1]; exact hi)⟩:∃ w,_ = some w)
    exact ih i x y hx hy (q1 i w x hw hx) (q2 i w y hw hy)
noncomputable def pd (a:Prop):Bool:=@decide a (Classical.propDecidable a)
theorem pd_iff {a:Prop}:pd a = true ↔ a:=by unfold pd; exact @decide_eq_true_iff a (Classical.propDecidable a)
theorem Qa {n:Nat} {e:Nat->Bool}:(range n).all e = true ↔ ∀ i,i < n->e i = true:=by
 rw[all_eq_true]
 exact⟨fun h i hi=>h i (mem_range.mpr hi),fun h i hi=>h i (mem_range.mp hi)⟩
theorem Go {a b:Bool} (h:a = true ↔ b = true):a = b:=by
 cases a <;> cases b <;> simp_all
theorem Cmp.eqD {G H:Hp} (s:Same G H) {n:Nat} {p q:PV} (c:Cmp n p q):∀ {v w:V} {b:Bool},Rep K C G v p->Rep K C G w q->(b = true ↔ p = q)->EqD K H n v w b:=by
 induction c with
 | flat hp hq =>
  intro v w b h1 h2 hb
  have e:b = eqV v w:=Go (hb.trans (Wn h1 h2 hp hq).symm)
  rw[e]
  exact EqD.flat (Ti h1 hp) (Ti h2 hq)
 | @bl n x y =>
  intro v w b h1 h2 hb
  cases h1
  cases h2
  have e:b = eqV (.bl x) (.bl y):=Go (by rw[hb]; cases x <;> cases y <;> simp [eqV])
  rw[e]
  exact EqD.flat rfl rfl
 | @lst n xs ys h ih =>
  intro v w b h1 h2 hb
  have cc:Cmp (n + 1) (.lst xs) (.lst ys):=.lst h
  have h1':=h1
  have h2':=h2
  cases h1 with
  | @lst a1 vs1 _ e1 l1 q1=>cases h2 with
   | @lst a2 vs2 _ e2 l2 q2 =>
    by_cases z:a1 = a2
    ·subst z
     rw[show b = true from hb.mpr (cc.fn h1' h2')]
     exact EqD.same _
    ·by_cases hl:xs.length = ys.length
     ·have e:b = (range vs1.length).all (fun i=>pd (xs[i]? = ys[i]?)):=Go (by
       rw[hb,Qa]
       constructor
       ·intro e i _; rw[pd_iff,PV.lst.inj e]
       ·intro e
        refine congrArg _ (ext_getElem? fun i=>?_)
        by_cases hi:i < vs1.length
        ·exact pd_iff.mp (e i hi)
        ·rw[getElem?_eq_none (by omega),getElem?_eq_none (by omega)])
      rw[e]
      refine EqD.lst _ z (SqL.of (s _ _ e1)) (SqL.of (s _ _ e2)) (by omega) fun i x y hx hy=>?_
      have hi:=(List.getElem?_eq_some_iff.mp hx).1
      have hx':xs[i]? = some xs[i]:=getElem?_eq_getElem (by omega)
      have hy':ys[i]? = some ys[i]:=getElem?_eq_getElem (by omega)
      refine ih hl i _ _ hx' hy' (q1 i x _ hx hx') (q2 i y _ hy hy') ?_
      rw[pd_iff,hx',hy']
      exact⟨fun z=>Option.some.inj z,fun z=>congrArg some z⟩
     ·have e:b = false:=by
       cases b with
       | false=>rfl
       | true=>exact absurd (congrArg length (PV.lst.inj (hb.mp rfl))) hl
      rw[e]
      exact EqD.lstN z (SqL.of (s _ _ e1)) (SqL.of (s _ _ e2)) (by omega)
 | @tup n xs ys h ih =>
  intro v w b h1 h2 hb
  have cc:Cmp (n + 1) (.tup xs) (.tup ys):=.tup h
  have h1':=h1
  have h2':=h2
  cases h1 with
  | @tup a1 vs1 _ e1 l1 q1=>cases h2 with
   | @tup a2 vs2 _ e2 l2 q2 =>
    by_cases z:a1 = a2
    ·subst z
     rw[show b = true from hb.mpr (cc.fn h1' h2')]
     exact EqD.same _
    ·have e:b = ((range (min vs1.length vs2.length)).all (fun i=>pd (xs[i]? = ys[i]?)) && vs1.length == vs2.length):=Go (by
      rw[hb,and_eq_true,Qa]
      constructor
      ·intro e
       have e':=PV.tup.inj e
       exact⟨fun i _=>by rw[pd_iff,e'],by rw[l1,l2,e']; exact beq_self_eq_true _⟩
      ·rintro ⟨e,el⟩
       have el':vs1.length = vs2.length:=by simpa using el
       refine congrArg _ (ext_getElem? fun i=>?_)
       by_cases hi:i < vs1.length
       ·exact pd_iff.mp (e i (by omega))
       ·rw[getElem?_eq_none (by omega),getElem?_eq_none (by omega)])
     rw[e]
     refine EqD.tup _ z (SqT.of (s _ _ e1)) (SqT.of (s _ _ e2)) fun i x y hx hy=>?_
     have hi:=(List.getElem?_eq_some_iff.mp hx).1
     have hj:=(List.getElem?_eq_some_iff.mp hy).1
     have hx':xs[i]? = some xs[i]:=getElem?_eq_getElem (by omega)
     have hy':ys[i]? = some ys[i]:=getElem?_eq_getElem (by omega)
     refine ih i _ _ hx' hy' (q1 i x _ hx hx') (q2 i y _ hy hy') ?_
     rw[pd_iff,hx',hy']
     exact⟨fun z=>Option.some.inj z,fun z=>congrArg some z⟩
def CmpL (xs ys:List PV):Prop:=xs.length = ys.length->∀ (i:Nat) (x y:PV),xs[i]? = some x->ys[i]? = some y->Cmp 40 x y
theorem CmpL.leq {G H:Hp} (s:Same G H) {vs ws:List V} {xs ys:List PV} (c:CmpL xs ys) (h1:Reps K C G vs xs) (h2:Reps K C G ws ys) {b:Bool} (hb:b = true ↔ xs = ys):LEq K H vs ws b:=by
 by_cases hl:xs.length = ys.length
 ·refine .inr ⟨by rw[h1.1,h2.1,hl],fun i=>pd (xs[i]? = ys[i]?),fun i x y hx hy=>?_,Go ?_⟩
  ·obtain⟨p,hp,rp⟩:=h1.get hx
   obtain⟨q,hq,rq⟩:=h2.get hy
   refine (c hl i p q hp hq).eqD s rp rq ?_
   rw[pd_iff,hp,hq]
   exact⟨fun z=>Option.some.inj z,fun z=>congrArg some z⟩
  ·rw[hb,Qa,h1.1]
   constructor
   ·intro e i _; rw[pd_iff,e]
   ·intro e
    refine ext_getElem? fun i=>?_
    by_cases hi:i < xs.length
    ·exact pd_iff.mp (e i hi)
    ·rw[getElem?_eq_none (by omega),getElem?_eq_none (by omega)]
 ·refine .inl ⟨by rw[h1.1,h2.1]; exact hl,?_⟩
  cases b with
  | false=>rfl
  | true=>exact absurd (congrArg length (hb.mp rfl)) hl
def AaB (neg:Bool) (p q:PV) (P:PV->Prop):Prop:=∃ xs ys,p = .lst xs/\q = .lst ys/\CmpL xs ys/\∀ b:Bool,(b = true ↔ xs = ys)->P (.bl (if neg then !b else b))
def AkL (neg:Bool) (ua ub:UE):UE:=fun ρ P=>ua ρ fun p=>ub ρ fun q=>AaB neg p q P
theorem Us {neg:Bool} {ta tb:TE} {ua ub:UE} (ha:EB K C ω ta ua) (hb:EB K C ω tb ub):EU K C ω (tOp (Aax K neg) ta tb) (AkL neg ua ub) :=
 fun B G0 H0 own G σ H ρ P Q S hu k=>two ha hb S hu fun v w p q G' H' gr r1 r2 ⟨xs,ys,e1,e2,c,h⟩=>by
  subst e1 e2
  obtain⟨a,vs,rfl,ea,l⟩:=r1.lst gr.i
  obtain⟨b,ws,rfl,eb,l2⟩:=r2.lst gr.i
  exact⟨a,b,vs,ws,pd (xs = ys),rfl,rfl,SqL.of ea,SqL.of eb,c.leq gr.i l l2 pd_iff,k _ _ G' H' gr (.bl _) (h _ pd_iff)⟩
def Ajz:PV->Option (List PV)
 | .lst xs=>some xs
 | .tup xs=>some xs
 | .ctp xs=>some xs
 | _=>none
def bIn (neg:Bool) (p q:PV) (P:PV->Prop):Prop:=∃ xs,Ajz q = some xs/\Ry p = true/\(∀ x ∈ xs,Ry x = true)/\∀ b:Bool,(b = true ↔ p ∈ xs)->P (.bl (if neg then !b else b))
def uIn (neg:Bool) (ua ub:UE):UE:=fun ρ P=>ua ρ fun p=>ub ρ fun q=>bIn neg p q P
theorem RepB.seq {G H:Hp} {v:V} {q:PV} {xs:List PV} (i:Same G H) (h:RepB K C G H v q) (e:Ajz q = some xs):∃ a vs,v = .ref a/\(SqL K H a vs\/SqT K H a vs)/\Reps K C G vs xs:=by
 cases q <;> first | cases e | skip
 ·obtain⟨a,vs,e,ea,l⟩:=h.lst i; exact⟨a,vs,e,.inl (SqL.of ea),l⟩
 ·obtain⟨a,vs,e,ea,l⟩:=h.tup i; exact⟨a,vs,e,.inr (SqT.of ea),l⟩
 ·rcases h with h | ⟨a,_,h⟩
  ·cases h with
   | ctp e l q=>exact⟨_,_,rfl,.inr (e H),l,q⟩
  ·exact h.elim
theorem Tf {neg:Bool} {ta tb:TE} {ua ub:UE} (ha:EU K C ω ta ua) (hb:EB K C ω tb ub):EU K C ω (tOp (rIn K neg) ta tb) (uIn neg ua ub) :=
 fun B G0 H0 own G σ H ρ P Q S hu k=>ha B G0 H0 own G σ H ρ _ _ S hu fun v p G1 H1 w1 r1 h1=>hb B G0 H0 own G1 σ H1 ρ _ _ (S.grow w1) h1 fun w q G2 H2 w2 r2 ⟨xs,e,f1,f2,h⟩=>by
  obtain⟨a,vs,rfl,sq,l⟩:=r2.seq w2.i e
  have r1':=r1.mono w2.g
  have hb:inV v vs = pd (p ∈ xs):=Go (by
   rw[pd_iff]
   unfold inV
   rw[any_eq_true]
   constructor
   ·rintro ⟨y,hy,e⟩
    obtain⟨i,hi⟩:=getElem?_of_mem hy
    obtain⟨x,hx,rx⟩:=l.get hi
    rw[<- (Wn rx r1' (f2 x (mem_of_getElem? hx)) f1).mp e]
    exact mem_of_getElem? hx
   ·intro m
    obtain⟨i,hi⟩:=getElem?_of_mem m
    obtain⟨y,hy,ry⟩:=l.get' hi
    exact⟨y,mem_of_getElem? hy,(Wn ry r1' f1 f1).mpr rfl⟩)
  refine⟨a,vs,rfl,sq,Ti r1' f1,?_,?_⟩
  ·rw[all_eq_true]
   intro y hy
   obtain⟨i,hi⟩:=getElem?_of_mem hy
   obtain⟨x,hx,rx⟩:=l.get hi
   exact Ti rx (f2 x (mem_of_getElem? hx))
  ·rw[hb]; exact k _ _ G2 H2 (w1.trans w2) (.bl _) (h _ pd_iff)
def tyP:PV->Option String
 | .non=>some "NoneType"
 | .bl _=>some "bool"
 | .int _=>some "int"
 | .str _=>some "str"
 | .lst _=>some "list"
 | .tup _=>some "tuple"
 | .dk _=>some "dict"
 | .dt _=>some "dict"
 | _=>none
def kit (T n:String):Bool:=T == n || (T == "bool" && n == "int")
def Ahd:List String:=["NoneType","bool","int","str","list","tuple","dict"]
def Ahv:List String:=["bool","int","str","list","tuple","dict"]
theorem AiV:∀ T ∈ Ahd,∀ n ∈ Ahv,(if (Value.type T == Value.type n) = true then some true else if kitMeta n = true then (fastBuiltinMro T).map (·.contains (Value.type n)) else none) = some (kit T n):=by decide +kernel
theorem Anp {G H:Hp} (i:Same G H) {v:V} {p:PV} {T:String} (h:RepB K C G H v p) (e:tyP p = some T):Ge K H v (.type T)/\T ∈ Ahd:=by
 cases p <;> first | cases e | skip
 ·rcases h with h | ⟨_,_,h⟩
  ·cases h; exact⟨.non,by decide⟩
  ·exact h.elim
 ·rw[h.bl]; exact⟨.bl _,by decide⟩
 ·rw[h.int]; exact⟨.int _,by decide⟩
 ·rw[h.str]; exact⟨.str _,by decide⟩
 ·obtain⟨a,vs,rfl,ea,l⟩:=h.lst i; exact⟨.lst ea,by decide⟩
 ·obtain⟨a,vs,rfl,ea,l⟩:=h.tup i; exact⟨.tup ea,by decide⟩
 ·obtain⟨a,vs,rfl,ea,l⟩:=h.dk i; exact⟨.dK ea,by decide⟩
 ·obtain⟨a,vs,rfl,ea,l⟩:=h.dt i; exact⟨.dT ea,by decide⟩
def Wo (n:String) (p:PV) (P:PV->Prop):Prop:=∃ T,tyP p = some T/\P (.bl (kit T n))
def Alv (n:String) (ua:UE):UE:=fun ρ P=>ua ρ fun p=>Wo n p P
theorem Ss {n:String} {ta:TE} {ua:UE} (ha:EB K C ω ta ua) (hn:n ∈ Ahv:=by decide):EU K C ω (tCB (fun vs H Q=>∃ x n t b,vs = [x,.ty n]/\Ge K H x t/\kitOne K t (.type n) = some b/\Q (.bl b) H) (Fs ta (Fs (tC (.ty n)) Na))) (Alv n ua) :=
 fun B G0 H0 own G σ H ρ P Q S hu k=>ha B G0 H0 own G σ H ρ _ _ S hu fun v p G1 H1 w1 r1 ⟨T,e,h⟩=>by
  obtain⟨ty,hT⟩:=Anp w1.i r1 e
  exact⟨v,n,_,_,rfl,ty,Qv (AiV T hT n hn),k _ _ G1 H1 w1 (.bl _) h⟩
end
section
variable {K:Frag} {C:Addr} {ω:Om}
def vP:V->PV
 | .int i=>.int i
 | .str x=>.str x
 | .bl b=>.bl b
 | _=>.non
def scV:V->Bool
 | .int _=>true
 | .str _=>true
 | .bl _=>true
 | .non=>true
 | _=>false
theorem AkH {G:Hp} {v w:V} (hs:scV w = true) (h:Rep K C G v (vP w)):v = w:=by
 cases w <;> first | (cases hs; done) | (cases h; rfl)
theorem Adb {G:Hp} {w:V} (hs:scV w = true):Rep K C G w (vP w):=by
 cases w <;> first | (cases hs; done) | constructor
theorem Adc {G:Hp} {vs ws:List V} (hs:∀ w ∈ ws,scV w = true) (h:Reps K C G vs (ws.map vP)):vs = ws:=by
 refine No (by rw[h.1,length_map]) fun i x y hx hy=>?_
 exact AkH (hs y (mem_of_getElem? hy)) (h.2 i x (vP y) hx (by rw[getElem?_map,hy]; rfl))
theorem Aeo {G:Hp} {ws:List V} (hs:∀ w ∈ ws,scV w = true):Reps K C G ws (ws.map vP) :=
 ⟨by rw[length_map],fun i v p h1 h2=>by
  rw[getElem?_map,h1] at h2
  cases h2
  exact Adb (hs v (mem_of_getElem? h1))⟩
theorem Tr {G:Hp} {v:V} {ws:List V} (hs:∀ w ∈ ws,scV w = true) (h:Rep K C G v (.tup (ws.map vP))):∃ p,v = .ref p/\G p = some (.tup ws):=by
 cases h with
 | tup e l q=>rw[Adc hs ⟨l,q⟩] at e; exact⟨_,rfl,e⟩
theorem Ts {G:Hp} {p:Addr} {ws:List V} (hs:∀ w ∈ ws,scV w = true) (e:G p = some (.tup ws)):Rep K C G (.ref p) (.tup (ws.map vP)):=Rep.ofT e (Aeo hs)
def sgW (s:Sg):List V:=[.int s.1,.str s.2.1,.int s.2.2]
def prW (m:Int × Int):List V:=[.int m.1,.int m.2]
def jnW (j:Jn):List V:=[.int j.1,.int j.2.1,.int j.2.2]
def sgP (s:Sg):PV:=.tup [.int s.1,.str s.2.1,.int s.2.2]
def prP (m:Int × Int):PV:=.tup [.int m.1,.int m.2]
def jnP (j:Jn):PV:=.tup [.int j.1,.int j.2.1,.int j.2.2]
theorem Afb (s:Sg):∀ w ∈ sgW s,scV w = true:=by intro w hw; simp [sgW] at hw; rcases hw with rfl | rfl | rfl <;> rfl
theorem AdX (s:Int × Int):∀ w ∈ prW s,scV w = true:=by intro w hw; simp [prW] at hw; rcases hw with rfl | rfl <;> rfl
theorem Ac5 (s:Jn):∀ w ∈ jnW s,scV w = true:=by intro w hw; simp [jnW] at hw; rcases hw with rfl | rfl | rfl <;> rfl
theorem AfS {G:Hp} {v:V} {s:Sg}:Rep K C G v (sgP s) ↔ TripAt G v s:=⟨fun h=>let ⟨p,e,hp⟩:=Tr (Afb s) h; ⟨p,e,hp⟩,fun⟨p,e,hp⟩=>by subst e; exact Ts (Afb s) hp⟩
theorem AfA {G:Hp} {v:V} {s:Int × Int}:Rep K C G v (prP s) ↔ PairAt G v s:=⟨fun h=>let ⟨p,e,hp⟩:=Tr (AdX s) h; ⟨p,e,hp⟩,fun⟨p,e,hp⟩=>by subst e; exact Ts (AdX s) hp⟩
theorem AiD {G:Hp} {v:V} {s:Jn}:Rep K C G v (jnP s) ↔ TrjAt G v s:=⟨fun h=>let ⟨p,e,hp⟩:=Tr (Ac5 s) h; ⟨p,e,hp⟩,fun⟨p,e,hp⟩=>by subst e; exact Ts (Ac5 s) hp⟩
theorem Tp {α:Type} {R:Hp->V->α->Prop} {f:α->PV} (hf:∀ {G:Hp} {v:V} {s:α},Rep K C G v (f s) ↔ R G v s) {G:Hp} {vs:List V} {S:List α}:Reps K C G vs (S.map f) ↔ LAt R G vs S:=by
 constructor
 ·intro h
  refine⟨by rw[h.1,length_map],fun i x y hx hy=>hf.mp (h.2 i x (f y) hx (by rw[getElem?_map,hy]; rfl))⟩
 ·intro h
  refine⟨by rw[h.1,length_map],fun i x y hx hy=>?_⟩
  rw[getElem?_map] at hy
  obtain⟨s,hs,e⟩:=map_eq_some_iff.mp hy
  rw[<- e]
  exact hf.mpr (h.2 i x s hx hs)
def Ny (G H H':Hp):Hp:=fun a=>match H' a with
 | some (.tup xs)=>some (.tup xs)
 | o=>match H a with
  | none=>o
  | some _=>G a
theorem Ou {G H H':Hp} {a:Addr} {xs:List V} (e:H' a = some (.tup xs)):Ny G H H' a = some (.tup xs):=by unfold Ny; rw[e]
theorem Fe {G H H':Hp} {a:Addr} {o:HO} (n:H a = none) (e:H' a = some o):Ny G H H' a = some o:=by
 unfold Ny; rw[e,n]; cases o <;> rfl
theorem Sb {G H H':Hp} {a:Addr} {o:HO} (h:H a = some o) (s:Same H H') (t:Rz o):Ny G H H' a = G a:=by
 unfold Ny; rw[s _ _ h,h]
 cases o <;> first | rfl | exact absurd rfl (t _)
theorem Ob {G H H':Hp} (i:Same G H) (s:Same H H'):Grow G H (Ny G H H') H':=by
 refine⟨fun a o h=>?_,s,fun a o h=>?_,fun a o h t hg=>by rw[Sb h s t]; exact hg⟩
 ·have h1:=i _ _ h
  by_cases t:Rz o
  ·rw[Sb h1 s t]; exact h
  ·have:∃ xs,o = .tup xs:=Classical.byContradiction fun z=>t fun xs w=>z ⟨xs,w⟩
   obtain⟨xs,rfl⟩:=this
   exact Ou (s _ _ h1)
 ·cases e:H' a with
  | none =>
   unfold Ny at h; rw[e] at h
   cases e2:H a with
   | none=>rw[e2] at h; cases h
   | some u=>rw[s _ _ e2] at e; cases e
  | some u =>
   by_cases t:Rz u
   ·cases e2:H a with
    | none=>rw[Fe e2 e] at h; exact h
    | some w =>
     have:=s _ _ e2
     rw[e] at this; cases this
     rw[Sb e2 s t] at h
     rw[i _ _ h] at e2; cases e2; rfl
   ·have:∃ xs,u = .tup xs:=Classical.byContradiction fun z=>t fun xs w=>z ⟨xs,w⟩
    obtain⟨xs,rfl⟩:=this
    rw[Ou e] at h; exact h
theorem Am6 {G H:Hp} {l m n:Bool} {vs:List V} {ps:List PV} (h:ArgsOk K C G H [l,m,n] vs ps):∃ v w x p q r,vs = [v,w,x]/\ps = [p,q,r]/\RepB K C G H v p/\RepB K C G H w q/\RepB K C G H x r:=by
 match vs,ps,l,h with
 | v :: vs,p :: ps,true,h=>obtain⟨w,x,q,r,rfl,rfl,h1,h2⟩:=Rt h.2; exact⟨v,w,x,p,q,r,rfl,rfl,.inl h.1,h1,h2⟩
 | v :: vs,p :: ps,false,h=>obtain⟨w,x,q,r,rfl,rfl,h1,h2⟩:=Rt h.2; exact⟨v,w,x,p,q,r,rfl,rfl,h.1,h1,h2⟩
 | [],_,true,h=>cases h
 | [],_,false,h=>cases h
 | _ :: _,[],true,h=>cases h
 | _ :: _,[],false,h=>cases h
def bMk (P:PV->Prop) (ps:List PV):Prop:=∃ S M J,ps = [.lst (S.map sgP),.lst (M.map prP),.lst (J.map jnP)]/\(∀ s ∈ S,Ya s)/\(∀ m ∈ M,0 <= m.1/\0 <= m.2)/\(S.map (·.1) ++ Fq M).Nodup/\AbY (kK S ++ kM M) J/\S.length + 2 * M.length <= 400/\P (.bk S M J)
def uMk (u:UA):UE:=fun ρ P=>u ρ fun ps=>bMk P ps
theorem Am5 {E:XK} {t:TA} {u:UA} (ha:AU K C ω [false,false,false] t u):EU K C ω (Ahq C (Abo C) [] E t) (uMk u) :=
 fun B G0 H0 own G σ H ρ P Q St hu k=>ha B G0 H0 own G σ H ρ _ _ St hu fun vs ps G1 H1 w1 ok ⟨S,M,J,e,so,mo,nd,jo,hl,h⟩=>by
  obtain⟨v,w,y,p,q,r,rfl,e2,r1,r2,r3⟩:=Am6 ok
  rw[e] at e2; cases e2
  obtain⟨a1,xs,rfl,ea1,l1⟩:=r1.lst w1.i
  obtain⟨a2,ys,rfl,ea2,l2⟩:=r2.lst w1.i
  obtain⟨a3,zs,rfl,ea3,l3⟩:=r3.lst w1.i
  intro x dx hx hdx ndx
  have sB:Same H1 (upd (upd H1 dx (.own x)) x (.ins C dx [])):=fun q' o e=>by rw[Bj (Bv e hx),Bj (Bv e hdx)]; exact e
  have sG:=w1.i.trans sB
  refine⟨x,dx,a1,a2,a3,xs,ys,zs,S,M,J,rfl,Bm,sB _ _ ea1,sB _ _ ea2,sB _ _ ea3,((Tp AfS).mp l1).tripS sG,((Tp AfA).mp l2).pairS sG,((Tp AiD).mp l3).trjS sG,so,mo,nd,jo,hl,fun H2 kvs dx' dk dr dm dp dw kp fk fr fm fp fw e1 e2 e3 e4 e5 e6 lkv=>⟨rfl,?_⟩⟩
  have s2:Same H1 H2:=fun q' o e=>kp q' o (sB q' o e) (Bv e hx)
  have g:=Ob w1.i s2
  refine k _ _ _ H2 (w1.trans g) (.bk (kvs:=kvs) ⟨dx',dk,dr,dm,dp,dw,Fe hx e1,Fe (sB.free fk) e2,Fe (sB.free fr) e3,Fe (sB.free fm) e4,Fe (sB.free fp) e5,Fe (sB.free fw) e6⟩ ?_) h
  exact lkv.mono fun _ _ ⟨z1,p,z2,z3⟩=>⟨z1,p,z2,Ou z3⟩
def AnF:V->Str
 | .str x=>x
 | _=>"plain"
def Fd (S:List Sg) (M:List (Int × Int)) (n:Int):Str:=AnF ((Cr (kK S ++ kM M) (Sum.inl n)).getD (.str "plain"))
def Sc (M:List (Int × Int)) (n:Int):PV:=vP ((Cr (kB M) (Sum.inl n)).getD .non)
theorem Abm {κ:Type} [DecidableEq κ] {kvs:List (κ × V)} {k:κ} {v:V} (h:Cr kvs k = some v):∃ x,(x,v) ∈ kvs:=by
 unfold Cr at h
 obtain⟨kv,h1,h2⟩:=map_eq_some_iff.mp h
 exact⟨kv.1,by rw[<- h2]; exact List.mem_of_find?_eq_some h1⟩
theorem AiL {M:List (Int × Int)} {x:Key} {v:V} (h:(x,v) ∈ kM M):∃ s,v = .str s:=by
 induction M with
 | nil=>cases h
 | cons m r ih =>
  rcases mem_cons.mp h with e | h
  ·cases e; exact⟨_,rfl⟩
  ·rcases mem_cons.mp h with e | h
   ·cases e; exact⟨_,rfl⟩
   ·exact ih h
theorem Ai2 {M:List (Int × Int)} {x:Key} {v:V} (h:(x,v) ∈ kB M):∃ s,v = .int s:=by
 induction M with
 | nil=>cases h
 | cons m r ih =>
  rcases mem_cons.mp h with e | h
  ·cases e; exact⟨_,rfl⟩
  ·rcases mem_cons.mp h with e | h
   ·cases e; exact⟨_,rfl⟩
   ·exact ih h
theorem Ajr (S:List Sg) (M:List (Int × Int)) (n:Int):(Cr (kK S ++ kM M) (Sum.inl n)).getD (.str "plain") = .str (Fd S M n):=by
 unfold Fd
 cases e:Cr (kK S ++ kM M) (Sum.inl n) with
 | none=>rfl
 | some v =>
  obtain⟨x,hx⟩:=Abm e
  rcases mem_append.mp hx with h | h
  ·obtain⟨s,_,e2⟩:=mem_map.mp h; cases e2; rfl
  ·obtain⟨s,rfl⟩:=AiL h; rfl
theorem Akl {G:Hp} (M:List (Int × Int)) (n:Int):Rep K C G ((Cr (kB M) (Sum.inl n)).getD .non) (Sc M n):=by
 unfold Sc
 refine Adb ?_
 cases e:Cr (kB M) (Sum.inl n) with
 | none=>rfl
 | some v=>obtain⟨x,hx⟩:=Abm e; obtain⟨s,rfl⟩:=Ai2 hx; rfl
def bBk (p:PV) (R:List Sg->List (Int × Int)->List Jn->Prop):Prop:=∃ S M J,p = .bk S M J/\R S M J
def uM1 (f:List Sg->List (Int × Int)->List Jn->Int->PV) (ua ub:UE):UE:=fun ρ P=>ua ρ fun p=>bBk p fun S M J=>ub ρ fun q=>bU (fun n=>f S M J n) q P
theorem RepB.bk {G H:Hp} {v:V} {S:List Sg} {M:List (Int × Int)} {J:List Jn} (h:RepB K C G H v (.bk S M J)):∃ b kvs,v = .ref b/\BookAt C G b (kK S ++ kM M) (kR S) (kB M) kvs (kW J)/\LAt KvAt G kvs J:=by
 rcases h with h | ⟨a,_,h⟩
 ·cases h with
  | bk h l=>exact⟨_,_,rfl,h,l⟩
 ·exact h.elim
theorem AgY {nm:Str} {E:XK} {sp:Sp} {f:List Sg->List (Int × Int)->List Jn->Int->PV} {ta tb:TE} {ua ub:UE} (hm:∀ {dk dr dm dp dw:Addr},(bkF dk dr dm dp dw).lookup nm = none)
  (hs:∀ G H b S M J kvs n Q,Same G H->BookAt C G b (kK S ++ kM M) (kR S) (kB M) kvs (kW J)->LAt KvAt G kvs J->(∀ v,Rep K C G v (f S M J n)->Q v H)->sp [.ref b,.int n] H Q E)
  (ha:EB K C ω ta ua) (hb:EB K C ω tb ub):EU K C ω (Vg C nm sp [] E ta (Fs tb Na)) (uM1 f ua ub) :=
 fun B G0 H0 own G σ H ρ P Q St hu k=>ha B G0 H0 own G σ H ρ _ _ St hu fun v p G1 H1 w1 r1 ⟨S,M,J,e,h1⟩=>by
  subst e
  obtain⟨b,kvs,rfl,bk,l⟩:=r1.bk
  refine AaD (bk.mono fun _ _ e _=>w1.i _ _ e) hm (hb B G0 H0 own G1 σ H1 ρ _ _ (St.grow w1) h1 fun w q G2 H2 w2 r2 ⟨n,e,h⟩=>?_)
  subst e
  rw[r2.int]
  exact hs G2 H2 b S M J kvs n Q w2.i (bk.mono fun _ _ e _=>w2.g _ _ e) (l.kvS w2.g) fun v rv=>k v _ G2 H2 (w1.trans w2) rv h
theorem Ait {E:XK} {ta tb:TE} {ua ub:UE} (ha:EB K C ω ta ua) (hb:EB K C ω tb ub):EU K C ω (Vg C "kind" (Wl C) [] E ta (Fs tb Na)) (uM1 (fun S M _ n=>.str (Fd S M n)) ua ub) :=
 AgY Zz (fun G H b S M J kvs n Q i bk l k=>⟨b,n,_,_,_,_,_,rfl,bk.mono fun _ _ e _=>i _ _ e,by rw[Ajr]; exact k _ (.str _)⟩) ha hb
theorem AiJ {E:XK} {ta tb:TE} {ua ub:UE} (ha:EB K C ω ta ua) (hb:EB K C ω tb ub):EU K C ω (Vg C "mate" (Aa0 C) [] E ta (Fs tb Na)) (uM1 (fun _ M _ n=>Sc M n) ua ub) :=
 AgY Aap (fun G H b S M J kvs n Q i bk l k=>⟨b,n,_,_,_,_,_,rfl,bk.mono fun _ _ e _=>i _ _ e,k _ (Akl M n)⟩) ha hb
end
section
variable {ρ:Bi} {P:PV->Prop} {B:Bool->Prop} {R:Bi->Prop} {d:Fp} {ua ub uc:UE} {ta tb:UT} {u w:US} {x y:PV}
theorem Ft (q:u { d with nx:=w d } ρ):Agg u w d ρ:=q
theorem Ac8 (q:d.nx ρ):AgW d ρ:=q
theorem Aa6 {i:Nat} {s:Sl} (h:ρ[i]? = some s) (q:u d (ρ.set i (Qj s))):Zu i u d ρ:=by unfold Zu Jv; rw[h]; exact q
theorem AgM (q:ua ρ d.rt):AfT ua d ρ:=q
theorem AdV {i:Nat} (h:ρ[i]? = some (.ow x)) (q:d.rt x):AhV i d ρ:=⟨x,h,q⟩
theorem Aky (q:ta ρ fun b=>if b = true then u d ρ else w d ρ):Akt ta u w d ρ:=q
theorem Agz {i:Nat} (q:ua ρ fun p=>d.nx (ρ.set i (.sh p))):Ajg i ua d ρ:=q
theorem Afd {i:Nat} (q:ua ρ fun p=>d.nx (ρ.set i (.ow p))):Ahc i ua d ρ:=q
theorem AhT {ug:PV->Bi->(Bi->Prop)->Prop} (q:ua ρ fun p=>ug p ρ d.nx):Akb ua ug d ρ:=q
theorem Abt {i:Nat} (q:R (ρ.set i (.sh x))):AcX i x ρ R:=q
theorem Ae0 {n:Nat} {ps:List PV} {us:List PV->Bi->(Bi->Prop)->Prop} (hl:ps.length = n) (q:us ps ρ R):Yj n us (.tup ps) ρ R:=⟨ps,rfl,hl,q⟩
theorem AaU {r:List PV} {ug:PV->Bi->(Bi->Prop)->Prop} {us:List PV->Bi->(Bi->Prop)->Prop} (q:ug x ρ fun ρ'=>us r ρ' R):Abb ug us (x :: r) ρ R:=⟨x,r,rfl,q⟩
theorem AeY (q:R ρ):Adx [] ρ R:=⟨rfl,q⟩
theorem AaW {us:List PV->Bi->(Bi->Prop)->Prop} {s:Sg} (q:us [.int s.1,.str s.2.1,.int s.2.2] ρ R):Yj 3 us (sgP s) ρ R:=⟨_,rfl,rfl,q⟩
theorem Abq {us:List PV->Bi->(Bi->Prop)->Prop} {s:Int × Int} (q:us [.int s.1,.int s.2] ρ R):Yj 2 us (prP s) ρ R:=⟨_,rfl,rfl,q⟩
theorem AgC {i:Nat} {s:Sl} (h1:ρ[i]? = some s) (h2:s.val = some x) (q:P x):AkV i ρ P:=⟨s,x,h1,h2,q⟩
theorem Aex {i:Nat} (h1:ρ[i]? = some (.sh x)) (q:P x):Agw i ρ P:=⟨x,h1,q⟩
theorem p_c (q:P x):uC x ρ P:=q
theorem Akw {g:Int->Int->PV} (q:ua ρ fun p=>ub ρ fun q=>bI0 g p q P):uI0 g ua ub ρ P:=q
theorem Ajd {g:Int->Int->PV} {i j:Int} (q:P (g i j)):bI0 g (.int i) (.int j) P:=⟨i,j,rfl,rfl,q⟩
theorem p_i {c:Int->Int->Prop} {g:Int->Int->PV} (q:ua ρ fun p=>ub ρ fun q=>bI c g p q P):uI c g ua ub ρ P:=q
theorem Ag0 {g:Int->Int->PV} {i j:Int} (q:P (g i j)) (hc:0 < j):bI (fun _ j=>0 < j) g (.int i) (.int j) P:=⟨i,j,rfl,rfl,hc,q⟩
theorem AhR {g:Int->Int->PV} {i j:Int} (q:P (g i j)) (hc:AbK i j):bI AbK g (.int i) (.int j) P:=⟨i,j,rfl,rfl,hc,q⟩
theorem AhO {g:Int->Int->PV} {i j:Int} (q:P (g i j)) (hc:CMul i j):bI CMul g (.int i) (.int j) P:=⟨i,j,rfl,rfl,hc,q⟩
theorem AgA {g:Int->Int->PV} {i j:Int} (q:P (g i j)) (hc:Ab5 i j):bI Ab5 g (.int i) (.int j) P:=⟨i,j,rfl,rfl,hc,q⟩
theorem p_u {g:Int->PV} (q:ua ρ fun p=>bU g p P):uU g ua ρ P:=q
theorem b_u {g:Int->PV} {i:Int} (q:P (g i)):bU g (.int i) P:=⟨i,rfl,q⟩
theorem AgT {neg:Bool} (q:ua ρ fun p=>ub ρ fun q=>Aao neg p q P):AfM neg ua ub ρ P:=q
theorem Ag6 {i j:Int} (q:P (.bl (decide (i = j)))):Aao false (.int i) (.int j) P:=.inl ⟨i,j,rfl,rfl,q⟩
theorem AhA {i j:Int} (q:P (.bl (!decide (i = j)))):Aao true (.int i) (.int j) P:=.inl ⟨i,j,rfl,rfl,q⟩
theorem AhU {i j:Str} (q:P (.bl (decide (i = j)))):Aao false (.str i) (.str j) P:=.inr ⟨i,j,rfl,rfl,q⟩
theorem Ag7 (q:ua ρ fun p=>P (.bl (isN p))):AbN false ua ρ P:=q
theorem Aee (q:ua ρ fun p=>P (.bl (!isN p))):AbN true ua ρ P:=q
theorem p_b (q:ua ρ fun p=>bB p B):uB ua ρ B:=q
theorem b_b {b:Bool} (q:B b):bB (.bl b) B:=⟨b,rfl,q⟩
theorem AgV (q:ta ρ fun b=>if b = true then tb ρ B else B false):Alz ta tb ρ B:=q
theorem Ajp (q:ta ρ fun b=>if b = true then B true else tb ρ B):uOr ta tb ρ B:=q
theorem Ahi (q:ta ρ fun b=>B (!b)):AjO ta ρ B:=q
theorem Aeg (q:ua ρ fun p=>bB p fun b=>if b = true then ub ρ P else P (.bl false)):AhI ua ub ρ P:=q
theorem Aei (q:ua ρ fun p=>bB p fun b=>P (.bl (!b))):Ahx ua ρ P:=q
theorem Ahl (q:ta ρ fun b=>if b = true then ua ρ P else ub ρ P):uIf ta ua ub ρ P:=q
theorem Agv {L:List PV->Prop} (q:L []):AkY ρ L:=q
theorem AdL {L:List PV->Prop} {ur:UA} (q:ua ρ fun p=>ur ρ fun ps=>L (p :: ps)):Acs ua ur ρ L:=q
theorem AhC {ur:UA} (q:ur ρ fun ps=>P (.lst ps)):AkN ur ρ P:=q
theorem AgS {ur:UA} (q:ur ρ fun ps=>P (.tup ps)):AkZ ur ρ P:=q
theorem Agq (q:ua ρ fun p=>ub ρ fun q=>Tx p q P):AjK ua ub ρ P:=q
theorem Nl {ps:List PV} {i:Int} (h:atI ps i = some x) (q:P x):Tx (.lst ps) (.int i) P:=⟨i,ps,x,rfl,.inl rfl,h,q⟩
theorem Amq {ns:List Int} {i n:Int} (h:atI ns i = some n) (q:P (.int n)):Tx (.scr ns) (.int i) P:=⟨i,_,_,rfl,.inr ⟨ns,rfl,rfl⟩,by
 unfold L2.atI at h ⊢
 rw[length_map]
 cases e:ixN ns.length i with
 | none=>rw[e] at h; cases h
 | some j=>rw[e] at h; show (ns.map PV.int)[j]? = _; rw[getElem?_map,show ns[j]? = some n from h]; rfl,q⟩
theorem AhS (q:ua ρ fun p=>ub ρ fun q=>Aac p q P):Ajm ua ub ρ P:=q
theorem AdC {a:PV} {r:List PV} (q:P a):Aac (.tup (a :: r)) (.int 0) P:=⟨0,_,_,rfl,rfl,Fj (j:=0) rfl,q⟩
theorem AeA {a b:PV} {r:List PV} (q:P b):Aac (.tup (a :: b :: r)) (.int 1) P:=⟨1,_,_,rfl,rfl,Fj (j:=1) rfl,q⟩
theorem Aef {a b c:PV} {r:List PV} (q:P c):Aac (.tup (a :: b :: c :: r)) (.int 2) P:=⟨2,_,_,rfl,rfl,Fj (j:=2) rfl,q⟩
theorem Aau {O:Option Int->Prop} (q:O none):Aa1 ρ O:=q
theorem AdH {O:Option Int->Prop} (q:ua ρ fun p=>AbI p O):Aho ua ρ O:=q
theorem AeT {O:Option Int->Prop} {i:Int} (q:O (some i)):AbI (.int i) O:=⟨i,rfl,q⟩
theorem AhP {ul uh:UO} (q:ua ρ fun p=>ul ρ fun lo=>uh ρ fun hi=>Acc p lo hi P):AkR ua ul uh ρ P:=q
theorem Ahb {ps:List PV} {lo hi:Option Int} (q:P (.lst (Gr ps lo hi))):Acc (.lst ps) lo hi P:=⟨ps,.inl rfl,q⟩
theorem AgH {ns:List Int} {lo hi:Option Int} (q:P (.lst ((Gr ns lo hi).map .int))):Acc (.scr ns) lo hi P:=⟨_,.inr ⟨ns,rfl,rfl⟩,by rw[Rv]; exact q⟩
theorem AhM (q:ua ρ fun p=>ub ρ fun q=>Af1 p q P):Alm ua ub ρ P:=q
theorem Ahu {xs ys:List PV} (q:P (.lst (xs ++ ys))) (hl:xs.length + ys.length <= 100000):Af1 (.lst xs) (.lst ys) P:=⟨xs,ys,rfl,rfl,hl,q⟩
theorem AkE {ur:List PV->(PV->Prop)->Prop} {us:UA} (q:us ρ fun ps=>ur ps P):uCB ur us ρ P:=q
theorem Ad9 {xs:List PV} (q:P (.int (xs.length:Nat))):Yi [.lst xs] P:=⟨_,.inr (.inl ⟨xs,rfl,rfl⟩),q⟩
theorem Ae8 {xs:List PV} (q:P (.int (xs.length:Nat))):Yi [.tup xs] P:=⟨_,.inr (.inr (.inl ⟨xs,rfl,rfl⟩)),q⟩
theorem AdM {ns:List Int} (q:P (.int (ns.length:Nat))):Yi [.scr ns] P:=⟨_,.inr (.inr (.inr ⟨ns,rfl,rfl⟩)),q⟩
theorem Ahz {i j:Int} (q:P (.int (if j < i then j else i))):AgD [.int i,.int j] P:=⟨i,j,rfl,q⟩
theorem AgQ {i j:Int} (q:P (.int (if j > i then j else i))):Ahg [.int i,.int j] P:=⟨i,j,rfl,q⟩
theorem AeB {b:Bool} (q:P (.int (if b then 1 else 0))):Ag4 [.bl b] P:=.inr ⟨b,rfl,q⟩
theorem Abn {xs:List PV} (q:P (.lst xs)):Ad3 [.lst xs] P:=⟨xs,.inl rfl,q⟩
theorem Ahe {i:Nat} {us:UA} {ps:List PV} (h:ρ[i]? = some (.ow (.lst ps))) (q:us ρ fun qs=>Afw i ρ d.nx qs):Ahs i us d ρ:=⟨⟨ps,h⟩,q⟩
theorem Ag9 {i:Nat} {N:Bi->Prop} {ps:List PV} (h:ρ[i]? = some (.ow (.lst ps))) (q:N (ρ.set i (.ow (.lst (ps ++ [x]))))) (hl:ps.length < 100000):Afw i ρ N [x]:=⟨x,ps,rfl,h,hl,q⟩
theorem AhF {neg:Bool} (q:ua ρ fun p=>ub ρ fun q=>Afl neg p q P):Alu neg ua ub ρ P:=q
theorem Agx {kvs:List (Key × PV)} {n:Int} (q:P (.bl (Fy kvs (.inl n)).isSome)):Afl false (.int n) (.dk kvs) P:=⟨kvs,.inl n,rfl,rfl,q⟩
theorem Ad2 (q:ua ρ fun p=>ub ρ fun q=>Um p q P):AhD ua ub ρ P:=q
theorem Vd {kvs:List (Key × PV)} {n:Int} (h:Fy kvs (.inl n) = some x) (q:P x):Um (.dk kvs) (.int n) P:=⟨kvs,.inl n,x,rfl,rfl,h,q⟩
theorem Abg {i:Nat} {s:Sl} {kvs:List (Key × PV)} (h1:ρ[i]? = some s) (h2:s.val = some (.dk kvs)) (q:ub ρ fun q=>uc ρ fun z=>Zl kvs q z P):AdN i ub uc ρ P:=⟨s,kvs,h1,h2,q⟩
theorem AbA {kvs:List (Key × PV)} {n:Int} (q:P ((Fy kvs (.inl n)).getD x)):Zl kvs (.int n) x P:=⟨.inl n,rfl,q⟩
theorem AeG {i:Nat} {kvs:List (Key × PV)} (h:ρ[i]? = some (.ow (.dk kvs))) (q:ub ρ fun p=>ua ρ fun q=>AbH i ρ d.nx p q):Agy i ua ub d ρ:=⟨⟨kvs,h⟩,q⟩
theorem Ae4 {i:Nat} {kvs:List (Key × PV)} {n:Int} {N:Bi->Prop} (h:ρ[i]? = some (.ow (.dk kvs))) (q:N (ρ.set i (.ow (.dk (Lq kvs (.inl n) x))))) (hl:kvs.length < 100000):AbH i ρ N x (.int n):=⟨kvs,.inl n,h,rfl,hl,q⟩
theorem Ahf {ui:UI} {ug:PV->Bi->(Bi->Prop)->Prop} (q:ui ρ fun ps=>Sw ps ug u d ρ):Af6 ui ug u d ρ:=q
theorem AgZ {L:List PV->Prop} (q:ua ρ fun p=>bL p L):uiL ua ρ L:=q
theorem b_L {L:List PV->Prop} {ps:List PV} (q:L ps):bL (.lst ps) L:=⟨ps,.inl rfl,q⟩
theorem AeN {L:List PV->Prop} {i:Nat} (h:ρ[i]? = some (.bo x)) (q:bL x L):uiB i ρ L:=let ⟨ps,e,q⟩:=q; ⟨_,x,ps,h,.inl rfl,e,q⟩
theorem Ad8 {L:List PV->Prop} {i:Nat} (h:ρ[i]? = some (.sh x)) (q:bL x L):uiB i ρ L:=let ⟨ps,e,q⟩:=q; ⟨_,x,ps,h,.inr rfl,e,q⟩
theorem Ad5 {us:UA} {ug:PV->Bi->(Bi->Prop)->Prop} (q:us ρ fun ps=>bR1 (fun n=>Vo 0 n ug u d ρ) ps):AgO us ug u d ρ:=q
theorem AdW {us:UA} {ug:PV->Bi->(Bi->Prop)->Prop} (q:us ρ fun ps=>bR2 (fun i n=>Vo i n ug u d ρ) ps):AhB us ug u d ρ:=q
theorem Ac6 {ug:PV->Bi->(Bi->Prop)->Prop} {k:Nat} {fr:List Nat} (q:ua ρ fun p=>bL p fun ps=>ps.length <= 100000/\Li ps ug ta ue (compρ k fr ρ) P):Ago ua ug ta ue k fr ρ P:=q
theorem AaZ {us:UA} {ug:PV->Bi->(Bi->Prop)->Prop} {ue:UE} {k:Nat} {fr:List Nat} (q:us ρ fun ps=>Aad ug ta ue (compρ k fr ρ) P ps):AdB us ug ta ue k fr ρ P:=q
theorem Ad1 (q:B true):AgX ρ B:=q
theorem Ad4 {psp:PSp} {us:UA} (q:us ρ fun ps=>psp ps P):Vi psp us ρ P:=q
theorem Ahm {neg:Bool} (q:ua ρ fun p=>ub ρ fun q=>AaB neg p q P):AkL neg ua ub ρ P:=q
theorem Akr {neg:Bool} (q:ua ρ fun p=>ub ρ fun q=>bIn neg p q P):uIn neg ua ub ρ P:=q
theorem Aht {n:String} (q:ua ρ fun p=>Wo n p P):Alv n ua ρ P:=q
theorem Adn {xs:List PV} (q:P (.bl true)):Wo "list" (.lst xs) P:=⟨_,rfl,q⟩
theorem Aea {i:Int} (q:P (.bl true)):Wo "int" (.int i) P:=⟨_,rfl,q⟩
theorem AeE {i:Int} (q:P (.bl false)):Wo "bool" (.int i) P:=⟨_,rfl,q⟩
theorem Ac9 {xs:List PV} (q:P (.bl true)):Wo "tuple" (.tup xs) P:=⟨_,rfl,q⟩
theorem AkA {L:Nat->Prop} {j:Int} (q:L j.toNat) (h:-(2 ^ 62) <= j/\j < 2 ^ 62):bR1 L [.int j]:=⟨j,rfl,h.1,h.2,q⟩
theorem Ali {L:Int->Nat->Prop} {i j:Int} (q:L i (j - i).toNat) (h:-(2 ^ 62) <= i/\i < 2 ^ 62/\-(2 ^ 62) <= j/\j < 2 ^ 62):bR2 L [.int i,.int j]:=⟨i,j,rfl,h,q⟩
theorem Aah {a:PV} {r:List PV} (q:P a):Tx (.lst (a :: r)) (.int 0) P:=⟨0,_,_,rfl,.inl rfl,Fj (j:=0) rfl,q⟩
theorem Dx {α:Type} {f:α->PV} {l:List α} {j:Nat} {a:α} {i:Int} (h:l[j]? = some a) (e:i = (j:Int)) (q:P (f a)):Tx (.lst (l.map f)) (.int i) P:=by
 subst e
 exact⟨_,_,_,rfl,.inl rfl,Fj (by rw[getElem?_map,h]; rfl),q⟩
theorem Aje {us:UA} (q:us ρ fun ps=>bMk P ps):uMk us ρ P:=q
theorem AlX {f:List Sg->List (Int × Int)->List Jn->Int->PV} (q:ua ρ fun p=>bBk p fun S M J=>ub ρ fun q=>bU (fun n=>f S M J n) q P):uM1 f ua ub ρ P:=q
theorem AjP {S:List Sg} {M:List (Int × Int)} {J:List Jn} {L:List Sg->List (Int × Int)->List Jn->Prop} (q:L S M J):bBk (.bk S M J) L:=⟨S,M,J,rfl,q⟩
theorem Akc {xs:List PV} (c:CmpL xs xs) (q:P (.bl true)):AaB false (.lst xs) (.lst xs) P:=⟨xs,xs,rfl,rfl,c,fun b hb=>by rw[hb.mpr rfl]; exact q⟩
theorem Aep {xs:List PV} (c:CmpL xs xs) (q:P (.bl false)):AaB true (.lst xs) (.lst xs) P:=⟨xs,xs,rfl,rfl,c,fun b hb=>by rw[hb.mpr rfl]; exact q⟩
theorem Uf {xs ys:List Int}:CmpL (xs.map .int) (ys.map .int):=fun _ i x y hx hy=>by
 rw[getElem?_map] at hx hy
 obtain⟨a,_,rfl⟩:=map_eq_some_iff.mp hx
 obtain⟨b,_,rfl⟩:=map_eq_some_iff.mp hy
 exact .flat rfl rfl
theorem Ff {α:Type} {S:List α} {enc:α->PV} {f:α->Option PV} {ug:PV->Bi->(Bi->Prop)->Prop} {ue:UE} {ρ':Bi} (q:P (.lst (S.filterMap f))) (h:∀ s ∈ S,∀ Z:Option PV->Prop,Z (f s)->ug (enc s) ρ' fun ρ2=>ta ρ2 fun b=>if b = true then ue ρ2 fun q=>Z (some q) else Z none):Li (S.map enc) ug ta ue ρ' P:=by
 refine⟨fun n rs=>rs = (S.take n).filterMap f,rfl,fun n p rs hp hr=>?_,fun rs hr=>?_⟩
 ·rw[getElem?_map] at hp
  obtain⟨s,hs,rfl⟩:=map_eq_some_iff.mp hp
  subst hr
  refine h s (mem_of_getElem? hs) (fun o=>(match o with | some q=>(S.take n).filterMap f ++ [q] | none=>(S.take n).filterMap f) = (S.take (n + 1)).filterMap f) ?_
  rw[Dg hs,List.filterMap_append]
  cases e:f s with
  | none=>simp [filterMap_cons,e]
  | some x=>simp [filterMap_cons,e]
 ·rw[length_map,take_length] at hr
  rw[hr]; exact q
end
section
variable {K:Frag} {C:Addr} {ω:Om} {rm:Rm}
theorem Sd {G:Hp} {vs:List V} {ns:List Int} (h:Reps K C G vs (ns.map .int)):vs = ns.map V.int:=by
 refine No (by rw[h.1,length_map,length_map]) fun i x y hx hy=>?_
 rw[getElem?_map] at hy
 obtain⟨n,hn,rfl⟩:=map_eq_some_iff.mp hy
 have r:=h.2 i x (.int n) hx (by rw[getElem?_map,hn]; rfl)
 cases r; rfl
end
def AbB:PSp:=fun ps P=>∃ ns,ps = [.scr ns]/\ns.length <= 63/\P (.bl true)
def Ul (K:Frag):Sp:=fun vs H Q _=>∃ (a:Addr) (ns:List Int),vs = [.ref a]/\SqL K H a (ns.map V.int)/\ns.length <= 63/\∀ H',Q (.bl true) H'
theorem Ah0 {K:Frag} {C:Addr}:∀ vs H Q E,Ul K vs H Q E->spOf K C [false] .sh AbB vs H Q E:=fun vs H Q E ⟨a,ns,e,hS,hl,q⟩=>by
 subst e
 refine⟨H,[.scr ns],fun p=>p = .bl true,Same.refl _,⟨.inl (.scr hS),trivial⟩,⟨ns,rfl,hl,rfl⟩,fun G' H' v p w r hp=>?_⟩
 subst hp
 have r':Rep K C G' v (.bl true):=r
 cases r'
 exact q H'
section
variable {K:Frag} {C:Addr}
end
section
variable {K:Frag} {C:Addr} {ω:Om}
end
section
variable {K:Frag} {C:Addr} {ω:Om} {rm:Rm}
end
section
variable {K:Frag} {C:Addr} {ω:Om} {rm:Rm}
end
section
variable {K:Frag} {C:Addr} {ω:Om} {rm:Rm}
end
section
variable {K:Frag} {C:Addr} {ω:Om} {rm:Rm}
def enP (ps:List PV):List PV:=ps.mapIdx fun i p=>.tup [.int (i:Int),p]
theorem Oe {ps:List PV} {k:Nat}:(enP ps)[k]? = ps[k]?.map fun p=>.tup [.int (k:Int),p]:=by unfold enP; rw[getElem?_mapIdx]
theorem Qx (ps:List PV):(enP ps).length = ps.length:=by unfold enP; rw[length_mapIdx]
def Ahw (ua:UE) (ug:PV->Bi->(Bi->Prop)->Prop) (ub:US):US:=fun d ρ=>ua ρ fun p=>bL p fun ps=>Sw (enP ps) ug ub d ρ
theorem Wa {top:Nat} {ta:TE} {ua:UE} {g:TG} {ug:PV->Bi->(Bi->Prop)->Prop} {tb:TS} {ub:US} (ha:EU K C ω ta ua) (hg:GU K C ω top g ug) (hb:SU K C ω rm tb ub):SU K C ω rm (Ly (Yy K ta) g tb) (Ahw ua ug ub) :=
 fun B G0 H0 own G σ H ρ D d S F hu=>ha B G0 H0 own G σ H ρ _ _ S hu fun v p G1 H1 w1 r1 ⟨ps,e,I,i0,ist,iend⟩=>by
  have S1:=S.grow w1
  obtain⟨a,vs,rfl,sq,rp⟩:∃ a vs,v = .ref a/\SqL K G1 a vs/\Reps K C G1 vs ps:=by
   rcases e with e | ⟨ns,e,e2⟩
   ·subst e
    cases r1 with
    | lst e l q=>exact⟨_,_,rfl,SqL.of e,l,q⟩
   ·subst e e2
    cases r1 with
    | scr e=>exact⟨_,_,rfl,e,Fk ns⟩
  refine⟨a,rfl,⟨vs,w1.i.seq sq⟩,Aaq (xs:=vs) (fun k σ' H'=>∃ own' G' ρ',Sat K C ω G1 G0 H0 own' G' σ' H' ρ'/\I k ρ') ⟨own,G1,ρ,S1.base (Same.refl _),i0⟩ (fun k σ' H' _ ⟨own',G',ρ',S',_⟩=>(S'.kb.trans S'.gr.i).seq sq) (fun k x t σ' H' hx ht ⟨own',G',ρ',S',hi⟩=>?_) fun σ' H' ⟨own',G',ρ',S',hi⟩=>?_⟩
  ·obtain⟨q,hq,rq⟩:=rp.get hx
   have w2:Grow G' H' (upd G' t (.tup [.int (k:Int),x])) (upd H' t (.tup [.int (k:Int),x])):=Grow.put S'.gr.i ht (Same.new ht) Bm
   have S2:=S'.grow w2
   have rt:Rep K C (upd G' t (.tup [.int (k:Int),x])) (.ref t) (.tup [.int (k:Int),q]):=Rep.ofT Bm (LAt.snoc (LAt.snoc LAt.nil (.int _)) ((rq.mono S'.kb).mono w2.g))
   exact hg G1 G0 H0 own' _ σ' _ ρ' (.ref t) _ _ _ S2 rt (ist k _ ρ' (by rw[Oe,hq]; rfl) hi) fun own2 σ2 ρ2 S3 _ h2=>hb G1 G0 H0 own2 _ σ2 _ ρ2 _ _ S3 (Jt F S1.kb fun own3 G3 σ3 H3 ρ3 S4 h3=>⟨own3,G3,ρ3,S4,h3⟩) h2
  ·rw[rp.1,<- Qx] at hi
   exact F.nx own' G' σ' H' ρ' (S'.base (S1.kb.trans S'.kb)) (iend ρ' hi)
def AeC (ua:UE) (ug:PV->Bi->(Bi->Prop)->Prop) (uc:UT) (ue:UE) (k:Nat) (fr:List Nat):UE:=fun ρ P=>ua ρ fun p=>bL p fun ps=>ps.length <= 100000/\Li (enP ps) ug uc ue (compρ k fr ρ) P
theorem AcM {B G0 H0 G1 H1:Hp} {own:Nat->Option Addr} {σ:St} {ρ:Bi} (S:Sat K C ω B G0 H0 own G1 σ H1 ρ) {k:Nat} {fr:List Nat} {g:TG} {ug:PV->Bi->(Bi->Prop)->Prop} {tc:TT} {uc:UT} {te:TE} {ue:UE} (hg:GU K C Om.no k g ug) (hc:TU K C Om.no tc uc) (he:EU K C Om.no te ue) {D t:Addr} (hD:H1 D = none) {I:Nat->List PV->Prop} {n:Nat} (hn:n < 100000) {x:V} {q:PV} {H':Hp} {N:Hp->Prop}
  (rq:Rep K C G1 x q) (ht:H' t = none) (st:CSt K C G1 H1 D I n H') (hN:∀ H'',CSt K C G1 H1 D I (n + 1) H''->N H'') (hs:∀ rs,I n rs->ug (.tup [.int (n:Int),q]) (compρ k fr ρ) fun ρ2=>uc ρ2 fun b=>if b = true then ue ρ2 fun q=>I (n + 1) (rs ++ [q]) else I (n + 1) rs) :
  g (.ref t) (compσ k fr σ) (upd H' t (.tup [.int (n:Int),x])) fun σ2 H2=>σ2.drop k = (compσ k fr σ).drop k/\tc σ2 H2 fun b H3=>if b = true then te σ2 H3 (fun y H4=>∃ ys,H4 D = some (.lst ys)/\ys.length < sizeLine/\N (upd H4 D (.lst (ys ++ [y])))) else N H3:=by
 obtain⟨G,ys,rs,w,gD,eD,ry,hl,hi⟩:=st
 have w2:Grow G H' (upd G t (.tup [.int (n:Int),x])) (upd H' t (.tup [.int (n:Int),x])):=Grow.put w.i ht (Same.new ht) Bm
 have nD:D ≠ t:=fun z=>by rw[z,ht] at eD; cases eD
 have gD2:upd G t (.tup [.int (n:Int),x]) D = none:=by rw[Bj nD]; exact gD
 have eD2:upd H' t (.tup [.int (n:Int),x]) D = some (.lst ys):=by rw[Bj nD]; exact eD
 have w':=w.trans w2
 have ry2:=ry.mono w2.g
 have rt:Rep K C (upd G t (.tup [.int (n:Int),x])) (.ref t) (.tup [.int (n:Int),q]):=Rep.ofT Bm (LAt.snoc (LAt.snoc LAt.nil (.int _)) (rq.mono w'.g))
 refine hg G1 G1 H1 _ _ _ _ _ (.ref t) _ _ _ (S.comp k fr w') rt (hs rs hi) fun own' σ' ρ' S' dr h=>⟨dr,hc G1 G1 H1 own' _ σ' _ ρ' _ _ S' h fun b G3 H3 w3 h3=>?_⟩
 cases b with
 | false=>exact Nb (hN _ ⟨G3,ys,rs,w'.trans w3,w3.n D _ eD2 (fun _ z=>nomatch z) gD2,w3.h _ _ eD2,ry2.mono w3.g,by omega,by simpa using h3⟩)
 | true =>
  refine Ln (he G1 G1 H1 own' G3 σ' H3 ρ' _ _ (S'.grow w3) (by simpa using h3) fun y q G4 H4 w4 r4 h4=>?_)
  have w34:=w3.trans w4
  have g4:G4 D = none:=w34.n D _ eD2 (fun _ z=>nomatch z) gD2
  have e4:H4 D = some (.lst ys):=w34.h _ _ eD2
  refine⟨ys,e4,Sr (by rw[ry.1]; omega),hN _ ⟨G4,_,_,⟨(w'.trans w34).g,fun b u h=>?_,fun b u h=>?_,(w'.trans w34).n⟩,g4,Bm,Jy (ry2.mono w34.g) r4,by rw[length_append]; simp; omega,h4⟩⟩
  ·rw[Bj (by intro z; subst z; rw[hD] at h; cases h)]; exact (w'.trans w34).h _ _ h
  ·rw[Bj (by intro z; subst z; rw[g4] at h; cases h)]; exact w34.i _ _ h
theorem AfQ {ta:TE} {ua:UE} {k:Nat} {fr:List Nat} {g:TG} {ug:PV->Bi->(Bi->Prop)->Prop} {tc:TT} {uc:UT} {te:TE} {ue:UE} (ha:EB K C ω ta ua) (hg:GU K C Om.no k g ug) (hc:TU K C Om.no tc uc) (he:EU K C Om.no te ue):EF K C ω (Gz (Yy K ta) g tc te k fr) (AeC ua ug uc ue k fr) :=
 fun B G0 H0 own G σ H ρ P Q S hu kk=>Oh (ha B G0 H0 own G σ H ρ _ _ S hu fun v p G1 H1 w1 r1 ⟨ps,e,hl,I,i0,ist,iend⟩=>by
  have S1:=S.grow w1
  obtain⟨a,vs,rfl,sq,rp⟩:∃ a vs,v = .ref a/\SqL K H1 a vs/\Reps K C G1 vs ps:=by
   rcases e with e | ⟨ns,e,e2⟩
   ·subst e
    obtain⟨a,vs,rfl,ea,l⟩:=r1.lst w1.i
    exact⟨a,vs,rfl,SqL.of ea,l⟩
   ·subst e e2
    obtain⟨a,rfl,ea⟩:=r1.scr w1.i
    exact⟨a,_,rfl,ea,Fk ns⟩
  refine⟨a,rfl,⟨vs,sq⟩,fun D hD=>CP.enum vs (CSt K C G1 H1 D I) (Nr w1.i hD i0) (fun n H' _ ⟨G',_,_,w,_⟩=>w.h.seq sq) (fun n x t H' N hx ht st hN=>?_) fun H' st=>?_⟩
  ·obtain⟨q,hq,rq⟩:=rp.get hx
   have hn:n < ps.length:=(List.getElem?_eq_some_iff.mp hq).1
   exact AcM S1 hg hc he hD (by omega) rq ht st hN fun rs hi=>ist n _ rs (by rw[Oe,hq]; rfl) hi
  ·obtain⟨G',ys,rs,w,gD,eD,ry,_,hi⟩:=st
   rw[rp.1,<- Qx] at hi
   exact kk D _ G' H' (w1.trans w) (w1.h.free hD) gD (OwnA.ofL eD ry) (iend rs hi))
theorem AkF {ρ:Bi} {d:Fp} {ua:UE} {ug:PV->Bi->(Bi->Prop)->Prop} {ub:US} (q:ua ρ fun p=>bL p fun ps=>Sw (enP ps) ug ub d ρ):Ahw ua ug ub d ρ:=q
theorem Aio {ρ:Bi} {P:PV->Prop} {ua:UE} {ug:PV->Bi->(Bi->Prop)->Prop} {uc:UT} {ue:UE} {k:Nat} {fr:List Nat} (q:ua ρ fun p=>bL p fun ps=>ps.length <= 100000/\Li (enP ps) ug uc ue (compρ k fr ρ) P):AeC ua ug uc ue k fr ρ P:=q
end
section
variable {K:Frag} {C:Addr} {ω:Om}
end
theorem Lc {u w:US} {d:Fp} {ρ:Bi} (N:Bi->Prop) (h1:∀ ρ',N ρ'->w d ρ') (h2:u { d with nx:=fun ρ'=>N ρ'\/w d ρ' } ρ):Agg u w d ρ:=by
 have e:(fun ρ'=>N ρ'\/w d ρ') = w d:=funext fun ρ'=>propext ⟨fun z=>z.elim (h1 ρ') id,.inr⟩
 rw[e] at h2
 exact h2
section
variable {K:Frag} {C:Addr} {ω:Om} {rm:Rm}
theorem Aff {G:Hp} {vs:List V} {ps:List PV} (h:Reps K C G vs ps):Reps K C G vs.reverse ps.reverse:=by
 refine⟨by rw[length_reverse,length_reverse,h.1],fun i v p h1 h2=>?_⟩
 have hi:i < vs.length:=by simpa using (List.getElem?_eq_some_iff.mp h1).1
 have hj:i < ps.length:=by simpa using (List.getElem?_eq_some_iff.mp h2).1
 rw[List.getElem?_reverse hi] at h1
 rw[List.getElem?_reverse hj] at h2
 exact h.2 _ v p h1 (by rw[h.1]; exact h2)
def AfD (p:PV) (P:PV->Prop):Prop:=∃ ps,p = .lst ps/\P (.lst ps.reverse)
def Aku (ua:UE):UE:=fun ρ P=>ua ρ fun p=>AfD p P
theorem AmO {ρ:Bi} {ua:UE} {P:PV->Prop} (q:ua ρ fun p=>AfD p P):Aku ua ρ P:=q
theorem AmS {ps:List PV} {P:PV->Prop} (q:P (.lst ps.reverse)):AfD (.lst ps) P:=⟨ps,rfl,q⟩
theorem Adu {ta:TE} {ua:UE} (ha:EB K C ω ta ua):EF K C ω (Akq K ta) (Aku ua) :=
 fun B G0 H0 own G σ H ρ P Q S hu k=>ha B G0 H0 own G σ H ρ _ _ S hu fun v p G1 H1 w1 r1 ⟨ps,e,h⟩=>by
  subst e
  obtain⟨a,vs,rfl,ea,l⟩:=r1.lst w1.i
  exact⟨a,vs,rfl,SqL.of ea,fun b H2 hb s2 e2=>k b _ G1 H2 (w1.trans (Grow.own w1.i s2)) (w1.h.free hb) (w1.i.free hb) (OwnA.ofL e2 (Aff l)) h⟩
theorem Agc {G:Hp} {vs:List V} {bs:List Bool} (h:Reps K C G vs (bs.map .bl)):vs = bs.map V.bl:=by
 refine No (by rw[h.1,length_map,length_map]) fun i x y hx hy=>?_
 rw[getElem?_map] at hy
 obtain⟨b,hb,rfl⟩:=map_eq_some_iff.mp hy
 have r:=h.2 i x (.bl b) hx (by rw[getElem?_map,hb]; rfl)
 cases r; rfl
def AgB (ps:List PV) (P:PV->Prop):Prop:=∃ bs:List Bool,ps = [.lst (bs.map .bl)]/\P (.bl (bs.all id))
theorem Ami {bs:List Bool} {P:PV->Prop} (q:P (.bl (bs.all id))):AgB [.lst (bs.map .bl)] P:=⟨bs,rfl,q⟩
theorem AkO {m:Bool} {t:TA} {u:UA} (ha:AU K C ω [m] t u):EU K C ω (tCB (fun xs H Q=>∃ (p:Addr) (bs:List Bool),xs = [.ref p]/\SqL K H p (bs.map V.bl)/\Q (.bl (bs.all id)) H) t) (uCB AgB u) :=
 Va (fun G H vs ps P Q s ok ⟨bs,e,h⟩ k=>by
  obtain⟨v,p,rfl,e2,r⟩:=Oy ok
  rw[e] at e2; cases e2
  obtain⟨a,vs,rfl,ea,l⟩:=r.lst s
  exact⟨a,bs,rfl,SqL.of (by rw[<- Agc l]; exact ea),k _ _ (.bl _) h⟩) ha
def Afu (i:Nat) (ρ:Bi) (N:Bi->Prop) (p q:PV):Prop:=∃ ps n j,ρ[i]? = some (.ow (.lst ps))/\q = .int n/\ixN ps.length n = some j/\N (ρ.set i (.ow (.lst (ps.set j p))))
def Aks (i:Nat) (ub uv:UE):US:=fun d ρ=>(∃ ps,ρ[i]? = some (.ow (.lst ps)))/\uv ρ fun p=>ub ρ fun q=>Afu i ρ d.nx p q
theorem Am0 {i:Nat} {ρ:Bi} {ub uv:UE} {d:Fp} {ps:List PV} (h:ρ[i]? = some (.ow (.lst ps))) (q:uv ρ fun p=>ub ρ fun q=>Afu i ρ d.nx p q):Aks i ub uv d ρ:=⟨⟨ps,h⟩,q⟩
theorem Td {i:Nat} {ρ:Bi} {N:Bi->Prop} {p:PV} {n:Int} {j:Nat} {ps:List PV} (h:ρ[i]? = some (.ow (.lst ps))) (hj:ixN ps.length n = some j) (q:N (ρ.set i (.ow (.lst (ps.set j p))))):Afu i ρ N p (.int n):=⟨ps,n,j,h,rfl,hj,q⟩
theorem Afz {G:Hp} {vs:List V} {ps:List PV} {j:Nat} {v:V} {p:PV} (h:Reps K C G vs ps) (r:Rep K C G v p):Reps K C G (vs.set j v) (ps.set j p):=by
 refine⟨by rw[length_set,length_set,h.1],fun i x y h1 h2=>?_⟩
 by_cases z:i = j
 ·subst z
  have hi:i < vs.length:=by simpa using (List.getElem?_eq_some_iff.mp h1).1
  rw[getElem?_set_self hi] at h1
  rw[getElem?_set_self (by rw[<- h.1]; exact hi)] at h2
  cases h1; cases h2; exact r
 ·rw[getElem?_set_ne (Ne.symm z)] at h1 h2
  exact h.2 i x y h1 h2
theorem Qt {i:Nat} {tb tv:TE} {ub uv:UE} (hb:EB K C ω tb ub) (hv:EU K C ω tv uv):SU K C ω rm (Ld tv (Ak1 (Fg i) tb AdG)) (Aks i ub uv):=fun B G0 H0 own G σ H ρ D d S F ⟨⟨ps0,e0⟩,hu⟩ =>
 hv B G0 H0 own G σ H ρ _ _ S hu fun v p G1 H1 w1 r1 h1=>by
  have S1:=S.grow w1
  obtain⟨a,ea,o,_⟩:=S.sl i _ e0
  refine⟨_,ea,hb B G0 H0 own G1 σ H1 ρ _ _ S1 h1 fun w q G2 H2 w2 r2 ⟨ps,n,j,e,e2,hj,h⟩=>?_⟩
  subst e2
  have S2:=S1.grow w2
  obtain⟨a',ea',o',vs,ha,l⟩:=S2.sl i _ e
  rw[o] at o'; cases o'
  exact⟨a,vs,n,j,rfl,r2.int,ha,by rw[l.1]; exact hj,fun H3 c e3=>F.nx own G2 σ H3 _ (S2.chg o ea c (OwnA.ofL e3 (Afz l (r1.mono w2.g)))) h⟩
def Agh (p q:PV) (P:PV->Prop):Prop:=∃ x n,p = .lst [x]/\q = .int n/\n <= 100000/\-(2 ^ 63) <= n/\P (.lst (replicate n.toNat x))
def AlR (ua ub:UE):UE:=fun ρ P=>ua ρ fun p=>ub ρ fun q=>Agh p q P
theorem AmL {ρ:Bi} {ua ub:UE} {P:PV->Prop} (q:ua ρ fun p=>ub ρ fun q=>Agh p q P):AlR ua ub ρ P:=q
theorem Ama {x:PV} {n:Int} {P:PV->Prop} (q:P (.lst (replicate n.toNat x))) (h:n <= 100000/\-(2 ^ 63) <= n):Agh (.lst [x]) (.int n) P:=⟨x,n,rfl,rfl,h.1,h.2,q⟩
theorem Zv {ta tb:TE} {ua ub:UE} (ha:EB K C ω ta ua) (hb:EB K C ω tb ub):EF K C ω (tOp Agu ta tb) (AlR ua ub) :=
 fun B G0 H0 own G σ H ρ P Q S hu k=>two ha hb S hu fun v w p q G' H' gr r1 r2 ⟨x,n,e1,e2,hl,hm,h⟩=>by
  subst e1 e2
  obtain⟨a,vs,rfl,ea,l⟩:=r1.lst gr.i
  rw[r2.int]
  obtain⟨y,rfl⟩:∃ y,vs = [y]:=by
   have hlen:vs.length = 1:=l.1
   match vs,hlen with
   | [y],_=>exact⟨y,rfl⟩
  refine⟨a,n,[y],rfl,rfl,ea,hm,by omega,Nat.le_of_lt (Sr (by simp; omega)),fun c H4 hc s4 e4=>k c _ G' H4 (gr.trans (Grow.own gr.i s4)) (gr.h.free hc) (gr.i.free hc) (OwnA.ofL e4 ?_) h⟩
  have hf:∀ m:Nat,(replicate m [y]).flatten = replicate m y:=fun m=>by
   induction m with
   | zero=>rfl
   | succ m ih=>rw[replicate_succ,flatten_cons,ih,replicate_succ]; rfl
  rw[hf]
  refine⟨by simp,fun i v p h1 h2=>?_⟩
  have hi:i < n.toNat:=by simpa using (List.getElem?_eq_some_iff.mp h1).1
  rw[getElem?_replicate,if_pos hi] at h1 h2
  cases h1; cases h2
  exact l.2 0 _ _ rfl rfl
inductive EqO:PV->PV->Bool->Prop where
 | nn:EqO .non .non true
 | ns {z:Str}:EqO .non (.str z) false
 | ni {z:Int}:EqO .non (.int z) false
 | ii {x y:Int}:EqO (.int x) (.int y) (decide (x = y))
 | nt {ys:List PV}:EqO .non (.tup ys) false
 | tn {xs:List PV}:EqO (.tup xs) .non false
 | ts {xs:List PV} {z:Str}:EqO (.tup xs) (.str z) false
 | ss {x y:Str}:EqO (.str x) (.str y) (decide (x = y))
 | tt {xs ys:List PV} {b:Bool} (c:∀ (i:Nat) (x y:PV),xs[i]? = some x->ys[i]? = some y->Cmp 40 x y) (h:b = true ↔ xs = ys):EqO (.tup xs) (.tup ys) b
def Af7 (neg:Bool) (p q:PV) (P:PV->Prop):Prop:=∃ b,EqO p q b/\P (.bl (if neg then !b else b))
def Aka (neg:Bool) (ua ub:UE):UE:=fun ρ P=>ua ρ fun p=>ub ρ fun q=>Af7 neg p q P
theorem Anf {neg:Bool} {ρ:Bi} {ua ub:UE} {P:PV->Prop} (q:ua ρ fun p=>ub ρ fun q=>Af7 neg p q P):Aka neg ua ub ρ P:=q
theorem AjR {neg bb:Bool} {G' H':Hp} {a b:Addr} {vs ws:List V} {xs ys:List PV} {Q:VK} (i0:Same G' H') (c:∀ (i:Nat) (x y:PV),xs[i]? = some x->ys[i]? = some y->Cmp 40 x y) (ea:H' a = some (.tup vs)) (eb:H' b = some (.tup ws)) (l1:Reps K C G' vs xs) (l2:Reps K C G' ws ys) (hbb:bb = true ↔ xs = ys) (fin:Q (.bl (if neg then !bb else bb)) H'):Afn K neg (.ref a) (.ref b) H' Q:=by
 have key:((range (min vs.length ws.length)).all (fun i=>pd (xs[i]? = ys[i]?)) && vs.length == ws.length) = pd (xs = ys):=Go (by
  rw[pd_iff,and_eq_true,Qa]
  constructor
  ·rintro ⟨e,el⟩
   have el':vs.length = ws.length:=by simpa using el
   refine ext_getElem? fun i=>?_
   by_cases hi:i < vs.length
   ·exact pd_iff.mp (e i (by omega))
   ·rw[getElem?_eq_none (by rw[<- l1.1]; omega),getElem?_eq_none (by rw[<- l2.1]; omega)]
  ·intro e
   exact⟨fun i _=>by rw[pd_iff,e],by rw[l1.1,l2.1,e]; exact beq_self_eq_true _⟩)
 refine⟨a,b,vs,ws,fun i=>pd (xs[i]? = ys[i]?),rfl,rfl,SqT.of ea,SqT.of eb,fun i x y hx hy=>?_,?_⟩
 ·obtain⟨p,hp,rp⟩:=l1.get hx
  obtain⟨q,hq,rq⟩:=l2.get hy
  refine (c i p q hp hq).eqD i0 rp rq ?_
  rw[pd_iff,hp,hq]
  exact⟨fun z=>Option.some.inj z,fun z=>congrArg some z⟩
 ·rw[key,show pd (xs = ys) = bb from Go (by rw[pd_iff,hbb])]; exact fin
theorem AkD {neg:Bool} {ta tb:TE} {ua ub:UE} (ha:EB K C ω ta ua) (hb:EB K C ω tb ub):EU K C ω (tOp (AlL K neg) ta tb) (Aka neg ua ub) :=
 fun B G0 H0 own G σ H ρ P Q S hu k=>two ha hb S hu fun v w p q G' H' gr r1 r2 ⟨b,e,h⟩=>by
  have fin:Q (.bl (if neg then !b else b)) H':=k _ _ G' H' gr (.bl _) h
  cases e with
  | nn =>
   rw[show v = .non by rcases r1 with r1 | ⟨_,_,z⟩; cases r1; rfl; exact z.elim,show w = .non by rcases r2 with r2 | ⟨_,_,z⟩; cases r2; rfl; exact z.elim]
   exact .inr (.inl ⟨rfl,by simpa using fin⟩)
  | ns =>
   rw[show v = .non by rcases r1 with r1 | ⟨_,_,z⟩; cases r1; rfl; exact z.elim,r2.str]
   exact .inr (.inl ⟨rfl,by simpa using fin⟩)
  | ni =>
   rw[show v = .non by rcases r1 with r1 | ⟨_,_,z⟩; cases r1; rfl; exact z.elim,r2.int]
   exact .inr (.inl ⟨rfl,by simpa using fin⟩)
  | @ii x y =>
   rw[r1.int,r2.int]
   refine .inr (.inl ⟨rfl,?_⟩)
   have e:decide (V.int x = V.int y) = decide (x = y):=decide_eq_decide.mpr ⟨fun z=>by injection z,fun z=>by rw[z]⟩
   rw[e]; exact fin
  | nt =>
   obtain⟨a,vs,rfl,ea,l⟩:=r2.tup gr.i
   rw[show v = .non by rcases r1 with r1 | ⟨_,_,z⟩; cases r1; rfl; exact z.elim]
   exact .inr (.inr ⟨a,vs,SqT.of ea,.inr ⟨rfl,rfl⟩,by cases neg <;> exact fin⟩)
  | tn =>
   obtain⟨a,vs,rfl,ea,l⟩:=r1.tup gr.i
   rw[show w = .non by rcases r2 with r2 | ⟨_,_,z⟩; cases r2; rfl; exact z.elim]
   exact .inr (.inr ⟨a,vs,SqT.of ea,.inl ⟨rfl,.inl rfl⟩,by cases neg <;> exact fin⟩)
  | ts =>
   obtain⟨a,vs,rfl,ea,l⟩:=r1.tup gr.i
   rw[r2.str]
   exact .inr (.inr ⟨a,vs,SqT.of ea,.inl ⟨rfl,.inr ⟨_,rfl⟩⟩,by cases neg <;> exact fin⟩)
  | @ss x y =>
   rw[r1.str,r2.str]
   refine .inr (.inl ⟨rfl,?_⟩)
   have e:decide (V.str x = V.str y) = decide (x = y):=decide_eq_decide.mpr ⟨fun z=>by injection z,fun z=>by rw[z]⟩
   rw[e]; exact fin
  | tt c hb' =>
   left
   obtain⟨a,vs,rfl,ea,l⟩:=r1.tup gr.i
   obtain⟨b2,ws,rfl,eb,l2⟩:=r2.tup gr.i
   exact AjR gr.i c ea eb l l2 hb' fin
theorem AdS {a b:PV} {r:List PV} {P:PV->Prop} (q:P b):Tx (.lst (a :: b :: r)) (.int 1) P:=⟨1,_,_,rfl,.inl rfl,Fj (j:=1) rfl,q⟩
end
section
variable {K:Frag} {C:Addr} {ω:Om} {rm:Rm}
def zpP (ps qs:List PV):List PV:=zipWith (fun p q=>PV.tup [p,q]) ps qs
theorem Abf {ps qs:List PV} {k:Nat} {p q:PV} (h1:ps[k]? = some p) (h2:qs[k]? = some q):(zpP ps qs)[k]? = some (.tup [p,q]):=by
 unfold zpP; rw[List.getElem?_zipWith,h1,h2]
theorem Abv (ps qs:List PV):(zpP ps qs).length = min ps.length qs.length:=by unfold zpP; exact List.length_zipWith
theorem Wc {α β:Type} (f:α->PV) (g:β->PV) (xs:List α) (ys:List β):zpP (xs.map f) (ys.map g) = (xs.zip ys).map fun z=>PV.tup [f z.1,g z.2]:=by
 unfold zpP
 rw[List.zipWith_map,zip,List.map_zipWith]
def bLL (p q:PV) (R:List PV->List PV->Prop):Prop:=∃ ps qs,p = .lst ps/\q = .lst qs/\R ps qs
theorem An1 {ps qs:List PV} {R:List PV->List PV->Prop} (h:R ps qs):bLL (.lst ps) (.lst qs) R:=⟨ps,qs,rfl,rfl,h⟩
def AgU (ua ub:UE) (ug:PV->Bi->(Bi->Prop)->Prop) (u:US):US:=fun d ρ=>ua ρ fun p=>ub ρ fun q=>bLL p q fun ps qs=>Sw (zpP ps qs) ug u d ρ
theorem AjD {ρ:Bi} {d:Fp} {ua ub:UE} {ug:PV->Bi->(Bi->Prop)->Prop} {u:US} (q:ua ρ fun p=>ub ρ fun q=>bLL p q fun ps qs=>Sw (zpP ps qs) ug u d ρ):AgU ua ub ug u d ρ:=q
theorem Rep.lstE {G:Hp} {v:V} {ps:List PV} (h:Rep K C G v (.lst ps)):∃ a vs,v = .ref a/\SqL K G a vs/\Reps K C G vs ps:=by
 cases h with
 | lst e l q=>exact⟨_,_,rfl,SqL.of e,l,q⟩
theorem Aim {top:Nat} {ta tb:TE} {ua ub:UE} {g:TG} {ug:PV->Bi->(Bi->Prop)->Prop} {ts:TS} {us:US} (ha:EU K C ω ta ua) (ha2:EU K C ω tb ub) (hg:GU K C ω top g ug) (hb:SU K C ω rm ts us):SU K C ω rm (Ly (AbW K ta tb) g ts) (AgU ua ub ug us) :=
 fun B G0 H0 own G σ H ρ D d S F hu=>ha B G0 H0 own G σ H ρ _ _ S hu fun v p G1 H1 w1 r1 h1=>ha2 B G0 H0 own G1 σ H1 ρ _ _ (S.grow w1) h1 fun v2 q G2 H2 w2 r2 ⟨ps,qs,e1,e2,I,i0,ist,iend⟩=>by
  subst e1 e2
  have S2:=(S.grow w1).grow w2
  obtain⟨a,vs,rfl,sq,rp⟩:=(r1.mono w2.g).lstE
  obtain⟨b,ws,rfl,sq2,rp2⟩:=r2.lstE
  refine⟨a,b,rfl,rfl,⟨vs,w2.i.seq sq⟩,⟨ws,w2.i.seq sq2⟩,Aip (xs:=vs) (ys:=ws) (fun k σ' H'=>∃ own' G' ρ',Sat K C ω G2 G0 H0 own' G' σ' H' ρ'/\I k ρ') ⟨own,G2,ρ,S2.base (Same.refl _),i0⟩ (fun k σ' H' ⟨own',G',ρ',S',_⟩=>⟨(S'.kb.trans S'.gr.i).seq sq,(S'.kb.trans S'.gr.i).seq sq2⟩) (fun k x y t σ' H' hx hy ht ⟨own',G',ρ',S',hi⟩=>?_) fun σ' H' ⟨own',G',ρ',S',hi⟩=>?_⟩
  ·obtain⟨q1,hq1,rq1⟩:=rp.get hx
   obtain⟨q2,hq2,rq2⟩:=rp2.get hy
   have w3:Grow G' H' (upd G' t (.tup [x,y])) (upd H' t (.tup [x,y])):=Grow.put S'.gr.i ht (Same.new ht) Bm
   have S3:=S'.grow w3
   have rt:Rep K C (upd G' t (.tup [x,y])) (.ref t) (.tup [q1,q2]):=Rep.ofT Bm (LAt.snoc (LAt.snoc LAt.nil ((rq1.mono S'.kb).mono w3.g)) ((rq2.mono S'.kb).mono w3.g))
   exact hg G2 G0 H0 own' _ σ' _ ρ' (.ref t) _ _ _ S3 rt (ist k _ ρ' (Abf hq1 hq2) hi) fun own2 σ2 ρ2 S4 _ h2=>hb G2 G0 H0 own2 _ σ2 _ ρ2 _ _ S4 (Jt F S2.kb fun own3 G3 σ3 H3 ρ3 S5 h3=>⟨own3,G3,ρ3,S5,h3⟩) h2
  ·rw[rp.1,rp2.1,<- Abv] at hi
   exact F.nx own' G' σ' H' ρ' (S'.base (S2.kb.trans S'.kb)) (iend ρ' hi)
theorem Ace {B G0 H0 G1 H1:Hp} {own:Nat->Option Addr} {σ:St} {ρ:Bi} (S:Sat K C ω B G0 H0 own G1 σ H1 ρ) {k:Nat} {fr:List Nat} {g:TG} {ug:PV->Bi->(Bi->Prop)->Prop} {tc:TT} {uc:UT} {te:TE} {ue:UE} (hg:GU K C Om.no k g ug) (hc:TU K C Om.no tc uc) (he:EU K C Om.no te ue) {D t:Addr} (hD:H1 D = none) {I:Nat->List PV->Prop} {n:Nat} (hn:n < 100000) {x y:V} {q1 q2:PV} {H':Hp} {N:Hp->Prop}
  (rq1:Rep K C G1 x q1) (rq2:Rep K C G1 y q2) (ht:H' t = none) (st:CSt K C G1 H1 D I n H') (hN:∀ H'',CSt K C G1 H1 D I (n + 1) H''->N H'') (hs:∀ rs,I n rs->ug (.tup [q1,q2]) (compρ k fr ρ) fun ρ2=>uc ρ2 fun b=>if b = true then ue ρ2 fun q=>I (n + 1) (rs ++ [q]) else I (n + 1) rs) :
  g (.ref t) (compσ k fr σ) (upd H' t (.tup [x,y])) fun σ2 H2=>σ2.drop k = (compσ k fr σ).drop k/\tc σ2 H2 fun b H3=>if b = true then te σ2 H3 (fun y H4=>∃ ys,H4 D = some (.lst ys)/\ys.length < sizeLine/\N (upd H4 D (.lst (ys ++ [y])))) else N H3:=by
 obtain⟨G,ys,rs,w,gD,eD,ry,hl,hi⟩:=st
 have w2:Grow G H' (upd G t (.tup [x,y])) (upd H' t (.tup [x,y])):=Grow.put w.i ht (Same.new ht) Bm
 have nD:D ≠ t:=fun z=>by rw[z,ht] at eD; cases eD
 have gD2:upd G t (.tup [x,y]) D = none:=by rw[Bj nD]; exact gD
 have eD2:upd H' t (.tup [x,y]) D = some (.lst ys):=by rw[Bj nD]; exact eD
 have w':=w.trans w2
 have ry2:=ry.mono w2.g
 have rt:Rep K C (upd G t (.tup [x,y])) (.ref t) (.tup [q1,q2]):=Rep.ofT Bm (LAt.snoc (LAt.snoc LAt.nil (rq1.mono w'.g)) (rq2.mono w'.g))
 refine hg G1 G1 H1 _ _ _ _ _ (.ref t) _ _ _ (S.comp k fr w') rt (hs rs hi) fun own' σ' ρ' S' dr h=>⟨dr,hc G1 G1 H1 own' _ σ' _ ρ' _ _ S' h fun b G3 H3 w3 h3=>?_⟩
 cases b with
 | false=>exact Nb (hN _ ⟨G3,ys,rs,w'.trans w3,w3.n D _ eD2 (fun _ z=>nomatch z) gD2,w3.h _ _ eD2,ry2.mono w3.g,by omega,by simpa using h3⟩)
 | true =>
  refine Ln (he G1 G1 H1 own' G3 σ' H3 ρ' _ _ (S'.grow w3) (by simpa using h3) fun y q G4 H4 w4 r4 h4=>?_)
  have w34:=w3.trans w4
  have g4:G4 D = none:=w34.n D _ eD2 (fun _ z=>nomatch z) gD2
  have e4:H4 D = some (.lst ys):=w34.h _ _ eD2
  refine⟨ys,e4,Sr (by rw[ry.1]; omega),hN _ ⟨G4,_,_,⟨(w'.trans w34).g,fun b u h=>?_,fun b u h=>?_,(w'.trans w34).n⟩,g4,Bm,Jy (ry2.mono w34.g) r4,by rw[length_append]; simp; omega,h4⟩⟩
  ·rw[Bj (by intro z; subst z; rw[hD] at h; cases h)]; exact (w'.trans w34).h _ _ h
  ·rw[Bj (by intro z; subst z; rw[g4] at h; cases h)]; exact w34.i _ _ h
def AeF (ua ub:UE) (ug:PV->Bi->(Bi->Prop)->Prop) (uc:UT) (ue:UE) (k:Nat) (fr:List Nat):UE:=fun ρ P=>ua ρ fun p=>ub ρ fun q=>bLL p q fun ps qs=>ps.length <= 100000/\Li (zpP ps qs) ug uc ue (compρ k fr ρ) P
theorem Ah1 {ρ:Bi} {P:PV->Prop} {ua ub:UE} {ug:PV->Bi->(Bi->Prop)->Prop} {uc:UT} {ue:UE} {k:Nat} {fr:List Nat} (q:ua ρ fun p=>ub ρ fun q=>bLL p q fun ps qs=>ps.length <= 100000/\Li (zpP ps qs) ug uc ue (compρ k fr ρ) P):AeF ua ub ug uc ue k fr ρ P:=q
theorem Zt {ta tb:TE} {ua ub:UE} {k:Nat} {fr:List Nat} {g:TG} {ug:PV->Bi->(Bi->Prop)->Prop} {tc:TT} {uc:UT} {te:TE} {ue:UE} (ha:EB K C ω ta ua) (ha2:EB K C ω tb ub) (hg:GU K C Om.no k g ug) (hc:TU K C Om.no tc uc) (he:EU K C Om.no te ue):EF K C ω (Gz (AbW K ta tb) g tc te k fr) (AeF ua ub ug uc ue k fr) :=
 fun B G0 H0 own G σ H ρ P Q S hu kk=>Oh (ha B G0 H0 own G σ H ρ _ _ S hu fun v p G1 H1 w1 r1 h1=>ha2 B G0 H0 own G1 σ H1 ρ _ _ (S.grow w1) h1 fun v2 q G2 H2 w2 r2 ⟨ps,qs,e1,e2,hl,I,i0,ist,iend⟩=>by
  subst e1 e2
  have S2:=(S.grow w1).grow w2
  obtain⟨a,vs,rfl,ea,rp⟩:=(r1.grow w2).lst w2.i
  obtain⟨b,ws,rfl,eb,rp2⟩:=r2.lst w2.i
  refine⟨a,b,rfl,rfl,⟨vs,SqL.of ea⟩,⟨ws,SqL.of eb⟩,fun D hD=>CP.zip vs ws (CSt K C G2 H2 D I) (Nr w2.i hD i0) (fun n H' ⟨G',_,_,w,_⟩=>⟨w.h.seq (SqL.of ea),w.h.seq (SqL.of eb)⟩) (fun n x y t H' N hx hy ht st hN=>?_) fun H' st=>?_⟩
  ·obtain⟨q1,hq1,rq1⟩:=rp.get hx
   obtain⟨q2,hq2,rq2⟩:=rp2.get hy
   have hn:n < ps.length:=(List.getElem?_eq_some_iff.mp hq1).1
   exact Ace S2 hg hc he hD (by omega) rq1 rq2 ht st hN fun rs hi=>ist n _ rs (Abf hq1 hq2) hi
  ·obtain⟨G',ys,rs,w,gD,eD,ry,_,hi⟩:=st
   rw[rp.1,rp2.1,<- Abv] at hi
   exact kk D _ G' H' ((w1.trans w2).trans w) ((w1.trans w2).h.free hD) gD (OwnA.ofL eD ry) (iend rs hi))
def Af9 (f:Int->Int->Int) (i:Nat) (ρ:Bi) (N:Bi->Prop) (p q:PV):Prop:=∃ a b,p = .int a/\q = .int b/\N (ρ.set i (.sh (.int (f a b))))
def Ajb (f:Int->Int->Int) (i:Nat) (ue:UE):US:=fun d ρ=>∃ s p,ρ[i]? = some s/\s.val = some p/\ue ρ fun q=>Af9 f i ρ d.nx p q
theorem AmF {f:Int->Int->Int} {i:Nat} {ue:UE} {d:Fp} {ρ:Bi} {s:Sl} {p:PV} (h1:ρ[i]? = some s) (h2:s.val = some p) (q:ue ρ fun q=>Af9 f i ρ d.nx p q):Ajb f i ue d ρ:=⟨s,p,h1,h2,q⟩
theorem AmZ {f:Int->Int->Int} {i:Nat} {ρ:Bi} {N:Bi->Prop} {a b:Int} (q:N (ρ.set i (.sh (.int (f a b))))):Af9 f i ρ N (.int a) (.int b):=⟨a,b,rfl,rfl,q⟩
theorem AdI {f:Int->Int->Int} {i:Nat} {te:TE} {ue:UE} (he:EB K C ω te ue):SU K C ω rm (AkJ i te (ipI f)) (Ajb f i ue):=fun B G0 H0 own G σ H ρ D d S F ⟨s,p,h1,h2,hu⟩=>by
 have q:=S.sl i s h1
 have key:∃ v,σ[i]? = some (some v)/\∀ a,p = .int a->v = .int a:=by
  cases s with
  | un=>cases h2
  | sh p'=>cases h2; obtain⟨v,e,r⟩:=q; exact⟨v,e,fun a ea=>by subst ea; cases r; rfl⟩
  | bo p'=>cases h2; obtain⟨v,e,r⟩:=q; exact⟨v,e,fun a ea=>by subst ea; exact r.int⟩
  | ow p'=>cases h2; obtain⟨a,e,_,r⟩:=q; exact⟨_,e,fun a ea=>by subst ea; exact r.elim⟩
  | fz _ _=>cases h2
  | bz _=>cases h2
  | fl z ps=>cases h2; obtain⟨e,_,_,_⟩:=q; exact⟨_,e,fun a ea=>nomatch ea⟩
  | om b p'=>cases h2; obtain⟨e,_,r⟩:=q; exact⟨_,e,fun a ea=>by subst ea; exact r.elim⟩
 obtain⟨v,ev,hv⟩:=key
 refine⟨v,ev,he B G0 H0 own G σ H ρ _ _ S hu fun y qv G1 H1 w1 r1 ⟨a,b,e1,e2,h⟩=>?_⟩
 subst e2
 exact⟨a,b,hv a e1,r1.int,F.nx _ G1 _ H1 _ ((S.grow w1).setS (.int _)) h⟩
def AfL (p q:PV) (P:PV->Prop):Prop:=∃ xs,q = .lst xs/\(∀ x ∈ xs,∃ ys,x = .tup ys)/\(∀ x ∈ xs,Cmp 40 x p)/\∀ b:Bool,(b = true ↔ p ∈ xs)->P (.bl (!b))
def Ak3 (ua ub:UE):UE:=fun ρ P=>ua ρ fun p=>ub ρ fun q=>AfL p q P
theorem AmX {ρ:Bi} {P:PV->Prop} {ua ub:UE} (q:ua ρ fun p=>ub ρ fun q=>AfL p q P):Ak3 ua ub ρ P:=q
theorem AdR {ta tb:TE} {ua ub:UE} (ha:EU K C ω ta ua) (hb:EB K C ω tb ub):EU K C ω (tOp (AlM K true) ta tb) (Ak3 ua ub) :=
 fun B G0 H0 own G σ H ρ P Q S hu k=>ha B G0 H0 own G σ H ρ _ _ S hu fun v p G1 H1 w1 r1 h1=>hb B G0 H0 own G1 σ H1 ρ _ _ (S.grow w1) h1 fun w q G2 H2 w2 r2 ⟨xs,e,ht,hc,h⟩=>by
  subst e
  obtain⟨a,vs,rfl,ea,l⟩:=r2.lst w2.i
  have r1':=r1.mono w2.g
  have hr:∀ u ∈ vs,∃ r x,u = V.ref r/\x ∈ xs/\Rep K C G2 (.ref r) x:=fun u hu=>by
   obtain⟨i,hi⟩:=getElem?_of_mem hu
   obtain⟨x,hx,rx⟩:=LAt.get l hi
   obtain⟨ys,rfl⟩:=ht x (mem_of_getElem? hx)
   cases rx with
   | tup e l' q'=>exact⟨_,_,rfl,mem_of_getElem? hx,.tup e l' q'⟩
  refine⟨a,vs,fun r=>pd (Rep K C G2 (.ref r) p),rfl,SqL.of ea,fun u hu=>let ⟨r,_,e,_⟩:=hr u hu; ⟨r,e⟩,fun r hm=>?_,?_⟩
  ·obtain⟨r',x,e,hx,rx⟩:=hr _ hm
   cases e
   refine (hc x hx).eqD w2.i rx r1' ?_
   rw[pd_iff]
   exact⟨fun z=>(hc x hx).fn rx z,fun z=>by rw[<- z]; exact rx⟩
  ·have key:vs.any (Aal fun r=>pd (Rep K C G2 (.ref r) p)) = pd (p ∈ xs):=Go (by
    rw[pd_iff,any_eq_true]
    constructor
    ·rintro ⟨u,hu,hb⟩
     obtain⟨r,x,rfl,hx,rx⟩:=hr u hu
     have:Rep K C G2 (.ref r) p:=pd_iff.mp hb
     rw[<- (hc x hx).fn rx this]; exact hx
    ·intro hp
     obtain⟨i,hi⟩:=getElem?_of_mem hp
     obtain⟨u,hu,ru⟩:=LAt.get' l hi
     obtain⟨ys,rfl⟩:=ht p hp
     refine⟨u,mem_of_getElem? hu,?_⟩
     cases ru with
     | tup e l' q'=>exact pd_iff.mpr (.tup e l' q'))
   show Q (.bl (!(vs.any (Aal fun r=>pd (Rep K C G2 (.ref r) p))))) H2
   rw[key]
   exact k _ _ G2 H2 (w1.trans w2) (.bl _) (h _ pd_iff)
abbrev Fz:=Addr × Obj × List (Key × V)
def fzE (i:Nat) (z:Fz) (kvs:List (Key × PV)) (N:Bi->Prop) (ρ:Bi):Prop:=ρ[i]? = some (.fz z kvs)/\N (ρ.set i (.ow (.dk kvs)))
def Aas (i:Nat) (z:Fz) (kvs:List (Key × PV)) (d:Fp):Fp:=⟨fzE i z kvs d.nx,fun _=>False,fzE i z kvs d.bk,fzE i z kvs d.ct⟩
def AlB (i:Nat) (u:US):US:=fun d ρ=>∃ kvs,ρ[i]? = some (.ow (.dk kvs))/\∀ z,u (Aas i z kvs d) (ρ.set i (.fz z kvs))
theorem Qk {H:Hp} {a b:Addr} {o u:HO} (n:b ≠ a) (h:H b = some u):upd H a o b = some u:=by rw[Bj n]; exact h
theorem Sat.turn {B G0 H0 G H:Hp} {own:Nat->Option Addr} {σ:St} {ρ:Bi} (S:Sat K C ω B G0 H0 own G σ H ρ) {i:Nat} {a:Addr} {o:HO} {s':Sl} (e:own i = some a) (ht:Rz o) (hs:SlOk K C G0 H0 own G σ (upd H a o) i s'):Sat K C ω B G0 H0 own G σ (upd H a o) (ρ.set i s'):=by
 obtain⟨f0,fg,_⟩:=S.fr i a e
 have ng:∀ b u,G b = some u->b ≠ a:=fun b u h w=>by subst w; rw[fg] at h; cases h
 have n0:∀ b u,H0 b = some u->b ≠ a:=fun b u h w=>by subst w; rw[f0] at h; cases h
 refine⟨S.kb,⟨S.gr.g,fun b u h=>Qk (n0 b u h) (S.gr.h _ _ h),fun b u h=>Qk (ng b u h) (S.gr.i _ _ h),S.gr.n⟩,by rw[length_set,S.len],S.inj,fun j b h=>?_,fun j s h=>?_,S.ex⟩
 ·obtain⟨q0,qg,u,qh,qt⟩:=S.fr j b h
  by_cases w:b = a
  ·subst w; exact⟨q0,qg,o,Bm,ht⟩
  ·exact⟨q0,qg,u,Qk w qh,qt⟩
 ·rcases Nc h with ⟨rfl,rfl,hl⟩ | ⟨z,h⟩
  ·exact hs
  ·have q:=S.sl j s h
   cases s with
   | un=>trivial
   | sh p=>exact q
   | bo p=>exact q
   | bz kvs=>exact q
   | fz y kvs =>
    obtain⟨e1,o1,h1,h2⟩:=q
    exact⟨e1,o1,Qk (fun w=>z (S.inj j i a (by rw[<- w]; exact o1) e)) h1,h2⟩
   | fl y ps =>
    obtain⟨e1,o1,h1,h2⟩:=q
    exact⟨e1,o1,Qk (fun w=>z (S.inj j i a (by rw[<- w]; exact o1) e)) h1,h2⟩
   | om b p' =>
    obtain⟨e1,o1,r1⟩:=q
    exact⟨e1,o1,r1.mono (Same.refl _) (Bj fun w=>z (S.inj j i a (by rw[<- w]; exact o1) e))⟩
   | ow p' =>
    obtain⟨b,e1,o1,r1⟩:=q
    exact⟨b,e1,o1,r1.mono (Same.refl _) (Bj fun w=>z (S.inj j i a (by rw[<- w]; exact o1) e))⟩
theorem Aey {i:Nat} {t:TS} {u:US} (h:SU K C ω rm t u):SU K C ω rm (Ab2 t) (AlB i u):=fun B G0 H0 own G σ H ρ D d S F ⟨kvs,e,hu⟩=>by
 obtain⟨a,ea,eo,vs,ha,l⟩:=S.sl i _ e
 refine⟨a,.dK vs,trivial,ha,fun o=>?_⟩
 have S1:=S.turn (o:=.frz o (.dK vs)) (s':=.fz (a,o,vs) kvs) eo (fun _ z=>nomatch z) ⟨ea,eo,Bm,l⟩
 have key:∀ (N:Bi->Prop) (M:St->Hp->Prop),(∀ own G σ H ρ,Sat K C ω B G0 H0 own G σ H ρ->N ρ->M σ H)->∀ own' G' σ' H' ρ',Sat K C ω B G0 H0 own' G' σ' H' ρ'->fzE i (a,o,vs) kvs N ρ'->∃ o',H' a = some (.frz o' (.dK vs))/\M σ' (upd H' a (.dK vs)):=fun N M hM own' G' σ' H' ρ' S' ⟨e',h'⟩=>by
  obtain⟨h1,h2,h3,h4⟩:=S'.sl i _ e'
  exact⟨o,h3,hM own' G' σ' _ _ (S'.turn (o:=.dK vs) (s':=.ow (.dk kvs)) h2 (fun _ z=>nomatch z) ⟨a,h1,h2,OwnA.ofD Bm h4⟩) h'⟩
 exact h B G0 H0 own G σ _ _ _ (Aas i (a,o,vs) kvs d) S1 ⟨key d.nx D.nx F.nx,fun _ _ _ _ _ _ z=>z.elim,key d.bk D.bk F.bk,key d.ct D.ct F.ct⟩ (hu (a,o,vs))
theorem Ak2 {G:Hp} (k:Key):Rep K C G (kV k) (kP k):=by
 cases k with
 | inl i=>exact .int _
 | inr x=>exact .str _
def Sl.fzv:Sl->Option (List (Key × PV))
 | .fz _ kvs=>some kvs
 | .bz kvs=>some kvs
 | _=>none
def AeI (i:Nat) (ub:UE):UE:=fun ρ P=>∃ s kvs,ρ[i]? = some s/\s.fzv = some kvs/\ub ρ fun q=>Um (.dk kvs) q P
theorem AaI {i:Nat} {tb:TE} {ub:UE} (hb:EB K C ω tb ub):EU K C ω (Ym (Fg i) tb) (AeI i ub):=fun B G0 H0 own G σ H ρ P Q S ⟨s,kvs,e,ev,hu⟩ k=>by
 have key:∃ a o vs,σ[i]? = some (some (.ref a))/\H a = some (.frz o (.dK vs))/\LAt (KRep K C) G vs kvs:=by
  have q:=S.sl i s e
  cases s with
  | fz z kvs'=>cases ev; obtain⟨h1,_,h2,h3⟩:=q; exact⟨_,_,_,h1,h2,h3⟩
  | bz kvs'=>cases ev; obtain⟨a,o,vs,h1,h2,h3⟩:=q; exact⟨a,o,vs,h1,S.gr.h _ _ h2,h3⟩
  | _=>cases ev
 obtain⟨a,o,vs,ea,ha,l⟩:=key
 refine⟨_,ea,hb B G0 H0 own G σ H ρ _ _ S hu fun w p G1 H1 w1 r1 ⟨kvs',k',x,e1,e2,e3,h⟩=>?_⟩
 cases e1
 subst e2
 rw[Acf r1]
 rcases Ut k' (KReps.mono l w1.g) with ⟨h1,h2⟩ | ⟨y,p,h1,h2,h3⟩
 ·rw[e3] at h2; cases h2
 ·rw[e3] at h2; cases h2
  exact⟨a,y,rfl,.inl ⟨vs,k',.inr ⟨o,w1.h _ _ ha⟩,rfl,h1.symm⟩,k _ _ G1 H1 w1 h3 h⟩
theorem Sat.slot {B G0 H0 G H:Hp} {own:Nat->Option Addr} {σ:St} {ρ:Bi} (S:Sat K C ω B G0 H0 own G σ H ρ) {i:Nat} {s':Sl} (hs:SlOk K C G0 H0 own G σ H i s'):Sat K C ω B G0 H0 own G σ H (ρ.set i s') :=
 ⟨S.kb,S.gr,by rw[length_set,S.len],S.inj,S.fr,fun j s h=>by
  rcases Nc h with ⟨rfl,rfl,hl⟩ | ⟨z,h⟩
  ·exact hs
  ·exact S.sl j s h,S.ex⟩
abbrev Fl:=Addr × List V
def Aej (i:Nat) (z:Fl) (ps:List PV) (ug:PV->Bi->(Bi->Prop)->Prop) (ub:US) (d:Fp) (ρ:Bi):Prop:=∃ I:Nat->Bi->Prop,I 0 ρ/\(∀ k ρ,I k ρ->ρ[i]? = some (.fl z ps))/\(∀ k p ρ,ps[k]? = some p->I k ρ->ug p ρ fun ρ'=>ub { d with nx:=I (k + 1),ct:=I (k + 1),bk:=d.nx } ρ')/\∀ ρ,I ps.length ρ->d.nx ρ
def Ag8 (i:Nat) (ug:PV->Bi->(Bi->Prop)->Prop) (ub:US):US:=fun d ρ=>∃ z ps,ρ[i]? = some (.fl z ps)/\Aej i z ps ug ub d ρ
theorem AiY {top:Nat} {i:Nat} {g:TG} {ug:PV->Bi->(Bi->Prop)->Prop} {tb:TS} {ub:US} (hg:GU K C ω top g ug) (hb:SU K C ω rm tb ub):SU K C ω rm (Ly (Qf K (Fg i)) g tb) (Ag8 i ug ub) :=
 fun B G0 H0 own G σ H ρ D d S F ⟨z,ps,e,I,i0,iz,ist,iend⟩=>by
  obtain⟨e1,e2,e3,e4⟩:=S.sl i _ e
  refine⟨_,e1,z.1,rfl,⟨z.2,SqL.of e3⟩,Rr (xs:=z.2) (fun k σ' H'=>∃ own' G' ρ',Sat K C ω G G0 H0 own' G' σ' H' ρ'/\I k ρ') ⟨own,G,ρ,S.base (Same.refl _),i0⟩ (fun k σ' H' _ ⟨own',G',ρ',S',hi⟩=>SqL.of (S'.sl i _ (iz k ρ' hi)).2.2.1) (fun k x σ' H' hx ⟨own',G',ρ',S',hi⟩=>?_) fun σ' H' ⟨own',G',ρ',S',hi⟩=>?_⟩
  ·obtain⟨q,hq,rq⟩:=LAt.get e4 hx
   exact hg G G0 H0 own' G' σ' H' ρ' x q _ _ S' (rq.mono S'.kb) (ist k q ρ' hq hi) fun own2 σ2 ρ2 S2 _ h2=>hb G G0 H0 own2 G' σ2 H' ρ2 _ _ S2 (Jt F S.kb fun own3 G3 σ3 H3 ρ3 S3 h3=>⟨own3,G3,ρ3,S3,h3⟩) h2
  ·rw[e4.1] at hi
   exact F.nx own' G' σ' H' ρ' (S'.base (S.kb.trans S'.kb)) (iend ρ' hi)
theorem AlA {i:Nat} {z:Fl} {ps:List PV} {ug:PV->Bi->(Bi->Prop)->Prop} {ub:US} {d:Fp} {ρ:Bi} (h1:ρ[i]? = some (.fl z ps)) (q:Aej i z ps ug ub d ρ):Ag8 i ug ub d ρ:=⟨z,ps,h1,q⟩
def Aa5 (i:Nat) (ug:PV->Bi->(Bi->Prop)->Prop) (uc:UT) (ue:UE) (k:Nat) (fr:List Nat):UE:=fun ρ P=>∃ s kvs,ρ[i]? = some s/\s.fzv = some kvs/\kvs.length <= 100000/\Li (kvs.map fun kv=>kP kv.1) ug uc ue (compρ k fr ρ) P
theorem Wv {i:Nat} {k:Nat} {fr:List Nat} {g:TG} {ug:PV->Bi->(Bi->Prop)->Prop} {tc:TT} {uc:UT} {te:TE} {ue:UE} (hg:GU K C Om.no k g ug) (hc:TU K C Om.no tc uc) (he:EU K C Om.no te ue):EF K C ω (Gz (iDk (Fg i)) g tc te k fr) (Aa5 i ug uc ue k fr) :=
 fun B G0 H0 own G σ H ρ P Q S ⟨s,kvs,e,ev,hl,I,i0,ist,iend⟩ kk=>by
  have key:∃ a o vs,σ[i]? = some (some (.ref a))/\H a = some (.frz o (.dK vs))/\LAt (KRep K C) G vs kvs:=by
   have q:=S.sl i s e
   cases s with
   | fz z kvs'=>cases ev; obtain⟨h1,_,h2,h3⟩:=q; exact⟨_,_,_,h1,h2,h3⟩
   | bz kvs'=>cases ev; obtain⟨a,o,vs,h1,h2,h3⟩:=q; exact⟨a,o,vs,h1,S.gr.h _ _ h2,h3⟩
   | _=>cases ev
  obtain⟨a,o,vs,ea,ha,l⟩:=key
  refine Oh (show iDk (Fg i) σ H _ from ⟨_,ea,a,o,vs,rfl,ha,fun D hD=>CP.dkeys (CSt K C G H D I) (Nr S.gr.i hD i0) (fun n H' ⟨G',_,_,w,_⟩=>w.h _ _ ha) (fun n kv H' N hx st hN=>?_) fun H' st=>?_⟩)
  ·have hn:n < kvs.length:=by rw[<- l.1]; exact (List.getElem?_eq_some_iff.mp hx).1
   have rq:=l.2 n kv kvs[n] hx (getElem?_eq_getElem hn)
   rw[show kv.1 = kvs[n].1 from rq.1]
   exact Si S hg hc he hD (by omega) (fun G' s=>Ak2 _) st hN fun rs hi=>ist n _ rs (by rw[getElem?_map,getElem?_eq_getElem hn]; rfl) hi
  ·obtain⟨G',ys,rs,w,gD,eD,ry,_,hi⟩:=st
   rw[l.1] at hi
   exact kk D _ G' H' w hD gD (OwnA.ofL eD ry) (iend rs (by rw[length_map]; exact hi))
theorem AfV {i:Nat} {ug:PV->Bi->(Bi->Prop)->Prop} {uc:UT} {ue:UE} {k:Nat} {fr:List Nat} {ρ:Bi} {P:PV->Prop} {s:Sl} {kvs:List (Key × PV)} (h1:ρ[i]? = some s) (h2:s.fzv = some kvs) (q:kvs.length <= 100000/\Li (kvs.map fun kv=>kP kv.1) ug uc ue (compρ k fr ρ) P):Aa5 i ug uc ue k fr ρ P:=⟨s,kvs,h1,h2,q.1,q.2⟩
theorem Am8 {i:Nat} {u:US} {d:Fp} {ρ:Bi} {kvs:List (Key × PV)} (h1:ρ[i]? = some (.ow (.dk kvs))) (q:∀ z,u (Aas i z kvs d) (ρ.set i (.fz z kvs))):AlB i u d ρ:=⟨kvs,h1,q⟩
theorem AiK {i:Nat} {ub:UE} {ρ:Bi} {P:PV->Prop} {s:Sl} {kvs:List (Key × PV)} (h1:ρ[i]? = some s) (h2:s.fzv = some kvs) (q:ub ρ fun q=>Um (.dk kvs) q P):AeI i ub ρ P:=⟨s,kvs,h1,h2,q⟩
def era (H:Hp) (a:Addr):Hp:=fun b=>if b = a then none else H b
theorem AaH {H:Hp} {a:Addr}:era H a a = none:=by unfold era; rw[if_pos rfl]
theorem Lk {H:Hp} {a b:Addr} (n:b ≠ a):era H a b = H b:=by unfold era; rw[if_neg n]
theorem AfY {H:Hp} {a:Addr}:Same (era H a) H:=fun b o h=>by
 by_cases z:b = a
 ·subst z; rw[AaH] at h; cases h
 ·rw[Lk z] at h; exact h
abbrev Tu:=PV->PV->PV->(PV->PV->Prop)->Prop
def spM (K:Frag) (C:Addr) (psp:Tu):Sp:=fun vs H Q _=>∃ G x a y p q r P,vs = [x,.ref a,y]/\Same G H/\G a = none/\OwnA K C G H a q/\Rep K C G x p/\Rep K C G y r/\psp p q r P /\
 ∀ G' H' c p1 q',Grow G (era H a) G' H'->H c = none->G' c = none->OwnA K C G' H' c p1->G' a = none->OwnA K C G' H' a q'->P p1 q'->Q (.ref c) H'
theorem spM.len {psp:Tu} {vs:List V} {H:Hp} {Q:VK} {E:XK} (h:spM K C psp vs H Q E):vs.length = 3:=by
 obtain⟨G,x,a,y,p,q,r,P,rfl,_⟩:=h; rfl
theorem Ae1 {psp:Tu} {N:List Str} {vs:List V} {H:Hp} {Q:VK} {E:XK} {t:TS} {u:Addr->US} (h:spM K C psp vs H Q E) (hn:3 <= N.length) (hs:∀ a,SU K C Om.no (.mu a) t (u a))
  (hp:∀ a p q r P,psp p q r P->u a ⟨fun _=>False,fun x=>∃ p1 p2,x = .tup [p1,p2]/\P p1 p2,fun _=>False,fun _=>False⟩ ([.sh p,.om a q,.sh r] ++ replicate (N.length - 3) .un)):t { nx:=fun _ H'=>Q .non H',rt:=Q } (L2.Nx N vs) H:=by
 obtain⟨G,x,a,y,p,q,r,P,rfl,i,ga,oa,rx,ry,hq,k⟩:=h
 have hσ:∀ j v,([x,.ref a,y]:List V)[j]? = some v->(L2.Nx N [x,.ref a,y])[j]? = some (some v):=fun j v hv=>by
  unfold L2.Nx
  rw[getElem?_append_left (by rw[length_map]; exact (List.getElem?_eq_some_iff.mp hv).1),getElem?_map,hv]; rfl
 refine hs a G G (era H a) (fun j=>if j = 1 then some a else none) G _ H _ _ ⟨fun _=>False,fun x=>∃ p1 p2,x = .tup [p1,p2]/\P p1 p2,fun _=>False,fun _=>False⟩ ⟨Same.refl _,⟨Same.refl _,AfY,i,fun _ _ _ _ h=>h⟩,?_,fun i j b h1 h2=>?_,fun j b h=>?_,fun j s hj=>?_,fun _ _ _ z=>z.elim⟩ ⟨fun _ _ _ _ _ _ z=>z.elim,fun G' H' v pv w ro hd=>?_,fun _ _ _ _ _ _ z=>z.elim,fun _ _ _ _ _ _ z=>z.elim⟩ (hp a p q r P hq)
 ·unfold L2.Nx
  rw[length_append,length_append,length_map,length_replicate,length_replicate]; rfl
 ·split at h1 <;> split at h2
  ·rename_i z1 z2; rw[z1,z2]
  ·cases h2
  ·cases h1
  ·cases h1
 ·split at h
  ·cases h; exact⟨AaH,ga,oa.thing⟩
  ·cases h
 ·match j,hj with
  | 0,hj=>cases hj; exact⟨x,hσ 0 x rfl,rx⟩
  | 1,hj=>cases hj; exact⟨hσ 1 _ rfl,rfl,oa⟩
  | 2,hj=>cases hj; exact⟨y,hσ 2 y rfl,ry⟩
  | j + 3,hj =>
   have hj':(replicate (N.length - 3) Sl.un)[j]? = some s:=hj
   rw[getElem?_replicate] at hj'
   split at hj'
   ·cases hj'; trivial
   ·cases hj'
 ·obtain⟨p1,p2,c,e1,e2,c0,ca,gc,o1,gb,o2⟩:=ro
  subst e1 e2
  obtain⟨q1,q2,e,hP⟩:=hd
  cases e
  rw[Lk ca] at c0
  exact k G' H' c p1 p2 w c0 gc o1 gb o2 hP
def Ahr (i:Nat) (a:Addr) (j:Nat):US:=fun d ρ=>∃ p1 p2,ρ[j]? = some (.ow p1)/\ρ[i]? = some (.om a p2)/\i ≠ j/\d.rt (.tup [p1,p2])
theorem AiS {i j:Nat} {a:Addr}:SU K C ω (.mu a) (Ty (Fg j)) (Ahr i a j):=fun B G0 H0 own G σ H ρ D d S F ⟨p1,p2,e1,e2,ne,h⟩=>by
 obtain⟨c,h1,o1,r1⟩:=S.sl j _ e1
 obtain⟨h2,o2,r2⟩:=S.sl i _ e2
 obtain⟨f0,fg,_⟩:=S.fr j c o1
 obtain⟨_,fa,_⟩:=S.fr i a o2
 exact⟨_,h1,F.rt G H _ _ S.gr ⟨p1,p2,c,rfl,rfl,f0,fun z=>ne (S.inj i j a o2 (by rw[<- z]; exact o1)),fg,r1,fa,r2⟩ h⟩
def Acg (i:Nat) (a:Addr) (ρ:Bi) (N:Bi->Prop) (qs:List PV):Prop:=∃ q ps,qs = [q]/\ρ[i]? = some (.om a (.lst ps))/\ps.length < 100000/\N (ρ.set i (.om a (.lst (ps ++ [q]))))
def Agp (i:Nat) (a:Addr) (u:UA):US:=fun d ρ=>(∃ ps,ρ[i]? = some (.om a (.lst ps)))/\u ρ fun qs=>Acg i a ρ d.nx qs
theorem Sat.own {B G0 H0 G H:Hp} {own:Nat->Option Addr} {σ:St} {ρ:Bi} (S:Sat K C ω B G0 H0 own G σ H ρ) {i:Nat} {a:Addr} {p:PV} (e:ρ[i]? = some (.om a p)):Sat K C ω B G0 H0 own G σ H (ρ.set i (.ow p)):=by
 obtain⟨h1,h2,h3⟩:=S.sl i _ e
 exact S.slot ⟨a,h1,h2,h3⟩
theorem Ai0 {i:Nat} {a:Addr} {t:TA} {u:UA} (ha:AU K C ω [true] t u):SU K C ω rm (Uy (tBM K "list" Oq (Fg i) t)) (Agp i a u):=fun B G0 H0 own G σ H ρ D d S F ⟨⟨ps0,e0⟩,hu⟩=>by
 have hl:i < ρ.length:=(List.getElem?_eq_some_iff.mp e0).1
 refine Aa3 (S.own e0) (Ju hl) fun a' vs0 e1 o _ _=>ha B G0 H0 own G σ H ρ _ _ S hu fun xs qs G' H' w ok ⟨q,ps,eq,ep,hl2,h⟩=>?_
 have S':=S.grow w
 obtain⟨b1,b2,vs,b3,b4⟩:=S'.sl i _ ep
 rw[o] at b2; cases b2
 subst eq
 match xs,ok with
 | [x],ok =>
  have rx:Rep K C G' x q:=ok.1
  refine⟨a,vs,x,rfl,rfl,b3,Sr (by rw[b4.1]; omega),fun H2 c e2=>F.nx own G' σ H2 _ ?_ h⟩
  have S2:=S'.chg o e1 c (OwnA.ofL e2 (Jy b4 rx))
  have S3:=S2.slot (i:=i) (s':=.om a (.lst (ps ++ [q]))) ⟨e1,o,OwnA.ofL e2 (Jy b4 rx)⟩
  rwa [set_set] at S3
 | [],ok=>cases ok
 | _ :: _ :: _,ok=>cases ok.2
def flM (i:Nat) (a:Addr) (z:Fl) (ps:List PV) (N:Bi->Prop) (ρ:Bi):Prop:=ρ[i]? = some (.fl z ps)/\N (ρ.set i (.om a (.lst ps)))
def Ahk (i:Nat) (a:Addr) (u:US):US:=fun d ρ=>∃ ps,ρ[i]? = some (.om a (.lst ps))/\∀ z,u ⟨flM i a z ps d.nx,d.rt,flM i a z ps d.bk,flM i a z ps d.ct⟩ (ρ.set i (.fl z ps))
theorem AiH {i:Nat} {a:Addr} {t:TS} {u:US} (h:SU K C ω rm t u):SU K C ω rm t (Ahk i a u):=fun B G0 H0 own G σ H ρ D d S F ⟨ps,e,hu⟩=>by
 obtain⟨ea,eo,vs,ha,l⟩:=S.sl i _ e
 have S1:=S.slot (s':=.fl (a,vs) ps) ⟨ea,eo,ha,l⟩
 have key:∀ (N:Bi->Prop) (M:St->Hp->Prop),(∀ own G σ H ρ,Sat K C ω B G0 H0 own G σ H ρ->N ρ->M σ H)->∀ own' G' σ' H' ρ',Sat K C ω B G0 H0 own' G' σ' H' ρ'->flM i a (a,vs) ps N ρ'->M σ' H':=fun N M hM own' G' σ' H' ρ' S' ⟨e',h'⟩=>by
  obtain⟨h1,h2,h3,h4⟩:=S'.sl i _ e'
  exact hM own' G' σ' _ _ (S'.slot (s':=.om a (.lst ps)) ⟨h1,h2,OwnA.ofL h3 h4⟩) h'
 exact h B G0 H0 own G σ _ _ _ ⟨flM i a (a,vs) ps d.nx,d.rt,flM i a (a,vs) ps d.bk,flM i a (a,vs) ps d.ct⟩ S1 ⟨key d.nx D.nx F.nx,F.rt,key d.bk D.bk F.bk,key d.ct D.ct F.ct⟩ (hu (a,vs))
def AhK (psp:Tu) (i j:Nat) (u0 u2:UE):US:=fun d ρ=>i ≠ j/\∃ q,ρ[i]? = some (.ow q)/\u0 ρ fun p=>u2 ρ fun r=>psp p q r fun p1 p2=>d.nx ((ρ.set i (.ow p2)).set j (.ow p1))
theorem Ai5 {psp:Tu} {i j:Nat} {E:XK} {t0 t2:TE} {u0 u2:UE} (h0:EU K C ω t0 u0) (h2:EU K C ω t2 u2):SU K C ω rm (Ld (Ri (spM K C psp) [] E (Fs t0 (Fs (Fg i) (Fs t2 Na)))) (Gf j)) (AhK psp i j u0 u2) :=
 fun B G0 H0 own G σ H ρ D d S F ⟨ne,q,e,hu⟩=>h0 B G0 H0 own G σ H ρ _ _ S hu fun x p G1 H1 w1 r1 hu2=>by
  have S1:=S.grow w1
  obtain⟨a,ea,eo,_⟩:=S.sl i _ e
  refine⟨_,ea,h2 B G0 H0 own G1 σ H1 ρ _ _ S1 hu2 fun y r G2 H2 w2 r2 hp=>?_⟩
  have S2:=S1.grow w2
  obtain⟨a',ea',eo',oa⟩:=S2.sl i _ e
  rw[eo] at eo'; cases eo'
  obtain⟨f0,fg,o,ho,ht⟩:=S2.fr i a eo
  show spM K C psp ([x,.ref a,y] ++ []) H2 (fun v H1=>D.nx (σ.set j (some v)) H1) E
  refine⟨G2,x,a,y,p,q,r,_,rfl,w2.i,fg,oa,r1.mono w2.g,r2,hp,fun G' H' c p1 q' w hc gc oc gb ob hd=>?_⟩
  have n0:∀ b u,H0 b = some u->b ≠ a:=fun b u h z=>by subst z; rw[f0] at h; cases h
  have ng:∀ b u,G2 b = some u->b ≠ a:=fun b u h z=>by subst z; rw[fg] at h; cases h
  have hl:i < ρ.length:=(List.getElem?_eq_some_iff.mp e).1
  have Se:Sat K C ω B G0 H0 (Jo own i) G2 σ (era H2 a) (ρ.set i .un):=by
   refine⟨S2.kb,⟨S2.gr.g,fun b u h=>by rw[Lk (n0 b u h)]; exact S2.gr.h _ _ h,fun b u h=>by rw[Lk (ng b u h)]; exact S2.gr.i _ _ h,S2.gr.n⟩,by rw[length_set,S2.len],fun j k b h1 h2=>S2.inj j k b (Fc h1).2 (Fc h2).2,fun j b h=>?_,fun j s h=>?_,S2.ex⟩
   ·obtain⟨nj,h⟩:=Fc h
    obtain⟨q0,qg,o,qh,qt⟩:=S2.fr j b h
    exact⟨q0,qg,o,by rw[Lk (fun z=>nj (S2.inj j i b h (by rw[z]; exact eo)))]; exact qh,qt⟩
   ·rcases Nc h with ⟨rfl,rfl,hl⟩ | ⟨z,h⟩
    ·trivial
    ·have k:=S2.sl j s h
     have un:Jo own i j = own j:=by unfold Jo; rw[if_neg z]
     cases s with
     | un=>trivial
     | sh p=>exact k
     | bo p=>exact k
     | bz kvs=>exact k
     | fz y kvs =>
      obtain⟨e1,o1,h1,h2⟩:=k
      exact⟨e1,un.trans o1,by rw[Lk (fun w=>z (S2.inj j i a (by rw[<- w]; exact o1) eo))]; exact h1,h2⟩
     | fl y ps =>
      obtain⟨e1,o1,h1,h2⟩:=k
      exact⟨e1,un.trans o1,by rw[Lk (fun w=>z (S2.inj j i a (by rw[<- w]; exact o1) eo))]; exact h1,h2⟩
     | om b p' =>
      obtain⟨e1,o1,r1⟩:=k
      exact⟨e1,un.trans o1,r1.mono (Same.refl _) (Lk fun w=>z (S2.inj j i a (by rw[<- w]; exact o1) eo))⟩
     | ow p' =>
      obtain⟨b,e1,o1,r1⟩:=k
      exact⟨b,e1,un.trans o1,r1.mono (Same.refl _) (Lk fun w=>z (S2.inj j i a (by rw[<- w]; exact o1) eo))⟩
  have S3:=Se.grow w
  have S4:=S3.setO (i:=i) ob f0 gb (fun j z=>(Fc z).1 (S2.inj j i a (Fc z).2 eo))
  have es:σ.set i (some (V.ref a)) = σ:=by
   refine ext_getElem? fun k=>?_
   by_cases z:k = i
   ·subst z; rw[Ju (by rw[S.len]; exact hl),ea]
   ·rw[Th z]
  rw[es,set_set] at S4
  have nc:c ≠ a:=fun z=>by subst z; rw[hc] at ho; cases ho
  refine F.nx _ G' _ H' _ (S4.setO (i:=j) oc (S2.gr.h.free hc) gc fun k z=>?_) hd
  unfold Rc at z
  split at z
  ·cases z; exact nc rfl
  ·obtain⟨_,_,o',ho',_⟩:=S2.fr k c (Fc z).2
   rw[hc] at ho'; cases ho'
theorem Ak8 {i j:Nat} {a:Addr} {d:Fp} {ρ:Bi} {p1 p2:PV} (h1:ρ[j]? = some (.ow p1)) (h2:ρ[i]? = some (.om a p2)) (ne:i ≠ j) (q:d.rt (.tup [p1,p2])):Ahr i a j d ρ:=⟨p1,p2,h1,h2,ne,q⟩
theorem Al0 {i:Nat} {a:Addr} {u:UA} {d:Fp} {ρ:Bi} {ps:List PV} (h:ρ[i]? = some (.om a (.lst ps))) (q:u ρ fun qs=>Acg i a ρ d.nx qs):Agp i a u d ρ:=⟨⟨ps,h⟩,q⟩
theorem Alp {i:Nat} {a:Addr} {ρ:Bi} {N:Bi->Prop} {q:PV} {ps:List PV} (h:ρ[i]? = some (.om a (.lst ps))) (k:N (ρ.set i (.om a (.lst (ps ++ [q]))))) (hl:ps.length < 100000):Acg i a ρ N [q]:=⟨q,ps,rfl,h,hl,k⟩
theorem AjC {psp:Tu} {i j:Nat} {u0 u2:UE} {d:Fp} {ρ:Bi} {q:PV} (ne:i ≠ j) (h:ρ[i]? = some (.ow q)) (k:u0 ρ fun p=>u2 ρ fun r=>psp p q r fun p1 p2=>d.nx ((ρ.set i (.ow p2)).set j (.ow p1))):AhK psp i j u0 u2 d ρ:=⟨ne,q,h,k⟩
theorem Akp {i:Nat} {a:Addr} {u:US} {d:Fp} {ρ:Bi} {ps:List PV} (h1:ρ[i]? = some (.om a (.lst ps))) (q:∀ z,u ⟨flM i a z ps d.nx,d.rt,flM i a z ps d.bk,flM i a z ps d.ct⟩ (ρ.set i (.fl z ps))):Ahk i a u d ρ:=⟨ps,h1,q⟩
def AjE (i j:Nat):US:=fun d ρ=>∃ ps q,ρ[j]? = some (.ow (.lst ps))/\ps[ps.length - 1]? = some q/\d.nx ((ρ.set j (.ow (.lst ps.dropLast))).set i (.sh q))
theorem Amf {i j:Nat} {d:Fp} {ρ:Bi} {ps:List PV} {q:PV} (h:ρ[j]? = some (.ow (.lst (ps ++ [q])))) (k:d.nx ((ρ.set j (.ow (.lst ps))).set i (.sh q))):AjE i j d ρ:=⟨ps ++ [q],q,h,by rw[length_append,length_singleton,Nat.add_sub_cancel,getElem?_append_right (Nat.le_refl _),Nat.sub_self]; rfl,by rw[List.dropLast_concat]; exact k⟩
theorem Ajy {i j:Nat}:SU K C ω rm (Ld (Ald K "list" AgP (Fg j)) (Gf i)) (AjE i j):=fun B G0 H0 own G σ H ρ D d S F ⟨ps,q,e,hq,h⟩=>by
 obtain⟨a,vs,e1,o,h1,h2⟩:=S.list e
 obtain⟨y,hy⟩:∃ y,vs[vs.length - 1]? = some y:=by
  have:=(List.getElem?_eq_some_iff.mp hq).1
  rw[<- h2.1] at this
  exact⟨_,getElem?_eq_getElem this⟩
 have ry:Rep K C G y q:=h2.2 _ _ _ hy (by rw[h2.1]; exact hq)
 refine⟨_,e1,.inl ⟨rfl,_,SqL.of h1⟩,a,vs,y,rfl,rfl,h1,hy,fun H2 c e2=>F.nx _ G _ H2 _ ((S.chg o e1 c (OwnA.ofL e2 ⟨by rw[List.length_dropLast,List.length_dropLast,h2.1],fun k x z hx hz=>?_⟩)).setS ry) h⟩
 rw[List.dropLast_eq_take] at hx hz
 rw[getElem?_take] at hx hz
 split at hx
 ·rw[if_pos (by rw[<- h2.1]; assumption)] at hz
  exact h2.2 k x z hx hz
 ·cases hx
end
theorem La {α:Type} {R:List α} {x s:α} {i:Nat} (h:(R ++ [x])[i]? = some s):R[i]? = some s\/(i = R.length/\s = x):=by
 by_cases hi:i < R.length
 ·rw[getElem?_append_left hi] at h; exact .inl h
 ·rw[getElem?_append_right (by omega)] at h
  have hz:i - R.length = 0:=by
   have:=(List.getElem?_eq_some_iff.mp h).1
   simp at this; omega
  rw[hz] at h
  simp at h
  exact .inr ⟨by omega,h.symm⟩
inductive JB (S:Nat->Int) (R0 Mk:List Sg):Nat->List Sg->List Jn->Prop
 | nil:JB S R0 Mk 0 R0 []
 | skip {k:Nat} {R:List Sg} {J:List Jn} (h:JB S R0 Mk k R J):JB S R0 Mk (k + 1) R J
 | add {k:Nat} {R:List Sg} {J:List Jn} {s m:Sg} (h:JB S R0 Mk k R J) (hs:s ∈ R) (hm:m ∈ Mk) (hn:¬ (s.1,m.1) ∈ J.map (·.2)):JB S R0 Mk (k + 1) (R ++ [(S (10 + k),s.2.1,0)]) (J ++ [(S (10 + k),s.1,m.1)])
section
variable {S:Nat->Int} {R0 Mk R:List Sg} {J:List Jn} {k:Nat}
theorem JB.len (h:JB S R0 Mk k R J):J.length <= k/\R.length = R0.length + J.length:=by
 induction h with
 | nil=>exact⟨Nat.le_refl _,rfl⟩
 | skip h ih=>exact⟨by omega,ih.2⟩
 | add h hs hm hn ih=>refine⟨by simp; omega,by simp; omega⟩
theorem JB.whole (h:JB S R0 Mk k R J):∀ j ∈ J,∃ i,i < k/\j.1 = S (10 + i):=by
 induction h with
 | nil=>intro j hj; cases hj
 | skip h ih=>intro j hj; obtain⟨i,a,b⟩:=ih j hj; exact⟨i,by omega,b⟩
 | add h hs hm hn ih =>
  rename_i k R J s m
  intro j hj
  rcases mem_append.mp hj with hj | hj
  ·obtain⟨i,a,b⟩:=ih j hj; exact⟨i,by omega,b⟩
  ·rw[mem_singleton.mp hj]; exact⟨k,by omega,rfl⟩
theorem JB.join (h:JB S R0 Mk k R J):∀ j ∈ J,(∃ s ∈ R,∃ u ∈ R,s.1 = j.1/\u.1 = j.2.1/\s.2.1 = u.2.1)/\∃ m ∈ Mk,m.1 = j.2.2:=by
 induction h with
 | nil=>intro j hj; cases hj
 | skip h ih=>exact ih
 | add h hs hm hn ih =>
  rename_i k R J s m
  intro j hj
  rcases mem_append.mp hj with hj | hj
  ·obtain⟨⟨a,ha,b,hb,e⟩,d⟩:=ih j hj
   exact⟨⟨a,mem_append_left _ ha,b,mem_append_left _ hb,e⟩,d⟩
  ·rw[mem_singleton.mp hj]
   exact⟨⟨_,mem_append_right _ mem_cons_self,s,mem_append_left _ hs,rfl,rfl,rfl⟩,m,hm,rfl⟩
theorem Wt {J:List Jn} {w:Jn} {n:Int} (h:¬ w.1 = n):Fi (J ++ [w]) n = Fi J n:=by
 induction J with
 | nil=>show (if w.1 = n then some w.2 else none) = none; rw[if_neg h]
 | cons x r ih =>
  show (if x.1 = n then some x.2 else Fi (r ++ [w]) n) = if x.1 = n then some x.2 else Fi r n
  rw[ih]
theorem Aar (J:List Jn) (n:Int):∀ k,jGo J (k + 1) n = jGo J k (Fm J n)
 | 0=>rfl
 | k + 1=>by
  show Fm J (jGo J (k + 1) n) = Fm J (jGo J k (Fm J n))
  rw[Aar J n k]
theorem AaY {J:List Jn} {w:Jn} (hb:∀ j ∈ J,¬ j.2.1 = w.1):∀ (k:Nat) (n:Int),¬ n = w.1->jGo (J ++ [w]) k n = jGo J k n/\¬ jGo J k n = w.1
 | 0,n,h=>⟨rfl,h⟩
 | k + 1,n,h=>by
  obtain⟨e,ne⟩:=AaY hb k n h
  show Fm (J ++ [w]) (jGo (J ++ [w]) k n) = Fm J (jGo J k n)/\¬ Fm J (jGo J k n) = w.1
  rw[e]
  unfold Fm
  rw[Wt fun z=>ne z.symm]
  refine⟨rfl,?_⟩
  cases z:Fi J (jGo J k n) with
  | none=>exact ne
  | some m=>exact hb _ (Uq z)
theorem Aan {J:List Jn} {n:Int} {k:Nat} (h:Fi J (jGo J k n) = none):∀ d,jGo J (k + d) n = jGo J k n
 | 0=>rfl
 | d + 1=>by
  show Fm J (jGo J (k + d) n) = _
  rw[Aan h d]
  unfold Fm
  rw[h]
end
structure AnJ (S:List Sg) (M:List (Int × Int)) (J:List Jn):Prop where
 so:∀ s ∈ S,Ya s
 mo:∀ m ∈ M,0 <= m.1/\0 <= m.2
 nd:(S.map (·.1) ++ Fq M).Nodup
 jo:AbY (kK S ++ kM M) J
 ln:S.length + 2 * M.length <= 60
 jl:J.length <= 7
 mr:∃ s ∈ S,s.2.1 = "mark"
section
variable {S:Nat->Int} {R0 Mk R:List Sg} {J:List Jn} {k x y t:Nat}
end
theorem Ac4 {kvs:List (Key × V)} {k:Key} {v:V} (h:Cr kvs k = some v):(k,v) ∈ kvs:=by
 unfold Cr at h
 obtain⟨p,h1,h2⟩:=map_eq_some_iff.mp h
 have e0:=List.find?_some h1
 have e:p.1 = k:=of_decide_eq_true e0
 have:p = (k,v):=Prod.ext e h2
 rw[<- this]
 exact List.mem_of_find?_eq_some h1
theorem AjA {M:List (Int × Int)} {p:Key × V} (h:p ∈ kM M):p.2 = .str "open"\/p.2 = .str "shut":=by
 induction M with
 | nil=>cases h
 | cons x r ih =>
  rcases mem_cons.mp h with e | h
  ·rw[e]; exact .inl rfl
  ·rcases mem_cons.mp h with e | h
   ·rw[e]; exact .inr rfl
   ·exact ih h
theorem AbF (U:List Sg) (M:List (Int × Int)) (n:Int):(Cr (kK U ++ kM M) (Sum.inl n)).getD (.str "plain") = .str (Fd U M n):=by
 unfold Fd
 cases e:Cr (kK U ++ kM M) (Sum.inl n) with
 | none=>rfl
 | some v =>
  rcases mem_append.mp (Ac4 e) with h | h
  ·obtain⟨s,_,z⟩:=mem_map.mp h
   have:V.str s.2.1 = v:=(Prod.mk.inj z).2
   rw[<- this]; rfl
  ·rcases AjA h with z | z
   ·have z:v = .str "open":=z
    rw[z]; rfl
   ·have z:v = .str "shut":=z
    rw[z]; rfl
theorem Ra {U:List Sg} {M:List (Int × Int)} {n:Int} {k:Str} (h:(Cr (kK U ++ kM M) (Sum.inl n)).getD (.str "plain") = .str k):Fd U M n = k:=by
 rw[AbF] at h
 exact V.str.inj h
def Cl (U:List Sg) (M:List (Int × Int)) (n:Int):Bool:=decide (Fd U M n = "mark")
def Nw (mk:Int->Bool) (gs:List (List Int)) (n:Int):List (List Int):=if gs = []\/mk n = false then gs ++ [[n]] else gs.dropLast ++ [gs.getLast?.getD [] ++ [n]]
def grp (mk:Int->Bool) (ts:List Int):List (List Int):=ts.foldl (Nw mk) []
theorem Zw (mk:Int->Bool) (ts:List Int) (n:Int):grp mk (ts ++ [n]) = Nw mk (grp mk ts) n:=by simp [grp]
theorem Oj {mk:Int->Bool} {gs:List (List Int)} {n:Int} (h:gs = []\/mk n = false):Nw mk gs n = gs ++ [[n]]:=if_pos h
theorem Rp {mk:Int->Bool} {gs:List (List Int)} {g:List Int} {n:Int} (h:mk n = true):Nw mk (gs ++ [g]) n = gs ++ [g ++ [n]]:=by
 unfold Nw
 rw[if_neg (by rintro (z | z); (simp at z); (rw[h] at z; cases z))]
 simp
theorem Air {mk:Int->Bool} (P:List (List Int)->List Int->Prop) (h0:P [] []) (hs:∀ gs ts n,P gs ts->P (Nw mk gs n) (ts ++ [n])) (ts:List Int):P (grp mk ts) ts:=by
 have key:∀ (ts:List Int) (acc:List (List Int)) (pre:List Int),P acc pre->P (ts.foldl (Nw mk) acc) (pre ++ ts):=by
  intro ts
  induction ts with
  | nil=>intro acc pre h; rw[append_nil]; exact h
  | cons n r ih =>
   intro acc pre h
   have:=ih (Nw mk acc n) (pre ++ [n]) (hs acc pre n h)
   rw[append_assoc] at this
   exact this
 exact key ts [] [] h0
structure Agn (mk:Int->Bool) (gs:List (List Int)) (ts:List Int):Prop where
 fl:gs.flatten = ts
 ln:gs.length <= ts.length
 ne:∀ g ∈ gs,∃ n r,g = n :: r/\∀ m ∈ r,mk m = true
 hd:∀ (i:Nat) (g:List Int),gs[i]? = some g->0 < i->∃ n r,g = n :: r/\mk n = false
theorem Gh (mk:Int->Bool) (ts:List Int):Agn mk (grp mk ts) ts:=by
 refine Air (Agn mk) ⟨rfl,Nat.le_refl _,(fun g h=>by cases h),(fun i g h=>by simp at h)⟩ (fun gs ts n h=>?_) ts
 by_cases z:gs = []\/mk n = false
 ·rw[Oj z]
  refine⟨by rw[List.flatten_append,h.fl]; rfl,by have:=h.ln; simp; omega,fun g hg=>?_,fun i g e hi=>?_⟩
  ·rcases mem_append.mp hg with hg | hg
   ·exact h.ne g hg
   ·rw[mem_singleton.mp hg]; exact⟨n,[],rfl,(fun m hm=>by cases hm)⟩
  ·rcases La e with e | ⟨e1,e2⟩
   ·exact h.hd i g e hi
   ·rcases z with z | z
    ·rw[z] at e1; rw[e1] at hi; exact absurd hi (Nat.lt_irrefl _)
    ·exact⟨n,[],e2,z⟩
 ·rcases eq_nil_or_concat gs with e | ⟨gs',g',rfl⟩
  ·exact absurd (.inl e) z
  ·have hm:mk n = true:=by
    cases w:mk n with
    | true=>rfl
    | false=>exact absurd (.inr w) z
   rw[concat_eq_append] at h z ⊢
   rw[Rp hm]
   obtain⟨a,r,eg,hr⟩:=h.ne g' (mem_append_right _ mem_cons_self)
   refine⟨by rw[<- h.fl]; simp,by have:=h.ln; simp at this ⊢; omega,fun g hg=>?_,fun i g e hi=>?_⟩
   ·rcases mem_append.mp hg with hg | hg
    ·exact h.ne g (mem_append_left _ hg)
    ·rw[mem_singleton.mp hg,eg]
     refine⟨a,r ++ [n],rfl,fun m hm'=>?_⟩
     rcases mem_append.mp hm' with w | w
     ·exact hr m w
     ·rw[mem_singleton.mp w]; exact hm
   ·rcases La e with e | ⟨e1,e2⟩
    ·have hlt:=(List.getElem?_eq_some_iff.mp e).1
     exact h.hd i g (by rw[getElem?_append_left hlt]; exact e) hi
    ·obtain⟨n',r',q1,q2⟩:=h.hd i g' (by rw[e1]; simp) hi
     exact⟨n',r' ++ [n],by rw[e2,q1]; rfl,q2⟩
def Re (H:Hp) (x:V) (g:List Int):Prop:=∃ p,x = .ref p/\H p = some (.lst (g.map V.int))
theorem LAt.monoM {β α:Type} {R R':Hp->β->α->Prop} {H H':Hp} {xs:List β} {ys:List α} (h:LAt R H xs ys) (m:∀ x ∈ xs,∀ y,R H x y->R' H' x y):LAt R' H' xs ys:=⟨h.1,fun i x y e1 e2=>m x (mem_of_getElem? e1) y (h.2 i x y e1 e2)⟩
theorem LAt.lstS {H H':Hp} {xs:List V} {gs:List (List Int)} (h:LAt Re H xs gs) (s:Same H H'):LAt Re H' xs gs:=h.mono fun _ _ ⟨p,e,z⟩=>⟨p,e,s _ _ z⟩
theorem LAt.lstC {H H':Hp} {a:Addr} {xs:List V} {gs:List (List Int)} (h:LAt Re H xs gs) (c:Chg a H H') (n:¬ V.ref a ∈ xs):LAt Re H' xs gs :=
 h.monoM fun x hx y ⟨p,e,z⟩=>⟨p,e,c _ _ z (by intro w; subst w; rw[e] at hx; exact n hx)⟩
structure LLat (H:Hp) (l:Addr) (xs:List V) (gs:List (List Int)):Prop where
 li:H l = some (.lst xs)
 at':LAt Re H xs gs
 nd:xs.Nodup
 no:¬ V.ref l ∈ xs
theorem LAt.lstF {H:Hp} {a:Addr} {xs:List V} {gs:List (List Int)} (h:LAt Re H xs gs) (ha:H a = none):¬ V.ref a ∈ xs:=fun z=>by
 obtain⟨i,hi⟩:=getElem?_of_mem z
 obtain⟨g,_,p,e,hp⟩:=h.get hi
 cases e
 rw[ha] at hp; cases hp
theorem LLat.push {H H2 H3 H4:Hp} {l p:Addr} {xs:List V} {gs:List (List Int)} {n:Int} (h:LLat H l xs gs) (hp:H p = none) (s:Same H H2) (c3:Chg l H2 H3) (e3:H3 l = some (.lst (xs ++ [.ref p]))) (c4:Chg p H3 H4) (e4:H4 p = some (.lst ([] ++ [.int n]))) :
  LLat H4 l (xs ++ [.ref p]) (gs ++ [[n]]):=by
 have nlp:l ≠ p:=Bv h.li hp
 have nf:=h.at'.lstF hp
 refine⟨c4 _ _ e3 nlp,LAt.snoc (((h.at'.lstS s).lstC c3 h.no).lstC c4 nf) ⟨p,rfl,e4⟩,?_,?_⟩
 ·refine nodup_append.mpr ⟨h.nd,by simp,fun x hx y hy e=>?_⟩
  rw[e,mem_singleton.mp hy] at hx
  exact nf hx
 ·intro z
  rcases mem_append.mp z with z | z
  ·exact h.no z
  ·exact nlp (V.ref.inj (mem_singleton.mp z))
theorem LLat.add {H H':Hp} {l p:Addr} {xs:List V} {gs:List (List Int)} {g:List Int} {n:Int} (h:LLat H l (xs ++ [.ref p]) (gs ++ [g])) (c:Chg p H H') (e:H' p = some (.lst (g.map V.int ++ [.int n]))):LLat H' l (xs ++ [.ref p]) (gs ++ [g ++ [n]]):=by
 have nlp:l ≠ p:=fun z=>h.no (by rw[z]; exact mem_append_right _ mem_cons_self)
 obtain⟨n1,_,n3⟩:=nodup_append.mp h.nd
 have np:¬ V.ref p ∈ xs:=fun z=>n3 _ z _ mem_cons_self rfl
 have hl:xs.length = gs.length:=by have:=h.at'.1; simpa using this
 have h':LAt Re H xs gs:=⟨hl,fun i x y e1 e2=>h.at'.2 i x y (by rw[getElem?_append_left (List.getElem?_eq_some_iff.mp e1).1]; exact e1) (by rw[getElem?_append_left (List.getElem?_eq_some_iff.mp e2).1]; exact e2)⟩
 exact⟨c _ _ h.li nlp,LAt.snoc (h'.lstC c np) ⟨p,rfl,by rw[map_append]; exact e⟩,h.nd,h.no⟩
theorem LLat.last {H:Hp} {l:Addr} {xs:List V} {gs:List (List Int)} (h:LLat H l xs gs) (ne:¬ gs = []):∃ xs' p gs' g,xs = xs' ++ [V.ref p]/\gs = gs' ++ [g]/\H p = some (.lst (g.map V.int)):=by
 rcases eq_nil_or_concat gs with e | ⟨gs',g,rfl⟩
 ·exact absurd e ne
 ·rcases eq_nil_or_concat xs with e | ⟨xs',x,rfl⟩
  ·have:=h.at'.1; rw[e] at this; simp at this
  ·rw[concat_eq_append,concat_eq_append] at h
   have hl:xs'.length = gs'.length:=by have:=h.at'.1; simpa using this
   obtain⟨p,e,hp⟩:=h.at'.2 xs'.length x g (by simp) (by rw[hl]; simp)
   exact⟨xs',p,gs',g,by rw[concat_eq_append,e],concat_eq_append,hp⟩
theorem Aay {ts:List Int} {i:Nat} {x:V} (h:(ts.map V.int)[i]? = some x):∃ n,ts[i]? = some n/\x = .int n:=by
 rw[getElem?_map] at h
 obtain⟨n,h1,h2⟩:=map_eq_some_iff.mp h
 exact⟨n,h1,h2.symm⟩
theorem Zo {κ:Type} [DecidableEq κ] {kvs:List (κ × PV)} {k:κ} {v:PV} (h:¬ k ∈ kvs.map (·.1)):Lq kvs k v = kvs ++ [(k,v)]:=by
 unfold Lq
 rw[if_neg]
 intro z
 obtain⟨kv,h1,h2⟩:=any_eq_true.mp z
 exact h (mem_map.mpr ⟨kv,h1,of_decide_eq_true h2⟩)
theorem Sf {κ:Type} [DecidableEq κ] (x:κ × PV) (r:List (κ × PV)) (k:κ):Fy (x :: r) k = if x.1 = k then some x.2 else Fy r k:=by
 unfold Fy
 rw[find?_cons]
 by_cases z:x.1 = k
 ·rw[if_pos z,decide_eq_true z]; rfl
 ·rw[if_neg z,decide_eq_false z]
theorem AaR {α:Type} {f:α->Int} {l:List α} {n:Int} {g:α->PV} (h:(Sum.inl n:Key) ∈ (l.map fun s=>((Sum.inl (f s),g s):Key × PV)).map (·.1)):n ∈ l.map f:=by
 rw[map_map] at h
 obtain⟨s,hs,e⟩:=mem_map.mp h
 exact mem_map.mpr ⟨s,hs,Sum.inl.inj e⟩
structure GW (mk:Int->Bool) (gs:List (List Int)):Prop where
 ne:∀ g ∈ gs,∃ n r,g = n :: r/\∀ m ∈ r,mk m = true
 hd:∀ (i:Nat) (g:List Int),gs[i]? = some g->0 < i->∃ n r,g = n :: r/\mk n = false
theorem Os {mk:Int->Bool} {gs:List (List Int)}:∀ (r:List Int) (g:List Int),(∀ m ∈ r,mk m = true)->r.foldl (Nw mk) (gs ++ [g]) = gs ++ [g ++ r]
 | [],g,_=>by simp
 | m :: r,g,h=>by
  rw[foldl_cons,Rp (h m mem_cons_self),Os r _ fun x hx=>h x (mem_cons_of_mem _ hx)]
  simp
theorem Aeq {mk:Int->Bool} {gs:List (List Int)} (w:GW mk gs):grp mk gs.flatten = gs:=by
 have key:∀ n,n <= gs.length->grp mk (gs.take n).flatten = gs.take n:=by
  intro n
  induction n with
  | zero=>intro _; rfl
  | succ n ih =>
   intro hn
   have e:=getElem?_eq_getElem (show n < gs.length by omega)
   obtain⟨h,r,eg,hr⟩:=w.ne _ (mem_of_getElem? e)
   rw[Dg e,List.flatten_append]
   unfold grp at ih ⊢
   rw[List.foldl_append,ih (by omega)]
   show foldl (Nw mk) (gs.take n) ([gs[n]].flatten) = _
   rw[show [gs[n]].flatten = gs[n] by simp,eg,foldl_cons,Oj,Os r [h] hr]
   ·rfl
   ·by_cases z:n = 0
    ·left; rw[z]; rfl
    ·right
     obtain⟨h',r',eg',q⟩:=w.hd n _ e (by omega)
     rw[eg] at eg'; cases eg'
     exact q
 have:=key gs.length (Nat.le_refl _)
 rwa [take_length] at this
section
variable {U:List Sg} {M:List (Int × Int)} {J:List Jn}
end
theorem Js {α:Type} (l:List α) (x:α):L2.atI (l ++ [x]) (-1) = some x:=by
 unfold L2.atI ixN
 rw[if_neg (by omega),if_pos (by simp; omega)]
 show (l ++ [x])[_]? = _
 rw[show (-1 + ((l ++ [x]).length:Int)).toNat = l.length by simp; omega]
 simp
section
variable {U:List Sg} {M:List (Int × Int)} {J:List Jn}
def knW (U:List Sg) (M:List (Int × Int)):List Int->Str
 | []=>"plain"
 | n :: _=>if Cl U M n = true then "plain" else Fd U M n
end
theorem Ub {α:Type} (xs:List α) (lo hi:Option Int):(Gr xs lo hi).length <= xs.length:=by
 unfold Gr; rw[length_take,length_drop]; omega
section
variable {U:List Sg} {M:List (Int × Int)} {J:List Jn}
end
section
variable {U:List Sg} {M:List (Int × Int)} {J:List Jn}
end
section
variable {U:List Sg} {M:List (Int × Int)} {J:List Jn}
end
theorem Agr {α:Type} (xs:List α) (p:Nat):Gr xs none (some (p:Int)) = xs.take p:=by
 unfold Gr
 rw[HT.sIx_nat,HT.sIx_none]
 simp
section
variable {U:List Sg} {M:List (Int × Int)} {J:List Jn}
end
structure T2 (sg:List Int) (U:List Sg):Prop where
 at':∀ (k:Nat) (s:Sg),U[k]? = some s->sg[k]? = some s.1/\s.2.1 ∈ toldK/\Np s.2.1 s.2.2
 wd:∀ (k:Nat) (s:Sg),U[k]? = some s->k < 8->toldK[k]? = some s.2.1
structure K2 (S:Nat->Int) (R0:List Sg):Prop where
 inj:∀ i j,i < 6->j < 6->S (10 + i) = S (10 + j)->i = j
 ne:∀ s ∈ R0,∀ i,i < 6->¬ s.1 = S (10 + i)
 nd:(R0.map (·.1)).Nodup
 ok:∀ s ∈ R0,s.2.1 ∈ joinedK/\s.2.2 = 0
section
variable {S:Nat->Int} {R0 Mk R:List Sg} {J:List Jn} {k:Nat}
theorem JB.row2 (h:JB S R0 Mk k R J):∀ s ∈ R,s ∈ R0\/∃ i,i < k/\s.1 = S (10 + i):=by
 induction h with
 | nil=>intro s hs; exact .inl hs
 | skip h ih =>
  intro s hs
  rcases ih s hs with z | ⟨i,a,b⟩
  ·exact .inl z
  ·exact .inr ⟨i,by omega,b⟩
 | add h hs hm hn ih =>
  rename_i k R J s m
  intro u hu
  rcases mem_append.mp hu with hu | hu
  ·rcases ih u hu with z | ⟨i,a,b⟩
   ·exact .inl z
   ·exact .inr ⟨i,by omega,b⟩
  ·rw[mem_singleton.mp hu]; exact .inr ⟨k,by omega,rfl⟩
theorem JB.kind2 (h:JB S R0 Mk k R J) (hB:K2 S R0):∀ s ∈ R,s.2.1 ∈ joinedK/\s.2.2 = 0:=by
 induction h with
 | nil=>exact hB.ok
 | skip h ih=>exact ih
 | add h hs hm hn ih =>
  intro u hu
  rcases mem_append.mp hu with hu | hu
  ·exact ih u hu
  ·rw[mem_singleton.mp hu]; exact⟨(ih _ hs).1,rfl⟩
theorem JB.old2 (h:JB S R0 Mk k R J) (hk:k < 6) (hB:K2 S R0):∀ u ∈ R,¬ u.1 = S (10 + k):=fun u hu e=>by
 rcases h.row2 u hu with z | ⟨i,a,b⟩
 ·exact hB.ne u z k hk e
 ·rw[b] at e
  have:=hB.inj i k (by omega) hk e
  omega
theorem JB.nodup2 (h:JB S R0 Mk k R J) (hk:k <= 6) (hB:K2 S R0):(R.map (·.1)).Nodup/\(J.map (·.1)).Nodup/\(J.map (·.2)).Nodup:=by
 induction h with
 | nil=>exact⟨hB.nd,nodup_nil,nodup_nil⟩
 | skip h ih=>exact ih (by omega)
 | add h hs hm hn ih =>
  rename_i k R J s m
  obtain⟨a,b,c⟩:=ih (by omega)
  refine⟨?_,?_,?_⟩
  ·rw[map_append]
   refine nodup_append.mpr ⟨a,by simp,fun x hx y hy e=>?_⟩
   obtain⟨u,hu,rfl⟩:=mem_map.mp hx
   have e2:y = S (10 + k):=by simpa using hy
   exact h.old2 (by omega) hB u hu (e.trans e2)
  ·rw[map_append]
   refine nodup_append.mpr ⟨b,by simp,fun x hx y hy e=>?_⟩
   obtain⟨u,hu,rfl⟩:=mem_map.mp hx
   obtain⟨i,h1,h3⟩:=h.whole u hu
   have e2:y = S (10 + k):=by simpa using hy
   rw[h3,e2] at e
   have:=hB.inj i k (by omega) (by omega) e
   omega
  ·rw[map_append]
   refine nodup_append.mpr ⟨c,by simp,fun x hx y hy e=>?_⟩
   have e2:y = (s.1,m.1):=by simpa using hy
   rw[<- e2,<- e] at hn
   exact hn hx
theorem JB.ends2 (h:JB S R0 Mk k R J) (hk:k <= 6) (hB:K2 S R0):∀ s ∈ R,Fi J (jGo J k s.1) = none:=by
 induction h with
 | nil=>intro s hs; rfl
 | skip h ih =>
  intro s hs
  have z:=ih (by omega) s hs
  rename_i k R J
  show Fi J (Fm J (jGo J k s.1)) = none
  unfold Fm
  rw[z]; exact z
 | add h hs hm hn ih =>
  rename_i k R J s m
  have ih:=ih (by omega)
  have old:=h.old2 (by omega) hB
  have hb:∀ j ∈ J,¬ j.2.1 = ((S (10 + k),s.1,m.1):Jn).1:=fun j hj=>by
   obtain⟨⟨_,_,u,hu,_,e,_⟩,_⟩:=h.join j hj
   rw[<- e]; exact old u hu
  have one:∀ u ∈ R,Fi (J ++ [(S (10 + k),s.1,m.1)]) (jGo (J ++ [(S (10 + k),s.1,m.1)]) k u.1) = none:=fun u hu=>by
   obtain⟨e,ne⟩:=AaY hb k u.1 (old u hu)
   rw[e,Wt fun z=>ne z.symm]
   exact ih u hu
  intro u hu
  rcases mem_append.mp hu with hu | hu
  ·show Fi _ (Fm _ (jGo _ k u.1)) = none
   unfold Fm
   rw[one u hu]; exact one u hu
  ·rw[mem_singleton.mp hu]
   rw[Aar]
   have hw:¬ S (10 + k) ∈ J.map (·.1):=fun z=>by
    obtain⟨j,hj,e⟩:=mem_map.mp z
    obtain⟨⟨v,hv,_,_,e2,_,_⟩,_⟩:=h.join j hj
    exact old v hv (e2.trans e)
   have st:Fm (J ++ [(S (10 + k),s.1,m.1)]) (S (10 + k)) = s.1:=by
    unfold Fm
    have:∀ J':List Jn,¬ S (10 + k) ∈ J'.map (·.1)->Fi (J' ++ [(S (10 + k),s.1,m.1)]) (S (10 + k)) = some (s.1,m.1):=by
     intro J'
     induction J' with
     | nil=>intro _; show (if S (10 + k) = S (10 + k) then _ else _) = _; rw[if_pos rfl]
     | cons x r ih2 =>
      intro hx
      show (if x.1 = S (10 + k) then some x.2 else Fi (r ++ _) _) = _
      rw[if_neg fun z=>hx (by rw[<- z]; exact mem_cons_self)]
      exact ih2 fun z=>hx (mem_cons_of_mem _ z)
    rw[this J hw]
   show Fi _ (jGo _ k (Fm _ (S (10 + k)))) = none
   rw[st]
   exact one s hs
theorem JB.ends27 (h:JB S R0 Mk k R J) (hk:k <= 6) (hB:K2 S R0):∀ j ∈ J,Fi J (jGo J 7 j.1) = none:=by
 intro j hj
 obtain⟨⟨s,hs,_,_,e,_,_⟩,_⟩:=h.join j hj
 have z:=h.ends2 hk hB s hs
 rw[e] at z
 have e7:jGo J 7 j.1 = jGo J k j.1:=by
  have e:=Aan z (7 - k)
  rw[show k + (7 - k) = 7 by omega] at e
  exact e
 rw[e7]; exact z
end
structure S28 (f:Nat->Int):Prop where
 nn:∀ i,0 <= f i
 inj:∀ i j,i < 28->j < 28->f i = f j->i = j
def bs4:List Str:=["fore","back","num","blank"]
theorem Aab:∀ k ∈ bs4,k ∈ joinedK/\k ∈ toldK/\¬ k = "mark"/\¬ k = "plain":=by decide +kernel
theorem Ab1:∀ k ∈ joinedK,¬ k = "plain"->k ∈ bs4:=by decide +kernel
def r0G (f:Nat->Int) (U:List Sg):List Sg:=(U.filter fun (s:Sg)=>decide (s.2.1 ∈ bs4)).map (fun (s:Sg)=>((s.1,s.2.1,0):Sg)) ++ ([(f 24,"plain",0),(f 25,"plain",0)]:List Sg)
def Lu (U:List Sg):List Sg:=U.filter fun (s:Sg)=>decide (s.2.1 = "mark")
def upG (U R:List Sg) (n:Nat):List Sg:=U ++ (R.drop n).filter fun (s:Sg)=>decide (¬ s.2.1 = "plain")
def mtG (f:Nat->Int) (y:Nat):List (Int × Int):=[(f 14,f 15),(f 16,f 17)].take y
section
variable {f:Nat->Int} {U R:List Sg} {J:List Jn} {k y:Nat}
theorem T2.ix (h:T2 ((range 28).map f) U) (ul:U.length = 14):∀ s ∈ U,(∃ i,i < 14/\s.1 = f i)/\s.2.1 ∈ toldK/\Np s.2.1 s.2.2:=fun s hs=>by
 obtain⟨i,hi⟩:=getElem?_of_mem hs
 have li:=(List.getElem?_eq_some_iff.mp hi).1
 obtain⟨a,b,c⟩:=h.at' i s hi
 rw[getElem?_map,getElem?_range (by omega)] at a
 exact⟨⟨i,by omega,(Option.some.inj a).symm⟩,b,c⟩
theorem T2.nd (h:T2 ((range 28).map f) U) (ul:U.length = 14) (hf:S28 f):(U.map (·.1)).Nodup:=by
 refine Lp fun i j x h1 h2=>?_
 rw[getElem?_map] at h1 h2
 obtain⟨s1,e1,z1⟩:=map_eq_some_iff.mp h1
 obtain⟨s2,e2,z2⟩:=map_eq_some_iff.mp h2
 have l1:=(List.getElem?_eq_some_iff.mp e1).1
 have l2:=(List.getElem?_eq_some_iff.mp e2).1
 have a1:=(h.at' i s1 e1).1
 have a2:=(h.at' j s2 e2).1
 rw[getElem?_map,getElem?_range (by omega)] at a1 a2
 exact hf.inj i j (by omega) (by omega) (by rw[Option.some.inj a1,Option.some.inj a2,z1,z2])
theorem Ro (h:T2 ((range 28).map f) U) (ul:U.length = 14) (hf:S28 f):K2 (fun i=>f (i + 8)) (r0G f U) where
 inj:=fun i j hi hj e=>by have:=hf.inj (10 + i + 8) (10 + j + 8) (by omega) (by omega) e; omega
 ne:=fun s hs i hi e=>by
  have e':s.1 = f (10 + i + 8):=e
  rcases mem_append.mp hs with hs | hs
  ·obtain⟨u,hu,rfl⟩:=mem_map.mp hs
   obtain⟨⟨a,h1,h2⟩,_⟩:=h.ix ul u (mem_filter.mp hu).1
   have:=hf.inj a (10 + i + 8) (by omega) (by omega) (by rw[<- h2]; exact e')
   omega
  ·simp only [mem_cons,not_mem_nil,or_false] at hs
   rcases hs with rfl | rfl
   ·have:=hf.inj 24 (10 + i + 8) (by omega) (by omega) e'; omega
   ·have:=hf.inj 25 (10 + i + 8) (by omega) (by omega) e'; omega
 nd:=by
  unfold r0G
  rw[map_append,map_map]
  refine nodup_append.mpr ⟨?_,?_,fun x hx z hz e=>?_⟩
  ·exact Nodup.sublist (Sublist.map (fun s:Sg=>s.1) List.filter_sublist) (h.nd ul hf)
  ·refine nodup_cons.mpr ⟨fun z=>?_,nodup_cons.mpr ⟨(fun z=>by cases z),nodup_nil⟩⟩
   have:=hf.inj 24 25 (by omega) (by omega) (mem_singleton.mp z)
   omega
  ·obtain⟨u,hu,rfl⟩:=mem_map.mp hx
   obtain⟨⟨a,h1,h2⟩,_⟩:=h.ix ul u (mem_filter.mp hu).1
   have hz':z = f 24\/z = f 25:=by simpa using hz
   have e':f a = z:=by rw[<- h2]; exact e
   rcases hz' with rfl | rfl
   ·have:=hf.inj a 24 (by omega) (by omega) e'; omega
   ·have:=hf.inj a 25 (by omega) (by omega) e'; omega
 ok:=fun s hs=>by
  rcases mem_append.mp hs with hs | hs
  ·obtain⟨u,hu,rfl⟩:=mem_map.mp hs
   exact⟨(Aab _ (of_decide_eq_true (mem_filter.mp hu).2)).1,rfl⟩
  ·simp only [mem_cons,not_mem_nil,or_false] at hs
   have:("plain" : Str) ∈ joinedK:=by decide +kernel
   rcases hs with rfl | rfl <;> exact⟨this,rfl⟩
abbrev JG (f:Nat->Int) (U:List Sg) (k:Nat) (R:List Sg) (J:List Jn):Prop:=JB (fun i=>f (i + 8)) (r0G f U) (Lu U) k R J
theorem Wp (h:JG f U k R J):∃ X,R = r0G f U ++ X/\∀ s ∈ X,∃ i,i < k/\s.1 = f (18 + i):=by
 induction h with
 | nil=>exact⟨[],by simp,fun s h=>by cases h⟩
 | skip h ih=>obtain⟨X,e,hx⟩:=ih; exact⟨X,e,fun s hs=>let ⟨i,a,b⟩:=hx s hs; ⟨i,by omega,b⟩⟩
 | add h hs hm hn ih =>
  rename_i k R J s m
  obtain⟨X,e,hx⟩:=ih
  refine⟨X ++ [(f (10 + k + 8),s.2.1,0)],by rw[e,append_assoc],fun u hu=>?_⟩
  rcases mem_append.mp hu with hu | hu
  ·obtain⟨i,a,b⟩:=hx u hu; exact⟨i,by omega,b⟩
  ·rw[mem_singleton.mp hu]; exact⟨k,by omega,by show f (10 + k + 8) = f (18 + k); congr 1; omega⟩
theorem Aco {X:List Sg} (e:R = r0G f U ++ X):upG U R (r0G f U).length = U ++ X.filter fun (s:Sg)=>decide (¬ s.2.1 = "plain"):=by
 unfold upG; rw[e,List.drop_append,drop_of_length_le (Nat.le_refl _),Nat.sub_self]; rfl
theorem AeO (h:JG f U k R J) (hk:k <= 6) (ht:T2 ((range 28).map f) U) (ul:U.length = 14) (hf:S28 f):∀ s ∈ R,(¬ s.2.1 = "plain"/\∃ r,(s.1,s.2.1,r) ∈ upG U R (r0G f U).length)\/(s.2.1 = "plain"/\∀ u ∈ upG U R (r0G f U).length,¬ u.1 = s.1):=by
 intro s hs
 obtain⟨X,e,hx⟩:=Wp h
 have nd:=(h.nodup2 hk (Ro ht ul hf)).1
 rw[Aco e]
 by_cases z:s.2.1 = "plain"
 ·refine .inr ⟨z,fun u hu e2=>?_⟩
  rcases mem_append.mp hu with hu | hu
  ·obtain⟨⟨a,h1,h2⟩,h3,_⟩:=ht.ix ul u hu
   rw[e] at hs
   rcases mem_append.mp hs with hs | hs
   ·rcases mem_append.mp hs with hs | hs
    ·obtain⟨v,hv,rfl⟩:=mem_map.mp hs
     exact (Aab _ (of_decide_eq_true (mem_filter.mp hv).2)).2.2.2 z
    ·have hs':s.1 = f 24\/s.1 = f 25:=by
      simp only [mem_cons,not_mem_nil,or_false] at hs
      rcases hs with rfl | rfl
      ·exact .inl rfl
      ·exact .inr rfl
     rcases hs' with q | q
     ·have:=hf.inj a 24 (by omega) (by omega) (by rw[<- h2,e2,q]); omega
     ·have:=hf.inj a 25 (by omega) (by omega) (by rw[<- h2,e2,q]); omega
   ·obtain⟨i,a1,a2⟩:=hx s hs
    have:=hf.inj a (18 + i) (by omega) (by omega) (by rw[<- h2,e2,a2]); omega
  ·obtain⟨hu1,hu2⟩:=mem_filter.mp hu
   have hu3:u ∈ R:=by rw[e]; exact mem_append_right _ hu1
   have:u = s:=by
    obtain⟨i,hi⟩:=getElem?_of_mem hu3
    obtain⟨j,hj⟩:=getElem?_of_mem hs
    have q1:(R.map (·.1))[i]? = some s.1:=by rw[getElem?_map,hi]; exact congrArg some e2
    have q2:(R.map (·.1))[j]? = some s.1:=by rw[getElem?_map,hj]; rfl
    have:i = j:=by
     rcases Nat.lt_trichotomy i j with c | c | c
     ·exact absurd (mem_of_getElem? (by rw[getElem?_take,if_pos c]; exact q1)) (Rl nd q2)
     ·exact c
     ·exact absurd (mem_of_getElem? (by rw[getElem?_take,if_pos c]; exact q2)) (Rl nd q1)
    subst this
    rw[hi] at hj
    exact Option.some.inj hj
   subst this
   exact of_decide_eq_true hu2 z
 ·refine .inl ⟨z,?_⟩
  rw[e] at hs
  rcases mem_append.mp hs with hs | hs
  ·rcases mem_append.mp hs with hs | hs
   ·obtain⟨v,hv,rfl⟩:=mem_map.mp hs
    exact⟨v.2.2,mem_append_left _ (mem_filter.mp hv).1⟩
   ·simp only [mem_cons,not_mem_nil,or_false] at hs
    rcases hs with rfl | rfl <;> exact absurd rfl z
  ·exact⟨s.2.2,mem_append_right _ (mem_filter.mpr ⟨hs,decide_eq_true z⟩)⟩
theorem Vn (h:JG f U k R J) (hk:k <= 6) (ht:T2 ((range 28).map f) U) (ul:U.length = 14) (hf:S28 f):((upG U R (r0G f U).length).map (·.1)).Nodup/\∀ s ∈ upG U R (r0G f U).length,(∃ i,(i < 14\/(18 <= i/\i < 24))/\s.1 = f i)/\s.2.1 ∈ toldK/\Np s.2.1 s.2.2:=by
 obtain⟨X,e,hx⟩:=Wp h
 have nd:=(h.nodup2 hk (Ro ht ul hf)).1
 have kd:=h.kind2 (Ro ht ul hf)
 rw[Aco e]
 refine⟨?_,fun s hs=>?_⟩
 ·rw[map_append]
  refine nodup_append.mpr ⟨ht.nd ul hf,?_,fun x hx' z hz e2=>?_⟩
  ·rw[e,map_append] at nd
   exact Nodup.sublist (Sublist.map (fun s:Sg=>s.1) List.filter_sublist) (nodup_append.mp nd).2.1
  ·obtain⟨u,hu,rfl⟩:=mem_map.mp hx'
   obtain⟨v,hv,rfl⟩:=mem_map.mp hz
   obtain⟨⟨a,h1,h2⟩,_⟩:=ht.ix ul u hu
   obtain⟨i,a1,a2⟩:=hx v (mem_filter.mp hv).1
   have:=hf.inj a (18 + i) (by omega) (by omega) (by rw[<- h2,e2,a2])
   omega
 ·rcases mem_append.mp hs with hs | hs
  ·obtain⟨⟨a,h1,h2⟩,h3⟩:=ht.ix ul s hs
   exact⟨⟨a,.inl h1,h2⟩,h3⟩
  ·obtain⟨hs1,hs2⟩:=mem_filter.mp hs
   obtain⟨i,a1,a2⟩:=hx s hs1
   have k1:=kd s (by rw[e]; exact mem_append_right _ hs1)
   have k2:=Ab1 _ k1.1 (of_decide_eq_true hs2)
   have k3:=Aab _ k2
   exact⟨⟨18 + i,.inr ⟨by omega,by omega⟩,a2⟩,k3.2.1,.inr ⟨k3.2.2.1,k1.2⟩⟩
theorem Yp (f:Nat->Int) (y:Nat):∀ n ∈ Fq (mtG f y),∃ j,14 <= j/\j < 18/\n = f j:=fun n hn=>by
 have:n ∈ Fq [(f 14,f 15),(f 16,f 17)]:=by
  unfold mtG at hn
  have e:=Tj ([(f 14,f 15),(f 16,f 17)].take y) ([(f 14,f 15),(f 16,f 17)].drop y)
  rw[take_append_drop] at e
  rw[e]; exact mem_append_left _ hn
 simp only [Fq,mem_cons,not_mem_nil,or_false] at this
 rcases this with rfl | rfl | rfl | rfl
 ·exact⟨14,by omega,by omega,rfl⟩
 ·exact⟨15,by omega,by omega,rfl⟩
 ·exact⟨16,by omega,by omega,rfl⟩
 ·exact⟨17,by omega,by omega,rfl⟩
theorem AmV (hf:S28 f) (y:Nat):(Fq (mtG f y)).Nodup:=by
 have e:=Tj ([(f 14,f 15),(f 16,f 17)].take y) ([(f 14,f 15),(f 16,f 17)].drop y)
 rw[take_append_drop] at e
 have nd:(Fq [(f 14,f 15),(f 16,f 17)]).Nodup:=by
  show ([14,15,16,17].map f).Nodup
  refine Lp fun i j x h1 h2=>?_
  rw[getElem?_map] at h1 h2
  obtain⟨a,e1,z1⟩:=map_eq_some_iff.mp h1
  obtain⟨b,e2,z2⟩:=map_eq_some_iff.mp h2
  have l1:=(List.getElem?_eq_some_iff.mp e1).1
  have l2:=(List.getElem?_eq_some_iff.mp e2).1
  have key:∀ i:Nat,i < 4->([14,15,16,17]:List Nat)[i]? = some (14 + i):=by decide
  rw[key i l1] at e1; rw[key j l2] at e2
  cases e1; cases e2
  have:=hf.inj (14 + i) (14 + j) (by simp at l1; omega) (by simp at l2; omega) (by rw[z1,z2])
  omega
 rw[e] at nd
 exact (nodup_append.mp nd).1
theorem Yl (h:JG f U k R J) (hk:k <= 6) (ht:T2 ((range 28).map f) U) (ul:U.length = 14) (hf:S28 f) (y:Nat):AnJ (upG U R (r0G f U).length) (mtG f y) J:=by
 obtain⟨und,uix⟩:=Vn h hk ht ul hf
 have nd:((upG U R (r0G f U).length).map (·.1) ++ Fq (mtG f y)).Nodup:=by
  refine nodup_append.mpr ⟨und,AmV hf y,fun a ha b hb e=>?_⟩
  obtain⟨s,hs,rfl⟩:=mem_map.mp ha
  obtain⟨⟨i,h1,h2⟩,_⟩:=uix s hs
  obtain⟨j,h3,h4,h5⟩:=Yp f y b hb
  have:=hf.inj i j (by omega) (by omega) (by rw[<- h2,e,h5])
  omega
 have kn:∀ s ∈ R,knd (kK (upG U R (r0G f U).length) ++ kM (mtG f y)) s.1 = .str s.2.1:=fun s hs=>by
  unfold knd
  rcases AeO h hk ht ul hf s hs with ⟨z,r,hr⟩ | ⟨z,hr⟩
  ·exact Wm (s:=(s.1,s.2.1,r)) nd hr
  ·rw[z]
   refine Zp fun w=>?_
   rcases mem_append.mp w with w | w
   ·obtain⟨u,hu,e⟩:=mem_map.mp w
    exact hr u hu e
   ·obtain⟨j,h3,h4,h5⟩:=Yp f y _ w
    rcases h.row2 s hs with q | ⟨i,a,b⟩
    ·rcases mem_append.mp q with q | q
     ·obtain⟨v,hv,rfl⟩:=mem_map.mp q
      obtain⟨⟨i,h1,h2⟩,_⟩:=ht.ix ul v (mem_filter.mp hv).1
      have:=hf.inj i j (by omega) (by omega) (by rw[<- h2]; exact h5)
      omega
     ·simp only [mem_cons,not_mem_nil,or_false] at q
      rcases q with rfl | rfl
      ·have:=hf.inj 24 j (by omega) (by omega) h5; omega
      ·have:=hf.inj 25 j (by omega) (by omega) h5; omega
    ·have:=hf.inj (10 + i + 8) j (by omega) (by omega) (by rw[<- h5]; exact b.symm)
     omega
 have mkk:∀ m ∈ Lu U,m ∈ upG U R (r0G f U).length/\m.2.1 = "mark":=fun m hm=>by
  obtain⟨h1,h2⟩:=mem_filter.mp hm
  exact⟨mem_append_left _ h1,of_decide_eq_true h2⟩
 obtain⟨_,n1,n2⟩:=h.nodup2 hk (Ro ht ul hf)
 have ln:=h.len.1
 exact {
  so:=fun s hs=>by
   obtain⟨⟨i,h1,h2⟩,h3,h4⟩:=uix s hs
   exact⟨by rw[h2]; exact hf.nn i,h3,h4⟩
  mo:=fun m hm=>by
   have:m ∈ [(f 14,f 15),(f 16,f 17)]:=List.mem_of_mem_take hm
   simp only [mem_cons,not_mem_nil,or_false] at this
   rcases this with rfl | rfl <;> exact⟨hf.nn _,hf.nn _⟩
  nd:=nd
  jo:={
   nn:=fun j hj=>by
    obtain⟨⟨s,hs,u,hu,e1,e2,_⟩,m,hm,e3⟩:=h.join j hj
    have q:∀ s ∈ R,0 <= s.1:=fun s hs=>by
     rcases h.row2 s hs with q | ⟨i,a,b⟩
     ·rcases mem_append.mp q with q | q
      ·obtain⟨v,hv,rfl⟩:=mem_map.mp q
       obtain⟨⟨i,h1,h2⟩,_⟩:=ht.ix ul v (mem_filter.mp hv).1
       show 0 <= v.1
       rw[h2]; exact hf.nn i
      ·simp only [mem_cons,not_mem_nil,or_false] at q
       rcases q with rfl | rfl <;> exact hf.nn _
     ·rw[b]; exact hf.nn _
    obtain⟨⟨i,h1,h2⟩,_⟩:=ht.ix ul m (mem_filter.mp hm).1
    exact⟨by rw[<- e1]; exact q s hs,by rw[<- e2]; exact q u hu,by rw[<- e3,h2]; exact hf.nn i⟩
   mr:=fun j hj=>by
    obtain⟨_,m,hm,e3⟩:=h.join j hj
    unfold knd
    rw[<- e3,Wm nd (mkk m hm).1,(mkk m hm).2]
   kd:=fun j hj=>by
    obtain⟨⟨s,hs,u,hu,e1,e2,e3⟩,_⟩:=h.join j hj
    exact⟨s.2.1,(h.kind2 (Ro ht ul hf) s hs).1,by rw[<- e1]; exact kn s hs,by rw[<- e2,kn u hu,e3]⟩
   nw:=n1
   np:=n2
   en:=h.ends27 hk (Ro ht ul hf)
   ln:=by omega }
  ln:=by
   obtain⟨X,e,_⟩:=Wp h
   have l1:=h.len.2
   rw[Aco e,length_append]
   have l2:=length_filter_le (fun (s:Sg)=>decide (¬ s.2.1 = "plain")) X
   have l3:R.length = (r0G f U).length + X.length:=by rw[e,length_append]
   have l4:(mtG f y).length <= 2:=by unfold mtG; rw[length_take]; exact Nat.min_le_right _ _
   omega
  jl:=by omega
  mr:=by
   have h4:4 < U.length:=by omega
   have:=ht.wd 4 _ (getElem?_eq_getElem h4) (by omega)
   exact⟨_,mem_append_left _ (getElem_mem h4),(Option.some.inj this).symm⟩ }
end
theorem Lf {c:Prop} [Decidable c] {A B:Prop} (h:¬ c) (q:B):if c then A else B:=by rw[if_neg h]; exact q
theorem Nk {c:Prop} [Decidable c] {A B:Prop} (h:c) (q:A):if c then A else B:=by rw[if_pos h]; exact q
def knL (U:List Sg) (M:List (Int × Int)) (ts:List Int):List Str:=(grp (Cl U M) ts).map (knW U M)
theorem AaC {L:List Str} {x:Str} {P:PV->Prop} (q:P (.bl (decide (x ∈ L)))):bIn false (.str x) (.ctp (L.map .str)) P:=by
 refine⟨L.map .str,rfl,rfl,fun y hy=>by obtain⟨z,_,rfl⟩:=mem_map.mp hy; rfl,fun b hb=>?_⟩
 have:b = decide (x ∈ L):=Go (by
  rw[hb,decide_eq_true_iff]
  constructor
  ·intro h
   obtain⟨z,hz,e⟩:=mem_map.mp h
   injection e with e'
   rwa [<- e']
  ·intro h
   exact mem_map.mpr ⟨x,h,rfl⟩)
 rw[this]; exact q
def bgK:List Str:=["forein","backin"]
theorem Aaa {k:Str} (h:k ∈ bgK):¬ k = "out":=fun e=>by rw[e] at h; revert h; decide +kernel
def stD (d:Int) (k:Str):Int:=(if k ∈ bgK then d + 1 else d) - (if k = "out" then 1 else 0)
def enS:Int->List Str->Nat
 | _,[]=>0
 | d,k :: r=>if stD d k = 0 then 0 else enS (stD d k) r + 1
theorem Ql {d:Nat} {k:Str} {r:List Str} (h:k ∈ bgK):enS (d:Int) (k :: r) = enS ((d + 1:Nat):Int) r + 1:=by
 have e:stD (d:Int) k = ((d + 1:Nat):Int):=by unfold stD; rw[if_pos h,if_neg (Aaa h)]; omega
 rw[enS,e,if_neg (by omega)]
theorem Ais {d:Nat} {r:List Str} (h:2 <= d):enS (d:Int) ("out" :: r) = enS ((d - 1:Nat):Int) r + 1:=by
 have e:stD (d:Int) "out" = ((d - 1:Nat):Int):=by unfold stD; rw[if_neg (by decide +kernel),if_pos rfl]; omega
 rw[enS,e,if_neg (by omega)]
theorem Ah3 {r:List Str}:enS ((1:Nat):Int) ("out" :: r) = 0:=by
 have e:stD ((1:Nat):Int) "out" = 0:=by unfold stD; rw[if_neg (by decide +kernel),if_pos rfl]; rfl
 rw[enS,e,if_pos rfl]
theorem Abz {d:Nat} {k:Str} {r:List Str} (h1:1 <= d) (h2:¬ k ∈ bgK) (h3:¬ k = "out"):enS (d:Int) (k :: r) = enS (d:Int) r + 1:=by
 have e:stD (d:Int) k = (d:Int):=by unfold stD; rw[if_neg h2,if_neg h3]; omega
 rw[enS,e,if_neg (by omega)]
abbrev Nst:=Nat × Nat × Option Int
def lvF (k:Str) (a m:Int):Option Int:=if (if (a + 1) % 2 = (if k = "forein" then 0 else 1) then a + 1 else a + 2) <= m then some (if (a + 1) % 2 = (if k = "forein" then 0 else 1) then a + 1 else a + 2) else none
theorem Aly {k:Str} {a m l:Int} (h:lvF k a m = some l):a <= l:=by
 unfold lvF at h
 generalize (if k = "forein" then (0:Int) else 1) = r at h
 by_cases h1:(a + 1) % 2 = r
 ·rw[if_pos h1] at h
  by_cases h2:a + 1 <= m
  ·rw[if_pos h2] at h; injection h with h; omega
  ·rw[if_neg h2] at h; cases h
 ·rw[if_neg h1] at h
  by_cases h2:a + 2 <= m
  ·rw[if_pos h2] at h; injection h with h; omega
  ·rw[if_neg h2] at h; cases h
def arF (b:Int) (D:List Nst):Int:=D.foldl (fun a x=>match x.2.2 with | some l=>max a l | none=>a) b
def Jr (kn:List Str) (a:Nat):Nat:=a + enS 0 (kn.drop a)
def dF (kn:List Str) (b m:Int):Nat->List Nst
 | 0=>[]
 | n + 1=>match kn[n]? with
  | some k=>if k ∈ bgK then dF kn b m n ++ [(n,Jr kn n,lvF k (arF b ((dF kn b m n).filter fun x=>decide (n <= x.2.1))) m)] else dF kn b m n
  | none=>dF kn b m n
theorem Up {kn:List Str} {b m:Int} {n:Nat} {k:Str} (h:kn[n]? = some k) (hb:k ∈ bgK):dF kn b m (n + 1) = dF kn b m n ++ [(n,Jr kn n,lvF k (arF b ((dF kn b m n).filter fun x=>decide (n <= x.2.1))) m)]:=by
 rw[dF,h]; exact if_pos hb
theorem Qw {kn:List Str} {b m:Int} {n:Nat} {k:Str} (h:kn[n]? = some k) (hb:¬ k ∈ bgK):dF kn b m (n + 1) = dF kn b m n:=by
 rw[dF,h]; exact if_neg hb
theorem Ze {kn:List Str} {b m:Int}:∀ n,(∀ x ∈ dF kn b m n,x.1 < n)/\(dF kn b m n).Pairwise (fun x y=>x.1 < y.1)
 | 0=>⟨fun x h=>(by cases h),Pairwise.nil⟩
 | n + 1=>by
  obtain⟨h1,h2⟩:=Ze (kn:=kn) (b:=b) (m:=m) n
  cases e:kn[n]? with
  | none=>rw[dF,e]; exact⟨fun x h=>lt_succ_of_lt (h1 x h),h2⟩
  | some k =>
   by_cases hb:k ∈ bgK
   ·rw[Up e hb]
    refine⟨fun x h=>?_,List.pairwise_append.mpr ⟨h2,List.pairwise_singleton _ _,fun x hx y hy=>?_⟩⟩
    ·rcases mem_append.mp h with h | h
     ·exact lt_succ_of_lt (h1 x h)
     ·rw[mem_singleton.mp h]; exact lt_succ_self _
    ·rw[mem_singleton.mp hy]; exact h1 x hx
   ·rw[Qw e hb]; exact⟨fun x h=>lt_succ_of_lt (h1 x h),h2⟩
theorem Ve {kn:List Str} {b m:Int}:∀ n,(dF kn b m n).length <= n
 | 0=>Nat.le_refl _
 | n + 1=>by
  have h:=Ve (kn:=kn) (b:=b) (m:=m) n
  cases e:kn[n]? with
  | none=>rw[dF,e]; exact Nat.le_succ_of_le h
  | some k =>
   by_cases hb:k ∈ bgK
   ·rw[Up e hb,length_append]; exact succ_le_succ h
   ·rw[Qw e hb]; exact Nat.le_succ_of_le h
theorem Ak7 {kn:List Str} {b m:Int} {n i j:Nat} {x y:Nst} (h1:(dF kn b m n)[i]? = some x) (h2:(dF kn b m n)[j]? = some y) (e:x.1 = y.1):i = j:=by
 have p:=(Ze (kn:=kn) (b:=b) (m:=m) n).2
 obtain⟨hi,rfl⟩:=List.getElem?_eq_some_iff.mp h1
 obtain⟨hj,rfl⟩:=List.getElem?_eq_some_iff.mp h2
 rcases Nat.lt_trichotomy i j with z | z | z
 ·have:=List.pairwise_iff_getElem.mp p i j hi hj z; omega
 ·exact z
 ·have:=List.pairwise_iff_getElem.mp p j i hj hi z; omega
abbrev Stk:=List (Nat × Nst)
def chF:Int->Stk->Int
 | a,[]=>a
 | a,s :: r=>chF (s.2.2.2.getD a) r
def wtF:Int->Stk->List (Nat × Int)
 | _,[]=>[]
 | a,s :: r=>(s.1,a) :: wtF (s.2.2.2.getD a) r
def upF:Int->Stk->Prop
 | _,[]=>True
 | a,s :: r=>(∀ l,s.2.2.2 = some l->a <= l)/\upF (s.2.2.2.getD a) r
theorem Uh:∀ (a:Int) (S:Stk) (s:Nat × Nst),chF a (S ++ [s]) = s.2.2.2.getD (chF a S)
 | _,[],_=>rfl
 | a,x :: S,s=>Uh (x.2.2.2.getD a) S s
theorem Tq:∀ (a:Int) (S:Stk) (s:Nat × Nst),wtF a (S ++ [s]) = wtF a S ++ [(s.1,chF a S)]
 | _,[],_=>rfl
 | a,x :: S,s=>by
  show (x.1,a) :: wtF (x.2.2.2.getD a) (S ++ [s]) = _
  rw[Tq]; rfl
theorem Vz:∀ (a:Int) (S:Stk),(wtF a S).length = S.length
 | _,[]=>rfl
 | a,x :: S=>by show (wtF _ S).length + 1 = _; rw[Vz]; rfl
theorem Tv:∀ (a:Int) (S:Stk) (s:Nat × Nst),upF a (S ++ [s]) ↔ upF a S/\∀ l,s.2.2.2 = some l->chF a S <= l
 | _,[],s=>⟨fun h=>⟨trivial,h.1⟩,fun h=>⟨h.2,trivial⟩⟩
 | a,x :: S,s=>by
  have:=Tv (x.2.2.2.getD a) S s
  constructor
  ·intro h; exact⟨⟨h.1,(this.mp h.2).1⟩,(this.mp h.2).2⟩
  ·intro h; exact⟨h.1.1,this.mpr ⟨h.1.2,h.2⟩⟩
theorem Ae7:∀ (a:Int) (S:Stk),upF a S->arF a (S.map (·.2)) = chF a S
 | _,[],_=>rfl
 | a,s :: r,h=>by
  have ih:=Ae7 (s.2.2.2.getD a) r h.2
  unfold arF at ih ⊢
  rw[map_cons,foldl_cons,chF,<- ih]
  congr 1
  cases e:s.2.2.2 with
  | none=>rfl
  | some l=>have:=h.1 l e; show max a l = l; omega
structure NI (kn:List Str) (b m:Int) (n:Nat) (S:Stk):Prop where
 fil:(dF kn b m n).filter (fun x=>decide (n <= x.2.1)) = S.map (·.2)
 ix:∀ s ∈ S,(dF kn b m n)[s.1]? = some s.2
 dp:∀ j s,S[j]? = some s->s.2.2.1 = n + enS ((S.length - j:Nat):Int) (kn.drop n)
 up:upF b S
section
variable {kn:List Str} {b m:Int} {n:Nat} {S:Stk} {k:Str}
theorem Jg {l:List Str} (h:l[n]? = some k):l.drop n = k :: l.drop (n + 1):=by
 obtain⟨hi,rfl⟩:=List.getElem?_eq_some_iff.mp h
 exact drop_eq_getElem_cons hi
theorem NI.zero:NI kn b m 0 []:=⟨rfl,fun s h=>(by cases h),fun j s h=>(by cases h),trivial⟩
theorem Aer (D:List Nst) (h:∀ x ∈ D.filter (fun x=>decide (n <= x.2.1)),n + 1 <= x.2.1):D.filter (fun x=>decide (n + 1 <= x.2.1)) = D.filter (fun x=>decide (n <= x.2.1)):=by
 refine List.filter_congr fun x hx=>?_
 by_cases z:n <= x.2.1
 ·have:=h x (mem_filter.mpr ⟨hx,decide_eq_true z⟩)
  rw[decide_eq_true z,decide_eq_true this]
 ·rw[decide_eq_false z,decide_eq_false (by omega)]
theorem NI.lev (h:NI kn b m n S):arF b ((dF kn b m n).filter fun x=>decide (n <= x.2.1)) = chF b S:=by rw[h.fil,Ae7 _ _ h.up]
theorem NI.later (h:NI kn b m n S) (hk:kn[n]? = some k) (ho:¬ k = "out"):∀ x ∈ (dF kn b m n).filter (fun x=>decide (n <= x.2.1)),n + 1 <= x.2.1:=fun x hx=>by
 rw[h.fil] at hx
 obtain⟨s,hs,rfl⟩:=mem_map.mp hx
 obtain⟨j,hj⟩:=getElem?_of_mem hs
 have hl:=(List.getElem?_eq_some_iff.mp hj).1
 have e:=h.dp j s hj
 rw[Jg hk] at e
 by_cases hb:k ∈ bgK
 ·rw[Ql hb] at e; omega
 ·rw[Abz (by omega) hb ho] at e; omega
theorem NI.beg (h:NI kn b m n S) (hk:kn[n]? = some k) (hb:k ∈ bgK):dF kn b m (n + 1) = dF kn b m n ++ [(n,Jr kn n,lvF k (chF b S) m)]/\NI kn b m (n + 1) (S ++ [((dF kn b m n).length,(n,Jr kn n,lvF k (chF b S) m))]):=by
 have e1:=Up (b:=b) (m:=m) hk hb
 rw[h.lev] at e1
 have en:Jr kn n = n + 1 + enS ((1:Nat):Int) (kn.drop (n + 1)):=by
  unfold Jr
  rw[Jg hk,show (0:Int) = ((0:Nat):Int) from rfl,Ql hb,Nat.zero_add]; omega
 refine⟨e1,?_,fun s hs=>?_,fun j s hj=>?_,?_⟩
 ·rw[e1,filter_append,Aer _ (h.later hk (Aaa hb)),h.fil,map_append,filter_cons_of_pos (p:=fun x:Nst=>decide (n + 1 <= x.2.1)) (decide_eq_true (show n + 1 <= Jr kn n by omega))]
  rfl
 ·rw[e1]
  rcases mem_append.mp hs with hs | hs
  ·have:=h.ix s hs
   rw[getElem?_append_left (List.getElem?_eq_some_iff.mp this).1]; exact this
  ·rw[mem_singleton.mp hs,getElem?_append_right (Nat.le_refl _),Nat.sub_self]; rfl
 ·rw[length_append,length_singleton]
  rcases Nat.lt_or_ge j S.length with z | z
  ·rw[getElem?_append_left z] at hj
   have:=h.dp j s hj
   rw[Jg hk,Ql hb] at this
   rw[this,show S.length + 1 - j = S.length - j + 1 by omega]; omega
  ·rw[getElem?_append_right z] at hj
   have z2:j - S.length = 0:=by
    have:=(List.getElem?_eq_some_iff.mp hj).1
    rw[length_singleton] at this; omega
   rw[z2] at hj
   cases hj
   rw[show S.length + 1 - j = 1 by omega]
   exact en
 ·exact (Tv _ _ _).mpr ⟨h.up,fun l hl=>Aly hl⟩
theorem NI.oth (h:NI kn b m n S) (hk:kn[n]? = some k) (hb:¬ k ∈ bgK) (ho:k = "out"->S = []):dF kn b m (n + 1) = dF kn b m n/\NI kn b m (n + 1) S:=by
 have e1:=Qw (b:=b) (m:=m) hk hb
 refine⟨e1,?_⟩
 by_cases hk2:k = "out"
 ·have hS:=ho hk2
  subst hS
  refine⟨?_,fun s hs=>(by cases hs),fun j s hj=>(by cases hj),trivial⟩
  have hf:=h.fil
  rw[e1]
  refine List.filter_eq_nil_iff.mpr fun x hx=>?_
  have:=List.filter_eq_nil_iff.mp hf x hx
  intro z
  exact this (decide_eq_true (by have:=of_decide_eq_true z; omega))
 ·refine⟨by rw[e1,Aer _ (h.later hk hk2),h.fil],fun s hs=>by rw[e1]; exact h.ix s hs,fun j s hj=>?_,h.up⟩
  have:=h.dp j s hj
  have hl:=(List.getElem?_eq_some_iff.mp hj).1
  rw[Jg hk,Abz (by omega) hb hk2] at this
  omega
theorem NI.out {s:Nat × Nst} (h:NI kn b m n (S ++ [s])) (hk:kn[n]? = some "out"):dF kn b m (n + 1) = dF kn b m n/\NI kn b m (n + 1) S/\s.2.2.1 = n/\∀ x ∈ dF kn b m n,x.2.1 = n->x = s.2:=by
 have e1:=Qw (b:=b) (m:=m) hk (by decide +kernel)
 have ls:s.2.2.1 = n:=by
  have:=h.dp S.length s (by rw[getElem?_append_right (Nat.le_refl _),Nat.sub_self]; rfl)
  rw[length_append,length_singleton,show S.length + 1 - S.length = 1 by omega,Jg hk,Ah3] at this
  exact this
 have others:∀ j y,S[j]? = some y->y.2.2.1 = n + 1 + enS ((S.length - j:Nat):Int) (kn.drop (n + 1)):=fun j y hy=>by
  have hj:=(List.getElem?_eq_some_iff.mp hy).1
  have:=h.dp j y (by rw[getElem?_append_left hj]; exact hy)
  rw[length_append,length_singleton,Jg hk,Ais (by omega),show S.length + 1 - j - 1 = S.length - j by omega] at this
  omega
 have hf:=h.fil
 refine⟨e1,⟨?_,fun y hy=>by rw[e1]; exact h.ix y (mem_append_left _ hy),others,((Tv _ _ _).mp h.up).1⟩,ls,fun x hx e=>?_⟩
 ·rw[e1]
  have e2:(dF kn b m n).filter (fun x=>decide (n + 1 <= x.2.1)) = ((dF kn b m n).filter (fun x=>decide (n <= x.2.1))).filter (fun x=>decide (n + 1 <= x.2.1)):=by
   rw[List.filter_filter]
   refine List.filter_congr fun x _=>?_
   by_cases z:n + 1 <= x.2.1
   ·rw[decide_eq_true z,decide_eq_true (by omega)]; rfl
   ·rw[decide_eq_false z]; rfl
  rw[e2,hf,map_append,filter_append,map_cons,map_nil,filter_cons_of_neg (by rw[ls]; simp),List.filter_nil,append_nil]
  refine List.filter_eq_self.mpr fun x hx=>?_
  obtain⟨y,hy,rfl⟩:=mem_map.mp hx
  obtain⟨j,hj⟩:=getElem?_of_mem hy
  have:=others j y hj
  exact decide_eq_true (by omega)
 ·have hm:x ∈ (S ++ [s]).map (·.2):=by rw[<- hf]; exact mem_filter.mpr ⟨hx,decide_eq_true (by omega)⟩
  obtain⟨y,hy,rfl⟩:=mem_map.mp hm
  rcases mem_append.mp hy with hy | hy
  ·obtain⟨j,hj⟩:=getElem?_of_mem hy
   have:=others j y hj
   omega
  ·rw[mem_singleton.mp hy]
theorem NI.end (h:NI kn b m kn.length S):∀ x ∈ dF kn b m kn.length,x.2.1 <= kn.length:=fun x hx=>by
 by_cases z:kn.length <= x.2.1
 ·have hm:x ∈ S.map (·.2):=by rw[<- h.fil]; exact mem_filter.mpr ⟨hx,decide_eq_true z⟩
  obtain⟨y,hy,rfl⟩:=mem_map.mp hm
  obtain⟨j,hj⟩:=getElem?_of_mem hy
  have:=h.dp j y hj
  rw[drop_length,enS] at this
  omega
 ·omega
theorem NI.all (h:∀ k ∈ kn,True):∀ n,n <= kn.length->∃ S,NI kn b m n S
 | 0,_=>⟨[],.zero⟩
 | n + 1,hn=>by
  obtain⟨S,hS⟩:=NI.all h n (by omega)
  obtain⟨k,hk⟩:∃ k,kn[n]? = some k:=⟨_,getElem?_eq_getElem (by omega)⟩
  by_cases hb:k ∈ bgK
  ·exact⟨_,(hS.beg hk hb).2⟩
  ·by_cases ho:k = "out"
   ·rcases eq_nil_or_concat S with e | ⟨S',s,e⟩
    ·exact⟨_,(hS.oth hk hb fun _=>e).2⟩
    ·rw[concat_eq_append] at e
     subst e; subst ho
     exact⟨_,(hS.out hk).2.1⟩
   ·exact⟨_,(hS.oth hk hb fun z=>absurd z ho).2⟩
end
def obF:Nat->List Str->Int
 | _,[]=>0
 | d,k :: r=>if k ∈ bgK then obF (d + 1) r else if k = "out" then obF (d - 1) r else if d = 0/\k = "back" then 1 else if d = 0/\k = "fore" then 0 else obF d r
def Aj4:PSp:=fun ps P=>∃ U M J ts,ps = [.bk U M J,.lst (map .int ts)]/\ts.length <= 300/\P (.int (obF 0 (knL U M ts)))
theorem Aaf {L:List Str} {x:Str} {P:PV->Prop} (q:P (.bl (decide (x ∈ L)))):bIn false (.str x) (.lst (L.map .str)) P:=by
 refine⟨L.map .str,rfl,rfl,fun y hy=>by obtain⟨z,_,rfl⟩:=mem_map.mp hy; rfl,fun b hb=>?_⟩
 have:b = decide (x ∈ L):=Go (by
  rw[hb,decide_eq_true_iff]
  constructor
  ·intro h
   obtain⟨z,hz,e⟩:=mem_map.mp h
   injection e with e'
   rwa [<- e']
  ·intro h
   exact mem_map.mpr ⟨x,h,rfl⟩)
 rw[this]; exact q
def gpF (f:Nat->Int) (W:List Sg) (M:List (Int × Int)) (w:Str):List Int:=((range 28).map f).filter fun n=>decide (Fd W M n = w)
def hdF (g:List Int):Int:=g.headD 0
def bsL (U:List Sg) (M:List (Int × Int)) (ts:List Int):List Int:=(grp (Cl U M) ts).map hdF
def wyF (v:Int):Str:=if v % 2 = 0 then "fore" else "back"
def ldK:List Str:=["fore","back","num"]
def osP:Option Str->PV
 | none=>.non
 | some s=>.str s
def ldF:Str->List Str->List (Option Str)
 | _,[]=>[]
 | l,k :: r=>(if k ∈ ldK then some (if k = "fore"\/k = "back" then k else l) else none) :: ldF (if k = "fore"\/k = "back" then k else l) r
def Qh (mt:Int->Option Int) (bs:List Int) (w:List Nat) (b:Int):List Nat:=(w.mapIdx fun j a=>(j,a)).filterMap fun q=>if (bs[q.2]?).bind mt = some b then some q.1 else none
def prF (mt:Int->Option Int) (ks:List Str) (bs:List Int):Nat->List (Nat × Nat) × List Nat
 | 0=>([],[])
 | n + 1 =>
  if ks[n]? = some ("open" : Str) then ((prF mt ks bs n).1,(prF mt ks bs n).2 ++ [n])
  else if ks[n]? = some ("shut" : Str) then
   match (Qh mt bs (prF mt ks bs n).2 ((bs[n]?).getD 0)).getLast? with
   | none=>prF mt ks bs n
   | some j=>((prF mt ks bs n).1 ++ [(((prF mt ks bs n).2[j]?).getD 0,n)],(prF mt ks bs n).2.take j)
  else prF mt ks bs n
theorem Tt (mt:Int->Option Int) (ks:List Str) (bs:List Int) (n:Nat):prF mt ks bs (n + 1) =
  if ks[n]? = some ("open" : Str) then ((prF mt ks bs n).1,(prF mt ks bs n).2 ++ [n])
  else if ks[n]? = some ("shut" : Str) then
   match (Qh mt bs (prF mt ks bs n).2 ((bs[n]?).getD 0)).getLast? with
   | none=>prF mt ks bs n
   | some j=>((prF mt ks bs n).1 ++ [(((prF mt ks bs n).2[j]?).getD 0,n)],(prF mt ks bs n).2.take j)
  else prF mt ks bs n:=rfl
def wpF (ws:List (Option Str)) (p:Nat × Nat) (own:Str):Option Str :=
 if ((ws.take p.2).drop (p.1 + 1)).filterMap id = [] then none
 else if own ∈ ((ws.take p.2).drop (p.1 + 1)).filterMap id then some own
 else some ((((ws.take p.1).filterMap id).getLast?).getD own)
def wwF (ws:List (Option Str)) (ps:List (Nat × Nat)) (own:Str):List (Option Str):=ps.foldl (fun f p=>(f.set p.1 (wpF ws p own)).set p.2 (wpF ws p own)) ws
def laF:Str->List (Option Str)->List Str
 | _,[]=>[]
 | l,w :: r=>w.getD l :: laF (w.getD l) r
def flF (own:Str) (ws:List (Option Str)):List Str:=((laF own ws).zip (laF own ws.reverse).reverse).map fun z=>if z.1 = z.2 then z.1 else own
def lwF (k w:Str) (v:Int):Int:=if k = "num" then (if v % 2 = 1 then v + 1 else if w = "fore" then v else v + 2) else if w = wyF v then v else v + 1
def wrF (mt:Int->Option Int) (ks:List Str) (bs:List Int) (own:Str):List Str:=flF own (wwF (ldF own ks) (prF mt ks bs ks.length).1 own)
def rwF (mt:Int->Option Int) (ks:List Str) (bs:List Int) (v:Int):List Int:=(ks.zip (wrF mt ks bs (wyF v))).map fun z=>lwF z.1 z.2 v
abbrev Stc:=Int × Int × Int
def stP (s:Stc):PV:=.tup [.int s.1,.int s.2.1,.int s.2.2]
def stF (N:List Nst) (n:Nat) (b:Int):List Stc:=(-1,(n:Int),b) :: N.filterMap fun x=>x.2.2.map fun l=>((x.1:Int),(x.2.1:Int),l)
def hmS (hs:List Nat) (h:Nat) (a e:Int):List Nat:=hs.mapIdx fun k x=>if a < (k:Int)/\(k:Int) < e then h else x
def hmF (St:List Stc) (n:Nat):Nat->List Nat
 | 0=>replicate n 0
 | j + 1=>match St[j]? with
  | some s=>hmS (hmF St n j) j s.1 s.2.1
  | none=>hmF St n j
def rsF (St:List Stc) (hs:List Nat):List (Int × List Nat):=St.mapIdx fun h s=>(s.2.2,(range hs.length).filter fun k=>decide (hs[k]? = some h))
def rsP (r:Int × List Nat):PV:=.tup [.int r.1,.lst (r.2.map fun k:Nat=>.int k)]
def lpF (acc:List Int) (ks:List Nat) (vs:List Int):List Int:=(ks.zip vs).foldl (fun l p=>l.set p.1 p.2) acc
def pkF {α:Type} [Inhabited α] (l:List α) (ks:List Nat):List α:=ks.map fun k=>(l[k]?).getD default
def lvA (mt:Int->Option Int) (ks:List Str) (bs:List Int) (rows:List (Int × List Nat)) (acc:List Int):List Int:=rows.foldl (fun l r=>lpF l r.2 (rwF mt (pkF ks r.2) (pkF bs r.2) r.1)) acc
def Jq (ks:List Str) (b m:Int):List (Int × List Nat):=rsF (stF (dF ks b m ks.length) ks.length b) (hmF (stF (dF ks b m ks.length) ks.length b) ks.length (stF (dF ks b m ks.length) ks.length b).length)
def Le (mt:Int->Option Int) (ks:List Str) (bs:List Int) (b m:Int):List Int:=lvA mt ks bs (Jq ks b m) (replicate ks.length b)
theorem Qq:∀ (l:Str) (ks:List Str),(ldF l ks).length = ks.length
 | _,[]=>rfl
 | l,k :: r=>by rw[ldF,length_cons,Qq,length_cons]
theorem Te:∀ (l:Str) (ws:List (Option Str)),(laF l ws).length = ws.length
 | _,[]=>rfl
 | l,k :: r=>by rw[laF,length_cons,Te,length_cons]
theorem Abp (ws:List (Option Str)) (ps:List (Nat × Nat)) (own:Str):(wwF ws ps own).length = ws.length:=by
 unfold wwF
 suffices h:∀ (ps:List (Nat × Nat)) (f:List (Option Str)),(ps.foldl (fun f p=>(f.set p.1 (wpF ws p own)).set p.2 (wpF ws p own)) f).length = f.length from h ps ws
 intro ps
 induction ps with
 | nil=>intro f; rfl
 | cons p r ih=>intro f; rw[foldl_cons,ih,length_set,length_set]
theorem Aih (own:Str) (ws:List (Option Str)):(flF own ws).length = ws.length:=by
 unfold flF
 rw[length_map,List.length_zip,length_reverse,Te,Te,length_reverse,Nat.min_self]
theorem Aiy (mt:Int->Option Int) (ks:List Str) (bs:List Int) (own:Str):(wrF mt ks bs own).length = ks.length:=by
 unfold wrF; rw[Aih,Abp,Qq]
theorem Wi (mt:Int->Option Int) (ks:List Str) (bs:List Int) (v:Int):(rwF mt ks bs v).length = ks.length:=by
 unfold rwF; rw[length_map,List.length_zip,Aiy,Nat.min_self]
theorem AhZ (hs:List Nat) (h:Nat) (a e:Int):(hmS hs h a e).length = hs.length:=length_mapIdx
theorem Og (St:List Stc) (n:Nat):∀ j,(hmF St n j).length = n
 | 0=>length_replicate
 | j + 1=>by
  rw[hmF]
  cases St[j]? with
  | none=>exact Og St n j
  | some s=>exact (AhZ _ _ _ _).trans (Og St n j)
theorem Zr (St:List Stc) (n:Nat) (h0:0 < St.length):∀ j,∀ x ∈ hmF St n j,x < St.length
 | 0,x,h=>by rw[List.eq_of_mem_replicate h]; exact h0
 | j + 1,x,h=>by
  rw[hmF] at h
  cases e:St[j]? with
  | none=>rw[e] at h; exact Zr St n h0 j x h
  | some s =>
   rw[e] at h
   have hj:=(List.getElem?_eq_some_iff.mp e).1
   unfold hmS at h
   obtain⟨k,hk⟩:=getElem?_of_mem h
   rw[getElem?_mapIdx] at hk
   obtain⟨y,hy,rfl⟩:=map_eq_some_iff.mp hk
   split
   ·exact hj
   ·exact Zr St n h0 j y (mem_of_getElem? hy)
theorem Abs (ks:List Nat) (vs acc:List Int):(lpF acc ks vs).length = acc.length:=by
 unfold lpF
 generalize ks.zip vs = z
 induction z generalizing acc with
 | nil=>rfl
 | cons p r ih=>rw[foldl_cons,ih,length_set]
theorem AiQ {hs:List Nat} {h i:Nat} {a:Int} (h0:-1 <= a) (hi:a + 1 + i < hs.length):(hs.mapIdx fun k x=>if a < (k:Int)/\(k:Int) < a + 1 + i then h else x).set (a + 1 + i).toNat h = hs.mapIdx fun k x=>if a < (k:Int)/\(k:Int) < a + 1 + ((i + 1:Nat):Int) then h else x:=by
 refine ext_getElem? fun k=>?_
 rw[getElem?_set,length_mapIdx,getElem?_mapIdx,getElem?_mapIdx]
 by_cases e:(a + 1 + i).toNat = k
 ·rw[if_pos e,if_pos (by omega),getElem?_eq_getElem (show k < hs.length by omega)]
  show some h = some (if a < (k:Int)/\(k:Int) < a + 1 + ((i + 1:Nat):Int) then h else _)
  rw[if_pos (by omega)]
 ·rw[if_neg e]
  cases hs[k]? with
  | none=>rfl
  | some x =>
   show some (if a < (k:Int)/\(k:Int) < a + 1 + i then h else x) = some (if a < (k:Int)/\(k:Int) < a + 1 + ((i + 1:Nat):Int) then h else x)
   by_cases z:a < (k:Int)/\(k:Int) < a + 1 + i
   ·rw[if_pos z,if_pos (by omega)]
   ·rw[if_neg z,if_neg (by omega)]
theorem Nm {α:Type} (l:List α) (f:Nat->α->α) (h:∀ k x,l[k]? = some x->f k x = x):l.mapIdx f = l:=by
 refine ext_getElem? fun k=>?_
 rw[getElem?_mapIdx]
 cases e:l[k]? with
 | none=>rfl
 | some x=>show some (f k x) = some x; rw[h k x e]
theorem Akm {St:List Stc} {hs:List Nat}:(rsF St hs).length = St.length/\∀ r ∈ rsF St hs,r.2.length <= hs.length/\∀ k ∈ r.2,k < hs.length:=by
 refine⟨length_mapIdx,fun r hr=>?_⟩
 unfold rsF at hr
 obtain⟨i,hi⟩:=getElem?_of_mem hr
 rw[getElem?_mapIdx] at hi
 obtain⟨s,_,rfl⟩:=map_eq_some_iff.mp hi
 refine⟨?_,fun k hk=>mem_range.mp (mem_filter.mp hk).1⟩
 have:=length_filter_le (fun k=>decide (hs[k]? = some i)) (range hs.length)
 rw[length_range] at this
 exact this
theorem AeS {α β:Type} [Inhabited α] [Inhabited β] (g:α->β) (l:List α):∀ ks:List Nat,(∀ k ∈ ks,k < l.length)->pkF (l.map g) ks = (pkF l ks).map g:=fun ks h=>by
 unfold pkF
 rw[map_map]
 refine List.map_congr_left fun k hk=>?_
 have:=h k hk
 show ((l.map g)[k]?).getD default = g ((l[k]?).getD default)
 rw[getElem?_map,getElem?_eq_getElem this]; rfl
theorem Aiq (N:List Nst) (n:Nat) (b:Int):(stF N n b).length <= N.length + 1:=by
 unfold stF
 have:=List.length_filterMap_le (fun x:Nst=>x.2.2.map fun l=>((x.1:Int),(x.2.1:Int),l)) N
 rw[length_cons]; omega
structure RL (H0:Hp) (D:Addr) (lv:List Int) (R:List (List Nat)) (tl:List (Addr × Addr)) (H:Hp):Prop where
 s:Same H0 H
 nD:H0 D = none
 eD:H D = some (.lst (tl.map fun z=>V.ref z.1))
 l1:tl.length = lv.length
 l2:R.length = lv.length
 at':∀ (i:Nat) (z:Addr × Addr) (v:Int) (r:List Nat),tl[i]? = some z->lv[i]? = some v->R[i]? = some r->H z.1 = some (.tup [.int v,.ref z.2])/\H z.2 = some (.lst (r.map fun k:Nat=>V.int k))/\H0 z.1 = none/\H0 z.2 = none/\z.2 ≠ D/\z.1 ≠ D
 ap:∀ (i j:Nat) (z y:Addr × Addr),tl[i]? = some z->tl[j]? = some y->i ≠ j->z.2 ≠ y.2
theorem RL.mono {H0:Hp} {D:Addr} {lv:List Int} {R:List (List Nat)} {tl:List (Addr × Addr)} {H H':Hp} (h:RL H0 D lv R tl H) (s:Same H H'):RL H0 D lv R tl H' :=
 ⟨h.s.trans s,h.nD,s _ _ h.eD,h.l1,h.l2,fun i z v r h1 h2 h3=>by
  obtain⟨a,b,c⟩:=h.at' i z v r h1 h2 h3
  exact⟨s _ _ a,s _ _ b,c⟩,h.ap⟩
theorem RL.snoc {H0:Hp} {D:Addr} {lv:List Int} {R:List (List Nat)} {tl:List (Addr × Addr)} {H H1 H2:Hp} {l p:Addr} {v:Int} (h:RL H0 D lv R tl H) (hl:H l = none) (s1:Same H H1) (e1:H1 l = some (.lst [])) (hp:H1 p = none) (s2:Same H1 H2) (e2:H2 p = some (.tup [.int v,.ref l])) :
  RL H0 D (lv ++ [v]) (R ++ [[]]) (tl ++ [(p,l)]) (upd H2 D (.lst (tl.map (fun z=>V.ref z.1) ++ [.ref p]))):=by
 have nlD:l ≠ D:=fun z=>by subst z; rw[h.eD] at hl; cases hl
 have npD:p ≠ D:=fun z=>by subst z; rw[s1 _ _ h.eD] at hp; cases hp
 have s12:=s1.trans s2
 refine⟨fun b o hb=>?_,h.nD,by rw[Bm,map_append]; rfl,by rw[length_append,length_append,h.l1]; rfl,by rw[length_append,length_append,h.l2]; rfl,fun i z w r h1 h2 h3=>?_,fun i j z y h1 h2 ne=>?_⟩
 ·rw[Bj (by intro z; subst z; rw[h.nD] at hb; cases hb)]
  exact s12 _ _ (h.s _ _ hb)
 ·rcases La h1 with h1 | ⟨rfl,rfl⟩
  ·have hi:=(List.getElem?_eq_some_iff.mp h1).1
   rw[getElem?_append_left (by have:=h.l1; omega)] at h2
   rw[getElem?_append_left (by have:=h.l1; have:=h.l2; omega)] at h3
   obtain⟨a,b,c,d,e,f⟩:=h.at' i z w r h1 h2 h3
   exact⟨by rw[Bj f]; exact s12 _ _ a,by rw[Bj e]; exact s12 _ _ b,c,d,e,f⟩
  ·rw[getElem?_append_right (by rw[h.l1]; exact Nat.le_refl _),h.l1,Nat.sub_self] at h2
   rw[getElem?_append_right (by rw[h.l1,h.l2]; exact Nat.le_refl _),h.l1,h.l2,Nat.sub_self] at h3
   cases h2; cases h3
   exact⟨by rw[Bj npD]; exact e2,by rw[Bj nlD]; exact s2 _ _ e1,h.s.free (s1.free hp),h.s.free hl,nlD,npD⟩
 ·have old:∀ (k:Nat) (w:Addr × Addr),tl[k]? = some w->w.2 ≠ l:=fun k w hk e=>by
   have hk2:=(List.getElem?_eq_some_iff.mp hk).1
   obtain⟨u,hu⟩:∃ u,lv[k]? = some u:=⟨_,getElem?_eq_getElem (by have:=h.l1; omega)⟩
   obtain⟨r,hr⟩:∃ r,R[k]? = some r:=⟨_,getElem?_eq_getElem (by have:=h.l1; have:=h.l2; omega)⟩
   obtain⟨_,b,_⟩:=h.at' k w u r hk hu hr
   rw[e,hl] at b; cases b
  rcases La h1 with h1 | ⟨rfl,rfl⟩
  ·rcases La h2 with h2 | ⟨rfl,rfl⟩
   ·exact h.ap i j z y h1 h2 ne
   ·exact old i z h1
  ·rcases La h2 with h2 | ⟨rfl,rfl⟩
   ·exact fun e=>old j y h2 e.symm
   ·exact absurd rfl ne
theorem RL.app {H0:Hp} {D:Addr} {lv:List Int} {R:List (List Nat)} {tl:List (Addr × Addr)} {H H1:Hp} {i k:Nat} {z:Addr × Addr} {r:List Nat} (h:RL H0 D lv R tl H) (hz:tl[i]? = some z) (hr:R[i]? = some r) (c:Chg z.2 H H1) (e:H1 z.2 = some (.lst (r.map (fun k:Nat=>V.int k) ++ [.int (k:Int)]))) :
  RL H0 D lv (R.set i (r ++ [k])) tl H1:=by
 have hi:=(List.getElem?_eq_some_iff.mp hz).1
 obtain⟨v,hv⟩:∃ v,lv[i]? = some v:=⟨_,getElem?_eq_getElem (by have:=h.l1; omega)⟩
 obtain⟨a,b,c0,d,e0,f⟩:=h.at' i z v r hz hv hr
 refine⟨h.s.chg c d,h.nD,c _ _ h.eD (Ne.symm e0),h.l1,by rw[length_set,h.l2],fun j y w q h1 h2 h3=>?_,h.ap⟩
 by_cases ij:i = j
 ·subst ij
  rw[hz] at h1; cases h1
  rw[hv] at h2; cases h2
  rw[getElem?_set,if_pos rfl,if_pos (by have:=h.l1; have:=h.l2; omega)] at h3
  cases h3
  refine⟨c _ _ a (fun w=>?_),by rw[e,map_append]; rfl,c0,d,e0,f⟩
  rw[w,b] at a; cases a
 ·rw[getElem?_set,if_neg ij] at h3
  obtain⟨a',b',c',d',e',f'⟩:=h.at' j y w q h1 h2 h3
  refine⟨c _ _ a' (fun w=>?_),c _ _ b' (Ne.symm (h.ap i j z y hz h1 ij)),c',d',e',f'⟩
  rw[w,b] at a'; cases a'
def AgE (K:Frag):TS:=Wk (Ld (Gz (Qf K (Fg 3)) (Gf 0) AcN (Acz (Fs (tOp (Wq K) (Fg 0) (tC (V.int 2))) (Fs (Xz Na) Na))) 1 []) (Gf 8))
 (Wk (Ly (Yy K (Fg 4)) (Vv K 2 (Vh (Gf 7) (Vh (Gf 5) Acn))) (Uy (tBM K "list" Oq (tOp (Wq K) (tOp (AaF K) (Fg 8) (Fg 5)) (tC (V.int 1))) (Fs (Fg 7) Na)))) (Ty (Fg 8)))
def Amb:US:=fun d ρ=>∃ (St:List Stc) (hs:List Nat),ρ[3]? = some (.sh (.lst (St.map stP)))/\ρ[4]? = some (.ow (.lst (hs.map fun k:Nat=>.int k)))/\ρ.length = 9/\St.length <= 1000/\hs.length <= 1000/\(∀ x ∈ hs,x < St.length)/\d.rt (.lst ((rsF St hs).map rsP))
def rnF (m n:Nat) (hs:List Nat):List (List Nat):=(range m).map fun h=>(range n).filter fun k=>decide (hs[k]? = some h)
theorem Afv {m n x:Nat} {hs:List Nat} (hx:hs[n]? = some x) (hm:x < m):(rnF m n hs)[x]? = some ((range n).filter fun k=>decide (hs[k]? = some x))/\(rnF m n hs).set x (((range n).filter fun k=>decide (hs[k]? = some x)) ++ [n]) = rnF m (n + 1) hs:=by
 unfold rnF
 refine⟨by rw[getElem?_map,getElem?_range hm]; rfl,ext_getElem? fun i=>?_⟩
 rw[getElem?_set,length_map,length_range,getElem?_map,getElem?_map,List.range_succ]
 by_cases e:x = i
 ·subst e
  rw[if_pos rfl,if_pos hm,getElem?_range hm]
  show some _ = some ((range n ++ [n]).filter fun k=>decide (hs[k]? = some x))
  rw[filter_append,filter_cons_of_pos (p:=fun k=>decide (hs[k]? = some x)) (decide_eq_true hx)]; rfl
 ·rw[if_neg e]
  by_cases hi:i < m
  ·rw[getElem?_range hi]
   show some ((range n).filter fun k=>decide (hs[k]? = some i)) = some ((range n ++ [n]).filter fun k=>decide (hs[k]? = some i))
   rw[filter_append,filter_cons_of_neg (p:=fun k=>decide (hs[k]? = some i)) (fun z=>e (by have:=of_decide_eq_true z; rw[hx] at this; exact Option.some.inj this)),List.filter_nil,append_nil]
  ·rw[getElem?_eq_none (by rw[length_range]; omega)]; rfl
section
variable {K:Frag} {C:Addr} {ω:Om}
theorem AhX:SU K C ω .sh (AgE K) Amb:=fun B G0 H0 own G σ H ρ D d S F ⟨St,hs,e3,e4,rl,sl,hl,hx,hq⟩=>by
 obtain⟨v3,g3,r3⟩:=S.sl 3 _ e3
 obtain⟨b,xs,g4,_,h4,rp4⟩:=S.list e4
 have sL:σ.length = 9:=by rw[S.len,rl]
 have ex:xs = hs.map fun k:Nat=>V.int k:=by
  have:=Sd (ns:=hs.map fun k:Nat=>(k:Int)) (by rw[map_map]; exact rp4)
  rw[this,map_map]; rfl
 subst ex
 obtain⟨a,vs,rfl,ea,rp⟩:∃ a vs,v3 = .ref a/\G a = some (.lst vs)/\Reps K C G vs (St.map stP):=by
  cases r3 with
  | lst e l q=>exact⟨_,_,rfl,e,l,q⟩
 have ha:H a = some (.lst vs):=S.gr.i _ _ ea
 have vl:vs.length = St.length:=by rw[rp.1,length_map]
 delta AgE Wk Ld
 dsimp only
 refine Oh ?_
 refine⟨_,g3,a,rfl,⟨vs,SqL.of ha⟩,fun A hA=>CP.list vs (fun n H'=>∃ tl,RL H A ((St.take n).map fun s=>s.2.2) (replicate n []) tl H') ?_ ?_ ?_ ?_⟩
 ·exact⟨[],fun b' o hb=>by rw[Bj (by intro z; subst z; rw[hA] at hb; cases hb)]; exact hb,hA,Bm,rfl,rfl,fun i z v r h=>by simp at h,fun i j z y h=>by simp at h⟩
 ·rintro n H' _ ⟨tl,h⟩
  exact SqL.of (h.s _ _ ha)
 ·rintro n x H' N hxn ⟨tl,h⟩ hN
  obtain⟨q,hq',rq⟩:=rp.get hxn
  rw[getElem?_map] at hq'
  obtain⟨s,hs',rfl⟩:=map_eq_some_iff.mp hq'
  obtain⟨p,ys,rfl,ep,ry⟩:∃ p ys,x = .ref p/\G p = some (.tup ys)/\Reps K C G ys [.int s.1,.int s.2.1,.int s.2.2]:=by
   cases rq with
   | tup e l q=>exact⟨_,_,rfl,e,l,q⟩
  have hp:H' p = some (.tup ys):=h.s _ _ (S.gr.i _ _ ep)
  have y2:ys[2]? = some (.int s.2.2):=by
   have l3:ys.length = 3:=ry.1
   obtain⟨y,hy⟩:∃ y,ys[2]? = some y:=⟨_,getElem?_eq_getElem (by omega)⟩
   have:=ry.2 2 y _ hy rfl
   cases this; exact hy
  refine⟨rfl,_,rfl,p,ys,2,_,rfl,rfl,SqT.of hp,Fj (j:=2) y2,⟨zero_le _,fun l H1 hl1 s1 e1=>⟨(by decide:2 <= sizeLine),fun t H2 ht s2 e2=>⟨_,s2 _ _ (s1 _ _ h.eD),?_,hN _ ⟨tl ++ [(t,l)],?_⟩⟩⟩⟩⟩
  ·have:=h.l1
   rw[length_map,length_take] at this
   rw[length_map]
   exact Nv (by omega)
  ·rw[Dg hs',map_append,List.replicate_succ']
   exact h.snoc hl1 s1 e1 ht s2 e2
 ·rintro H' ⟨tl,h⟩
  rw[vl,take_length] at h
  refine⟨.ref b,by rw[getElem?_set_ne (by decide)]; exact g4,b,rfl,⟨_,SqL.of (h.s _ _ h4)⟩,Aaq (xs:=hs.map fun k:Nat=>V.int k) (fun n σ' H'=>σ'.length = 9/\σ'[8]? = some (some (.ref A))/\RL H A (St.map fun s=>s.2.2) (rnF St.length n hs) tl H') ⟨by rw[length_set,sL],Ju (by omega),?_⟩ ?_ ?_ ?_⟩
  ·rw[show rnF St.length 0 hs = replicate St.length [] by unfold rnF; rw[List.eq_replicate_iff]; exact⟨by rw[length_map,length_range],fun b' hb=>by obtain⟨_,_,rfl⟩:=mem_map.mp hb; rfl⟩]
   exact h
  ·rintro n σ' H' _ ⟨_,_,h'⟩
   exact SqL.of (h'.s _ _ h4)
  ·rintro n x t σ' H' hxn ht ⟨l9,g8,h'⟩
   rw[getElem?_map] at hxn
   obtain⟨k,hk,rfl⟩:=map_eq_some_iff.mp hxn
   have hk1:=hx k (mem_of_getElem? hk)
   obtain⟨r1,r2⟩:=Afv hk hk1
   have h2:=h'.mono (Same.new (o:=.tup [.int (n:Int),.int (k:Int)]) ht)
   obtain⟨z,hz⟩:∃ z,tl[k]? = some z:=⟨_,getElem?_eq_getElem (by have:=h'.l1; rw[length_map] at this; omega)⟩
   obtain⟨v,hv⟩:∃ v,(St.map fun s:Stc=>s.2.2)[k]? = some v:=⟨_,getElem?_eq_getElem (by rw[length_map]; exact hk1)⟩
   obtain⟨a1,a2,_⟩:=h2.at' k z v _ hz hv r1
   refine⟨t,_,rfl,SqT.of Bm,rfl,_,_,rfl,_,_,rfl,rfl,?_⟩
   refine⟨.ref A,by rw[getElem?_set_ne (by decide),getElem?_set_ne (by decide)]; exact g8,.int (k:Nat),Ju (by rw[length_set]; omega),A,_,k,.ref z.1,rfl,rfl,SqL.of h2.eD,Fj (by rw[getElem?_map,hz]; rfl),z.1,_,1,.ref z.2,rfl,rfl,SqT.of a1,Fj (j:=1) rfl,.inl ⟨rfl,_,SqL.of a2⟩,.int (n:Nat),by rw[getElem?_set_ne (by decide)]; exact Ju (by omega),z.2,_,_,rfl,rfl,a2,?_,fun H1 c e=>?_⟩
   ·rw[length_map]
    refine Nv (Nat.le_trans (length_filter_le _ _) ?_)
    rw[length_range]
    have:=(List.getElem?_eq_some_iff.mp hk).1
    omega
   ·refine⟨by rw[length_set,length_set,l9],by rw[getElem?_set_ne (by decide),getElem?_set_ne (by decide)]; exact g8,?_⟩
    rw[<- r2]
    exact h2.app hz r1 c e
  ·rintro σ' H' ⟨_,g8,h'⟩
   rw[length_map] at h'
   refine⟨.ref A,g8,F.rt _ H' _ _ (S.gr.trans (Ob S.gr.i h'.s)) ?_ hq⟩
   refine Rep.ofL (Fe h'.nD h'.eD) ⟨by rw[length_map,length_map,h'.l1,length_map]; unfold rsF; rw[length_mapIdx],fun i x y hxi hyi=>?_⟩
   rw[getElem?_map] at hxi hyi
   obtain⟨z,hz,rfl⟩:=map_eq_some_iff.mp hxi
   obtain⟨w,hw,rfl⟩:=map_eq_some_iff.mp hyi
   unfold rsF at hw
   rw[getElem?_mapIdx] at hw
   obtain⟨s,hs',rfl⟩:=map_eq_some_iff.mp hw
   have hi:=(List.getElem?_eq_some_iff.mp hs').1
   obtain⟨a1,a2,a3,a4,_⟩:=h'.at' i z s.2.2 ((range hs.length).filter fun k=>decide (hs[k]? = some i)) hz (by rw[getElem?_map,hs']; rfl) (by unfold rnF; rw[getElem?_map,getElem?_range hi]; rfl)
   refine Rep.ofT (Ou a1) (LAt.snoc (LAt.snoc LAt.nil (.int _)) (Rep.ofL (Fe a4 a2) ?_))
   have:=Fk (K:=K) (C:=C) (G:=Ny G H H') (((range hs.length).filter fun k=>decide (hs[k]? = some i)).map fun k:Nat=>(k:Int))
   rw[map_map,map_map] at this
   exact this
end
theorem Wf {kn:List Str} {b m:Int} (h:∀ k ∈ kn,¬ k ∈ bgK):∀ n,dF kn b m n = []
 | 0=>rfl
 | n + 1=>by
  cases e:kn[n]? with
  | none=>rw[dF,e]; exact Wf h n
  | some k=>rw[Qw e (h k (mem_of_getElem? e))]; exact Wf h n
theorem Ab7 {α:Type} (p:α->Bool) (l:List α) (h:∀ x ∈ l,p x = true):l.filter p = l:=List.filter_eq_self.mpr h
theorem Afm (n:Nat) (b:Int):rsF [(-1,(n:Int),b)] (hmF [(-1,(n:Int),b)] n 1) = [(b,range n)]:=by
 have e:hmF [(-1,(n:Int),b)] n 1 = replicate n 0:=by
  show hmS (replicate n 0) 0 (-1) (n:Int) = _
  unfold hmS
  refine Nm _ _ fun k x hx=>?_
  rw[List.eq_of_mem_replicate (mem_of_getElem? hx)]
  split <;> rfl
 rw[e]
 unfold rsF
 rw[length_replicate]
 show [(b,(range n).filter fun k=>decide ((replicate n 0)[k]? = some 0))] = _
 rw[Ab7]
 intro k hk
 rw[getElem?_replicate,if_pos (mem_range.mp hk)]
 exact decide_eq_true rfl
theorem Aca {ks:List Str} {b m:Int} (h:∀ k ∈ ks,¬ k ∈ bgK):Jq ks b m = [(b,range ks.length)]:=by
 unfold Jq
 rw[Wf h]
 exact Afm ks.length b
theorem Zk {α:Type} [Inhabited α] (l:List α):pkF l (range l.length) = l:=by
 unfold pkF
 refine ext_getElem? fun i=>?_
 rw[getElem?_map]
 by_cases h:i < l.length
 ·rw[getElem?_range h]
  show some ((l[i]?).getD default) = _
  rw[getElem?_eq_getElem h]; rfl
 ·rw[getElem?_eq_none (by rw[length_range]; omega),getElem?_eq_none (by omega)]; rfl
theorem AgN:∀ (vals rest pre:List Int),rest.length = vals.length->((range' pre.length vals.length).zip vals).foldl (fun l p=>l.set p.1 p.2) (pre ++ rest) = pre ++ vals
 | [],rest,pre,h=>by
  have:rest = []:=List.eq_nil_of_length_eq_zero h
  subst this; rfl
 | v :: r,[],pre,h=>by cases h
 | v :: r,x :: rest,pre,h=>by
  rw[length_cons,List.range'_succ,List.zip_cons_cons,foldl_cons]
  show ((range' (pre.length + 1) r.length).zip r).foldl _ ((pre ++ x :: rest).set pre.length v) = _
  rw[List.set_append_right _ _ (Nat.le_refl _),Nat.sub_self,List.set_cons_zero]
  have:=AgN r rest (pre ++ [v]) (by simpa using h)
  rw[length_append,length_singleton,append_assoc,append_assoc] at this
  exact this
theorem Afo (vals acc:List Int) (h:acc.length = vals.length):lpF acc (range vals.length) vals = vals:=by
 unfold lpF
 rw[List.range_eq_range']
 exact AgN vals acc [] h
theorem Ae2 {mt:Int->Option Int} {ks:List Str} {bs:List Int} {b m:Int} (h:∀ k ∈ ks,¬ k ∈ bgK) (hl:bs.length = ks.length):Le mt ks bs b m = rwF mt ks bs b:=by
 unfold Le lvA
 rw[Aca h,foldl_cons,foldl_nil]
 show lpF _ (range ks.length) (rwF mt (pkF ks (range ks.length)) (pkF bs (range ks.length)) b) = _
 rw[Zk,show pkF bs (range ks.length) = bs by rw[<- hl,Zk]]
 have:=Afo (rwF mt ks bs b) (replicate ks.length b) (by rw[Wi,length_replicate])
 rw[Wi] at this
 exact this
theorem AlY (W:List Sg) (M:List (Int × Int)) (ts:List Int):(knL W M ts).length = (bsL W M ts).length/\(knL W M ts).length <= ts.length:=by
 have:=(Gh (Cl W M) ts).ln
 unfold knL bsL
 rw[length_map,length_map]; exact⟨rfl,this⟩
local macro_rules | `(tactic| walk_at "rd")=>`(tactic| repeat (first
 | (with_reducible first | refine Ab9 ?_ | refine Ang rfl ?_ | refine i_c ?_ | refine AnP ?_ | refine AnM ?_ | refine AnK ?_ | refine AmU ?_ | refine Ahp ?_ | refine AhW ?_ | refine AhG ?_ | refine AgR ?_ | refine AnY ?_ | refine Akx ?_ | refine Am7 ?_ | refine Ani ?_ | refine AnX ?_ | refine Ane ?_ | refine Aj1 ?_ | refine Aln ?_ | refine i_notN ?_ | refine An5 ?_ | refine Alk ?_ | refine Amm ?_ | refine An3 ?_ | refine Anm ?_ | refine Ah2 ?_ | refine AkC (SqT.of (by assumption)) rfl ?_ | refine AiZ ?_ | refine Alc ?_ | refine Aj9 ?_ | refine Aju ?_ | refine i_make ?_ | refine Amd ?_ | refine Al2 ?_ | refine Amr ?_ | refine Am4 ?_ | refine AnO ?_ | refine Anq ?_ | refine Agj ?_ | refine AlS ?_ | refine Ah7 ?_ | refine Ai9 ?_ | refine AlF ?_ | refine Ajl ?_ | refine AnG ?_ | refine AkW ?_ | refine i_int1 ?_ | refine Akz ?_ | refine AkG ?_ | refine Ln ?_ | refine Nb ?_ | refine AcD ?_ | refine Ab8 ?_ | refine Afq ?_ | refine Ade ?_ | refine Afr ?_ | refine Aj8 (by assumption) ?_ | refine Al8 (by assumption) ?_ | refine Aem (by assumption) ?_ | refine Aem (SqL.of (by assumption)) ?_ | refine AkK (by assumption) ?_ | refine j_min ?_ | refine Amn (by assumption) ?_ | refine AdO (by assumption) ?_ ?_ | refine AmQ (by assumption) ?_ | refine Ajw (by assumption) ?_ | refine Ant (by assumption) ?_ | refine j_clear (by assumption) ?_)
 | walk_at "u" | dsimp only [List.set,cons_append,nil_append,append_nil]))
local macro_rules | `(tactic| walk_at "cs")=>`(tactic| dsimp only [compσ,replicate,map_cons,map_nil,List.getElem?_cons_succ,List.getElem?_cons_zero,Option.join_some,cons_append,nil_append])
local macro_rules | `(tactic| walk_at "s")=>`(tactic| simp only [Uk,List.zipWith_cons_cons,List.zipWith_nil_left,List.zipWith_nil_right,length_cons,length_nil,Nat.zero_add,Nat.reduceAdd,Nat.reduceSub,replicate_succ,List.replicate_zero,Bool.false_eq_true,if_false,if_true,cons_append,nil_append,Agf])
local macro_rules | `(tactic| walk_at "p")=>`(tactic| repeat (first
 | (with_reducible first | refine Ft ?_ | refine AgC rfl rfl ?_ | refine Aex rfl ?_ | refine p_c ?_ | refine Akw ?_ | refine Ajd ?_ | refine p_i ?_ | refine p_u ?_ | refine b_u ?_ | refine AgT ?_ | refine Ag6 ?_ | refine AhA ?_ | refine AhU ?_ | refine Ag7 ?_ | refine Aee ?_ | refine p_b ?_ | refine b_b ?_ | refine AgV ?_ | refine Ajp ?_ | refine Ahi ?_ | refine Aeg ?_ | refine Aei ?_ | refine Ahl ?_ | refine Ac8 ?_ | refine AgM ?_ | refine AdV rfl ?_ | refine Aky ?_ | refine Agz ?_ | refine Afd ?_ | refine AhT ?_ | refine Abt ?_ | refine AaW ?_ | refine Abq ?_ | refine Ae0 rfl ?_ | refine AaU ?_ | refine AeY ?_ | refine Agv ?_ | refine AdL ?_ | refine AhC ?_ | refine AgS ?_ | refine Agq ?_ | refine AhS ?_ | refine AdC ?_ | refine AeA ?_ | refine Aef ?_ | refine Aau ?_ | refine AdH ?_ | refine AeT ?_ | refine AhP ?_ | refine Ahb ?_ | refine AgH ?_ | refine AhM ?_ | refine Ahu ?_ ?_ | refine Ag0 ?_ ?_ | refine AhR ?_ ?_ | refine AhO ?_ ?_ | refine AgA ?_ ?_ | refine AkE ?_ | refine Ad9 ?_ | refine Ae8 ?_ | refine AdM ?_ | refine Ahz ?_ | refine AgQ ?_ | refine AeB ?_ | refine Abn ?_ | refine b_listS ?_ | refine Ahe rfl ?_ | refine Ag9 rfl ?_ ?_ | refine AhF ?_ | refine Agx ?_ | refine Ad2 ?_ | refine Abg rfl rfl ?_ | refine AbA ?_ | refine AeG rfl ?_ | refine Ae4 rfl ?_ ?_ | refine Ahf ?_ | refine AgZ ?_ | refine b_L ?_ | refine AeN rfl ?_ | refine Ad8 rfl ?_ | refine Ad5 ?_ | refine AdW ?_ | refine Ac6 ?_ | refine AaZ ?_ | refine Ad1 ?_ | refine Ad4 ?_ | refine Ahm ?_ | refine Akr ?_ | refine Aht ?_ | refine Adn ?_ | refine Aea ?_ | refine AeE ?_ | refine Ac9 ?_ | refine AkA ?_ ?_ | refine Ali ?_ ?_ | refine Aah ?_ | refine Aje ?_ | refine AlX ?_ | refine AjP ?_ | refine pf_dnew ?_ | refine b_abs ?_ | refine Aa6 rfl ?_ | refine Ln ?_ | refine Nb ?_ | refine AcD ?_ | refine Ab8 ?_)
 | walk_at "u" | dsimp only [List.set,cons_append,nil_append,append_nil,Qj]))
local macro_rules | `(tactic| walk_at "u")=>`(tactic| first | with_reducible refine b_ins0 rfl ?_ ?_)
local macro_rules | `(tactic| walk_at "u")=>`(tactic| first | (with_reducible first | refine AkF ?_ | refine Aio ?_) | with_reducible refine b_dputT rfl ?_ ?_)
local macro_rules | `(tactic| walk_at "c")=>`(tactic| dsimp only [compρ,replicate,map_cons,map_nil,List.getElem?_cons_succ,List.getElem?_cons_zero,getD_some,boS,cons_append,nil_append])
local macro_rules | `(tactic| walk_at "u")=>`(tactic| first | (with_reducible first | refine AdS ?_ | refine AmO ?_ | refine AmS ?_ | refine Ami ?_ | refine Am0 rfl ?_ | refine AmL ?_ | refine Ama ?_ ?_ | refine Anf ?_) | with_reducible refine b_neB ?_)
local macro_rules | `(tactic| walk_at "d")=>`(tactic| all_goals try first
 | ((with_reducible show (_:Int) < _); first | decide | omega | (simp only [length_map,length_replicate,length_range,length_append,length_reverse]; omega))
 | ((with_reducible show AbK _ _); exact⟨by omega,by omega⟩)
 | ((with_reducible show Ab5 _ _); exact⟨by decide,by decide,by decide⟩)
 | ((with_reducible show CMul _ _); first | exact .inr ⟨by omega,by omega⟩ | exact .inl ⟨by omega,by omega⟩)
 | ((with_reducible show (_:Nat) < _); first | omega | (simp only [length_map,length_replicate,length_range,length_append,length_reverse]; omega))
 | ((with_reducible show (_:Nat) <= _); first | omega | (simp only [length_map,length_replicate,length_range,length_append,length_reverse]; omega))
 | ((with_reducible show (_:Int) <= _/\_); first | omega | (simp only [length_map,length_replicate,length_range,length_append,length_reverse]; omega)))
local macro_rules | `(tactic| walk_at "u")=>`(tactic| first | (with_reducible first | refine AjD ?_ | refine An1 ?_ | refine Ah1 ?_ | refine AmF rfl rfl ?_ | refine AmX ?_ | refine AfV rfl rfl ?_ | refine Ak8 rfl rfl (by decide) ?_ | refine Al0 rfl ?_ | refine Alp rfl ?_ ?_ | refine AjC (by decide) rfl ?_ | refine Am8 rfl (fun z=>?_) | refine AiK rfl rfl ?_) | with_reducible refine AmZ ?_)
local macro_rules | `(tactic| walk_at "x")=>`(tactic| repeat (first
 | (with_reducible first | refine AgC rfl rfl ?_ | refine Aex rfl ?_ | refine p_c ?_ | refine Akw ?_ | refine Ajd ?_ | refine p_i ?_ | refine p_u ?_ | refine b_u ?_ | refine AgT ?_ | refine Ag6 ?_ | refine AhA ?_ | refine AhU ?_ | refine Ag7 ?_ | refine Aee ?_ | refine p_b ?_ | refine b_b ?_ | refine AgV ?_ | refine Ajp ?_ | refine Ahi ?_ | refine Aeg ?_ | refine Aei ?_ | refine Ahl ?_ | refine Ac8 ?_ | refine AgM ?_ | refine AdV rfl ?_ | refine Aky ?_ | refine Agz ?_ | refine Afd ?_ | refine AhT ?_ | refine Abt ?_ | refine AaW ?_ | refine Abq ?_ | refine Ae0 rfl ?_ | refine AaU ?_ | refine AeY ?_ | refine Agv ?_ | refine AdL ?_ | refine AhC ?_ | refine AgS ?_ | refine Agq ?_ | refine AhS ?_ | refine AdC ?_ | refine AeA ?_ | refine Aef ?_ | refine Aau ?_ | refine AdH ?_ | refine AeT ?_ | refine AhP ?_ | refine Ahb ?_ | refine AgH ?_ | refine AhM ?_ | refine Ahu ?_ ?_ | refine Ag0 ?_ ?_ | refine AhR ?_ ?_ | refine AhO ?_ ?_ | refine AgA ?_ ?_ | refine AkE ?_ | refine Ad9 ?_ | refine Ae8 ?_ | refine AdM ?_ | refine Ahz ?_ | refine AgQ ?_ | refine AeB ?_ | refine Abn ?_ | refine b_listS ?_ | refine Ahe rfl ?_ | refine Ag9 rfl ?_ ?_ | refine AhF ?_ | refine Agx ?_ | refine Ad2 ?_ | refine Abg rfl rfl ?_ | refine AbA ?_ | refine AeG rfl ?_ | refine Ae4 rfl ?_ ?_ | refine Ahf ?_ | refine AgZ ?_ | refine b_L ?_ | refine AeN rfl ?_ | refine Ad8 rfl ?_ | refine Ad5 ?_ | refine AdW ?_ | refine Ac6 ?_ | refine AaZ ?_ | refine Ad1 ?_ | refine Ad4 ?_ | refine Ahm ?_ | refine Akr ?_ | refine Aht ?_ | refine Adn ?_ | refine Aea ?_ | refine AeE ?_ | refine Ac9 ?_ | refine AkA ?_ ?_ | refine Ali ?_ ?_ | refine Aah ?_ | refine Aje ?_ | refine AlX ?_ | refine AjP ?_ | refine pf_dnew ?_ | refine b_abs ?_ | refine Aa6 rfl ?_ | refine Ln ?_ | refine Nb ?_ | refine AcD ?_ | refine Ab8 ?_)
 | walk_at "u" | dsimp only [List.set,cons_append,nil_append,append_nil,Qj]))
section
variable {P:Program} {w:World} {K:Frag} {mg:Str->Option Value} {base:Heap} {t:Adr}
def Sh:Sp:=fun vs H Q _=>∃ b,vs = [.bl true,b]/\Q .non H
theorem AfF {b:Bool} {z:V} {H:Hp} {Q:VK} {E:XK} (q:Q .non H) (h:b = true):Sh [.bl b,z] H Q E:=⟨z,by rw[h],q⟩
theorem AeW {z:V} {H:Hp} {Q:VK} {E:XK} (q:Q .non H):Sh [.bl true,z] H Q E:=⟨z,rfl,q⟩
local macro_rules | `(tactic| walk_at "u")=>`(tactic| with_reducible refine AfF ?_ ?_)
local macro_rules | `(tactic| walk_at "u")=>`(tactic| with_reducible refine AeW ?_)
theorem Lv (T:Txt K mg t):Binds K t.d_qf ["held","words"] []:=T.F_qf.binds fun _ _ _ _ _ _ us hl=>match us,hl with | [_,_],_=>rfl
theorem Je (T:Txt K mg t):FnOk P w K mg base CX0 1 t.f_qf t.d_qf ["held","words"] (Sh):=by
 refine T.F_qf.ok Ank (fun vs H Q E h=>?_) (fun cdv A outer s H vs Q E hr h=>?_)
 ·obtain⟨b,rfl,q⟩:=h
  rfl
 ·obtain⟨b,rfl,q⟩:=h
  have hu:=Cp hr
  have hu64:=hr.units
  refine⟨_,(Bf (De (Jl (Jk (pv 0)))
    Adq
    Ct)),?_⟩
  try dsimp only [Ck,Bx]
  walk_at "rd"
  exact q
def AaA:Sp:=fun vs H Q _=>∃ n,vs = [.int n]/\Q (.bl true) H
theorem Aie {n:Int} {H:Hp} {Q:VK} {E:XK} (q:Q (.bl true) H):AaA [.int n] H Q E:=⟨n,rfl,q⟩
local macro_rules | `(tactic| walk_at "u")=>`(tactic| with_reducible refine Aie ?_)
theorem AkQ (T:Txt K mg t):Binds K t.d_qa ["thing"] []:=T.F_qa.binds fun _ _ _ _ _ _ us hl=>match us,hl with | [_],_=>rfl
theorem AgJ (T:Txt K mg t):FnOk P w K mg base CX0 1 t.f_qa t.d_qa ["thing"] (AaA):=by
 refine T.F_qa.ok Ano (fun vs H Q E h=>?_) (fun cdv A outer s H vs Q E hr h=>?_)
 ·obtain⟨n,rfl,q⟩:=h
  rfl
 ·obtain⟨n,rfl,q⟩:=h
  have hu:=Cp hr
  have hu64:=hr.units
  refine⟨_,(Bf (Cc (Op (Cg (Gx) rfl T.z_isinstance boot_isinstance (Ba (pv 0) (Ba (Gw (v:=.ty "int") rfl T.z_int boot_int rfl) Bd))) (Qr (Afa (Cg (Gx) rfl T.z_isinstance boot_isinstance (Ba (pv 0) (Ba (Gw (v:=.ty "bool") rfl T.z_bool boot_bool rfl) Bd)))))))),?_⟩
  try dsimp only [Ck,Bx]
  walk_at "rd"
  exact q
def Aa4:Sp:=fun vs H Q _=>∃ n,vs = [.int n]/\Q (.bl (decide (0 <= n))) H
theorem Ajn {n:Int} {H:Hp} {Q:VK} {E:XK} (q:Q (.bl (decide (0 <= n))) H):Aa4 [.int n] H Q E:=⟨n,rfl,q⟩
local macro_rules | `(tactic| walk_at "u")=>`(tactic| with_reducible refine Ajn ?_)
theorem Yo (T:Txt K mg t):Binds K t.d_qcb ["thing"] []:=T.F_qcb.binds fun _ _ _ _ _ _ us hl=>match us,hl with | [_],_=>rfl
theorem Vj (T:Txt K mg t):FnOk P w K mg base CX0 2 t.f_qcb t.d_qcb ["thing"] (Aa4):=by
 refine T.F_qcb.ok AjQ (fun vs H Q E h=>?_) (fun cdv A outer s H vs Q E hr h=>?_)
 ·obtain⟨n,rfl,q⟩:=h
  rfl
 ·obtain⟨n,rfl,q⟩:=h
  have hu:=Cp hr
  have hu64:=hr.units
  refine⟨_,(Bf (Cc (Op (Bn (AgJ T) (hr.mono (by decide)) rfl T.m_qa T.F_qa.kp (AkQ T) .nil Bt (Ba (pv 0) Bd)) (Qr (Gg Ach (pv 0) Be (Ci _)))))),?_⟩
  try dsimp only [Ck,Bx]
  walk_at "rd"
  exact q
def Aga:Sp:=fun vs H Q _=>∃ a xs n,vs = [.ref a,.int n]/\H a = some (.lst xs)/\(∀ x ∈ xs,∃ b ys,x = .ref b/\H b = some (.tup ys)/\((ys.length:Nat):Int) = n)/\Q .non H
theorem AfC (T:Txt K mg t):Binds K t.d_qg ["rows","length"] []:=T.F_qg.binds fun _ _ _ _ _ _ us hl=>match us,hl with | [_,_],_=>rfl
theorem AcE (T:Txt K mg t):FnOk P w K mg base CX0 2 t.f_qg t.d_qg ["rows","length"] (Aga):=by
 refine T.F_qg.ok sc_qg (fun vs H Q E h=>?_) (fun cdv A outer s H vs Q E hr h=>?_)
 ·obtain⟨a,xs,n,rfl,hx,hr',q⟩:=h
  rfl
 ·obtain⟨a,xs,n,rfl,hx,hr',q⟩:=h
  have hu:=Cp hr
  have hu64:=hr.units
  refine⟨_,(Bc (Co (Bn (Je T) (hr.mono (by decide)) rfl T.m_qf T.F_qf.kp (Lv T) .nil Bt (Ba (Cg (Gx) rfl T.z_isinstance boot_isinstance (Ba (pv 0) (Ba (Gw (v:=.ty "list") rfl T.z_list PyProof.Rows.boot_list rfl) Bd))) (Ba Bw Bd))))
   (Bf (Dd PassesOwn.never rfl (Cs (pv 0)) (Bo (i:=2) sc_qg.nd rfl (Or.inl rfl))
    (Bf (Co (Bn (Je T) (hr.mono (by decide)) rfl T.m_qf T.F_qf.kp (Lv T) .nil Bt (Ba (Op (Cg (Gx) rfl T.z_isinstance boot_isinstance (Ba (pv 2) (Ba (Gw (v:=.ty "tuple") rfl T.z_tuple boot_tuple rfl) Bd))) (Qr (Gg Dj (Cg (Lh) rfl T.z_len PySem.boot_len (Ba (pv 2) Bd)) (pv 1) (Ci _)))) (Ba Bw Bd)))))))),?_⟩
  try dsimp only [Ck,Bx]
  walk_at "rd"
  refine Nq rfl (SqL.of hx) (fun i σ H'=>∃ v,σ = [some (.ref a),some (.int n),v]/\H' = H) ⟨none,rfl,rfl⟩ (fun i σ H' _ ⟨_,_,e⟩=>by subst e; exact SqL.of hx) ?_ ?_
  ·rintro i x σ H' hi ⟨v,rfl,rfl⟩
   obtain⟨b,ys,rfl,hy,hl⟩:=hr' x (mem_of_getElem? hi)
   walk_at "rd"
   ·exact⟨_,rfl,rfl⟩
   ·exact decide_eq_true hl
  ·rintro σ H' ⟨v,rfl,rfl⟩
   exact q
theorem Aif {k:Str} (h:k ∈ toldK):inV (V.str k) [V.str "fore",V.str "back",V.str "num",V.str "blank",V.str "mark",V.str "forein",V.str "backin",V.str "out"] = true:=by
 have e:inV (V.str k) (toldK.map V.str) = true:=by
  unfold inV
  rw[any_map]
  exact any_eq_true.mpr ⟨k,h,by show (k == k) = true; exact beq_self_eq_true k⟩
 exact e
def Aa9:Sp:=fun vs H Q _=>∃ k,vs = [.str k]/\k ∈ toldK/\Q (.bl true) H
theorem Akd {k:Str} {H:Hp} {Q:VK} {E:XK} (q:Q (.bl true) H) (h:k ∈ toldK):Aa9 [.str k] H Q E:=⟨k,rfl,h,q⟩
local macro_rules | `(tactic| walk_at "u")=>`(tactic| with_reducible refine Akd ?_ ?_)
theorem An6 (T:Txt K mg t):Binds K t.d_qi ["thing"] []:=T.F_qi.binds fun _ _ _ _ _ _ us hl=>match us,hl with | [_],_=>rfl
theorem Amt (T:Txt K mg t):FnOk P w K mg base CX0 1 t.f_qi t.d_qi ["thing"] (Aa9):=by
 refine T.F_qi.ok AmW (fun vs H Q E h=>?_) (fun cdv A outer s H vs Q E hr h=>?_)
 ·obtain⟨k,rfl,hk,q⟩:=h
  rfl
 ·obtain⟨k,rfl,hk,q⟩:=h
  have hu:=Cp hr
  have hu64:=hr.units
  refine⟨_,(Bf (Cc (Op (Cg (Gx) rfl T.z_isinstance boot_isinstance (Ba (pv 0) (Ba (Gw (v:=.ty "str") rfl T.z_str boot_str rfl) Bd))) (Qr (Gg (Su) (pv 0) (Of (v:=.ref t.a_TOLD_KINDS) rfl T.g_TOLD_KINDS rfl) rfl))))),?_⟩
  try dsimp only [Ck,Bx]
  walk_at "rd"
  refine⟨_,_,rfl,.inr (T.q_TOLD_KINDS _),rfl,rfl,?_⟩
  rw[show (if false = true then !inV (V.str k) _ else inV (V.str k) [V.str "fore",V.str "back",V.str "num",V.str "blank",V.str "mark",V.str "forein",V.str "backin",V.str "out"]) = true from Aif hk]
  exact q
def Xb:Sp:=fun vs H Q _=>∃ k r,vs = [.str k,.int r]/\Np k r/\Q (.bl true) H
theorem Afs {k:Str} {r:Int} {H:Hp} {Q:VK} {E:XK} (q:Q (.bl true) H) (h:Np k r):Xb [.str k,.int r] H Q E:=⟨k,r,rfl,h,q⟩
local macro_rules | `(tactic| walk_at "u")=>`(tactic| with_reducible refine Afs ?_ ?_)
theorem AnQ (T:Txt K mg t):Binds K t.d_qy ["kind","thing"] []:=T.F_qy.binds fun _ _ _ _ _ _ us hl=>match us,hl with | [_,_],_=>rfl
theorem Amj (T:Txt K mg t):FnOk P w K mg base CX0 2 t.f_qy t.d_qy ["kind","thing"] (Xb):=by
 refine T.F_qy.ok Amv (fun vs H Q E h=>?_) (fun cdv A outer s H vs Q E hr h=>?_)
 ·obtain⟨k,r,rfl,hk,q⟩:=h
  rfl
 ·obtain⟨k,r,rfl,hk,q⟩:=h
  have hu:=Cp hr
  have hu64:=hr.units
  refine⟨_,(Bc (De (Jl (Jk (Bn (AgJ T) (hr.mono (by decide)) rfl T.m_qa T.F_qa.kp (AkQ T) .nil Bt (Ba (pv 1) Bd))))
    (Bf (Cc Ow))
    Ct)
   (Bc (De (Cd Dj (pv 0) Bw (Ci _))
    (Bf (Cc (Gg Ach (pv 1) Be (Ci _))))
    Ct)
   (Bf (Cc (Gg Dj (pv 1) Be (Ci _)))))),?_⟩
  try dsimp only [Ck,Bx]
  walk_at "rd"
  refine Zs (fun h=>?_) (fun h=>?_)
  ·have h':k = "mark":=of_decide_eq_true h
   walk_at "rd"
   rcases hk with ⟨_,hr1⟩ | ⟨hn,_⟩
   ·rw[decide_eq_true hr1]; exact q
   ·exact absurd h' hn
  ·have h':¬ k = "mark":=fun z=>h (decide_eq_true z)
   walk_at "rd"
   rcases hk with ⟨hm,_⟩ | ⟨_,hr0⟩
   ·exact absurd hm h'
   ·rw[decide_eq_true hr0]; exact q
def Aaz:Sp:=fun vs H Q _=>∃ d kvs n,vs = [.ref d,.int n]/\H d = some (.dK kvs)/\Q ((Cr kvs (.inl n)).getD (.str "plain")) H
theorem AiU {d:Addr} {kvs:List (Key × V)} {n:Int} {H:Hp} {Q:VK} {E:XK} (h:H d = some (.dK kvs)) (q:Q ((Cr kvs (.inl n)).getD (.str "plain")) H):Aaz [.ref d,.int n] H Q E:=⟨d,kvs,n,rfl,h,q⟩
local macro_rules | `(tactic| walk_at "u")=>`(tactic| with_reducible refine AiU (by assumption) ?_)
theorem AcP (T:Txt K mg t):Binds K t.d_qz ["kinds","sign"] []:=T.F_qz.binds fun _ _ _ _ _ _ us hl=>match us,hl with | [_,_],_=>rfl
theorem Yu (T:Txt K mg t):FnOk P w K mg base CX0 1 t.f_qz t.d_qz ["kinds","sign"] (Aaz):=by
 refine T.F_qz.ok AmE (fun vs H Q E h=>?_) (fun cdv A outer s H vs Q E hr h=>?_)
 ·obtain⟨d,kvs,n,rfl,hd,q⟩:=h
  rfl
 ·obtain⟨d,kvs,n,rfl,hd,q⟩:=h
  have hu:=Cp hr
  have hu64:=hr.units
  refine⟨_,(Bf (Cc (Rk hu (pv 0) (pv 1) Bw ⟨rfl,rfl,rfl,rfl⟩))),?_⟩
  try dsimp only [Ck,Bx]
  walk_at "rd"
  exact q
def Adv:Sp:=fun vs H Q _=>∃ d kvs n k,vs = [.ref d,.int n,.str k]/\H d = some (.dK kvs)/\0 <= n/\Cr kvs (Sum.inl n) = none/\kvs.length <= 1000/\Q .non (upd H d (.dK (Gy kvs (Sum.inl n) (.str k))))
theorem Amu {d:Addr} {kvs:List (Key × V)} {n:Int} {k:Str} {H:Hp} {Q:VK} {E:XK} (h:H d = some (.dK kvs)) (q:Q .non (upd H d (.dK (kvs ++ [(Sum.inl n,.str k)])))) (hn:0 <= n) (hv:Cr kvs (Sum.inl n) = none) (hl:kvs.length <= 1000) :
  Adv [.ref d,.int n,.str k] H Q E:=⟨d,kvs,n,k,rfl,h,hn,hv,hl,by rw[Lr _ hv]; exact q⟩
local macro_rules | `(tactic| walk_at "u")=>`(tactic| with_reducible refine Amu (by assumption) ?_ ?_ ?_ ?_)
theorem Ab0 (T:Txt K mg t):Binds K t.d_qbu ["kinds","sign","kind"] []:=T.F_qbu.binds fun _ _ _ _ _ _ us hl=>match us,hl with | [_,_,_],_=>rfl
theorem Zm (T:Txt K mg t):FnOk P w K mg base CX0 3 t.f_qbu t.d_qbu ["kinds","sign","kind"] (Adv):=by
 refine T.F_qbu.ok AjV (fun vs H Q E h=>?_) (fun cdv A outer s H vs Q E hr h=>?_)
 ·obtain⟨d,kvs,n,k,rfl,hd,hn,hv,hl,q⟩:=h
  rfl
 ·obtain⟨d,kvs,n,k,rfl,hd,hn,hv,hl,q⟩:=h
  have hu:=Cp hr
  have hu64:=hr.units
  refine⟨_,(Bc (Co (Bn (Je T) (hr.mono (by decide)) rfl T.m_qf T.F_qf.kp (Lv T) .nil Bt (Ba (Bn (Vj T) (hr.mono (by decide)) rfl T.m_qcb T.F_qcb.kp (Yo T) .nil Bt (Ba (pv 1) Bd)) (Ba Bw Bd))))
   (Bc (Co (Bn (Je T) (hr.mono (by decide)) rfl T.m_qf T.F_qf.kp (Lv T) .nil Bt (Ba (Uu (Oz hu (pv 1) (pv 0))) (Ba Bw Bd))))
   (Bf (Gn hu (pv 0) (pv 1) (pv 2) rfl)))),?_⟩
  try dsimp only [Ck,Bx]
  walk_at "rd"
  ·exact q
  ·exact Gu hl
  ·rw[hv]; rfl
  ·exact decide_eq_true hn
def Agk:Sp:=fun vs H Q _=>∃ a b xs ys signs mates,vs = [.ref a,.ref b]/\H a = some (.lst xs)/\H b = some (.lst ys)/\LAt TripAt H xs signs/\LAt PairAt H ys mates/\(∀ s ∈ signs,Ya s)/\(∀ m ∈ mates,0 <= m.1/\0 <= m.2) /\
 (signs.map (·.1) ++ Fq mates).Nodup/\signs.length + 2 * mates.length <= 900/\∀ d,H d = none->Q (.ref d) (upd H d (.dK (kK signs ++ kM mates)))
theorem AmJ (T:Txt K mg t):Binds K t.d_qba ["signs","mates"] []:=T.F_qba.binds fun _ _ _ _ _ _ us hl=>match us,hl with | [_,_],_=>rfl
theorem AjH (T:Txt K mg t):FnOk P w K mg base CX0 4 t.f_qba t.d_qba ["signs","mates"] (Agk):=by
 refine T.F_qba.ok sc_qba (fun vs H Q E h=>?_) (fun cdv A outer s H vs Q E hr h=>?_)
 ·obtain⟨a,b,xs,ys,signs,mates,rfl,ha,hb,ls,lm,so,mo,nd,hl,q⟩:=h
  rfl
 ·obtain⟨a,b,xs,ys,signs,mates,rfl,ha,hb,ls,lm,so,mo,nd,hl,q⟩:=h
  have hu:=Cp hr
  have hu64:=hr.units
  refine⟨_,(Bc (Bl (i:=2) sc_qba.nd rfl (Or.inl rfl) Nf)
   (Bc (Dd PassesOwn.never rfl (Cs (pv 0)) (Oi rfl (Cf (Bo (i:=3) sc_qba.nd rfl (Or.inl rfl)) (Cf (Bo (i:=4) sc_qba.nd rfl (Or.inl rfl)) (Cf (Bo (i:=5) sc_qba.nd rfl (Or.inl rfl)) Dw))))
    (Bc (Co (Bn (Je T) (hr.mono (by decide)) rfl T.m_qf T.F_qf.kp (Lv T) .nil Bt (Ba (Bn (Amt T) (hr.mono (by decide)) rfl T.m_qi T.F_qi.kp (An6 T) .nil Bt (Ba (pv 4) Bd)) (Ba Bw Bd))))
   (Bc (Co (Bn (Je T) (hr.mono (by decide)) rfl T.m_qf T.F_qf.kp (Lv T) .nil Bt (Ba (Bn (Amj T) (hr.mono (by decide)) rfl T.m_qy T.F_qy.kp (AnQ T) .nil Bt (Ba (pv 4) (Ba (pv 5) Bd))) (Ba Bw Bd))))
   (Bf (Co (Bn (Zm T) (hr.mono (by decide)) rfl T.m_qbu T.F_qbu.kp (Ab0 T) .nil Bt (Ba (pv 2) (Ba (pv 3) (Ba (pv 4) Bd)))))))))
   (Bc (Dd PassesOwn.never rfl (Cs (pv 1)) (Oi rfl (Cf (Bo (i:=6) sc_qba.nd rfl (Or.inl rfl)) (Cf (Bo (i:=7) sc_qba.nd rfl (Or.inl rfl)) Dw)))
    (Bc (Co (Bn (Zm T) (hr.mono (by decide)) rfl T.m_qbu T.F_qbu.kp (Ab0 T) .nil Bt (Ba (pv 2) (Ba (pv 6) (Ba Bw Bd)))))
   (Bf (Co (Bn (Zm T) (hr.mono (by decide)) rfl T.m_qbu T.F_qbu.kp (Ab0 T) .nil Bt (Ba (pv 2) (Ba (pv 7) (Ba Bw Bd))))))))
   (Bf (Cc (pv 2)))))),?_⟩
  try dsimp only [Ck,Bx]
  walk_at "rd"
  intro d hd
  walk_at "rd"
  have nda:a ≠ d:=Bv ha hd
  have ndb:b ≠ d:=Bv hb hd
  have ndk:((kK signs ++ kM mates).map (·.1)).Nodup:=by rw[map_append,Abk,show (kK signs).map (·.1) = (signs.map (·.1)).map Sum.inl by simp [kK],<- map_append]; exact Qd nd
  refine Nq rfl (SqL.of (xs:=xs) (by rw[Bj nda]; exact ha)) (fun i σ H'=>∃ v3 v4 v5,σ = [some (.ref a),some (.ref b),some (.ref d),v3,v4,v5,none,none]/\H' = upd H d (.dK (kK (signs.take i)))) ⟨none,none,none,rfl,rfl⟩ (fun i σ H' _ ⟨_,_,_,_,e⟩=>by subst e; exact SqL.of (by rw[Bj nda]; exact ha)) ?_ ?_
  ·rintro i x σ H' hi ⟨v3,v4,v5,rfl,rfl⟩
   obtain⟨s,es,p,rfl,hp⟩:=ls.get hi
   have hp':(upd H d (.dK (kK (signs.take i)))) p = some (.tup [.int s.1,.str s.2.1,.int s.2.2]):=by rw[Bj (Bv hp hd)]; exact hp
   have hd':(upd H d (.dK (kK (signs.take i)))) d = some (.dK (kK (signs.take i))):=Bm
   have ok:=so s (mem_of_getElem? es)
   have et:=Dg es
   have hlt:i < signs.length:=(List.getElem?_eq_some_iff.mp es).1
   walk_at "rd"
   ·refine⟨_,_,_,rfl,?_⟩
    rw[Gj,et]
    simp [kK]
   ·exact ok.nn
   ·refine Ng fun m=>?_
    have q1:(kK signs ++ kM mates) = kK (signs.take i) ++ ((Sum.inl s.1,V.str s.2.1) :: (kK (signs.drop (i + 1)) ++ kM mates)):=by
     rw[<- cons_append,<- append_assoc]
     congr 1
     rw[show ((Sum.inl s.1,V.str s.2.1) :: kK (signs.drop (i + 1)):List (Key × V)) = kK (s :: signs.drop (i + 1)) from rfl,kK,kK,kK,<- map_append]
     congr 1
     rw[<- take_append_drop i signs]
     congr 1
     ·simp
     ·rw[take_append_drop,drop_eq_getElem_cons hlt]
      have:=getElem?_eq_getElem hlt
      rw[es] at this
      rw[Option.some.inj this]
    rw[q1,map_append,map_cons] at ndk
    exact (nodup_append.mp ndk).2.2 _ m _ mem_cons_self rfl
   ·have:(kK (signs.take i)).length <= signs.length:=by simp [kK]; omega
    omega
   ·exact ok.rk
   ·exact ok.kd
  ·rintro σ H' ⟨v3,v4,v5,rfl,rfl⟩
   rw[ls.1,take_length]
   refine Ab9 ?_
   refine Nq rfl (SqL.of (xs:=ys) (by rw[Bj ndb]; exact hb)) (fun i σ H'=>∃ v3 v4 v5 v6 v7,σ = [some (.ref a),some (.ref b),some (.ref d),v3,v4,v5,v6,v7]/\H' = upd H d (.dK (kK signs ++ kM (mates.take i)))) ⟨_,_,_,_,_,rfl,by simp [kM]⟩ (fun i σ H' _ ⟨_,_,_,_,_,_,e⟩=>by subst e; exact SqL.of (by rw[Bj ndb]; exact hb)) ?_ ?_
   ·rintro i x σ H' hi ⟨v3,v4,v5,v6,v7,rfl,rfl⟩
    obtain⟨m,em,p,rfl,hp⟩:=lm.get hi
    have hp':(upd H d (.dK (kK signs ++ kM (mates.take i)))) p = some (.tup [.int m.1,.int m.2]):=by rw[Bj (Bv hp hd)]; exact hp
    have hd':(upd H d (.dK (kK signs ++ kM (mates.take i)))) d = some (.dK (kK signs ++ kM (mates.take i))):=Bm
    have ok:=mo m (mem_of_getElem? em)
    have et:=Dg em
    have hlt:i < mates.length:=(List.getElem?_eq_some_iff.mp em).1
    have q1:kK signs ++ kM mates = kK signs ++ kM (mates.take i) ++ ((Sum.inl m.1,V.str "open") :: (Sum.inl m.2,V.str "shut") :: kM (mates.drop (i + 1))):=by
     rw[append_assoc]
     congr 1
     rw[show ((Sum.inl m.1,V.str "open") :: (Sum.inl m.2,V.str "shut") :: kM (mates.drop (i + 1)):List (Key × V)) = kM (m :: mates.drop (i + 1)) from rfl,<- Qb]
     congr 1
     have:=getElem?_eq_getElem hlt
     rw[em] at this
     rw[Option.some.inj this,<- drop_eq_getElem_cons hlt,take_append_drop]
    rw[q1,map_append,map_cons,map_cons] at ndk
    have nd1:=(nodup_append.mp ndk).2.2
    have nd2:=(nodup_append.mp ndk).2.1
    have hlen:(kK signs ++ kM (mates.take i)).length + 1 <= 1000:=by
     rw[length_append,Akk,length_take]; simp only [kK,length_map]; omega
    walk_at "rd"
    have hd2:(upd (upd H d (.dK (kK signs ++ kM (mates.take i)))) d (.dK (kK signs ++ kM (mates.take i) ++ [(Sum.inl m.1,.str "open")]))) d = some (.dK (kK signs ++ kM (mates.take i) ++ [(Sum.inl m.1,.str "open")])):=Bm
    walk_at "rd"
    ·refine⟨_,_,_,_,_,rfl,?_⟩
     rw[Gj,Gj,et,Qb]
     simp [kM]
    ·exact ok.2
    ·refine Ng fun z=>?_
     rw[map_append,mem_append] at z
     rcases z with z | z
     ·exact nd1 _ z _ (mem_cons_of_mem _ mem_cons_self) rfl
     ·have e:(Sum.inl m.2:Key) = Sum.inl m.1:=mem_singleton.mp z
      have nd3:=(nodup_cons.mp nd2).1
      exact nd3 (mem_cons.mpr (.inl e.symm))
    ·rw[length_append]; exact hlen
    ·exact ok.1
    ·exact Ng fun z=>nd1 _ z _ mem_cons_self rfl
    ·omega
   ·rintro σ H' ⟨v3,v4,v5,v6,v7,rfl,rfl⟩
    rw[lm.1,take_length]
    walk_at "rd"
    exact q d hd
def Afg:Sp:=fun vs H Q _=>∃ a xs signs,vs = [.ref a]/\H a = some (.lst xs)/\LAt TripAt H xs signs/\(signs.map (·.1)).Nodup/\signs.length <= 900/\∀ d,H d = none->Q (.ref d) (upd H d (.dK (kR signs)))
theorem Amp (T:Txt K mg t):Binds K t.d_qbf ["signs"] []:=T.F_qbf.binds fun _ _ _ _ _ _ us hl=>match us,hl with | [_],_=>rfl
theorem AkI (T:Txt K mg t):FnOk P w K mg base CX0 1 t.f_qbf t.d_qbf ["signs"] (Afg):=by
 refine T.F_qbf.ok sc_qbf (fun vs H Q E h=>?_) (fun cdv A outer s H vs Q E hr h=>?_)
 ·obtain⟨a,xs,signs,rfl,ha,ls,nd,hl,q⟩:=h
  rfl
 ·obtain⟨a,xs,signs,rfl,ha,ls,nd,hl,q⟩:=h
  have hu:=Cp hr
  have hu64:=hr.units
  refine⟨_,(Bc (Bl (i:=1) sc_qbf.nd rfl (Or.inl rfl) Nf)
   (Bc (Dd PassesOwn.never rfl (Cs (pv 0)) (Oi rfl (Cf (Bo (i:=2) sc_qbf.nd rfl (Or.inl rfl)) (Cf (Bo (i:=3) sc_qbf.nd rfl (Or.inl rfl)) (Cf (Bo (i:=4) sc_qbf.nd rfl (Or.inl rfl)) Dw))))
    (Bf (Gn hu (pv 1) (pv 2) (pv 4) rfl)))
   (Bf (Cc (pv 1))))),?_⟩
  try dsimp only [Ck,Bx]
  walk_at "rd"
  intro d hd
  walk_at "rd"
  have nda:a ≠ d:=Bv ha hd
  have ndk:((kR signs).map (·.1)).Nodup:=by rw[show (kR signs).map (·.1) = (signs.map (·.1)).map Sum.inl by simp [kR]]; exact Qd nd
  refine Nq rfl (SqL.of (xs:=xs) (by rw[Bj nda]; exact ha)) (fun i σ H'=>∃ v3 v4 v5,σ = [some (.ref a),some (.ref d),v3,v4,v5]/\H' = upd H d (.dK (kR (signs.take i)))) ⟨none,none,none,rfl,rfl⟩ (fun i σ H' _ ⟨_,_,_,_,e⟩=>by subst e; exact SqL.of (by rw[Bj nda]; exact ha)) ?_ ?_
  ·rintro i x σ H' hi ⟨v3,v4,v5,rfl,rfl⟩
   obtain⟨s,es,p,rfl,hp⟩:=ls.get hi
   have hp':(upd H d (.dK (kR (signs.take i)))) p = some (.tup [.int s.1,.str s.2.1,.int s.2.2]):=by rw[Bj (Bv hp hd)]; exact hp
   have hd':(upd H d (.dK (kR (signs.take i)))) d = some (.dK (kR (signs.take i))):=Bm
   have et:=Dg es
   have hlt:i < signs.length:=(List.getElem?_eq_some_iff.mp es).1
   have hno:Cr (kR (signs.take i)) (Sum.inl s.1) = none:=by
    refine Ng fun m=>?_
    have q1:kR signs = kR (signs.take i) ++ ((Sum.inl s.1,V.int s.2.2) :: kR (signs.drop (i + 1))):=by
     rw[show ((Sum.inl s.1,V.int s.2.2) :: kR (signs.drop (i + 1)):List (Key × V)) = kR (s :: signs.drop (i + 1)) from rfl,kR,kR,kR,<- map_append]
     congr 1
     have:=getElem?_eq_getElem hlt
     rw[es] at this
     rw[Option.some.inj this,<- drop_eq_getElem_cons hlt,take_append_drop]
    rw[q1,map_append,map_cons] at ndk
    exact (nodup_append.mp ndk).2.2 _ m _ mem_cons_self rfl
   walk_at "rd"
   ·refine⟨_,_,_,rfl,?_⟩
    rw[Gj,et,Lr _ hno]
    simp [kR]
   ·have:(kR (signs.take i)).length <= signs.length:=by simp [kR]; omega
    exact Gu (by omega)
  ·rintro σ H' ⟨v3,v4,v5,rfl,rfl⟩
   rw[ls.1,take_length]
   walk_at "rd"
   exact q d hd
def AiG:Sp:=fun vs H Q _=>∃ b ys mates,vs = [.ref b]/\H b = some (.lst ys)/\LAt PairAt H ys mates/\(Fq mates).Nodup/\mates.length <= 400/\∀ d,H d = none->Q (.ref d) (upd H d (.dK (kB mates)))
theorem Amy (T:Txt K mg t):Binds K t.d_qbk ["mates"] []:=T.F_qbk.binds fun _ _ _ _ _ _ us hl=>match us,hl with | [_],_=>rfl
theorem Alh (T:Txt K mg t):FnOk P w K mg base CX0 1 t.f_qbk t.d_qbk ["mates"] (AiG):=by
 refine T.F_qbk.ok sc_qbk (fun vs H Q E h=>?_) (fun cdv A outer s H vs Q E hr h=>?_)
 ·obtain⟨b,ys,mates,rfl,hb,lm,nd,hl,q⟩:=h
  rfl
 ·obtain⟨b,ys,mates,rfl,hb,lm,nd,hl,q⟩:=h
  have hu:=Cp hr
  have hu64:=hr.units
  refine⟨_,(Bc (Bl (i:=1) sc_qbk.nd rfl (Or.inl rfl) Nf)
   (Bc (Dd PassesOwn.never rfl (Cs (pv 0)) (Oi rfl (Cf (Bo (i:=2) sc_qbk.nd rfl (Or.inl rfl)) (Cf (Bo (i:=3) sc_qbk.nd rfl (Or.inl rfl)) Dw)))
    (Bc (Gn hu (pv 1) (pv 2) (pv 3) rfl)
   (Bf (Gn hu (pv 1) (pv 3) (pv 2) rfl))))
   (Bf (Cc (pv 1))))),?_⟩
  try dsimp only [Ck,Bx]
  walk_at "rd"
  intro d hd
  walk_at "rd"
  have ndb:b ≠ d:=Bv hb hd
  have ndk:((kB mates).map (·.1)).Nodup:=by rw[AiN]; exact Qd nd
  refine Nq rfl (SqL.of (xs:=ys) (by rw[Bj ndb]; exact hb)) (fun i σ H'=>∃ v3 v4,σ = [some (.ref b),some (.ref d),v3,v4]/\H' = upd H d (.dK (kB (mates.take i)))) ⟨none,none,rfl,rfl⟩ (fun i σ H' _ ⟨_,_,_,e⟩=>by subst e; exact SqL.of (by rw[Bj ndb]; exact hb)) ?_ ?_
  ·rintro i x σ H' hi ⟨v3,v4,rfl,rfl⟩
   obtain⟨m,em,p,rfl,hp⟩:=lm.get hi
   have hp':(upd H d (.dK (kB (mates.take i)))) p = some (.tup [.int m.1,.int m.2]):=by rw[Bj (Bv hp hd)]; exact hp
   have hd':(upd H d (.dK (kB (mates.take i)))) d = some (.dK (kB (mates.take i))):=Bm
   have et:=Dg em
   have hlt:i < mates.length:=(List.getElem?_eq_some_iff.mp em).1
   have q1:kB mates = kB (mates.take i) ++ ((Sum.inl m.1,V.int m.2) :: (Sum.inl m.2,V.int m.1) :: kB (mates.drop (i + 1))):=by
    rw[show ((Sum.inl m.1,V.int m.2) :: (Sum.inl m.2,V.int m.1) :: kB (mates.drop (i + 1)):List (Key × V)) = kB (m :: mates.drop (i + 1)) from rfl,<- Ws]
    congr 1
    have:=getElem?_eq_getElem hlt
    rw[em] at this
    rw[Option.some.inj this,<- drop_eq_getElem_cons hlt,take_append_drop]
   rw[q1,map_append,map_cons,map_cons] at ndk
   have nd1:=(nodup_append.mp ndk).2.2
   have nd2:=(nodup_append.mp ndk).2.1
   have hlen:(kB (mates.take i)).length + 1 <= 1000:=by
    rw[Aj3,length_take]; omega
   have n1:Cr (kB (mates.take i)) (Sum.inl m.1) = none:=Ng fun z=>nd1 _ z _ mem_cons_self rfl
   have n2:Cr (kB (mates.take i) ++ [(Sum.inl m.1,V.int m.2)]) (Sum.inl m.2) = none:=by
    refine Ng fun z=>?_
    rw[map_append,mem_append] at z
    rcases z with z | z
    ·exact nd1 _ z _ (mem_cons_of_mem _ mem_cons_self) rfl
    ·have e:(Sum.inl m.2:Key) = Sum.inl m.1:=mem_singleton.mp z
     have nd3:=(nodup_cons.mp nd2).1
     exact nd3 (mem_cons.mpr (.inl e.symm))
   walk_at "rd"
   ·rw[Lr _ n1]
    have hd2:(upd (upd H d (.dK (kB (mates.take i)))) d (.dK (kB (mates.take i) ++ [(Sum.inl m.1,.int m.2)]))) d = some (.dK (kB (mates.take i) ++ [(Sum.inl m.1,.int m.2)])):=Bm
    walk_at "rd"
    ·refine⟨_,_,rfl,?_⟩
     rw[Gj,Gj,et,Ws,Lr _ n2]
     simp [kB]
    ·rw[length_append]; exact Gu hlen
   ·exact Gu (by omega)
  ·rintro σ H' ⟨v3,v4,rfl,rfl⟩
   rw[lm.1,take_length]
   walk_at "rd"
   exact q d hd
theorem AdK {k:Str} (h:k ∈ joinedK):inV (V.str k) [V.str "fore",V.str "back",V.str "num",V.str "blank",V.str "plain"] = true:=by
 have e:inV (V.str k) (joinedK.map V.str) = true:=by
  unfold inV
  rw[any_map]
  exact any_eq_true.mpr ⟨k,h,by show (k == k) = true; exact beq_self_eq_true k⟩
 exact e
def Ai1:Sp:=fun vs H Q _=>∃ d kk w b m k,vs = [.ref d,.int w,.int b,.int m]/\H d = some (.dK kk)/\0 <= w/\0 <= b/\0 <= m/\knd kk m = .str "mark"/\k ∈ joinedK/\knd kk w = .str k/\knd kk b = .str k/\Q .non H
theorem AnC (T:Txt K mg t):Binds K t.d_qx ["kinds","whole","base","mark"] []:=T.F_qx.binds fun _ _ _ _ _ _ us hl=>match us,hl with | [_,_,_,_],_=>rfl
theorem AmB (T:Txt K mg t):FnOk P w K mg base CX0 3 t.f_qx t.d_qx ["kinds","whole","base","mark"] (Ai1):=by
 refine T.F_qx.ok sc_qx (fun vs H Q E h=>?_) (fun cdv A outer s H vs Q E hr h=>?_)
 ·obtain⟨d,kk,w,b,m,k,rfl,hd,w0,b0,m0,hm,hk,hw,hb,q⟩:=h
  rfl
 ·obtain⟨d,kk,w,b,m,k,rfl,hd,w0,b0,m0,hm,hk,hw,hb,q⟩:=h
  have hu:=Cp hr
  have hu64:=hr.units
  refine⟨_,(Bc (Co (Bn (Je T) (hr.mono (by decide)) rfl T.m_qf T.F_qf.kp (Lv T) .nil Bt (Ba (Op (Bn (Vj T) (hr.mono (by decide)) rfl T.m_qcb T.F_qcb.kp (Yo T) .nil Bt (Ba (pv 1) Bd)) (Op (Bn (Vj T) (hr.mono (by decide)) rfl T.m_qcb T.F_qcb.kp (Yo T) .nil Bt (Ba (pv 2) Bd)) (Qr (Bn (Vj T) (hr.mono (by decide)) rfl T.m_qcb T.F_qcb.kp (Yo T) .nil Bt (Ba (pv 3) Bd))))) (Ba Bw Bd))))
   (Bc (Co (Bn (Je T) (hr.mono (by decide)) rfl T.m_qf T.F_qf.kp (Lv T) .nil Bt (Ba (Gg Dj (Bn (Yu T) (hr.mono (by decide)) rfl T.m_qz T.F_qz.kp (AcP T) .nil Bt (Ba (pv 0) (Ba (pv 3) Bd))) Bw (Ci _)) (Ba Bw Bd))))
   (Bc (Bl (i:=4) sc_qx.nd rfl (Or.inl rfl) (Bn (Yu T) (hr.mono (by decide)) rfl T.m_qz T.F_qz.kp (AcP T) .nil Bt (Ba (pv 0) (Ba (pv 1) Bd))))
   (Bc (Co (Bn (Je T) (hr.mono (by decide)) rfl T.m_qf T.F_qf.kp (Lv T) .nil Bt (Ba (Gg (Su) (pv 4) (Of (v:=.ref t.a_JOINED_KINDS) rfl T.g_JOINED_KINDS rfl) rfl) (Ba Bw Bd))))
   (Bf (Co (Bn (Je T) (hr.mono (by decide)) rfl T.m_qf T.F_qf.kp (Lv T) .nil Bt (Ba (Gg Dj (Bn (Yu T) (hr.mono (by decide)) rfl T.m_qz T.F_qz.kp (AcP T) .nil Bt (Ba (pv 0) (Ba (pv 2) Bd))) (pv 4) (Ci _)) (Ba Bw Bd))))))))),?_⟩
  try dsimp only [Ck,Bx]
  unfold knd at hm hw hb
  walk_at "rd"
  refine Ajj w0 ?_
  walk_at "rd"
  refine Ajj b0 ?_
  walk_at "rd"
  ·rw[hm]
   walk_at "rd"
   ·rw[hw]
    walk_at "rd"
    refine⟨_,_,rfl,.inr (T.q_JOINED_KINDS _),rfl,rfl,?_⟩
    rw[show (if false = true then !inV (V.str k) _ else inV (V.str k) [V.str "fore",V.str "back",V.str "num",V.str "blank",V.str "plain"]) = true from AdK hk]
    walk_at "rd"
    rw[hb]
    walk_at "rd"
    ·exact q
    ·exact decide_eq_true rfl
   ·exact decide_eq_true rfl
  ·exact decide_eq_true m0
def Ah8:Sp:=fun vs H Q _=>∃ d kvs J n,vs = [.ref d,.int n]/\Rd H d (.dK kvs)/\LAt KvAt H kvs J/\Q (.bl (!(Fi J (jGo J 7 n)).isSome)) H
theorem An9 (T:Txt K mg t):Binds K t.d_qh ["pairs","whole"] []:=T.F_qh.binds fun _ _ _ _ _ _ us hl=>match us,hl with | [_,_],_=>rfl
theorem Anb (T:Txt K mg t):FnOk P w K mg base CX0 1 t.f_qh t.d_qh ["pairs","whole"] (Ah8):=by
 refine T.F_qh.ok sc_qh (fun vs H Q E h=>?_) (fun cdv A outer s H vs Q E hr h=>?_)
 ·obtain⟨d,kvs,J,n,rfl,hd,lj,q⟩:=h
  rfl
 ·obtain⟨d,kvs,J,n,rfl,hd,lj,q⟩:=h
  have hu:=Cp hr
  have hu64:=hr.units
  refine⟨_,(Bc (Bl (i:=2) sc_qh.nd rfl (Or.inl rfl) (pv 1))
   (Bc (Dd PassesOwn.never rfl (Nn rfl T.z_range (Ba (Of rfl T.g_MOST_GOINGS.choose_spec.1 T.g_MOST_GOINGS.choose_spec.2) Bd)) (Bo (i:=3) sc_qh.nd rfl (Or.inl rfl))
    (Bf (De (Jm (Ael hu (pv 2) (pv 0)))
    (Bf (Bl (i:=2) sc_qh.nd rfl (Or.inl rfl) (Ce (Aek) (Qp hu (pv 0) (pv 2) (fun _ _=>rfl)) Be (fun _ _=>rfl))))
    Ct)))
   (Bf (Cc (Uu (Oz hu (pv 2) (pv 0))))))),?_⟩
  try dsimp only [Ck,Bx]
  walk_at "rd"
  refine Aic (hi:=7) (n:=7) (fun R q'=>by walk_at "rd"; exact q') ⟨by decide,by decide⟩ rfl (fun i σ H'=>∃ v3,σ = [some (.ref d),some (.int n),some (.int (jGo J i n)),v3]/\H' = H) ⟨none,rfl,rfl⟩ ?_ ?_
  ·rintro i σ H' hi ⟨v3,rfl,rfl⟩
   walk_at "rd"
   refine⟨d,_,rfl,.inl ⟨kvs,Sum.inl (jGo J i n),hd,rfl,rfl⟩,?_⟩
   walk_at "rd"
   rcases Aav lj (jGo J i n) with ⟨h1,h2⟩ | ⟨m,p,h1,h2,hp⟩
   ·rw[h2]
    refine Nb ?_
    walk_at "rd"
    exact⟨_,by show _ = [_,_,some (V.int (Fm J (jGo J i n))),_]; unfold Fm; rw[h1],rfl⟩
   ·rw[h2]
    refine Ln ?_
    walk_at "rd"
    refine⟨d,.ref p,rfl,.inl ⟨kvs,Sum.inl (jGo J i n),hd,rfl,h2.symm⟩,?_⟩
    walk_at "rd"
    refine Ams hp ?_ rfl
    walk_at "rd"
    exact⟨_,by show _ = [_,_,some (V.int (Fm J (jGo J i n))),_]; unfold Fm; rw[h1],rfl⟩
  ·rintro σ H' ⟨v3,rfl,rfl⟩
   walk_at "rd"
   refine⟨d,_,rfl,.inl ⟨kvs,Sum.inl (jGo J 7 n),hd,rfl,rfl⟩,?_⟩
   rcases Aav lj (jGo J 7 n) with ⟨h1,h2⟩ | ⟨m,p,h1,h2,hp⟩
   ·rw[h2]; rw[h1] at q; exact q
   ·rw[h2]; rw[h1] at q; exact q
def Afp:Sp:=fun vs H Q _=>∃ d b kk xs J,vs = [.ref d,.ref b]/\H d = some (.dK kk)/\H b = some (.lst xs)/\LAt TrjAt H xs J/\AbY kk J/\∀ p kvs H',H p = none->Same H H'->H' p = some (.dK kvs)->LAt KvAt H' kvs J->Q (.ref p) H'
theorem AmH (T:Txt K mg t):Binds K t.d_qbe ["kinds","joins"] []:=T.F_qbe.binds fun _ _ _ _ _ _ us hl=>match us,hl with | [_,_],_=>rfl
theorem AkB (T:Txt K mg t):FnOk P w K mg base CX0 4 t.f_qbe t.d_qbe ["kinds","joins"] (Afp):=by
 refine T.F_qbe.ok sc_qbe (fun vs H Q E h=>?_) (fun cdv A outer s H vs Q E hr h=>?_)
 ·obtain⟨d,b,kk,xs,J,rfl,hd,hb,lj,jo,q⟩:=h
  rfl
 ·obtain⟨d,b,kk,xs,J,rfl,hd,hb,lj,jo,q⟩:=h
  have hu:=Cp hr
  have hu64:=hr.units
  refine⟨_,(Bc (Bl (i:=2) sc_qbe.nd rfl (Or.inl rfl) Nf)
   (Bc (Dd PassesOwn.never rfl (Cs (pv 1)) (Oi rfl (Cf (Bo (i:=3) sc_qbe.nd rfl (Or.inl rfl)) (Cf (Bo (i:=4) sc_qbe.nd rfl (Or.inl rfl)) (Cf (Bo (i:=5) sc_qbe.nd rfl (Or.inl rfl)) Dw))))
    (Bc (Co (Bn (AmB T) (hr.mono (by decide)) rfl T.m_qx T.F_qx.kp (AnC T) .nil Bt (Ba (pv 0) (Ba (pv 3) (Ba (pv 4) (Ba (pv 5) Bd))))))
   (Bc (Co (Bn (Je T) (hr.mono (by decide)) rfl T.m_qf T.F_qf.kp (Lv T) .nil Bt (Ba (Uu (Oz hu (pv 3) (pv 2))) (Ba Bw Bd))))
   (Bf (Gn hu (pv 2) (pv 3) (Al3 (Ba (pv 4) (Ba (pv 5) Bd))) rfl)))))
   (Bc (Uo (Dd PassesOwn.never rfl (Ue (pv 2)) (Bo (i:=3) sc_qbe.nd rfl (Or.inl rfl))
    (Bf (Co (Bn (Je T) (hr.mono (by decide)) rfl T.m_qf T.F_qf.kp (Lv T) .nil Bt (Ba (Bn (Anb T) (hr.mono (by decide)) rfl T.m_qh T.F_qh.kp (An9 T) .nil Bt (Ba (pv 2) (Ba (pv 3) Bd))) (Ba Bw Bd)))))))
   (Bf (Cc (pv 2)))))),?_⟩
  try dsimp only [Ck,Bx]
  walk_at "rd"
  intro p hp
  have s0:Same H (upd H p (.dK [])):=Same.new hp
  have e0:(upd H p (.dK [])) p = some (.dK []):=Bm
  generalize upd H p (.dK []) = H0 at s0 e0
  walk_at "rd"
  refine Nq (i:=1) rfl (SqL.of (s0 _ _ hb)) (fun i σ H'=>∃ v3 v4 v5 kvs,σ = [some (.ref d),some (.ref b),some (.ref p),v3,v4,v5]/\Same H H'/\H' p = some (.dK kvs)/\LAt KvAt H' kvs (J.take i)) ⟨none,none,none,[],rfl,s0,e0,LAt.nil⟩ (fun i σ H' _ ⟨_,_,_,_,_,s,_⟩=>SqL.of (s _ _ hb)) ?_ ?_
  ·rintro i x σ H' hi ⟨v3,v4,v5,kvs,rfl,s,e,lk⟩
   obtain⟨j,ej,a,rfl,ha⟩:=lj.get hi
   have hj:=mem_of_getElem? ej
   have ha':=s _ _ ha
   obtain⟨k,hk,hw,hb'⟩:=jo.kd j hj
   obtain⟨n1,n2,n3⟩:=jo.nn j hj
   have hlen:kvs.length <= 400:=by
    rw[lk.1,length_take]
    have:=jo.ln
    omega
   have hno:Cr kvs (Sum.inl j.1) = none:=by
    rcases Aav lk j.1 with ⟨_,h2⟩ | ⟨m,_,h1,_,_⟩
    ·exact h2
    ·exact absurd (show j.1 ∈ (J.take i).map (·.1) from mem_map.mpr ⟨_,Uq h1,rfl⟩) (On (f:=(·.1)) jo.nw ej)
   walk_at "rd"
   refine⟨d,kk,j.1,j.2.1,j.2.2,k,rfl,s _ _ hd,n1,n2,n3,jo.mr j hj,hk,hw,hb',?_⟩
   walk_at "rd"
   ·refine⟨by show 2 <= sizeLine; decide,fun t ht=>?_⟩
    walk_at "rd"
    refine AdO (Same.new ht _ _ e) ?_ (Gu (by omega))
    rw[Lr _ hno]
    have ntp:t ≠ p:=(Bv e ht).symm
    have kt:∀ q' zs,H' q' = some (.tup zs)->(upd (upd H' t (.tup [.int j.2.1,.int j.2.2])) p (.dK (kvs ++ [(Sum.inl j.1,V.ref t)]))) q' = some (.tup zs):=fun q' zs z=>by
     rw[Bj (Fb z e (by intro w; cases w)),Bj (Bv z ht)]; exact z
    refine⟨_,_,_,_,rfl,fun q' o z=>?_,Bm,?_⟩
    ·rw[Bj (Bv z hp),Bj (Bv (s _ _ z) ht)]; exact s _ _ z
    ·rw[Dg ej]
     exact LAt.snoc (lk.mono fun x y h=>h.mono kt) ⟨rfl,t,rfl,by rw[Bj ntp,Bm]⟩
   ·rw[hno]; rfl
  ·rintro σ H' ⟨v3,v4,v5,kvs,rfl,s,e,lk⟩
   rw[lj.1,take_length] at lk
   dsimp only
   with_reducible refine Ab9 ?_
   refine Alf (i:=2) (a:=p) (kvs:=kvs) rfl e (fun i σ H''=>∃ v3 v4 v5,σ = [some (.ref d),some (.ref b),some (.ref p),v3,v4,v5]/\H'' = H') ⟨_,_,_,rfl,rfl⟩ (fun i σ H' _ ⟨_,_,_,_,z⟩=>by subst z; exact e) ?_ ?_
   ·rintro o i kv σ H'' hi ⟨v3,v4,v5,rfl,rfl⟩
    obtain⟨j,ej,e1,_⟩:=lk.get hi
    have hj:=mem_of_getElem? ej
    obtain⟨key,val⟩:=kv
    dsimp only at e1
    subst e1
    show Gf _ (.int j.1) _ _ _
    walk_at "rd"
    refine⟨p,kvs,J,j.1,rfl,AlU,lk.mono fun x y h=>h.mono fun q' zs z=>?_,?_⟩
    ·rw[Bj (Fb z e (by intro w; cases w))]; exact z
    ·walk_at "rd"
     ·exact⟨Bm,_,_,_,rfl,AfP e⟩
     ·rw[jo.en j hj]; rfl
   ·rintro σ H'' ⟨v3,v4,v5,rfl,rfl⟩
    walk_at "rd"
    exact q p kvs _ hp s e lk
def AcZ:Sp:=fun vs H Q _=>∃ d kvs J,vs = [.ref d]/\H d = some (.dK kvs)/\LAt KvAt H kvs J/\(J.map (·.2)).Nodup/\J.length <= 400/\∀ p H',H p = none->Same H H'->H' p = some (.dT (kW J))->Q (.ref p) H'
theorem AnA (T:Txt K mg t):Binds K t.d_qv ["pairs"] []:=T.F_qv.binds fun _ _ _ _ _ _ us hl=>match us,hl with | [_],_=>rfl
theorem AmY (T:Txt K mg t):FnOk P w K mg base CX0 2 t.f_qv t.d_qv ["pairs"] (AcZ):=by
 refine T.F_qv.ok sc_qv (fun vs H Q E h=>?_) (fun cdv A outer s H vs Q E hr h=>?_)
 ·obtain⟨d,kvs,J,rfl,hd,lk,np,ln,q⟩:=h
  rfl
 ·obtain⟨d,kvs,J,rfl,hd,lk,np,ln,q⟩:=h
  have hu:=Cp hr
  have hu64:=hr.units
  refine⟨_,(Bc (Bl (i:=1) sc_qv.nd rfl (Or.inl rfl) AfE)
   (Bc (Uo (Dd PassesOwn.never rfl (Ads (pv 0)) (Oi rfl (Cf (Bo (i:=2) sc_qv.nd rfl (Or.inl rfl)) (Cf (Bo (i:=3) sc_qv.nd rfl (Or.inl rfl)) Dw)))
    (Bc (Co (Bn (Je T) (hr.mono (by decide)) rfl T.m_qf T.F_qf.kp (Lv T) .nil Bt (Ba (Uu (Oz hu (pv 3) (pv 1))) (Ba Bw Bd))))
   (Bf (Gn hu (pv 1) (pv 3) (pv 2) rfl)))))
   (Bf (Cc (pv 1))))),?_⟩
  try dsimp only [Ck,Bx]
  walk_at "rd"
  intro p hp
  have s0:Same H (upd H p (.dT [])):=Same.new hp
  have e0:(upd H p (.dT [])) p = some (.dT []):=Bm
  generalize upd H p (.dT []) = H0 at s0 e0
  have ndp:d ≠ p:=Bv hd hp
  walk_at "rd"
  refine Als (i:=0) (a:=d) (kvs:=kvs) rfl (s0 _ _ hd) (fun i σ H'=>∃ v2 v3,σ = [some (.ref d),some (.ref p),v2,v3]/\Same H H'/\H' p = some (.dT (kW (J.take i)))) ⟨none,none,rfl,s0,e0⟩ ?_ ?_
  ·rintro o i kv t σ H' hi ht ntd ⟨v2,v3,rfl,s,e⟩
   obtain⟨j,ej,e1,a,e2,ha⟩:=lk.get hi
   obtain⟨key,val⟩:=kv
   dsimp only at e1 e2
   subst e1 e2
   have ntp:p ≠ t:=Bv e ht
   have had:a ≠ d:=Fb ha hd (by intro w; cases w)
   have hat:a ≠ t:=Bv (s _ _ ha) ht
   have hap:a ≠ p:=Bv ha hp
   have ep:(upd (upd H' d (.frz o (.dK kvs))) t (.tup [.int j.1,.ref a])) p = some (.dT (kW (J.take i))):=by rw[Bj ntp,Bj ndp.symm]; exact e
   have ea:(upd (upd H' d (.frz o (.dK kvs))) t (.tup [.int j.1,.ref a])) a = some (.tup ([Sum.inl j.2.1,Sum.inl j.2.2].map kV)):=by rw[Bj hat,Bj had]; exact s _ _ ha
   have et:(upd (upd H' d (.frz o (.dK kvs))) t (.tup [.int j.1,.ref a])) t = some (.tup [.int j.1,.ref a]):=Bm
   have ed:(upd (upd H' d (.frz o (.dK kvs))) t (.tup [.int j.1,.ref a])) d = some (.frz o (.dK kvs)):=by rw[Bj ntd.symm,Bm]
   have back:∀ q' u,H q' = some u->q' ≠ d->(upd (upd H' d (.frz o (.dK kvs))) t (.tup [.int j.1,.ref a])) q' = some u:=fun q' u z nz=>by
    rw[Bj (Bv (s _ _ z) ht),Bj nz]; exact s _ _ z
   show Vv _ _ _ _ _ (upd (upd H' d (.frz o (.dK kvs))) t (.tup [.int j.1,.ref a])) _
   generalize upd (upd H' d (.frz o (.dK kvs))) t (.tup [.int j.1,.ref a]) = H2 at ep ea et ed back
   have hno:Cr (kW (J.take i)) [Sum.inl j.2.1,Sum.inl j.2.2] = none:=AmM (On (f:=(·.2)) np ej)
   have hlen:(kW (J.take i)).length <= 400:=by unfold kW; rw[length_map,length_take]; omega
   walk_at "rd"
   refine⟨p,_,rfl,DGet.t ep ea,?_⟩
   rw[hno]
   walk_at "rd"
   rotate_left
   ·rfl
   refine⟨p,_,rfl,DPut.t ep ea (Gu (by omega)),?_⟩
   rw[Lr _ hno]
   refine⟨by rw[Bj ndp]; exact ed,_,_,rfl,fun q' u z=>?_,?_⟩
   ·by_cases hq:q' = d
    ·subst hq
     rw[Bm]
     rw[hd] at z; exact z
    ·rw[Bj hq,Bj (Bv z hp)]; exact back _ _ z hq
   ·rw[Bj ndp.symm,Bm,Dg ej]
    simp [kW]
  ·rintro σ H' ⟨v2,v3,rfl,s,e⟩
   rw[lk.1,take_length] at e
   walk_at "rd"
   exact q p _ hp s e
theorem Ann (T:Txt K mg t):Binds K t.d_qbg ["self","signs","mates","joins"] []:=T.F_qbg.binds fun _ _ _ _ _ _ us hl=>match us,hl with | [_,_,_,_],_=>rfl
theorem AjG (T:Txt K mg t):FnOk P w K mg base CX0 5 t.f_qbg t.d_qbg ["self","signs","mates","joins"] (Abo t.C_Book):=by
 refine T.F_qbg.ok Aj0 (fun vs H Q E h=>?_) (fun cdv A outer s H vs Q E hr h=>?_)
 ·obtain⟨p,dx,a,b,cc,xs,ys,zs,signs,mates,J,rfl,hp,ha,hb,hc,ls,lm,lj,so,mo,nd,jo,hl,q⟩:=h
  rfl
 ·obtain⟨p,dx,a,b,cc,xs,ys,zs,signs,mates,J,rfl,hp,ha,hb,hc,ls,lm,lj,so,mo,nd,jo,hl,q⟩:=h
  have hu:=Cp hr
  have hu64:=hr.units
  refine⟨_,(Bc (Co (Bn (AcE T) (hr.mono (by decide)) rfl T.m_qg T.F_qg.kp (AfC T) .nil Bt (Ba (pv 1) (Ba Be Bd))))
   (Bc (Co (Bn (AcE T) (hr.mono (by decide)) rfl T.m_qg T.F_qg.kp (AfC T) .nil Bt (Ba (pv 2) (Ba Be Bd))))
   (Bc (Co (Bn (AcE T) (hr.mono (by decide)) rfl T.m_qg T.F_qg.kp (AfC T) .nil Bt (Ba (pv 3) (Ba Be Bd))))
   (Bc (Sj (pv 0) (Bn (AjH T) (hr.mono (by decide)) rfl T.m_qba T.F_qba.kp (AmJ T) .nil Bt (Ba (pv 1) (Ba (pv 2) Bd))) rfl)
   (Bc (Sj (pv 0) (Bn (AkI T) (hr.mono (by decide)) rfl T.m_qbf T.F_qbf.kp (Amp T) .nil Bt (Ba (pv 1) Bd)) rfl)
   (Bc (Sj (pv 0) (Bn (Alh T) (hr.mono (by decide)) rfl T.m_qbk T.F_qbk.kp (Amy T) .nil Bt (Ba (pv 2) Bd)) rfl)
   (Bc (Sj (pv 0) (Bn (AkB T) (hr.mono (by decide)) rfl T.m_qbe T.F_qbe.kp (AmH T) .nil Bt (Ba (Uj (pv 0) rfl) (Ba (pv 3) Bd))) rfl)
   (Bf (Sj (pv 0) (Bn (AmY T) (hr.mono (by decide)) rfl T.m_qv T.F_qv.kp (AnA T) .nil Bt (Ba (Uj (pv 0) rfl) Bd)) rfl))))))))),?_⟩
  try dsimp only [Ck,Bx]
  have nt:∀ q' zs,H q' = some (.tup zs)->q' ≠ p:=fun q' zs h=>Fb h hp (by intro z; cases z)
  have nap:a ≠ p:=Fb ha hp (by intro z; cases z)
  have nbp:b ≠ p:=Fb hb hp (by intro z; cases z)
  have ncp:cc ≠ p:=Fb hc hp (by intro z; cases z)
  have c3:∀ x ∈ xs,∃ b ys,x = V.ref b/\H b = some (.tup ys)/\((ys.length:Nat):Int) = 3:=fun x hx=>by
   obtain⟨i,hi⟩:=getElem?_of_mem hx
   obtain⟨s,_,q',e,h⟩:=ls.get hi
   exact⟨q',_,e,h,rfl⟩
  have c2:∀ x ∈ ys,∃ b ys,x = V.ref b/\H b = some (.tup ys)/\((ys.length:Nat):Int) = 2:=fun x hx=>by
   obtain⟨i,hi⟩:=getElem?_of_mem hx
   obtain⟨s,_,q',e,h⟩:=lm.get hi
   exact⟨q',_,e,h,rfl⟩
  have c3j:∀ x ∈ zs,∃ b ys,x = V.ref b/\H b = some (.tup ys)/\((ys.length:Nat):Int) = 3:=fun x hx=>by
   obtain⟨i,hi⟩:=getElem?_of_mem hx
   obtain⟨s,_,q',e,h⟩:=lj.get hi
   exact⟨q',_,e,h,rfl⟩
  have mJ:∀ {H'},Keep p H H'->LAt TrjAt H' zs J:=fun k=>lj.mono fun x y h=>h.mono fun q' zs e=>k q' _ e (nt q' zs e)
  have mT:∀ {H'},Keep p H H'->LAt TripAt H' xs signs:=fun k=>ls.mono fun x y h=>h.mono fun q' zs e=>k q' _ e (nt q' zs e)
  have mP:∀ {H'},Keep p H H'->LAt PairAt H' ys mates:=fun k=>lm.mono fun x y h=>h.mono fun q' zs e=>k q' _ e (nt q' zs e)
  have nd1:=(nodup_append.mp nd).1
  have nd2:=(nodup_append.mp nd).2.1
  walk_at "rd"
  refine⟨a,xs,_,rfl,ha,c3,?_⟩
  walk_at "rd"
  refine⟨b,ys,_,rfl,hb,c2,?_⟩
  walk_at "rd"
  refine⟨cc,zs,_,rfl,hc,c3j,?_⟩
  walk_at "rd"
  refine⟨a,b,xs,ys,signs,mates,rfl,ha,hb,ls,lm,so,mo,nd,by omega,fun dk hk=>?_⟩
  have fk:H dk = none:=hk
  walk_at "rd"
  have k1:Keep p H (upd H dk (.dK (kK signs ++ kM mates))):=Keep.new hk
  have p1:(upd H dk (.dK (kK signs ++ kM mates))) p = some (.ins t.C_Book dx []):=by rw[Bj (Bv hp hk)]; exact hp
  have e1:(upd H dk (.dK (kK signs ++ kM mates))) dk = some (.dK (kK signs ++ kM mates)):=Bm
  generalize upd H dk (.dK (kK signs ++ kM mates)) = H1 at k1 p1 e1
  refine⟨p,_,_,_,rfl,p1,T.cl_Book,T.n_Book_kinds,by show 0 < 1000; decide,?_⟩
  have k2:Keep p H (upd H1 p (.ins t.C_Book dx (Bz "kinds" (.ref dk) []))):=k1.trans Keep.put
  have p2:(upd H1 p (.ins t.C_Book dx (Bz "kinds" (.ref dk) []))) p = some (.ins t.C_Book dx (Bz "kinds" (.ref dk) [])):=Bm
  have e2:(upd H1 p (.ins t.C_Book dx (Bz "kinds" (.ref dk) []))) dk = some (.dK (kK signs ++ kM mates)):=by rw[Bj (Fb e1 p1 (by intro z; cases z))]; exact e1
  generalize upd H1 p (.ins t.C_Book dx (Bz "kinds" (.ref dk) [])) = H2 at k2 p2 e2
  walk_at "rd"
  refine⟨a,xs,signs,rfl,k2 _ _ ha nap,mT k2,nd1,by omega,fun dr hk=>?_⟩
  have fr':H dr = none:=k2.free p2 hk
  walk_at "rd"
  have k3:Keep p H (upd H2 dr (.dK (kR signs))):=k2.trans (Keep.new hk)
  have p3:(upd H2 dr (.dK (kR signs))) p = some (.ins t.C_Book dx (Bz "kinds" (.ref dk) [])):=by rw[Bj (Bv p2 hk)]; exact p2
  have e3:(upd H2 dr (.dK (kR signs))) dk = some (.dK (kK signs ++ kM mates)):=by rw[Bj (Bv e2 hk)]; exact e2
  have r3:(upd H2 dr (.dK (kR signs))) dr = some (.dK (kR signs)):=Bm
  generalize upd H2 dr (.dK (kR signs)) = H3 at k3 p3 e3 r3
  refine⟨p,_,_,_,rfl,p3,T.cl_Book,T.n_Book_ranks,Nat.lt_of_le_of_lt (Du _ _ _) (by show 0 + 1 < 1000; decide),?_⟩
  have k4:Keep p H (upd H3 p (.ins t.C_Book dx (Bz "ranks" (.ref dr) (Bz "kinds" (.ref dk) [])))):=k3.trans Keep.put
  have p4:(upd H3 p (.ins t.C_Book dx (Bz "ranks" (.ref dr) (Bz "kinds" (.ref dk) [])))) p = some (.ins t.C_Book dx (Bz "ranks" (.ref dr) (Bz "kinds" (.ref dk) []))):=Bm
  have e4:(upd H3 p (.ins t.C_Book dx (Bz "ranks" (.ref dr) (Bz "kinds" (.ref dk) [])))) dk = some (.dK (kK signs ++ kM mates)):=by rw[Bj (Fb e3 p3 (by intro z; cases z))]; exact e3
  have r4:(upd H3 p (.ins t.C_Book dx (Bz "ranks" (.ref dr) (Bz "kinds" (.ref dk) [])))) dr = some (.dK (kR signs)):=by rw[Bj (Fb r3 p3 (by intro z; cases z))]; exact r3
  generalize upd H3 p (.ins t.C_Book dx (Bz "ranks" (.ref dr) (Bz "kinds" (.ref dk) []))) = H4 at k4 p4 e4 r4
  walk_at "rd"
  refine⟨b,ys,mates,rfl,k4 _ _ hb nbp,mP k4,nd2,by omega,fun dm hk=>?_⟩
  have fm:H dm = none:=k4.free p4 hk
  walk_at "rd"
  have k5:Keep p H (upd H4 dm (.dK (kB mates))):=k4.trans (Keep.new hk)
  have p5:(upd H4 dm (.dK (kB mates))) p = some (.ins t.C_Book dx (Bz "ranks" (.ref dr) (Bz "kinds" (.ref dk) []))):=by rw[Bj (Bv p4 hk)]; exact p4
  have e5:(upd H4 dm (.dK (kB mates))) dk = some (.dK (kK signs ++ kM mates)):=by rw[Bj (Bv e4 hk)]; exact e4
  have r5:(upd H4 dm (.dK (kB mates))) dr = some (.dK (kR signs)):=by rw[Bj (Bv r4 hk)]; exact r4
  have m5:(upd H4 dm (.dK (kB mates))) dm = some (.dK (kB mates)):=Bm
  generalize upd H4 dm (.dK (kB mates)) = H5 at k5 p5 e5 r5 m5
  refine⟨p,_,_,_,rfl,p5,T.cl_Book,T.n_Book_mates,Nat.lt_of_le_of_lt (Du _ _ _) (Nat.lt_of_le_of_lt (succ_le_succ (Du _ _ _)) (by show 0 + 1 + 1 < 1000; decide)),?_⟩
  have k6:Keep p H (upd H5 p (.ins t.C_Book dx (Bz "mates" (.ref dm) (Bz "ranks" (.ref dr) (Bz "kinds" (.ref dk) []))))):=k5.trans Keep.put
  have p6:(upd H5 p (.ins t.C_Book dx (Bz "mates" (.ref dm) (Bz "ranks" (.ref dr) (Bz "kinds" (.ref dk) []))))) p = some (.ins t.C_Book dx (Bz "mates" (.ref dm) (Bz "ranks" (.ref dr) (Bz "kinds" (.ref dk) [])))):=Bm
  have e6:(upd H5 p (.ins t.C_Book dx (Bz "mates" (.ref dm) (Bz "ranks" (.ref dr) (Bz "kinds" (.ref dk) []))))) dk = some (.dK (kK signs ++ kM mates)):=by rw[Bj (Fb e5 p5 (by intro z; cases z))]; exact e5
  have r6:(upd H5 p (.ins t.C_Book dx (Bz "mates" (.ref dm) (Bz "ranks" (.ref dr) (Bz "kinds" (.ref dk) []))))) dr = some (.dK (kR signs)):=by rw[Bj (Fb r5 p5 (by intro z; cases z))]; exact r5
  have m6:(upd H5 p (.ins t.C_Book dx (Bz "mates" (.ref dm) (Bz "ranks" (.ref dr) (Bz "kinds" (.ref dk) []))))) dm = some (.dK (kB mates)):=by rw[Bj (Fb m5 p5 (by intro z; cases z))]; exact m5
  generalize upd H5 p (.ins t.C_Book dx (Bz "mates" (.ref dm) (Bz "ranks" (.ref dr) (Bz "kinds" (.ref dk) [])))) = H6 at k6 p6 e6 r6 m6
  walk_at "rd"
  refine⟨p,_,_,_,_,rfl,p6,T.cl_Book,T.n_Book_kinds,by rw[Db,if_neg (by decide +kernel),Db,if_neg (by decide +kernel),Db,if_pos rfl],?_⟩
  walk_at "rd"
  refine⟨dk,cc,_,zs,J,rfl,e6,k6 _ _ hc ncp,mJ k6,jo,fun dp kvs H7 hk s7 q7 lk7=>?_⟩
  have fp:H dp = none:=k6.free p6 hk
  walk_at "rd"
  have k7:Keep p H H7:=fun q' o e n=>s7 _ _ (k6 _ _ e n)
  have p7:=s7 _ _ p6
  have e7:=s7 _ _ e6
  have r7:=s7 _ _ r6
  have m7:=s7 _ _ m6
  clear k6 p6 e6 r6 m6 s7
  refine⟨p,_,_,_,rfl,p7,T.cl_Book,T.n_Book_pairs,Nat.lt_of_le_of_lt (Du _ _ _) (Nat.lt_of_le_of_lt (succ_le_succ (Nat.le_trans (Du _ _ _) (succ_le_succ (Du _ _ _)))) (by show 0 + 1 + 1 + 1 < 1000; decide)),?_⟩
  have k8:Keep p H (upd H7 p (.ins t.C_Book dx (Bz "pairs" (.ref dp) (Bz "mates" (.ref dm) (Bz "ranks" (.ref dr) (Bz "kinds" (.ref dk) [])))))):=k7.trans Keep.put
  have p8:(upd H7 p (.ins t.C_Book dx (Bz "pairs" (.ref dp) (Bz "mates" (.ref dm) (Bz "ranks" (.ref dr) (Bz "kinds" (.ref dk) [])))))) p = some (.ins t.C_Book dx (Bz "pairs" (.ref dp) (Bz "mates" (.ref dm) (Bz "ranks" (.ref dr) (Bz "kinds" (.ref dk) []))))):=Bm
  have e8:(upd H7 p (.ins t.C_Book dx (Bz "pairs" (.ref dp) (Bz "mates" (.ref dm) (Bz "ranks" (.ref dr) (Bz "kinds" (.ref dk) [])))))) dk = some (.dK (kK signs ++ kM mates)):=by rw[Bj (Fb e7 p7 (by intro z; cases z))]; exact e7
  have r8:(upd H7 p (.ins t.C_Book dx (Bz "pairs" (.ref dp) (Bz "mates" (.ref dm) (Bz "ranks" (.ref dr) (Bz "kinds" (.ref dk) [])))))) dr = some (.dK (kR signs)):=by rw[Bj (Fb r7 p7 (by intro z; cases z))]; exact r7
  have m8:(upd H7 p (.ins t.C_Book dx (Bz "pairs" (.ref dp) (Bz "mates" (.ref dm) (Bz "ranks" (.ref dr) (Bz "kinds" (.ref dk) [])))))) dm = some (.dK (kB mates)):=by rw[Bj (Fb m7 p7 (by intro z; cases z))]; exact m7
  have q8:(upd H7 p (.ins t.C_Book dx (Bz "pairs" (.ref dp) (Bz "mates" (.ref dm) (Bz "ranks" (.ref dr) (Bz "kinds" (.ref dk) [])))))) dp = some (.dK kvs):=by rw[Bj (Fb q7 p7 (by intro z; cases z))]; exact q7
  have lk8:LAt KvAt (upd H7 p (.ins t.C_Book dx (Bz "pairs" (.ref dp) (Bz "mates" (.ref dm) (Bz "ranks" (.ref dr) (Bz "kinds" (.ref dk) [])))))) kvs J:=lk7.mono fun x y h=>h.mono fun q' zs z=>by rw[Bj (Fb z p7 (by intro z; cases z))]; exact z
  generalize upd H7 p (.ins t.C_Book dx (Bz "pairs" (.ref dp) (Bz "mates" (.ref dm) (Bz "ranks" (.ref dr) (Bz "kinds" (.ref dk) []))))) = H8 at k8 p8 e8 r8 m8 q8 lk8
  clear k7 p7 e7 r7 m7 q7 lk7
  walk_at "rd"
  refine⟨p,_,_,_,_,rfl,p8,T.cl_Book,T.n_Book_pairs,by rw[Db,if_pos rfl],?_⟩
  walk_at "rd"
  refine⟨dp,kvs,J,rfl,q8,lk8,jo.np,jo.ln,fun dw H9 hk s9 w9=>?_⟩
  have fw:H dw = none:=k8.free p8 hk
  walk_at "rd"
  have p9:=s9 _ _ p8
  refine⟨p,_,_,_,rfl,p9,T.cl_Book,T.n_Book_wholes,Nat.lt_of_le_of_lt (Du _ _ _) (Nat.lt_of_le_of_lt (succ_le_succ (Nat.le_trans (Du _ _ _) (succ_le_succ (Nat.le_trans (Du _ _ _) (succ_le_succ (Du _ _ _)))))) (by show 0 + 1 + 1 + 1 + 1 < 1000; decide)),?_⟩
  refine q _ kvs dx dk dr dm dp dw (fun q' o e n=>by rw[Bj n]; exact s9 _ _ (k8 _ _ e n)) fk fr' fm fp fw Bm ?_ ?_ ?_ ?_ ?_ ?_
  ·rw[Bj (Fb e8 p8 (by intro z; cases z))]; exact s9 _ _ e8
  ·rw[Bj (Fb r8 p8 (by intro z; cases z))]; exact s9 _ _ r8
  ·rw[Bj (Fb m8 p8 (by intro z; cases z))]; exact s9 _ _ m8
  ·rw[Bj (Fb q8 p8 (by intro z; cases z))]; exact s9 _ _ q8
  ·rw[Bj (Fb w9 p9 (by intro z; cases z))]; exact w9
  ·exact lk8.mono fun x y h=>h.mono fun q' zs z=>by rw[Bj (Fb z p8 (by intro z; cases z))]; exact s9 _ _ z
local macro_rules | `(tactic| walk_at "u")=>`(tactic| with_reducible refine AdU (by assumption) ?_)
local macro_rules | `(tactic| walk_at "u")=>`(tactic| with_reducible refine AaD (by assumption) Zz ?_)
theorem Ag3 (T:Txt K mg t):Binds K t.d_qbh ["self","sign"] []:=T.F_qbh.binds fun _ _ _ _ _ _ us hl=>match us,hl with | [_,_],_=>rfl
theorem AeD (T:Txt K mg t):FnOk P w K mg base CX0 2 t.f_qbh t.d_qbh ["self","sign"] (Wl t.C_Book):=by
 refine T.F_qbh.ok Aj2 (fun vs H Q E h=>?_) (fun cdv A outer s H vs Q E hr h=>?_)
 ·obtain⟨b,n,k,r,m,p,w,rfl,⟨dx,dk,dr,dm,dp,dw,h1,h2,h3,h4,h5,h6⟩,q⟩:=h
  rfl
 ·obtain⟨b,n,k,r,m,p,w,rfl,⟨dx,dk,dr,dm,dp,dw,h1,h2,h3,h4,h5,h6⟩,q⟩:=h
  have hu:=Cp hr
  have hu64:=hr.units
  refine⟨_,(Bf (Cc (Bn (Yu T) (hr.mono (by decide)) rfl T.m_qz T.F_qz.kp (AcP T) .nil Bt (Ba (Uj (pv 0) rfl) (Ba (pv 1) Bd))))),?_⟩
  try dsimp only [Ck,Bx]
  walk_at "rd"
  refine⟨b,_,_,_,_,rfl,h1,T.cl_Book,T.n_Book_kinds,AeQ,?_⟩
  walk_at "rd"
  exact q
local macro_rules | `(tactic| walk_at "u")=>`(tactic| with_reducible refine u_sp_mate (by assumption) ?_)
local macro_rules | `(tactic| walk_at "u")=>`(tactic| with_reducible refine AaD (by assumption) Aap ?_)
theorem Ans (T:Txt K mg t):Binds K t.d_qbi ["self","sign"] []:=T.F_qbi.binds fun _ _ _ _ _ _ us hl=>match us,hl with | [_,_],_=>rfl
theorem Alo (T:Txt K mg t):FnOk P w K mg base CX0 1 t.f_qbi t.d_qbi ["self","sign"] (Aa0 t.C_Book):=by
 refine T.F_qbi.ok Aki (fun vs H Q E h=>?_) (fun cdv A outer s H vs Q E hr h=>?_)
 ·obtain⟨b,n,k,r,m,p,w,rfl,⟨dx,dk,dr,dm,dp,dw,h1,h2,h3,h4,h5,h6⟩,q⟩:=h
  rfl
 ·obtain⟨b,n,k,r,m,p,w,rfl,⟨dx,dk,dr,dm,dp,dw,h1,h2,h3,h4,h5,h6⟩,q⟩:=h
  have hu:=Cp hr
  have hu64:=hr.units
  refine⟨_,(Bf (Cc (AfK hu (Uj (pv 0) rfl) (pv 1) ⟨rfl,rfl,rfl,rfl⟩))),?_⟩
  try dsimp only [Ck,Bx]
  walk_at "rd"
  refine⟨b,_,_,_,_,rfl,h1,T.cl_Book,T.n_Book_mates,AeV,?_⟩
  walk_at "rd"
  exact q
def AeL (K:Frag) (C:Addr):Sp:=fun vs H Q _=>∃ b l U M r m p w ts,vs = [.ref b,.ref l]/\BookAt C H b (kK U ++ kM M) r m p w/\SqL K H l (map V.int ts)/\ts.length <= 300 /\
 ∀ (wl:Addr) (xs:List V) (H':Hp),H wl = none->Same H H'->(∀ x ∈ xs,∃ p,x = V.ref p/\H p = none)->LLat H' wl xs (grp (Cl U M) ts)->Q (.ref wl) H'
-- EU_WOF
def Ail:PSp:=fun ps P=>∃ U M J ts,ps = [.bk U M J,.lst (map .int ts)]/\ts.length <= 300/\P (.lst (map (fun g=>PV.lst (map .int g)) (grp (Cl U M) ts)))
theorem Ady {C:Addr} {ω:Om} {E:XK} {m n:Bool} {t:TA} {u:UA} (ha:AU K C ω [m,n] t u):EU K C ω (Ri (AeL K C) [] E t) (Vi Ail u) :=
 fun B G0 H0 own G σ H ρ P Q S hu k=>ha B G0 H0 own G σ H ρ _ _ S hu fun vs ps G1 H1 w1 ok ⟨U,M,J,ts,e,hl,h⟩=>by
  obtain⟨v,w,p,q,rfl,e2,r1,r2⟩:=Rt ok
  rw[e] at e2; cases e2
  obtain⟨b,kvs,rfl,bk,_⟩:=r1.bk
  obtain⟨a,xs,rfl,ea,l⟩:=r2.lst w1.i
  rw[Sd l] at ea
  refine⟨b,a,U,M,_,_,_,_,ts,rfl,bk.mono fun _ _ e _=>w1.i _ _ e,SqL.of ea,hl,fun wl xs H2 hwl s2 fx ll=>?_⟩
  refine k _ _ _ H2 (w1.trans (Ob w1.i s2)) (Rep.ofL (Fe hwl ll.li) ⟨by rw[ll.at'.1,length_map],fun i x y hx hy=>?_⟩) h
  rw[getElem?_map] at hy
  obtain⟨g,hg,rfl⟩:=map_eq_some_iff.mp hy
  obtain⟨p,e1,hp⟩:=ll.at'.2 i x g hx hg
  obtain⟨p',e2,hn⟩:=fx x (mem_of_getElem? hx)
  subst e1
  cases e2
  exact Rep.ofL (Fe hn hp) (Fk g)
theorem AgF (T:Txt K mg t):Binds K t.d_qbt ["book","text"] []:=T.F_qbt.binds fun _ _ _ _ _ _ us hl=>match us,hl with | [_,_],_=>rfl
theorem AdZ (T:Txt K mg t):FnOk P w K mg base CX0 3 t.f_qbt t.d_qbt ["book","text"] (AeL K t.C_Book):=by
 refine T.F_qbt.ok sc_qbt (fun vs H Q E h=>?_) (fun cdv A outer s H vs Q E hr h=>?_)
 ·obtain⟨b,l,U,M,r,m,pp,w,ts,rfl,hB,hT,hl,q⟩:=h
  rfl
 ·obtain⟨b,l,U,M,r,m,pp,w,ts,rfl,hB,hT,hl,q⟩:=h
  have hu:=Cp hr
  have hu64:=hr.units
  refine⟨_,(Bc (Bl (i:=2) sc_qbt.nd rfl (Or.inl rfl) (Cu Bd))
   (Bc (Dd PassesOwn.never rfl (Cs (pv 1)) (Bo (i:=3) sc_qbt.nd rfl (Or.inl rfl))
    (Bc (De (PW.pt (Lo (Cd Dj (Cg (Lh) rfl T.z_len PySem.boot_len (Ba (pv 2) Bd)) Be (Ci _)) (Qn (Cd Yz (Vx (pv 0) T.cl_Book T.M_qbh (AeD T) (hr.mono (by decide)) (Ag3 T) .nil Bt (Ba (pv 3) Bd)) Bw (Ci _)))))
    (Bf (Co (Fo plainAttrs_list PySem.F.slot_list_append PySem.F.type_list_append Dc (pv 2) (Ba (Cu Bd) Bd))))
    Ct)
   (Bf (Co (Fo plainAttrs_list PySem.F.slot_list_append PySem.F.type_list_append Dc (Ce (Vq) (pv 2) (Oa Ll Be) (fun _ _=>rfl)) (Ba (pv 3) Bd))))))
   (Bf (Cc (pv 2))))),?_⟩
  try dsimp only [Ck,Bx]
  walk_at "rd"
  refine⟨by decide,fun wl H0 hwl s0 e0=>?_⟩
  walk_at "rd"
  refine Nq (i:=1) rfl (s0.seq hT) (fun i σ H'=>∃ v3 xs,σ = [some (.ref b),some (.ref l),some (.ref wl),v3]/\Same H H'/\(∀ x ∈ xs,∃ p,x = V.ref p/\H p = none)/\LLat H' wl xs (grp (Cl U M) (ts.take i))) ⟨none,[],rfl,s0,(fun x h=>by cases h),⟨e0,LAt.nil,nodup_nil,by simp⟩⟩ (fun i σ H' _ ⟨_,_,_,s,_⟩=>s.seq hT) ?_ ?_
  ·rintro i x σ H' hi ⟨v3,xs,rfl,s,fx,ll⟩
   obtain⟨n,en,rfl⟩:=Aay hi
   have hlt:=(List.getElem?_eq_some_iff.mp en).1
   have eg:grp (Cl U M) (ts.take (i + 1)) = Nw (Cl U M) (grp (Cl U M) (ts.take i)) n:=by rw[Dg en,Zw]
   have hli:=ll.li
   have hxl:xs.length <= 300:=by
    have:=(Gh (Cl U M) (ts.take i)).ln
    rw[<- ll.at'.1,length_take] at this
    omega
   have hB':=hB.mono (H':=H') fun _ _ e _=>s _ _ e
   walk_at "rd"
   refine Zs (fun h=>?_) (fun h=>?_)
   ·have hz:grp (Cl U M) (ts.take i) = []\/Cl U M n = false:=.inl (List.eq_nil_of_length_eq_zero (by
     have h':((xs.length:Nat):Int) = 0:=of_decide_eq_true h
     rw[<- ll.at'.1]; omega))
    refine Ln ?_
    walk_at "rd"
    refine⟨by decide,fun p H2 hp s2 e2=>?_⟩
    walk_at "rd"
    walk_at "rd"
    refine Gp (s2 _ _ hli) (Gu (by omega)) fun H3 c3 e3=>?_
    have npw:p ≠ wl:=(Bv hli hp).symm
    have e2':=c3 _ _ e2 npw
    walk_at "rd"
    refine Yw (SqL.of e3) ?_ (Js _ _)
    walk_at "rd"
    walk_at "rd"
    refine Gp e2' (by decide) fun H4 c4 e4=>?_
    walk_at "rd"
    refine⟨_,_,rfl,((s.trans s2).chg c3 hwl).chg c4 (s.free hp),fun x hx=>?_,by rw[eg,Oj (by assumption)]; exact ll.push hp s2 c3 e3 c4 e4⟩
    rcases mem_append.mp hx with w | w
    ·exact fx x w
    ·exact⟨p,mem_singleton.mp w,s.free hp⟩
   ·have h':¬ ((xs.length:Nat):Int) = 0:=fun z=>h (decide_eq_true z)
    walk_at "rd"
    rw[AbF]
    walk_at "rd"
    refine Zs (fun h2=>?_) (fun h2=>?_)
    ·have hz:grp (Cl U M) (ts.take i) = []\/Cl U M n = false:=.inr (by
      unfold Cl
      simpa using h2)
     walk_at "rd"
     refine⟨by decide,fun p H2 hp s2 e2=>?_⟩
     walk_at "rd"
     walk_at "rd"
     refine Gp (s2 _ _ hli) (Gu (by omega)) fun H3 c3 e3=>?_
     have npw:p ≠ wl:=(Bv hli hp).symm
     have e2':=c3 _ _ e2 npw
     walk_at "rd"
     refine Yw (SqL.of e3) ?_ (Js _ _)
     walk_at "rd"
     walk_at "rd"
     refine Gp e2' (by decide) fun H4 c4 e4=>?_
     walk_at "rd"
     refine⟨_,_,rfl,((s.trans s2).chg c3 hwl).chg c4 (s.free hp),fun x hx=>?_,by rw[eg,Oj (by assumption)]; exact ll.push hp s2 c3 e3 c4 e4⟩
     rcases mem_append.mp hx with w | w
     ·exact fx x w
     ·exact⟨p,mem_singleton.mp w,s.free hp⟩
    ·have hm:Cl U M n = true:=by
      unfold Cl
      simpa using h2
     obtain⟨xs',p,gs',g,rfl,eg',hp⟩:=ll.last (fun z=>h' (by rw[ll.at'.1,z]; rfl))
     rw[eg'] at ll eg
     have hgl:g.length <= 300:=by
      have z:=(Gh (Cl U M) (ts.take i)).fl
      rw[eg'] at z
      have:=congrArg length z
      simp at this
      omega
     walk_at "rd"
     refine Yw (SqL.of hli) ?_ (Js _ _)
     walk_at "rd"
     walk_at "rd"
     refine Gp hp (Gu (by rw[length_map]; omega)) fun H4 c4 e4=>?_
     walk_at "rd"
     have fp:H p = none:=by
      obtain⟨p',e,z⟩:=fx _ (mem_append_right _ mem_cons_self)
      cases e; exact z
     exact⟨_,_,rfl,s.chg c4 fp,fx,by rw[eg,Rp hm]; exact ll.add c4 e4⟩
  ·rintro σ H' ⟨v3,xs,rfl,s,fx,ll⟩
   rw[length_map,take_length] at ll
   walk_at "rd"
   exact q wl xs H' hwl s fx ll
def Ajf:PSp:=fun ps P=>∃ U M J n r,ps = [.bk U M J,.lst (map .int (n :: r))]/\P (.str (knW U M (n :: r)))
theorem AjI (T:Txt K mg t):Binds K t.d_qd ["book","whole"] []:=T.F_qd.binds fun _ _ _ _ _ _ us hl=>match us,hl with | [_,_],_=>rfl
theorem AhL (T:Txt K mg t):FnOk P w K mg base CX0 3 t.f_qd t.d_qd ["book","whole"] (spOf K t.C_Book [false,false] .sh Ajf):=by
 refine T.F_qd.ok sc_qd (fun vs H Q E h=>h.len) (fun cdv A outer s H vs Q E hr h=>?_)
 have hu:=Cp hr
 have hu64:=hr.units
 refine⟨_,(Bc (Bl (i:=2) sc_qd.nd rfl (Or.inl rfl) (Vx (pv 0) T.cl_Book T.M_qbh (AeD T) (hr.mono (by decide)) (Ag3 T) .nil Bt (Ba (Ce (Cj K) (pv 1) Be (fun _ _=>rfl)) Bd)))
   (Bc (De (Cd Dj (pv 2) Bw (Ci _))
    (Bf (Cc Bw))
    Ct)
   (Bf (Cc (pv 2))))),?_⟩
 try dsimp only [Ck,Bx]
 refine Cq h (by decide) (Bk (Bu (Ait Bb (EU.eb (Cv Bb (EU.eb Bg)))))
   (Bk (Dl (Cw (EU.eb (Dv Bb (EU.eb Cn))))
    (Dq Cn)
    Df)
   (Dq Br))) (fun ps P hp=>?_)
 clear h hu hu64 hr
 obtain⟨U,M,J,n,r,rfl,q⟩:=hp
 walk_at "s"
 walk_at "p"
 refine Dx (l:=n :: r) (j:=0) (a:=n) rfl rfl ?_
 walk_at "p"
 refine Zs (fun h=>?_) (fun h=>?_)
 ·walk_at "p"
  have e:knW U M (n :: r) = "plain":=if_pos h
  rw[e] at q
  exact q
 ·walk_at "p"
  have e:knW U M (n :: r) = Fd U M n:=if_neg h
  rw[e] at q
  exact q
def Adk:PSp:=fun ps P=>∃ U M J ts,ps = [.bk U M J,.lst (map .int ts)]/\ts.length <= 300/\P (.lst (map (fun w=>PV.str (knW U M w)) (grp (Cl U M) ts)))
theorem AhQ (T:Txt K mg t):Binds K t.d_qbv ["book","text"] []:=T.F_qbv.binds fun _ _ _ _ _ _ us hl=>match us,hl with | [_,_],_=>rfl
theorem Ae5 (T:Txt K mg t):FnOk P w K mg base CX0 4 t.f_qbv t.d_qbv ["book","text"] (spOf K t.C_Book [false,false] .fr Adk):=by
 refine T.F_qbv.ok AlN (fun vs H Q E h=>h.len) (fun cdv A outer s H vs Q E hr h=>?_)
 have hu:=Cp hr
 have hu64:=hr.units
 refine⟨_,(Bf (Cc (Ja 1 [0] ["whole","book"] ["book"] rfl (Cs (Bn (AdZ T) (hr.mono (by decide)) rfl T.m_qbt T.F_qbt.kp (AgF T) .nil Bt (Ba (pv 0) (Ba (pv 1) Bd)))) rfl (fun j y e1 i e2=>match j,e1,e2 with | 0,e1,e2=>by cases e1; cases e2; exact⟨rfl,rfl,rfl,by decide +kernel⟩ | _ + 1,_,e2=>by simp at e2) (forall_mem_cons.mpr ⟨rfl,fun _ h=>nomatch h⟩) (by decide +kernel) (fun _ _ _ _=>(Bo (i:=0) (show Nodup (["whole","book"]:List Str) by decide +kernel) rfl (Or.inl rfl))) (fun _ _ _ _=>Gb) (fun _ _ _ _=>(Bn (AhL T) (hr.mono (by decide)) rfl T.m_qd T.F_qd.kp (AjI T) .nil Bt (Ba (pv 1) (Ba (pv 0) Bd)))) rfl (by decide +kernel) rfl (by decide +kernel)))),?_⟩
 try dsimp only [Ck,Bx]
 refine Cq h (by decide) (Qy (Ga (EU.eb (Ady (Bp Bb (Bp Bb Bh)))) (By (top:=1)) Gk (Ds (Bp Bb (Bp Bb Bh))))) (fun ps P hp=>?_)
 clear h hu hu64 hr
 obtain⟨U,M,J,ts,rfl,hl,q⟩:=hp
 walk_at "s"
 have gl:=(Gh (Cl U M) ts).ln
 walk_at "p"
 refine⟨U,M,J,ts,rfl,hl,?_⟩
 walk_at "p"
 refine⟨by rw[length_map]; omega,?_⟩
 refine Ff (f:=fun w:List Int=>some (.str (knW U M w))) ?_ (fun d hd Z hZ=>?_)
 rotate_left
 ·obtain⟨n,r,rfl,hr⟩:=(Gh (Cl U M) ts).ne d hd
  walk_at "p"
  refine⟨U,M,J,n,r,rfl,?_⟩
  exact hZ
 rw[show (grp (Cl U M) ts).filterMap (fun w=>some (PV.str (knW U M w))) = (grp (Cl U M) ts).map fun w=>PV.str (knW U M w) from congrFun (List.filterMap_eq_map (f:=fun w=>PV.str (knW U M w))) _]
 exact q
theorem Sa {C:Addr} {G:Hp} (T:Txt K mg t):Rep K C G (.ref t.a_BEGINNINGS) (.ctp [.str "forein",.str "backin"]):=.ctp T.q_BEGINNINGS rfl fun i v p h1 h2=>by
 match i,h1,h2 with
 | 0,h1,h2=>cases h1; cases h2; exact .str _
 | 1,h1,h2=>cases h1; cases h2; exact .str _
 | _ + 2,h1,_=>simp at h1
theorem Ahj (T:Txt K mg t):Binds K t.d_qbz ["book","text"] []:=T.F_qbz.binds fun _ _ _ _ _ _ us hl=>match us,hl with | [_,_],_=>rfl
theorem Adh (T:Txt K mg t):FnOk P w K mg base CX0 5 t.f_qbz t.d_qbz ["book","text"] (spOf K t.C_Book [false,false] .sh Aj4):=by
 refine T.F_qbz.ok sc_qbz (fun vs H Q E h=>h.len) (fun cdv A outer s H vs Q E hr h=>?_)
 have hu:=Cp hr
 have hu64:=hr.units
 refine⟨_,(Bc (Bl (i:=2) sc_qbz.nd rfl (Or.inl rfl) Be)
   (Bc (Dd PassesOwn.never rfl (Cs (Bn (Ae5 T) (hr.mono (by decide)) rfl T.m_qbv T.F_qbv.kp (AhQ T) .nil Bt (Ba (pv 0) (Ba (pv 1) Bd)))) (Bo (i:=3) sc_qbz.nd rfl (Or.inl rfl))
    (Bf (De (Cd (Ji K) (pv 3) (Of (v:=.ref t.a_BEGINNINGS) rfl T.g_BEGINNINGS rfl) rfl)
    (Bf (AdQ (i:=2) sc_qbz.nd rfl (Or.inl rfl) Be Aeb))
    (Bf (De (Cd Dj (pv 3) Bw (Ci _))
    (Bf (Bl (i:=2) sc_qbz.nd rfl (Or.inl rfl) (Cg (Ado rfl) rfl T.z_max boot_max (Ba Be (Ba (Cb AjN (pv 2) Be) Bd)))))
    (Bf (De (PW.pt (Sq (Cd Dj (pv 2) Be (Ci _)) (Qs (Cd Dj (pv 3) Bw (Ci _)))))
    (Bf (Cc Be))
    (Bf (De (PW.pt (Sq (Cd Dj (pv 2) Be (Ci _)) (Qs (Cd Dj (pv 3) Bw (Ci _)))))
    (Bf (Cc Be))
    Ct)))))))))
   (Bf (Cc Be)))),?_⟩
 try dsimp only [Ck,Bx]
 refine Cq h (by decide) (Bk (Bu Bg)
   (Bk (Sn (EF.eu (Do (Bp Bb (Bp Bb Bh)))) (By (top:=4))
    (Dl (Cw (EU.eb (Tf Br (EU.eb (Tm fun G=>Sa T)))))
    (AdI (EU.eb Bg))
    (Dl (Cw (EU.eb (Dv Bb (EU.eb Cn))))
    (Bu (Ak6 (Bp (EU.eb Bg) (Bp (EU.eb (Fa (fun _ _ _=>.int _) Bb (EU.eb Bg))) Bh))))
    (Dl (Vl (Cw (EU.eb (Dv Bb (EU.eb Bg)))) (Cw (EU.eb (Dv Bb (EU.eb Cn)))))
    (Dq Bg)
    (Dl (Vl (Cw (EU.eb (Dv Bb (EU.eb Bg)))) (Cw (EU.eb (Dv Bb (EU.eb Cn)))))
    (Dq Bg)
    Df)))))
   (Dq Bg))) (fun ps P hp=>?_)
 clear h hu hu64 hr
 obtain⟨U,M,J,ts,rfl,hl,q⟩:=hp
 walk_at "s"
 walk_at "p"
 refine⟨U,M,J,ts,rfl,hl,?_⟩
 rw[show (map (fun w=>PV.str (knW U M w)) (grp (Cl U M) ts)) = (knL U M ts).map .str by unfold knL; rw[map_map]; rfl]
 generalize knL U M ts = kn at q
 walk_at "p"
 refine⟨fun k ρ=>∃ (d:Nat) (v3:Sl),ρ = [.bo (.bk U M J),.bo (.lst (map .int ts)),.sh (.int d),v3]/\obF d (kn.drop k) = obF 0 kn,⟨0,_,rfl,rfl⟩,?_,?_⟩
 ·rintro k p ρ hp ⟨d,v3,rfl,ho⟩
  rw[getElem?_map] at hp
  obtain⟨w,hk,rfl⟩:=map_eq_some_iff.mp hp
  have hkl:k < kn.length:=(List.getElem?_eq_some_iff.mp hk).1
  have ed:kn.drop k = w :: kn.drop (k + 1):=by
   rw[drop_eq_getElem_cons hkl]
   rw[getElem?_eq_getElem hkl] at hk
   rw[Option.some.inj hk]
  rw[ed,obF] at ho
  walk_at "p"
  refine AaC (L:=bgK) (x:=w) ?_
  walk_at "p"
  by_cases h1:w ∈ bgK
  ·rw[decide_eq_true h1]
   rw[if_pos h1] at ho
   walk_at "p"
   exact⟨d + 1,_,by rw[Int.natCast_add]; rfl,ho⟩
  rw[decide_eq_false h1]
  rw[if_neg h1] at ho
  walk_at "p"
  by_cases h2:w = "out"
  ·rw[decide_eq_true h2]
   rw[if_pos h2] at ho
   walk_at "p"
   refine⟨d - 1,.sh (.str w),?_,ho⟩
   have ez:(if (d:Int) - 1 > 0 then (d:Int) - 1 else 0) = ((d - 1:Nat):Int):=by split <;> omega
   have ez2:max (0:Int) ((d:Int) - 1) = ((d - 1:Nat):Int):=by omega
   first | rw[ez] | rw[ez2] | (rw[show (if (0:Int) < (d:Int) - 1 then (d:Int) - 1 else 0) = ((d - 1:Nat):Int) from ez])
  rw[decide_eq_false h2]
  rw[if_neg h2] at ho
  walk_at "p"
  by_cases hd:d = 0
  ·rw[decide_eq_true (by omega)]
   subst hd
   walk_at "p"
   by_cases hb:w = "back"
   ·rw[decide_eq_true hb]
    rw[if_pos ⟨rfl,hb⟩] at ho
    walk_at "p"
    rw[<- ho] at q
    exact q
   rw[decide_eq_false hb]
   rw[if_neg (fun z=>hb z.2)] at ho
   walk_at "p"
   rw[decide_eq_true (show ((0:Nat):Int) = 0 from rfl)]
   walk_at "p"
   by_cases hb2:w = "fore"
   ·rw[decide_eq_true hb2]
    rw[if_pos ⟨rfl,hb2⟩] at ho
    walk_at "p"
    rw[<- ho] at q
    exact q
   rw[decide_eq_false hb2]
   rw[if_neg (fun z=>hb2 z.2)] at ho
   walk_at "p"
   exact⟨0,_,rfl,ho⟩
  ·rw[decide_eq_false (by omega)]
   rw[if_neg (fun z=>hd z.1),if_neg (fun z=>hd z.1)] at ho
   walk_at "p"
   rw[decide_eq_false (by omega)]
   walk_at "p"
   exact⟨d,_,rfl,ho⟩
 rintro ρ ⟨d,v3,rfl,ho⟩
 rw[length_map,drop_length,obF] at ho
 walk_at "p"
 rw[<- ho] at q
 exact q
def opP:Option Int->PV
 | none=>.non
 | some l=>.int l
def Ale:PSp:=fun ps P=>∃ k l m,ps = [.str k,.int l,.int m]/\P (opP (lvF k l m))
theorem AnE (T:Txt K mg t):Binds K t.d_qm ["kind","level","most"] []:=T.F_qm.binds fun _ _ _ _ _ _ us hl=>match us,hl with | [_,_,_],_=>rfl
theorem AmD (T:Txt K mg t):FnOk P w K mg base CX0 1 t.f_qm t.d_qm ["kind","level","most"] (spOf K t.C_Book [false,false,false] .sh Ale):=by
 refine T.F_qm.ok sc_qm (fun vs H Q E h=>h.len) (fun cdv A outer s H vs Q E hr h=>?_)
 have hu:=Cp hr
 have hu64:=hr.units
 refine⟨_,(Bc (Bl (i:=3) sc_qm.nd rfl (Or.inl rfl) (Gs (Cd Dj (pv 0) Bw (Ci _)) Be Be))
   (Bc (Bl (i:=4) sc_qm.nd rfl (Or.inl rfl) (Cb Fw (pv 1) Be))
   (Bc (De (Cd Yz (Cb Dm (pv 4) Be) (pv 3) (Ci _))
    (Bf (AdQ (i:=4) sc_qm.nd rfl (Or.inl rfl) Be Aeb))
    Ct)
   (Bf (Cc (Gs (Cd Agm (pv 4) (pv 2) (Ci _)) (pv 4) Ux)))))),?_⟩
 try dsimp only [Ck,Bx]
 refine Cq h (by decide) (Bk (Bu (Nz (Cw (EU.eb (Dv Bb (EU.eb Cn)))) Bg Bg))
   (Bk (Bu (Fa (fun _ _ _=>.int _) Bb (EU.eb Bg)))
   (Bk (Dl (Cw (EU.eb (Acq (EU.eb (Cz (fun _ _ _=>.int _) Bb (EU.eb Bg))) Bb)))
    (AdI (EU.eb Bg))
    Df)
   (Dq (Nz (Cw (EU.eb (Fa (fun _ _ _=>.bl _) Bb Bb))) Br Uv))))) (fun ps P hp=>?_)
 clear h hu hu64 hr
 obtain⟨k,l,m,rfl,q⟩:=hp
 walk_at "s"
 walk_at "x"
 refine Lc (fun ρ=>ρ = [.bo (.str k),.bo (.int l),.bo (.int m),.sh (.int (if k = "forein" then 0 else 1)),.un]) (fun ρ h=>?_) ?_
 rotate_left
 ·walk_at "p"
  by_cases h1:k = "forein"
  ·rw[decide_eq_true h1,if_pos h1]
   walk_at "p"
   exact .inl rfl
  ·rw[decide_eq_false h1,if_neg h1]
   walk_at "p"
   exact .inl rfl
 subst h
 unfold lvF at q
 generalize (if k = "forein" then (0:Int) else 1) = r at q
 walk_at "x"
 refine Ft ?_
 walk_at "x"
 refine Lc (fun ρ=>ρ = [.bo (.str k),.bo (.int l),.bo (.int m),.sh (.int r),.sh (.int (if (l + 1) % 2 = r then l + 1 else l + 2))]) (fun ρ h=>?_) ?_
 rotate_left
 ·walk_at "p"
  all_goals try decide
  by_cases h1:(l + 1) % 2 = r
  ·rw[decide_eq_true h1,if_pos h1]
   walk_at "p"
   exact .inl rfl
  ·rw[decide_eq_false h1,if_neg h1]
   walk_at "p"
   exact .inl (by rw[Int.add_assoc]; rfl)
 subst h
 generalize (if (l + 1) % 2 = r then l + 1 else l + 2) = z at q
 walk_at "p"
 by_cases h1:z <= m
 ·rw[decide_eq_true h1]
  rw[if_pos h1] at q
  walk_at "p"
  exact q
 ·rw[decide_eq_false h1]
  rw[if_neg h1] at q
  walk_at "p"
  exact q
def nPn (L n:Nat) (x:Nst):PV:=.tup [.int x.1,.int (if x.2.1 < n then x.2.1 else L:Nat),opP x.2.2]
def nP (x:Nst):PV:=.tup [.int x.1,.int x.2.1,opP x.2.2]
theorem Tc {n j:Nat} (h:j < n):ixN n (j:Int) = some j:=by
 unfold ixN
 rw[if_pos (show (0:Int) <= (j:Int) by omega),if_pos (show (j:Int) < (n:Int) by omega),toNat_natCast]
theorem AdF {L n:Nat} {D:List Nst} (h:∀ x ∈ D,x.2.1 = n->False):D.map (nPn L n) = D.map (nPn L (n + 1)):=List.map_congr_left fun x hx=>by
 unfold nPn
 have:¬ x.2.1 = n:=h x hx
 by_cases z:x.2.1 < n
 ·rw[if_pos z,if_pos (by omega)]
 ·rw[if_neg z,if_neg (by omega)]
theorem Aik {kn:List Str} {b m:Int} {L n:Nat} {s:Nat × Nst} (hs:(dF kn b m n)[s.1]? = some s.2) (es:s.2.2.1 = n) (one:∀ x ∈ dF kn b m n,x.2.1 = n->x = s.2) :
  ((dF kn b m n).map fun x:Nst=>PV.tup [.int x.1,.int (if x.2.1 < n then x.2.1 else L:Nat),opP x.2.2]).set s.1 (.tup [.int s.2.1,.int n,opP s.2.2.2]) = (dF kn b m n).map (nPn L (n + 1)):=by
 refine ext_getElem? fun i=>?_
 rw[getElem?_set,getElem?_map,getElem?_map,length_map]
 by_cases z:s.1 = i
 ·subst z
  have:=(List.getElem?_eq_some_iff.mp hs).1
  rw[if_pos rfl,if_pos this,hs]
  show _ = some (PV.tup [.int s.2.1,.int ((if s.2.2.1 < n + 1 then s.2.2.1 else L:Nat):Int),opP s.2.2.2])
  rw[if_pos (show s.2.2.1 < n + 1 by omega),es]
 ·rw[if_neg z]
  cases e:(dF kn b m n)[i]? with
  | none=>rfl
  | some x =>
   have ne:¬ x.2.1 = n:=fun h=>by
    have:=one x (mem_of_getElem? e) h
    subst this
    exact z (Ak7 hs e rfl)
   show some (PV.tup [.int x.1,.int ((if x.2.1 < n then x.2.1 else L:Nat):Int),opP x.2.2]) = some (PV.tup [.int x.1,.int ((if x.2.1 < n + 1 then x.2.1 else L:Nat):Int),opP x.2.2])
   by_cases w:x.2.1 < n
   ·rw[if_pos w,if_pos (by omega)]
   ·rw[if_neg w,if_neg (by omega)]
def wP (w:Nat × Int):PV:=.tup [.int w.1,.int w.2]
def AiB:PSp:=fun ps P=>∃ U M J ts b m,ps = [.bk U M J,.lst (map .int ts),.int b,.int m]/\ts.length <= 300/\P (.lst ((dF (knL U M ts) b m (knL U M ts).length).map nP))
theorem Al7 (T:Txt K mg t):Binds K t.d_qby ["book","text","base","most"] [t.v_nests_of_0]:=T.F_qby.binds 3 rfl fun _ _ _ _ _ _ us hl=>match us,hl with | [_,_,_],_=>⟨_,rfl,rfl⟩
theorem Aha (T:Txt K mg t):Binds K t.d_qby ["book","text","base","most"] []:=T.F_qby.binds 4 rfl fun _ _ _ _ _ _ us hl=>match us,hl with | [_,_,_,_],_=>⟨_,rfl,rfl⟩
theorem Ae3 (T:Txt K mg t):FnOk P w K mg base CX0 5 t.f_qby t.d_qby ["book","text","base","most"] (spOf K t.C_Book [false,false,true,false] .fr AiB):=by
 refine T.F_qby.ok sc_qby (fun vs H Q E h=>h.len) (fun cdv A outer s H vs Q E hr h=>?_)
 have hu:=Cp hr
 have hu64:=hr.units
 refine⟨_,(Bc (Bl (i:=4) sc_qby.nd rfl (Or.inl rfl) (Bn (Ae5 T) (hr.mono (by decide)) rfl T.m_qbv T.F_qbv.kp (AhQ T) .nil Bt (Ba (pv 0) (Ba (pv 1) Bd))))
   (Bc (Bl (i:=5) sc_qby.nd rfl (Or.inl rfl) (Cu Bd))
   (Bc (Bl (i:=6) sc_qby.nd rfl (Or.inl rfl) (Cu Bd))
   (Bc (Bl (i:=7) sc_qby.nd rfl (Or.inl rfl) (pv 2))
   (Bc (Dd PassesOwn.never rfl (Qz (pv 4) rfl T.z_enumerate) (Fu (K':=K) (n:=2) rfl rfl (Cf (Bo (i:=8) sc_qby.nd rfl (Or.inl rfl)) (Cf (Bo (i:=9) sc_qby.nd rfl (Or.inl rfl)) Dw)))
    (Bf (De (Cd (Ji K) (pv 9) (Of (v:=.ref t.a_BEGINNINGS) rfl T.g_BEGINNINGS rfl) rfl)
    (Bc (Co (Fo plainAttrs_list PySem.F.slot_list_append PySem.F.type_list_append Dc (pv 6) (Ba (Fr (Ba (Cg (Ch K) rfl T.z_len PySem.boot_len (Ba (pv 5) Bd)) (Ba (pv 7) Bd))) Bd)))
   (Bc (Bl (i:=10) sc_qby.nd rfl (Or.inl rfl) (Bn (AmD T) (hr.mono (by decide)) rfl T.m_qm T.F_qm.kp (AnE T) .nil Bt (Ba (pv 9) (Ba (pv 7) (Ba (pv 3) Bd)))))
   (Bc (Co (Fo plainAttrs_list PySem.F.slot_list_append PySem.F.type_list_append Dc (pv 5) (Ba (Fr (Ba (pv 8) (Ba (Cg (Ch K) rfl T.z_len PySem.boot_len (Ba (pv 4) Bd)) (Ba (pv 10) Bd)))) Bd)))
   (Bf (De (Jm (Lz (pv 10)))
    (Bf (Bl (i:=7) sc_qby.nd rfl (Or.inl rfl) (pv 10)))
    Ct)))))
    (Bf (De (PW.pt (Sq (Cd Dj (pv 9) Bw (Ci _)) (Qs (Cd Ta (Cg (Ch K) rfl T.z_len PySem.boot_len (Ba (pv 6) Bd)) Be (Ci _)))))
    (Bc (Bl (i:=11) sc_qby.nd rfl (Or.inl rfl) (AlZ plainAttrs_list PySem.F.slot_list_pop PySem.F.type_list_pop AiT (pv 6)))
   (Bc (Bl (i:=12) sc_qby.nd rfl (Or.inl rfl) (Ce (Cj K) (pv 5) (Ce (Cy K) (pv 11) Be (fun _ _=>rfl)) (fun _ _=>rfl)))
   (Bc (Ot (Fr (Ba (Ce (Cy K) (pv 12) Be (fun _ _=>rfl)) (Ba (pv 8) (Ba (Ce (Cy K) (pv 12) Be (fun _ _=>rfl)) Bd)))) (Qm (pv 5) (Ce (Cy K) (pv 11) Be (fun _ _=>rfl)) Jx))
   (Bf (Bl (i:=7) sc_qby.nd rfl (Or.inl rfl) (Ce (Cy K) (pv 11) Be (fun _ _=>rfl)))))))
    Ct)))))
   (Bf (Cc (pv 5)))))))),?_⟩
 try dsimp only [Ck,Bx]
 refine Cq h (by decide) (Bk (Bu (EF.eu (Do (Bp Bb (Bp Bb Bh)))))
   (Bk (Dk (Dn 0 Bh))
   (Bk (Dk (Dn 0 Bh))
   (Bk (Bu Br)
   (Bk (Wa Br (Gv (Da (By (top:=13)) (Da (By (top:=13)) Gc)))
    (Dl (Cw (EU.eb (Tf Br (EU.eb (Tm fun G=>Sa T)))))
    (Bk (Fx (Bs (Gm 2 (Bs (Dr (Bp Bb Bh)) (Bs Br Bh))) Bh))
   (Bk (Bu (Ds (Bp Bb (Bp Bb (Bp Bb Bh)))))
   (Bk (Fx (Bs (Gm 3 (Bs Br (Bs (Dr (Bp Bb Bh)) (Bs Br Bh)))) Bh))
   (Dl (Cw (EU.eb (Lx Bb)))
    (Bu Br)
    Df))))
    (Dl (Vl (Cw (EU.eb (Dv Bb (EU.eb Cn)))) (Cw (EU.eb (Fa (fun _ _ _=>.bl _) (EU.eb (Dr (Bp Bb Bh))) (EU.eb Bg)))))
    (Bk Ajy
   (Bk (Bu (Cv Bb (EU.eb (Dh Bb (EU.eb Bg)))))
   (Bk (Qt (EU.eb (Dh Bb (EU.eb Bg))) (Gm 3 (Bs (Dh Bb (EU.eb Bg)) (Bs Br (Bs (Dh Bb (EU.eb Bg)) Bh)))))
   (Bu (Dh Bb (EU.eb Bg))))))
    Df)))
   Fv))))) (fun ps P hp=>?_)
 clear h hu hu64 hr
 obtain⟨U,M,J,ts,b,m,rfl,hl,q⟩:=hp
 walk_at "s"
 have gl:=(Gh (Cl U M) ts).ln
 walk_at "p"
 refine⟨U,M,J,ts,rfl,hl,?_⟩
 rw[show (map (fun w=>PV.str (knW U M w)) (grp (Cl U M) ts)) = (knL U M ts).map .str by unfold knL; rw[map_map]; rfl]
 have kl:(knL U M ts).length <= 300:=by unfold knL; rw[length_map]; omega
 generalize knL U M ts = kn at q kl
 walk_at "p"
 refine⟨fun n ρ=>∃ (S:Stk) (v8 v9 v10 v11 v12:Sl),NI kn b m n S/\ρ = [.bo (.bk U M J),.bo (.lst (map .int ts)),.sh (.int b),.bo (.int m),.sh (.lst (kn.map .str)),.ow (.lst ((dF kn b m n).map (nPn kn.length n))),.ow (.lst ((wtF b S).map wP)),.sh (.int (chF b S)),v8,v9,v10,v11,v12],⟨[],_,_,_,_,_,.zero,rfl⟩,?_,?_⟩
 ·rintro n p ρ hp ⟨S,v8,v9,v10,v11,v12,hN,rfl⟩
  rw[Oe,getElem?_map,Option.map_map] at hp
  obtain⟨k,hk,rfl⟩:=map_eq_some_iff.mp hp
  have hn:n < kn.length:=(List.getElem?_eq_some_iff.mp hk).1
  have dl:=Ve (kn:=kn) (b:=b) (m:=m) n
  have sl:S.length <= 300:=by
   have:=congrArg length hN.fil
   rw[length_map] at this
   have:=length_filter_le (fun x:Nst=>decide (n <= x.2.1)) (dF kn b m n)
   omega
  dsimp only [Function.comp]
  walk_at "p"
  refine AaC (L:=bgK) (x:=k) ?_
  walk_at "p"
  by_cases h1:k ∈ bgK
  ·rw[decide_eq_true h1]
   obtain⟨e1,hN2⟩:=hN.beg hk h1
   have fin:(dF kn b m n).map (nPn kn.length n) ++ [.tup [.int n,.int (kn.length:Nat),opP (lvF k (chF b S) m)]] = (dF kn b m (n + 1)).map (nPn kn.length (n + 1)):=by
    rw[e1,map_append,AdF fun x hx e=>by have:=hN.later hk (Aaa h1) x (mem_filter.mpr ⟨hx,decide_eq_true (by omega)⟩); omega]
    have:¬ Jr kn n < n + 1:=by
     unfold Jr
     rw[Jg hk,show (0:Int) = ((0:Nat):Int) from rfl,Ql h1]; omega
    show _ = _ ++ [PV.tup [.int n,.int ((if Jr kn n < n + 1 then Jr kn n else kn.length:Nat):Int),opP (lvF k (chF b S) m)]]
    rw[if_neg this]
   have wt:(wtF b S).map wP ++ [.tup [.int ((dF kn b m n).length:Nat),.int (chF b S)]] = (wtF b (S ++ [((dF kn b m n).length,(n,Jr kn n,lvF k (chF b S) m))])).map wP:=by
    rw[Tq,map_append]; rfl
   have ch:=Uh b S ((dF kn b m n).length,(n,Jr kn n,lvF k (chF b S) m))
   walk_at "p"
   rotate_left
   ·rw[length_map,Vz]; omega
   rw[length_map,wt]
   refine⟨k,chF b S,m,rfl,?_⟩
   walk_at "p"
   rotate_left
   ·rw[length_map]; omega
   rw[length_map,fin]
   cases e:lvF k (chF b S) m with
   | none =>
    rw[e] at ch hN2
    refine Lf (by decide) ?_
    walk_at "p"
    exact⟨_,_,_,_,_,_,hN2,by rw[ch]; rfl⟩
   | some l =>
    rw[e] at ch hN2
    refine Nk rfl ?_
    walk_at "p"
    exact⟨_,_,_,_,_,_,hN2,by rw[ch]; rfl⟩
  rw[decide_eq_false h1]
  walk_at "p"
  have keep:(∀ x ∈ dF kn b m n,x.2.1 = n->False)->dF kn b m (n + 1) = dF kn b m n->(dF kn b m n).map (nPn kn.length n) = (dF kn b m (n + 1)).map (nPn kn.length (n + 1)):=fun h e=>by
   rw[e,AdF h]
  by_cases h2:k = "out"
  ·subst h2
   rw[decide_eq_true rfl]
   walk_at "p"
   rw[length_map,Vz]
   rcases eq_nil_or_concat S with e | ⟨S',s,e⟩
   ·rw[decide_eq_false (by rw[e]; exact Int.lt_irrefl 0)]
    walk_at "p"
    obtain⟨e1,hN2⟩:=hN.oth hk h1 fun _=>e
    rw[keep (fun x hx z=>by
     have:=hN.fil
     rw[e] at this
     exact List.filter_eq_nil_iff.mp this x hx (decide_eq_true (by omega))) e1]
    exact⟨S,_,_,_,_,_,hN2,rfl⟩
   ·rw[concat_eq_append] at e
    subst e
    rw[decide_eq_true (by rw[length_append,length_singleton]; omega)]
    obtain⟨e1,hN2,es,one⟩:=hN.out hk
    have hs:=hN.ix s (mem_append_right _ (.head _))
    rw[Tq,map_append,Uh]
    walk_at "p"
    refine Amf (ps:=(wtF b S').map wP) (q:=wP (s.1,chF b S')) rfl ?_
    unfold wP
    walk_at "p"
    refine Dx (l:=dF kn b m n) (f:=nPn kn.length n) (j:=s.1) (a:=s.2) hs rfl ?_
    unfold nPn
    walk_at "p"
    refine Td rfl (Tc (by rw[length_map]; exact (List.getElem?_eq_some_iff.mp hs).1)) ?_
    walk_at "p"
    rw[show ((dF kn b m n).map fun x:Nst=>PV.tup [.int x.1,.int (if x.2.1 < n then x.2.1 else kn.length:Nat),opP x.2.2]).set s.1 (.tup [.int s.2.1,.int n,opP s.2.2.2]) = (dF kn b m (n + 1)).map (nPn kn.length (n + 1)) by rw[e1]; exact Aik hs es one]
    exact⟨S',_,_,_,_,_,hN2,rfl⟩
  ·rw[decide_eq_false h2]
   walk_at "p"
   obtain⟨e1,hN2⟩:=hN.oth hk h1 fun z=>absurd z h2
   rw[keep (fun x hx z=>by have:=hN.later hk h2 x (mem_filter.mpr ⟨hx,decide_eq_true (by omega)⟩); omega) e1]
   exact⟨S,_,_,_,_,_,hN2,rfl⟩
 rintro ρ ⟨S,v8,v9,v10,v11,v12,hN,rfl⟩
 rw[Qx,length_map] at hN ⊢
 walk_at "p"
 rw[show (dF kn b m kn.length).map (nPn kn.length kn.length) = (dF kn b m kn.length).map nP from List.map_congr_left fun x hx=>by
  have:=hN.end x hx
  unfold nPn nP
  by_cases z:x.2.1 < kn.length
  ·rw[if_pos z]
  ·rw[if_neg z,show x.2.1 = kn.length by omega]]
 exact q
def AlG:PSp:=fun ps P=>∃ U M J ts o,ps = [.bk U M J,.lst (map .int ts),opP o]/\ts.length <= 300/\P (.int (o.getD (obF 0 (knL U M ts))))
theorem AnT (T:Txt K mg t):Binds K t.d_qq ["book","text","base"] []:=T.F_qq.binds fun _ _ _ _ _ _ us hl=>match us,hl with | [_,_,_],_=>rfl
theorem AmP (T:Txt K mg t):FnOk P w K mg base CX0 6 t.f_qq t.d_qq ["book","text","base"] (spOf K t.C_Book [false,false,true] .sh AlG):=by
 refine T.F_qq.ok Amh (fun vs H Q E h=>h.len) (fun cdv A outer s H vs Q E hr h=>?_)
 have hu:=Cp hr
 have hu64:=hr.units
 refine⟨_,(Bf (Cc (Gs (Jm (AkP (pv 2))) (Bn (Adh T) (hr.mono (by decide)) rfl T.m_qbz T.F_qbz.kp (Ahj T) .nil Bt (Ba (pv 0) (Ba (pv 1) Bd))) (pv 2)))),?_⟩
 try dsimp only [Ck,Bx]
 refine Cq h (by decide) (Dq (Nz (Cw (EU.eb (Akg Bb))) (Ds (Bp Bb (Bp Bb Bh))) Br)) (fun ps P hp=>?_)
 clear h hu hu64 hr
 obtain⟨U,M,J,ts,o,rfl,hl,q⟩:=hp
 walk_at "s"
 cases o with
 | none =>
  rw[show opP none = .non from rfl]
  walk_at "p"
  refine Nk rfl ?_
  walk_at "p"
  refine⟨U,M,J,ts,rfl,hl,?_⟩
  exact q
 | some b =>
  rw[show opP (some b) = .int b from rfl]
  walk_at "p"
  refine Lf (fun z=>Bool.noConfusion z) ?_
  walk_at "p"
  exact q
def AlT:PSp:=fun ps P=>∃ v:Int,ps = [.int v]/\P (.str (wyF v))
theorem Ajc (T:Txt K mg t):Binds K t.d_qo ["level"] []:=T.F_qo.binds fun _ _ _ _ _ _ us hl=>match us,hl with | [_],_=>rfl
theorem Ag1 (T:Txt K mg t):FnOk P w K mg base CX0 1 t.f_qo t.d_qo ["level"] (spOf K t.C_Book [false] .sh AlT):=by
 refine T.F_qo.ok AmR (fun vs H Q E h=>h.len) (fun cdv A outer s H vs Q E hr h=>?_)
 have hu:=Cp hr
 have hu64:=hr.units
 refine⟨_,(Bf (Cc (Gs (Cd Dj (Cb Dm (pv 0) Be) Be (Ci _)) Bw Bw))),?_⟩
 try dsimp only [Ck,Bx]
 refine Cq h (by decide) (Dq (Nz (Cw (EU.eb (Dv (EU.eb (Cz (fun _ _ _=>.int _) Bb (EU.eb Bg))) (EU.eb Bg)))) Cn Cn)) (fun ps P hp=>?_)
 clear h hu hu64 hr
 obtain⟨v,rfl,q⟩:=hp
 walk_at "s"
 unfold wyF at q
 walk_at "p"
 all_goals try decide
 by_cases h:v % 2 = 0
 ·rw[decide_eq_true h]
  rw[if_pos h] at q
  walk_at "p"
  exact q
 ·rw[decide_eq_false h]
  rw[if_neg h] at q
  walk_at "p"
  exact q
theorem AbD {n:Nat} {z:Int} (h0:0 <= z) (h:z < n):ixN n z = some z.toNat:=by
 unfold ixN
 rw[if_pos h0,if_pos h]
def Al5:PSp:=fun ps P=>∃ (N:List Nst) (n:Nat) (b:Int),ps = [.lst (N.map nP),.int n,.int b]/\N.length <= 300/\n <= 300/\(∀ x ∈ N,x.1 <= n/\x.2.1 <= n)/\P (.lst ((rsF (stF N n b) (hmF (stF N n b) n (stF N n b).length)).map rsP))
theorem AnD (T:Txt K mg t):Binds K t.d_qn ["nests","number","base"] []:=T.F_qn.binds fun _ _ _ _ _ _ us hl=>match us,hl with | [_,_,_],_=>rfl
theorem Amx (T:Txt K mg t):FnOk P w K mg base CX0 1 t.f_qn t.d_qn ["nests","number","base"] (spOf K t.C_Book [false,true,true] .sh Al5):=by
 refine T.F_qn.ok sc_qn (fun vs H Q E h=>h.len) (fun cdv A outer s H vs Q E hr h=>?_)
 have hu:=Cp hr
 have hu64:=hr.units
 refine⟨_,(Bc (Bl (i:=3) sc_qn.nd rfl (Or.inl rfl) (Cb Tg (Cu (Ba (Fr (Ba (Oa Ll Be) (Ba (pv 1) (Ba (pv 2) Bd)))) Bd)) (Rn 1 ["nest"] rfl rfl (Cs (pv 0)) (fun _ _ _ _=>(Bo (i:=0) (show Nodup (["nest"]:List Str) by decide +kernel) rfl (Or.inl rfl))) (fun _ _ _ _=>(Jz (Jm (Lz (Ce (Cy K) (pv 0) Be (fun _ _=>rfl)))))) (fun _ _ _ _=>(pv 0)) (by decide +kernel) (by decide +kernel) rfl (by decide +kernel))))
   (Bc (Bl (i:=4) sc_qn.nd rfl (Or.inl rfl) (Cb We (Cu (Ba Be Bd)) (pv 1)))
   (Bc (Dd PassesOwn.never rfl (Qz (pv 3) rfl T.z_enumerate) (Fu (K':=K) (n:=2) rfl rfl (Cf (Bo (i:=5) sc_qn.nd rfl (Or.inl rfl)) (Cf (Bo (i:=6) sc_qn.nd rfl (Or.inl rfl)) Dw)))
    (Bf (Dd PassesOwn.never rfl (Qe rfl T.z_range (Ba (Cb Fw (Ce (Cy K) (pv 6) Be (fun _ _=>rfl)) Be) (Ba (Ce (Cy K) (pv 6) Be (fun _ _=>rfl)) Bd))) (Bo (i:=7) sc_qn.nd rfl (Or.inl rfl))
    (Bf (Ot (pv 5) (Qm (pv 4) (pv 7) Jx))))))
   (Bc (Rq 1 ["stretch"] rfl rfl (Cs (pv 3)) (fun _ _ _ _=>(Bo (i:=0) (show Nodup (["stretch"]:List Str) by decide +kernel) rfl (Or.inl rfl))) (fun _ _ _ _=>Gb) (fun _ _ _ _=>(Fr (Ba (Ce (Cy K) (pv 0) Be (fun _ _=>rfl)) (Ba (Cu Bd) Bd)))) (by decide +kernel) (by decide +kernel) rfl (by decide +kernel) (fun _=>rfl) (i:=8) sc_qn.nd rfl (Or.inl rfl) rfl)
   (Bc (Dd PassesOwn.never rfl (Qz (pv 4) rfl T.z_enumerate) (Fu (K':=K) (n:=2) rfl rfl (Cf (Bo (i:=7) sc_qn.nd rfl (Or.inl rfl)) (Cf (Bo (i:=5) sc_qn.nd rfl (Or.inl rfl)) Dw)))
    (Bf (Co (Fo plainAttrs_list PySem.F.slot_list_append PySem.F.type_list_append Dc (Ce (Cy K) (Ce (Cj K) (pv 8) (pv 5) (fun _ _=>rfl)) Be (fun _ _=>rfl)) (Ba (pv 7) Bd)))))
   (Bf (Cc (pv 8)))))))),?_⟩
 try dsimp only [Ck,Bx]
 refine Cq h (by decide) (Bk (Bu (EF.eu (Uw (EF.eb (Dn 1 (Bs (Gm 3 (Bs (Ug (fun _ _=>.int _) (EU.eb Bg)) (Bs Br (Bs Br Bh)))) Bh))) (EF.eb (Ga Bb (By (top:=1)) (Cw (EU.eb (Lx (EU.eb (Dh Bb (EU.eb Bg)))))) Br)))))
   (Bk (Dk (Zv (EF.eb (Dn 1 (Bs Bg Bh))) Bb))
   (Bk (Wa Br (Gv (Da (By (top:=9)) (Da (By (top:=9)) Gc)))
    (Sy (Bp (EU.eb (Fa (fun _ _ _=>.int _) (EU.eb (Dh Bb (EU.eb Bg))) (EU.eb Bg))) (Bp (EU.eb (Dh Bb (EU.eb Bg))) Bh)) (By (top:=9))
    (Qt Bb Br)))
   AhX))) (fun ps P hp=>?_)
 clear h hu hu64 hr
 obtain⟨N,n,b,rfl,hl,hn,hN,q⟩:=hp
 walk_at "s"
 walk_at "p"
 refine⟨by rw[length_map]; omega,?_⟩
 refine Ff (S:=N) (enc:=nP) (f:=fun x=>(x.2.2.map fun l=>((x.1:Int),(x.2.1:Int),l)).map stP) ?_ (fun d hd Z hZ=>?_)
 rotate_left
 ·walk_at "c"
  rw[show nP d = .tup [.int d.1,.int d.2.1,opP d.2.2] from rfl]
  walk_at "p"
  cases el:d.2.2 with
  | none =>
   rw[el] at hZ
   refine Lf (by decide) ?_
   exact hZ
  | some l =>
   rw[el] at hZ
   refine Nk rfl ?_
   walk_at "p"
   exact hZ
 rw[show N.filterMap (fun x=>(x.2.2.map fun l=>((x.1:Int),(x.2.1:Int),l)).map stP) = (N.filterMap fun x=>x.2.2.map fun l=>((x.1:Int),(x.2.1:Int),l)).map stP from (List.map_filterMap ..).symm]
 have sl:(stF N n b).length <= 301:=by
  unfold stF
  have:=List.length_filterMap_le (fun x:Nst=>x.2.2.map fun l=>((x.1:Int),(x.2.1:Int),l)) N
  rw[length_cons]; omega
 have sb:∀ s ∈ stF N n b,(-1 <= s.1/\s.1 <= n)/\-1 <= s.2.1/\s.2.1 <= (n:Int):=fun s hs=>by
  unfold stF at hs
  rcases mem_cons.mp hs with rfl | hs
  ·exact⟨⟨Int.le_refl _,by show (-1:Int) <= n; omega⟩,by show (-1:Int) <= n; omega,Int.le_refl _⟩
  ·obtain⟨x,hx,e⟩:=mem_filterMap.mp hs
   obtain⟨l,_,rfl⟩:=map_eq_some_iff.mp e
   have:=hN x hx
   exact⟨⟨by show (-1:Int) <= (x.1:Int); omega,by show (x.1:Int) <= n; omega⟩,by show (-1:Int) <= (x.2.1:Int); omega,by show (x.2.1:Int) <= n; omega⟩
 have sp:0 < (stF N n b).length:=Nat.succ_pos _
 walk_at "x"
 rotate_left
 ·rw[length_map]
  unfold stF at sl
  rw[length_cons] at sl
  show 1 + _ <= _
  omega
 rw[show PV.tup [PV.int (-1),PV.int (n:Int),PV.int b] :: (N.filterMap fun x=>x.2.2.map fun l=>((x.1:Int),(x.2.1:Int),l)).map stP = (stF N n b).map stP from rfl]
 generalize stF N n b = St at q sl sb sp
 refine Ft ?_
 walk_at "x"
 rotate_left
 ·exact⟨by omega,by omega⟩
 rw[toNat_natCast]
 refine Ft ?_
 walk_at "p"
 refine⟨fun j ρ=>∃ v5 v6 v7,ρ = [.bo (.lst (N.map nP)),.sh (.int n),.sh (.int b),.sh (.lst (St.map stP)),.ow (.lst ((hmF St n j).map fun k:Nat=>.int k)),v5,v6,v7,.un],⟨_,_,_,by rw[hmF,List.map_replicate]; rfl⟩,?_,?_⟩
 ·rintro j p ρ hp ⟨v5,v6,v7,rfl⟩
  rw[Oe,getElem?_map,Option.map_map] at hp
  obtain⟨s,hs,rfl⟩:=map_eq_some_iff.mp hp
  obtain⟨⟨s1,s1'⟩,s2',s2⟩:=sb s (mem_of_getElem? hs)
  have hj:=(List.getElem?_eq_some_iff.mp hs).1
  have hm:hmF St n (j + 1) = hmS (hmF St n j) j s.1 s.2.1:=by rw[hmF,hs]
  have hlen:=Og St n j
  dsimp only [Function.comp]
  rw[show stP s = .tup [.int s.1,.int s.2.1,.int s.2.2] from rfl]
  walk_at "p"
  all_goals try exact⟨by omega,by omega,by omega,by omega⟩
  rw[hm]
  generalize hmF St n j = hh at hlen
  refine⟨fun i ρ=>∃ v7,ρ = [.bo (.lst (N.map nP)),.sh (.int n),.sh (.int b),.sh (.lst (St.map stP)),.ow (.lst ((hh.mapIdx fun k x=>if s.1 < (k:Int)/\(k:Int) < s.1 + 1 + i then j else x).map fun k:Nat=>.int k)),.sh (.int j),.sh (.tup [.int s.1,.int s.2.1,.int s.2.2]),v7,.un],⟨_,by rw[Nm hh _ (fun k x _=>if_neg (by omega))]⟩,?_,?_⟩
  ·rintro i ρ hi ⟨v7,rfl⟩
   walk_at "p"
   refine Td rfl (AbD (by omega) (by rw[length_map,length_mapIdx]; omega)) ?_
   walk_at "p"
   rw[<- map_set,AiQ s1 (by omega)]
   exact⟨_,rfl⟩
  ·rintro ρ ⟨v7,rfl⟩
   rw[show (hh.mapIdx fun k x=>if s.1 < (k:Int)/\(k:Int) < s.1 + 1 + ((s.2.1 - (s.1 + 1)).toNat:Int) then j else x) = hmS hh j s.1 s.2.1 by
    unfold hmS
    congr 1
    funext k x
    by_cases z:s.1 < (k:Int)/\(k:Int) < s.2.1
    ·rw[if_pos z,if_pos (by omega)]
    ·rw[if_neg z,if_neg (by omega)]]
   exact⟨_,_,_,rfl⟩
 ·rintro ρ ⟨v5,v6,v7,rfl⟩
  rw[Qx,length_map]
  exact⟨St,_,rfl,rfl,rfl,by omega,by rw[Og]; omega,Zr St n sp _,q⟩
theorem Tz {C:Addr} {G:Hp} (T:Txt K mg t):Rep K C G (.ref t.a_LEADING_KINDS) (.ctp [.str "fore",.str "back",.str "num"]):=.ctp T.q_LEADING_KINDS rfl fun i v p h1 h2=>by
 match i,h1,h2 with
 | 0,h1,h2=>cases h1; cases h2; exact .str _
 | 1,h1,h2=>cases h1; cases h2; exact .str _
 | 2,h1,h2=>cases h1; cases h2; exact .str _
 | _ + 3,h1,_=>simp at h1
def AlH:PSp:=fun ps P=>∃ (ks:List Str) (own:Str),ps = [.lst (ks.map .str),.str own]/\ks.length <= 1000/\P (.lst ((ldF own ks).map osP))
theorem An8 (T:Txt K mg t):Binds K t.d_qk ["kinds","own"] []:=T.F_qk.binds fun _ _ _ _ _ _ us hl=>match us,hl with | [_,_],_=>rfl
theorem Amc (T:Txt K mg t):FnOk P w K mg base CX0 1 t.f_qk t.d_qk ["kinds","own"] (spOf K t.C_Book [false,true] .fr AlH):=by
 refine T.F_qk.ok sc_qk (fun vs H Q E h=>h.len) (fun cdv A outer s H vs Q E hr h=>?_)
 have hu:=Cp hr
 have hu64:=hr.units
 refine⟨_,(Bc (Bl (i:=2) sc_qk.nd rfl (Or.inl rfl) (Cu Bd))
   (Bc (Bl (i:=3) sc_qk.nd rfl (Or.inl rfl) (pv 1))
   (Bc (Dd PassesOwn.never rfl (Cs (pv 0)) (Bo (i:=4) sc_qk.nd rfl (Or.inl rfl))
    (Bc (De (PW.pt (Lo (Cd Dj (pv 4) Bw (Ci _)) (Qn (Cd Dj (pv 4) Bw (Ci _)))))
    (Bf (Bl (i:=3) sc_qk.nd rfl (Or.inl rfl) (pv 4)))
    Ct)
   (Bf (Co (Fo plainAttrs_list PySem.F.slot_list_append PySem.F.type_list_append Dc (pv 2) (Ba (Gs (Cd (Ji K) (pv 4) (Of (v:=.ref t.a_LEADING_KINDS) rfl T.g_LEADING_KINDS rfl) rfl) (pv 3) Ux) Bd))))))
   (Bf (Cc (pv 2)))))),?_⟩
 try dsimp only [Ck,Bx]
 refine Cq h (by decide) (Bk (Dk (Dn 0 Bh))
   (Bk (Bu Br)
   (Bk (Ni (By (top:=5))
    (Bk (Dl (Nj (Cw (EU.eb (Dv Bb (EU.eb Cn)))) (Cw (EU.eb (Dv Bb (EU.eb Cn)))))
    (Bu Br)
    Df)
   (Fx (Bs (Nz (Cw (EU.eb (Tf Br (EU.eb (Tm fun G=>Tz T))))) Br Uv) Bh))))
   Fv))) (fun ps P hp=>?_)
 clear h hu hu64 hr
 obtain⟨ks,own,rfl,hl,q⟩:=hp
 walk_at "s"
 walk_at "p"
 refine⟨fun n ρ=>∃ (A:List (Option Str)) (l:Str) (v4:Sl),ρ = [.bo (.lst (ks.map .str)),.sh (.str own),.ow (.lst (A.map osP)),.sh (.str l),v4]/\A.length = n/\A ++ ldF l (ks.drop n) = ldF own ks,⟨[],own,_,rfl,rfl,rfl⟩,?_,?_⟩
 ·rintro n p ρ hp ⟨A,l,v4,rfl,al,he⟩
  rw[getElem?_map] at hp
  obtain⟨k,hk,rfl⟩:=map_eq_some_iff.mp hp
  have hn:n < ks.length:=(List.getElem?_eq_some_iff.mp hk).1
  rw[Jg hk,ldF] at he
  walk_at "x"
  refine Lc (fun ρ=>ρ = [.bo (.lst (ks.map .str)),.sh (.str own),.ow (.lst (A.map osP)),.sh (.str (if k = "fore"\/k = "back" then k else l)),.sh (.str k)]) (fun ρ h=>?_) ?_
  rotate_left
  ·walk_at "p"
   by_cases h1:k = "fore"
   ·rw[decide_eq_true h1,show (if k = "fore"\/k = "back" then k else l) = k from if_pos (.inl h1)]
    walk_at "p"
    exact .inl rfl
   ·rw[decide_eq_false h1]
    walk_at "p"
    by_cases h2:k = "back"
    ·rw[decide_eq_true h2,show (if k = "fore"\/k = "back" then k else l) = k from if_pos (.inr h2)]
     walk_at "p"
     exact .inl rfl
    ·rw[decide_eq_false h2,show (if k = "fore"\/k = "back" then k else l) = l from if_neg (fun z=>z.elim h1 h2)]
     walk_at "p"
     exact .inl rfl
  subst h
  generalize (if k = "fore"\/k = "back" then k else l) = l' at he
  walk_at "p"
  refine AaC (L:=ldK) (x:=k) ?_
  walk_at "p"
  by_cases h1:k ∈ ldK
  ·rw[decide_eq_true h1]
   rw[if_pos h1] at he
   walk_at "p"
   rotate_left
   ·rw[length_map]; omega
   exact⟨A ++ [some l'],l',_,by rw[map_append]; rfl,by rw[length_append,al]; rfl,by rw[append_assoc]; exact he⟩
  ·rw[decide_eq_false h1]
   rw[if_neg h1] at he
   walk_at "p"
   rotate_left
   ·rw[length_map]; omega
   exact⟨A ++ [none],l',_,by rw[map_append]; rfl,by rw[length_append,al]; rfl,by rw[append_assoc]; exact he⟩
 rintro ρ ⟨A,l,v4,rfl,al,he⟩
 rw[length_map,drop_length,ldF,append_nil] at he
 walk_at "p"
 rw[he]
 exact q
def mtF (M:List (Int × Int)) (n:Int):Option Int:=match Sc M n with
 | .int z=>some z
 | _=>none
theorem AdT:∀ (M:List (Int × Int)),∀ kv ∈ kB M,∃ z:Int,kv.2 = .int z
 | [],kv,h=>by cases h
 | m :: r,kv,h=>by
  rcases mem_cons.mp h with rfl | h
  ·exact⟨_,rfl⟩
  ·rcases mem_cons.mp h with rfl | h
   ·exact⟨_,rfl⟩
   ·exact AdT r kv h
theorem Aia (M:List (Int × Int)) (n:Int):Sc M n = opP (mtF M n):=by
 have:Sc M n = .non\/∃ z,Sc M n = .int z:=by
  unfold Sc Cr
  cases e:(kB M).find? (fun kv=>decide (kv.1 = Sum.inl n)) with
  | none=>exact .inl rfl
  | some kv =>
   obtain⟨z,hz⟩:=AdT M kv (List.mem_of_find?_eq_some e)
   refine .inr ⟨z,?_⟩
   show vP kv.2 = _
   rw[hz]; rfl
 unfold mtF
 rcases this with h | ⟨z,h⟩ <;> rw[h] <;> rfl
theorem AjB {o:Option Int} {b:Int} {P:PV->Prop} (q:P (.bl (decide (o = some b)))):Af7 false (opP o) (.int b) P:=by
 cases o with
 | none=>exact⟨false,.ni,q⟩
 | some c =>
  refine⟨_,.ii,?_⟩
  rw[show decide (c = b) = decide (some c = some b) from decide_eq_decide.mpr ⟨fun z=>by rw[z],fun z=>Option.some.inj z⟩]
  exact q
def ppP (p:Nat × Nat):PV:=.tup [.int p.1,.int p.2]
theorem Aib (w:List Nat):enP (w.map fun a:Nat=>PV.int a) = (w.mapIdx fun j a=>(j,a)).map fun q:Nat × Nat=>PV.tup [.int q.1,.int q.2]:=by
 refine ext_getElem? fun i=>?_
 rw[Oe,getElem?_map,getElem?_map,getElem?_mapIdx,Option.map_map,Option.map_map]
 rfl
theorem Ac7 {mt:Int->Option Int} {bs:List Int} {w:List Nat} {b:Int}:∀ j ∈ Qh mt bs w b,j < w.length:=fun j hj=>by
 unfold Qh at hj
 obtain⟨q,hq,h⟩:=mem_filterMap.mp hj
 obtain⟨i,hi⟩:=getElem?_of_mem hq
 rw[getElem?_mapIdx] at hi
 obtain⟨a,ha,rfl⟩:=map_eq_some_iff.mp hi
 split at h
 ·cases h; exact (List.getElem?_eq_some_iff.mp ha).1
 ·cases h
theorem Aat {mt:Int->Option Int} {ks:List Str} {bs:List Int}:∀ n,(∀ p ∈ (prF mt ks bs n).1,p.1 < n/\p.2 < n)/\(∀ a ∈ (prF mt ks bs n).2,a < n)/\(prF mt ks bs n).2.length <= n/\(prF mt ks bs n).1.length <= n
 | 0=>⟨fun p h=>(by cases h),fun p h=>(by cases h),Nat.le_refl _,Nat.le_refl _⟩
 | n + 1=>by
  obtain⟨h1,h2,h3,h4⟩:=Aat (mt:=mt) (ks:=ks) (bs:=bs) n
  have same:(∀ p ∈ (prF mt ks bs n).1,p.1 < n + 1/\p.2 < n + 1)/\(∀ a ∈ (prF mt ks bs n).2,a < n + 1)/\(prF mt ks bs n).2.length <= n + 1/\(prF mt ks bs n).1.length <= n + 1:=⟨fun p hp=>by have:=h1 p hp; omega,fun a ha=>by have:=h2 a ha; omega,by omega,by omega⟩
  rw[prF]
  split
  ·refine⟨same.1,fun a ha=>?_,by rw[length_append,length_singleton]; omega,same.2.2.2⟩
   rcases mem_append.mp ha with ha | ha
   ·exact same.2.1 a ha
   ·rw[mem_singleton.mp ha]; omega
  ·split
   ·split
    ·exact same
    ·rename_i j hj
     have hj2:=Ac7 (mt:=mt) (bs:=bs) (w:=(prF mt ks bs n).2) (b:=(bs[n]?).getD 0) j (List.mem_of_getLast? hj)
     refine⟨fun p hp=>?_,fun a ha=>same.2.1 a (List.mem_of_mem_take ha),by rw[length_take]; omega,by rw[length_append,length_singleton]; omega⟩
     rcases mem_append.mp hp with hp | hp
     ·exact same.1 p hp
     ·rw[mem_singleton.mp hp,getElem?_eq_getElem hj2]
      have:=h2 _ (getElem_mem hj2)
      exact⟨by show (prF mt ks bs n).2[j] < n + 1; omega,lt_succ_self _⟩
   ·exact same
def AkU:PSp:=fun ps P=>∃ U M J ks bs,ps = [.bk U M J,.lst (map .str ks),.lst (map .int bs)]/\ks.length = bs.length/\bs.length <= 1000/\P (.lst ((prF (mtF M) ks bs ks.length).1.map ppP))
theorem Amz (T:Txt K mg t):Binds K t.d_qca ["book","kinds","bases"] []:=T.F_qca.binds fun _ _ _ _ _ _ us hl=>match us,hl with | [_,_,_],_=>rfl
theorem Ajh (T:Txt K mg t):FnOk P w K mg base CX0 2 t.f_qca t.d_qca ["book","kinds","bases"] (spOf K t.C_Book [false,true,false] .fr AkU):=by
 refine T.F_qca.ok sc_qca (fun vs H Q E h=>h.len) (fun cdv A outer s H vs Q E hr h=>?_)
 have hu:=Cp hr
 have hu64:=hr.units
 refine⟨_,(Bc (Bl (i:=3) sc_qca.nd rfl (Or.inl rfl) (Cu Bd))
   (Bc (Bl (i:=4) sc_qca.nd rfl (Or.inl rfl) (Cu Bd))
   (Bc (Dd PassesOwn.never rfl (Qz (pv 1) rfl T.z_enumerate) (Fu (K':=K) (n:=2) rfl rfl (Cf (Bo (i:=5) sc_qca.nd rfl (by first | exact Or.inl rfl | exact Or.inr rfl)) (Cf (Bo (i:=6) sc_qca.nd rfl (Or.inl rfl)) Dw)))
    (Bf (De (Cd Dj (pv 6) Bw (Ci _))
    (Bf (Co (Fo plainAttrs_list PySem.F.slot_list_append PySem.F.type_list_append Dc (pv 4) (Ba (pv 5) Bd))))
    (Bf (De (Cd Dj (pv 6) Bw (Ci _))
    (Bc (Rj 2 [0,2,5] ["place","at","book","bases","k"] ["k","book","bases"] rfl (Qz (pv 4) rfl T.z_enumerate) rfl (fun j y e1 i e2=>match j,e1,e2 with | 0,e1,e2=>by cases e1; cases e2; exact⟨rfl,rfl,rfl,by decide +kernel⟩ | 1,e1,e2=>by cases e1; cases e2; exact⟨rfl,rfl,rfl,by decide +kernel⟩ | 2,e1,e2=>by cases e1; cases e2; exact⟨rfl,rfl,rfl,by decide +kernel⟩ | _ + 3,_,e2=>by simp at e2) (forall_mem_cons.mpr ⟨rfl,forall_mem_cons.mpr ⟨rfl,forall_mem_cons.mpr ⟨rfl,fun _ h=>nomatch h⟩⟩⟩) (by decide +kernel) (fun _ _ _ _=>(Fu (K':=K) (n:=2) rfl rfl (Cf (Bo (i:=0) (show Nodup (["place","at","book","bases","k"]:List Str) by decide +kernel) rfl (Or.inl rfl)) (Cf (Bo (i:=1) (show Nodup (["place","at","book","bases","k"]:List Str) by decide +kernel) rfl (Or.inl rfl)) Dw)))) (fun _ _ _ _=>(Jz (Cd (Alb K hu64) (Vx (pv 2) T.cl_Book T.M_qbi (Alo T) (hr.mono (by decide)) (Ans T) .nil Bt (Ba (Ce (Cj K) (pv 3) (pv 1) (fun _ _=>rfl)) Bd)) (Ce (Cj K) (pv 3) (pv 4) (fun _ _=>rfl)) (Ci _)))) (fun _ _ _ _=>(pv 0)) rfl (by decide +kernel) rfl (by decide +kernel) (fun _=>rfl) (i:=7) sc_qca.nd rfl (Or.inl rfl) rfl)
   (Bf (De (Cd Ta (Cg (Ch K) rfl T.z_len PySem.boot_len (Ba (pv 7) Bd)) Be (Ci _))
    (Bc (Co (Fo plainAttrs_list PySem.F.slot_list_append PySem.F.type_list_append Dc (pv 3) (Ba (Fr (Ba (Ce (Cj K) (pv 4) (Ce (Cj K) (pv 7) (Oa Ll Be) (fun _ _=>rfl)) (fun _ _=>rfl)) (Ba (pv 5) Bd))) Bd)))
   (Bf (Bl (i:=4) sc_qca.nd rfl (Or.inl rfl) (Nh (Ls K) (pv 4) Wg (Jh (Ce (Cj K) (pv 7) (Oa Ll Be) (fun _ _=>rfl)))))))
    Ct)))
    Ct)))))
   (Bf (Cc (pv 3)))))),?_⟩
 try dsimp only [Ck,Bx]
 refine Cq h (by decide) (Bk (Dk (Dn 0 Bh))
   (Bk (Dk (Dn 0 Bh))
   (Bk (Wa Br (Gv (Da (By (top:=8)) (Da (By (top:=8)) Gc)))
    (Dl (Cw (EU.eb (Dv Bb (EU.eb Cn))))
    (Fx (Bs Br Bh))
    (Dl (Cw (EU.eb (Dv Bb (EU.eb Cn))))
    (Bk (Bu (EF.eu (AfQ Bb (Gv (Da (By (top:=2)) (Da (By (top:=2)) Gc))) (Cw (EU.eb (AkD (EU.eb (AiJ Bb (EU.eb (Cv Bb Bb)))) (EU.eb (Cv Bb Bb))))) Br)))
   (Dl (Cw (EU.eb (Fa (fun _ _ _=>.bl _) (EU.eb (Dr (Bp Bb Bh))) (EU.eb Bg))))
    (Bk (Fx (Bs (Gm 2 (Bs (Cv Bb (EU.eb (Cv Bb (EU.eb (Ug (fun _ _=>.int _) (EU.eb Bg)))))) (Bs Br Bh))) Bh))
   (Dk (Rb Bb Vt (Jd (EU.eb (Cv Bb (EU.eb (Ug (fun _ _=>.int _) (EU.eb Bg)))))))))
    Df))
    Df)))
   Fv))) (fun ps P hp=>?_)
 clear h hu hu64 hr
 obtain⟨U,M,J,ks,bs,rfl,hl,hb,q⟩:=hp
 walk_at "s"
 walk_at "p"
 refine⟨fun n ρ=>∃ (v5 v6 v7:Sl),ρ = [.bo (.bk U M J),.sh (.lst (ks.map .str)),.bo (.lst (bs.map .int)),.ow (.lst ((prF (mtF M) ks bs n).1.map ppP)),.ow (.lst ((prF (mtF M) ks bs n).2.map fun a:Nat=>.int a)),v5,v6,v7],⟨_,_,_,rfl⟩,?_,?_⟩
 ·rintro n p ρ hp ⟨v5,v6,v7,rfl⟩
  rw[Oe,getElem?_map,Option.map_map] at hp
  obtain⟨k,hk,rfl⟩:=map_eq_some_iff.mp hp
  have hn:n < ks.length:=(List.getElem?_eq_some_iff.mp hk).1
  obtain⟨b,hbn⟩:∃ b,bs[n]? = some b:=⟨_,getElem?_eq_getElem (by omega)⟩
  obtain⟨w1,w2,w3⟩:=Aat (mt:=mtF M) (ks:=ks) (bs:=bs) n
  have e:=Tt (mtF M) ks bs n
  rw[hk] at e
  generalize prF (mtF M) ks bs n = X at w1 w2 w3 e
  obtain⟨pp,w⟩:=X
  dsimp only [Function.comp] at *
  walk_at "p"
  by_cases h1:k = "open"
  ·rw[if_pos (by rw[h1])] at e
   rw[decide_eq_true h1]
   walk_at "p"
   rotate_left
   ·rw[length_map]; omega
   exact⟨_,_,_,by rw[e,map_append]; rfl⟩
  rw[if_neg (fun z=>h1 (Option.some.inj z))] at e
  rw[decide_eq_false h1]
  walk_at "p"
  by_cases h2:k = "shut"
  ·rw[if_pos (by rw[h2]),hbn] at e
   rw[decide_eq_true h2]
   walk_at "x"
   refine Ft ?_
   walk_at "x"
   refine⟨by rw[length_map]; omega,?_⟩
   rw[Aib]
   refine Ff (S:=w.mapIdx fun j a=>(j,a)) (enc:=fun q:Nat × Nat=>PV.tup [.int q.1,.int q.2]) (f:=fun q=>if (bs[q.2]?).bind (mtF M) = some b then some (.int q.1) else none) ?_ (fun d hd Z hZ=>?_)
   rotate_left
   ·obtain⟨j,hj⟩:=getElem?_of_mem hd
    rw[getElem?_mapIdx] at hj
    obtain⟨a,ha,rfl⟩:=map_eq_some_iff.mp hj
    have han:=w2 a (mem_of_getElem? ha)
    obtain⟨c,hc⟩:∃ c,bs[a]? = some c:=⟨_,getElem?_eq_getElem (by omega)⟩
    have hZ2:Z (if mtF M c = some b then some (.int (j:Nat)) else none):=by
     have:((bs[(j,a).2]?).bind (mtF M)) = mtF M c:=by show (bs[a]?).bind _ = _; rw[hc]; rfl
     rw[this] at hZ; exact hZ
    walk_at "c"
    walk_at "p"
    refine Dx (l:=bs) (f:=PV.int) (j:=a) (a:=c) hc rfl ?_
    walk_at "p"
    refine Dx (l:=bs) (f:=PV.int) (j:=n) (a:=b) hbn rfl ?_
    rw[Aia]
    refine AjB ?_
    by_cases h3:mtF M c = some b
    ·rw[decide_eq_true h3]
     rw[if_pos h3] at hZ2
     walk_at "p"
     exact hZ2
    ·rw[decide_eq_false h3]
     rw[if_neg h3] at hZ2
     walk_at "p"
     exact hZ2
   rw[show (w.mapIdx fun j a=>(j,a)).filterMap (fun q=>if (bs[q.2]?).bind (mtF M) = some b then some (PV.int (q.1:Nat)) else none) = (Qh (mtF M) bs w b).map fun a:Nat=>PV.int a by
    unfold Qh
    rw[List.map_filterMap]
    congr 1
    funext q
    split <;> rfl]
   have ft:=Ac7 (mt:=mtF M) (bs:=bs) (w:=w) (b:=b)
   rw[show (some b).getD 0 = b from rfl] at e
   generalize Qh (mtF M) bs w b = fit at ft e
   walk_at "p"
   rcases eq_nil_or_concat fit with z | ⟨f',j,z⟩
   ·subst z
    rw[decide_eq_false (by simp)]
    walk_at "p"
    have e2:prF (mtF M) ks bs (n + 1) = (pp,w):=e
    exact⟨_,_,_,by rw[e2]⟩
   ·rw[concat_eq_append] at z
    subst z
    have hj:=ft j (mem_append_right _ (.head _))
    obtain⟨a,ha⟩:∃ a,w[j]? = some a:=⟨_,getElem?_eq_getElem hj⟩
    rw[List.getLast?_concat] at e
    dsimp only at e
    rw[ha] at e
    rw[decide_eq_true (by rw[length_map,length_append,length_singleton]; omega)]
    walk_at "p"
    refine Nl (by rw[map_append]; exact Js _ _) ?_
    refine Dx (l:=w) (f:=fun a:Nat=>PV.int a) (j:=j) (a:=a) ha rfl ?_
    walk_at "p"
    rotate_left
    ·rw[length_map]; omega
    refine Nl (by rw[map_append]; exact Js _ _) ?_
    walk_at "p"
    rw[Rv,Agr]
    have e1:(prF (mtF M) ks bs (n + 1)).1.map ppP = pp.map ppP ++ [.tup [.int (a:Nat),.int (n:Nat)]]:=by rw[e,map_append]; rfl
    have e2:(prF (mtF M) ks bs (n + 1)).2 = w.take j:=by rw[e]
    exact⟨_,_,_,by rw[e1,e2]⟩
  ·rw[if_neg (fun z=>h2 (Option.some.inj z))] at e
   rw[decide_eq_false h2]
   walk_at "p"
   exact⟨_,_,_,by rw[e]⟩
 rintro ρ ⟨v5,v6,v7,rfl⟩
 rw[Qx,length_map]
 walk_at "p"
 exact q
theorem Aam {ks:List Nat} {vs acc:List Int} {k:Nat} (h:¬ k ∈ ks):(lpF acc ks vs)[k]? = acc[k]?:=by
 unfold lpF
 induction ks generalizing vs acc with
 | nil=>rfl
 | cons x r ih =>
  cases vs with
  | nil=>rfl
  | cons v vs =>
   rw[List.zip_cons_cons,foldl_cons,ih (fun z=>h (.tail _ z))]
   show (acc.set x v)[k]? = _
   rw[getElem?_set,if_neg (fun z=>h (by rw[z]; exact .head _))]
theorem Amo {ks:List Nat} {vs acc:List Int} {k p:Nat} (nd:ks.Nodup) (hp:ks[p]? = some k) (hk:k < acc.length) (hv:p < vs.length):(lpF acc ks vs)[k]? = vs[p]?:=by
 induction ks generalizing vs acc p with
 | nil=>simp at hp
 | cons x r ih =>
  cases vs with
  | nil=>simp at hv
  | cons v vs =>
   show (lpF (acc.set x v) r vs)[k]? = _
   cases p with
   | zero =>
    rw[List.getElem?_cons_zero] at hp
    cases hp
    rw[Aam (nodup_cons.mp nd).1,getElem?_set,if_pos rfl,if_pos hk]; rfl
   | succ p =>
    rw[List.getElem?_cons_succ] at hp ⊢
    exact ih (nodup_cons.mp nd).2 hp (by rw[length_set]; exact hk) (by simpa using hv)
theorem Ac1 (mt:Int->Option Int) (ks:List Str) (bs:List Int):∀ (rows:List (Int × List Nat)) (acc:List Int),(∀ r ∈ rows,r.2.Nodup/\∀ k ∈ r.2,k < acc.length)->rows.Pairwise (fun r q=>∀ k ∈ r.2,¬ k ∈ q.2) ->
  ∀ r ∈ rows,pkF (lvA mt ks bs rows acc) r.2 = rwF mt (pkF ks r.2) (pkF bs r.2) r.1
 | [],_,_,_,r,h=>by cases h
 | q :: l,acc,hk,pw,r,hr=>by
  have ih:=Ac1 mt ks bs l (lpF acc q.2 (rwF mt (pkF ks q.2) (pkF bs q.2) q.1)) (fun r' hr'=>by rw[Abs]; exact hk r' (.tail _ hr')) (List.pairwise_cons.mp pw).2
  rcases mem_cons.mp hr with rfl | hr
  ·have no:∀ (l':List (Int × List Nat)) (a:List Int) (k:Nat),(∀ r' ∈ l',¬ k ∈ r'.2)->(lvA mt ks bs l' a)[k]? = a[k]?:=fun l'=>by
    induction l' with
    | nil=>intro a k _; rfl
    | cons x y ih2 =>
     intro a k h
     show (lvA mt ks bs y (lpF a x.2 _))[k]? = _
     rw[ih2 _ k (fun r' hr'=>h r' (.tail _ hr')),Aam (h x (.head _))]
   have vl:(rwF mt (pkF ks r.2) (pkF bs r.2) r.1).length = r.2.length:=by rw[Wi]; unfold pkF; rw[length_map]
   refine ext_getElem? fun p=>?_
   unfold pkF
   rw[getElem?_map]
   cases e:r.2[p]? with
   | none=>rw[getElem?_eq_none (by have:=List.getElem?_eq_none_iff.mp e; show (rwF mt (pkF ks r.2) (pkF bs r.2) r.1).length <= p; omega)]; rfl
   | some k =>
    have hp:=(List.getElem?_eq_some_iff.mp e).1
    have hkm:=mem_of_getElem? e
    show some (((lvA mt ks bs l (lpF acc r.2 (rwF mt (pkF ks r.2) (pkF bs r.2) r.1)))[k]?).getD default) = (rwF mt (pkF ks r.2) (pkF bs r.2) r.1)[p]?
    rw[no l _ k (fun r' hr'=>(List.pairwise_cons.mp pw).1 r' hr' k hkm),Amo (hk r (.head _)).1 e ((hk r (.head _)).2 k hkm) (by omega),getElem?_eq_getElem (by omega)]; rfl
  ·exact ih r hr
def plK (k:Str):Str:=if k ∈ bgK\/k = "out" then "plain" else k
theorem Adf (k:Str):(plK k = k/\¬ (k ∈ bgK\/k = "out"))\/(plK k = "plain"/\(k ∈ bgK\/k = "out")):=by
 unfold plK
 by_cases h:k ∈ bgK\/k = "out"
 ·rw[if_pos h]; exact .inr ⟨rfl,h⟩
 ·rw[if_neg h]; exact .inl ⟨rfl,h⟩
theorem Lg {k s:Str} (h1:¬ s = "plain") (h2:¬ (s ∈ bgK\/s = "out")):plK k = s ↔ k = s:=by
 rcases Adf k with ⟨e,h⟩ | ⟨e,h⟩
 ·rw[e]
 ·rw[e]
  exact⟨fun z=>absurd z.symm h1,fun z=>by rw[z] at h; exact absurd h h2⟩
theorem plK_fb {k:Str}:(plK k = "fore"\/plK k = "back") ↔ (k = "fore"\/k = "back"):=by
 rw[Lg (by decide +kernel) (by decide +kernel),Lg (by decide +kernel) (by decide +kernel)]
theorem plK_ld {k:Str}:plK k ∈ ldK ↔ k ∈ ldK:=by
 unfold ldK
 simp only [mem_cons,not_mem_nil,or_false]
 rw[Lg (by decide +kernel) (by decide +kernel),Lg (by decide +kernel) (by decide +kernel),Lg (by decide +kernel) (by decide +kernel)]
theorem Aes:∀ (l:Str) (ks:List Str),ldF l (ks.map plK) = ldF l ks
 | _,[]=>rfl
 | l,k :: r=>by
  rw[map_cons,ldF,ldF]
  have e:(if plK k = "fore"\/plK k = "back" then plK k else l) = (if k = "fore"\/k = "back" then k else l):=by
   by_cases z:k = "fore"\/k = "back"
   ·rw[if_pos z,if_pos (plK_fb.mpr z)]
    rcases z with z | z <;> rw[z] <;> decide +kernel
   ·rw[if_neg z,if_neg (fun y=>z (plK_fb.mp y))]
  rw[e,Aes]
  congr 1
  by_cases z:k ∈ ldK
  ·rw[if_pos z,if_pos (plK_ld.mpr z)]
  ·rw[if_neg z,if_neg (fun y=>z (plK_ld.mp y))]
theorem Aag {α β:Type} {F G:α->Option β}:∀ {l:List α},(∀ x ∈ l,F x = G x)->l.filterMap F = l.filterMap G
 | [],_=>rfl
 | x :: r,h=>by
  have ih:=Aag (l:=r) fun y hy=>h y (.tail _ hy)
  have hx:=h x (.head _)
  cases e:G x with
  | none=>rw[List.filterMap_cons_none (hx.trans e),List.filterMap_cons_none e,ih]
  | some z=>rw[List.filterMap_cons_some (hx.trans e),List.filterMap_cons_some e,ih]
theorem AdJ {mt:Int->Option Int} {bs bs':List Int} {w:List Nat} {b:Int} (h:∀ a ∈ w,bs'[a]? = bs[a]?):Qh mt bs' w b = Qh mt bs w b:=by
 unfold Qh
 refine Aag fun q hq=>?_
 obtain⟨i,hi⟩:=getElem?_of_mem hq
 rw[getElem?_mapIdx] at hi
 obtain⟨a,ha,rfl⟩:=map_eq_some_iff.mp hi
 rw[h a (mem_of_getElem? ha)]
theorem Aby {mt:Int->Option Int} {ks:List Str} {bs:List Int}:∀ n,∀ a ∈ (prF mt ks bs n).2,a < n/\ks[a]? = some ("open" : Str)
 | 0,a,h=>by cases h
 | n + 1,a,h=>by
  have ih:=Aby (mt:=mt) (ks:=ks) (bs:=bs) n
  have same:∀ a ∈ (prF mt ks bs n).2,a < n + 1/\ks[a]? = some ("open" : Str):=fun a ha=>⟨lt_succ_of_lt (ih a ha).1,(ih a ha).2⟩
  rw[prF] at h
  split at h
  ·rename_i hk
   rcases mem_append.mp h with ha | ha
   ·exact same a ha
   ·rw[mem_singleton.mp ha]; exact⟨lt_succ_self _,hk⟩
  ·split at h
   ·split at h
    ·exact same a h
    ·exact same a (List.mem_of_mem_take h)
   ·exact same a h
theorem AdA {mt:Int->Option Int} {ks:List Str} {bs bs':List Int} (h:∀ (a:Nat) (k:Str),ks[a]? = some k->¬ (k ∈ bgK\/k = "out")->bs'[a]? = bs[a]?):∀ n,prF mt (ks.map plK) bs' n = prF mt ks bs n
 | 0=>rfl
 | n + 1=>by
  rw[Tt,Tt,AdA h n,getElem?_map]
  cases e:ks[n]? with
  | none=>rfl
  | some k =>
   show (if some (plK k) = some ("open" : Str) then _ else _) = (if some k = some ("open" : Str) then _ else _)
   by_cases h1:k = "open"
   ·rw[if_pos (show some (plK k) = some ("open" : Str) by rw[h1]; decide +kernel),if_pos (show some k = some ("open" : Str) by rw[h1])]
   ·rw[if_neg (fun z=>h1 (Option.some.inj z)),if_neg (fun z=>h1 ((Lg (by decide +kernel) (by decide +kernel)).mp (Option.some.inj z)))]
    show (if some (plK k) = some ("shut" : Str) then _ else _) = (if some k = some ("shut" : Str) then _ else _)
    by_cases h2:k = "shut"
    ·rw[if_pos (show some (plK k) = some ("shut" : Str) by rw[h2]; decide +kernel),if_pos (show some k = some ("shut" : Str) by rw[h2])]
     rw[h n k e (by rw[h2]; decide +kernel),AdJ fun a ha=>h a _ (Aby n a ha).2 (by decide +kernel)]
    ·rw[if_neg (fun z=>h2 (Option.some.inj z)),if_neg (fun z=>h2 ((Lg (by decide +kernel) (by decide +kernel)).mp (Option.some.inj z)))]
theorem AjJ (k w:Str) (v:Int):lwF (plK k) w v = lwF k w v:=by
 unfold lwF
 by_cases h:k = "num"
 ·rw[if_pos h,if_pos ((Lg (by decide +kernel) (by decide +kernel)).mpr h)]
 ·rw[if_neg h,if_neg (fun z=>h ((Lg (by decide +kernel) (by decide +kernel)).mp z))]
theorem AjL {mt:Int->Option Int} {ks:List Str} {bs bs':List Int} {v:Int} (h:∀ (a:Nat) (k:Str),ks[a]? = some k->¬ (k ∈ bgK\/k = "out")->bs'[a]? = bs[a]?):rwF mt (ks.map plK) bs' v = rwF mt ks bs v:=by
 unfold rwF wrF
 rw[Aes,length_map,AdA h,List.zip_map_left,map_map]
 refine List.map_congr_left fun z _=>?_
 exact AjJ z.1 z.2 v
def arA (D:List Nst) (n:Nat):Nat->List Int
 | 0=>replicate n (-1)
 | j + 1=>match D[j]? with
  | some x=>if x.2.2.isSome then (arA D n j).mapIdx (fun k y=>if x.1 < k/\k < x.2.1 then (j:Int) else y) else arA D n j
  | none=>arA D n j
def lcF (D:List Nst) (j:Nat):Nat:=((D.take j).filter fun x=>x.2.2.isSome).length
def phF (D:List Nst) (z:Int):Nat:=if z < 0 then 0 else 1 + lcF D z.toNat
theorem Jf (D:List Nst) (n:Nat):∀ j,(arA D n j).length = n
 | 0=>length_replicate
 | j + 1=>by
  rw[arA]
  cases D[j]? with
  | none=>exact Jf D n j
  | some x =>
   show (if x.2.2.isSome = true then (arA D n j).mapIdx (fun k y=>if x.1 < k/\k < x.2.1 then (j:Int) else y) else arA D n j:List Int).length = n
   split
   ·rw[length_mapIdx]; exact Jf D n j
   ·exact Jf D n j
theorem Rw {D:List Nst} {j:Nat} {x:Nst} (h:D[j]? = some x):lcF D (j + 1) = lcF D j + (if x.2.2.isSome = true then 1 else 0):=by
 unfold lcF
 rw[Dg h,filter_append,length_append]
 by_cases z:x.2.2.isSome = true
 ·rw[if_pos z,filter_cons_of_pos (p:=fun x:Nst=>x.2.2.isSome) z]; rfl
 ·rw[if_neg z,filter_cons_of_neg (p:=fun x:Nst=>x.2.2.isSome) z]; rfl
theorem Ud {D:List Nst} {i:Nat}:∀ j,i <= j->lcF D i <= lcF D j
 | 0,h=>by rw[Nat.le_zero.mp h]; exact Nat.le_refl _
 | j + 1,h=>by
  rcases Nat.lt_or_ge i (j + 1) with z | z
  ·refine Nat.le_trans (Ud j (by omega)) ?_
   cases e:D[j]? with
   | none =>
    unfold lcF
    have:=List.getElem?_eq_none_iff.mp e
    rw[List.take_of_length_le this,List.take_of_length_le (by omega)]; exact Nat.le_refl _
   | some x=>rw[Rw e]; omega
  ·rw[show i = j + 1 by omega]; exact Nat.le_refl _
theorem Vr:∀ l:List Nst,(l.filterMap fun x=>x.2.2.map fun v=>((x.1:Int),(x.2.1:Int),v)).length = (l.filter fun x=>x.2.2.isSome).length
 | []=>rfl
 | x :: r=>by
  cases e:x.2.2 with
  | none=>rw[List.filterMap_cons_none (by rw[e]; rfl),filter_cons_of_neg (p:=fun x:Nst=>x.2.2.isSome) (by rw[e]; decide),Vr r]
  | some v=>rw[List.filterMap_cons_some (by rw[e]; rfl),filter_cons_of_pos (p:=fun x:Nst=>x.2.2.isSome) (by rw[e]; rfl),length_cons,length_cons,Vr r]
theorem Ahy {D:List Nst} {n j:Nat} {b l:Int} {x:Nst} (h:D[j]? = some x) (hl:x.2.2 = some l):(stF D n b)[1 + lcF D j]? = some ((x.1:Int),(x.2.1:Int),l):=by
 unfold stF
 rw[Nat.add_comm,List.getElem?_cons_succ]
 obtain⟨hj,rfl⟩:=List.getElem?_eq_some_iff.mp h
 have e:D = D.take j ++ D[j] :: D.drop (j + 1):=by rw[<- drop_eq_getElem_cons hj,take_append_drop]
 have e2:D.filterMap (fun x=>x.2.2.map fun v=>((x.1:Int),(x.2.1:Int),v)) = (D.take j).filterMap (fun x=>x.2.2.map fun v=>((x.1:Int),(x.2.1:Int),v)) ++ (((D[j].1:Int),(D[j].2.1:Int),l) :: (D.drop (j + 1)).filterMap (fun x=>x.2.2.map fun v=>((x.1:Int),(x.2.1:Int),v))):=by
  conv=>lhs; rw[e]
  rw[List.filterMap_append,List.filterMap_cons_some (by rw[hl]; rfl)]
 rw[e2,getElem?_append_right (by rw[Vr]; exact Nat.le_refl _),Vr]
 show _ = some _
 rw[show lcF D j - ((D.take j).filter fun x=>x.2.2.isSome).length = 0 from Nat.sub_self _]; rfl
theorem AbQ (D:List Nst) (n:Nat) (b:Int):∀ j,j <= D.length->hmF (stF D n b) n (1 + lcF D j) = (arA D n j).map (phF D)
 | 0,_=>by
  show hmF (stF D n b) n 1 = (replicate n (-1)).map (phF D)
  rw[List.map_replicate]
  show hmS (replicate n 0) 0 (-1) (n:Int) = replicate n 0
  unfold hmS
  refine Nm _ _ fun k x hx=>?_
  rw[List.eq_of_mem_replicate (mem_of_getElem? hx)]
  split <;> rfl
 | j + 1,hj=>by
  have ih:=AbQ D n b j (by omega)
  obtain⟨x,hx⟩:∃ x,D[j]? = some x:=⟨_,getElem?_eq_getElem (by omega)⟩
  rw[Rw hx,arA,hx]
  cases e:x.2.2 with
  | none =>
   show hmF _ n (1 + (lcF D j + 0)) = (if (x.2.2).isSome = true then _ else _:List Int).map _
   rw[e,if_neg (by decide)]
   exact ih
  | some l =>
   show hmF _ n (1 + (lcF D j + 1)) = (if (x.2.2).isSome = true then _ else _:List Int).map _
   rw[e,if_pos (show (some l).isSome = true from rfl),<- Nat.add_assoc,hmF,Ahy hx e]
   show hmS (hmF (stF D n b) n (1 + lcF D j)) (1 + lcF D j) (x.1:Int) (x.2.1:Int) = _
   rw[ih]
   unfold hmS
   refine ext_getElem? fun k=>?_
   rw[getElem?_mapIdx,getElem?_map,getElem?_map,getElem?_mapIdx]
   cases (arA D n j)[k]? with
   | none=>rfl
   | some z =>
    show some (if (x.1:Int) < (k:Int)/\(k:Int) < (x.2.1:Int) then 1 + lcF D j else phF D z) = some (phF D (if x.1 < k/\k < x.2.1 then (j:Int) else z))
    by_cases c:x.1 < k/\k < x.2.1
    ·rw[if_pos c,if_pos (by omega)]
     unfold phF
     rw[if_neg (by omega),toNat_natCast]
    ·rw[if_neg c,if_neg (by omega)]
theorem Uz (D:List Nst) (n:Nat):∀ j,∀ z ∈ arA D n j,z = -1\/∃ i:Nat,i < j/\z = (i:Int)/\∃ x l,D[i]? = some x/\x.2.2 = some l
 | 0,z,h=>.inl (List.eq_of_mem_replicate h)
 | j + 1,z,h=>by
  have ih:=Uz D n j
  have up:(z = -1\/∃ i:Nat,i < j/\z = (i:Int)/\∃ x l,D[i]? = some x/\x.2.2 = some l)->z = -1\/∃ i:Nat,i < j + 1/\z = (i:Int)/\∃ x l,D[i]? = some x/\x.2.2 = some l:=fun h=>h.imp id fun⟨i,h1,h2⟩=>⟨i,by omega,h2⟩
  rw[arA] at h
  cases e:D[j]? with
  | none=>rw[e] at h; exact up (ih z h)
  | some x =>
   rw[e] at h
   cases el:x.2.2 with
   | none =>
    have h:z ∈ (if x.2.2.isSome = true then _ else arA D n j:List Int):=h
    rw[el,if_neg (by decide)] at h
    exact up (ih z h)
   | some l =>
    have h:z ∈ (if x.2.2.isSome = true then (arA D n j).mapIdx (fun k y=>if x.1 < k/\k < x.2.1 then (j:Int) else y) else _:List Int):=h
    rw[el,if_pos (show (some l).isSome = true from rfl)] at h
    obtain⟨k,hk⟩:=getElem?_of_mem h
    rw[getElem?_mapIdx] at hk
    obtain⟨y,hy,e2⟩:=map_eq_some_iff.mp hk
    by_cases c:x.1 < k/\k < x.2.1
    ·rw[if_pos c] at e2
     exact .inr ⟨j,lt_succ_self _,e2.symm,x,l,e,el⟩
    ·rw[if_neg c] at e2
     subst e2
     exact up (ih y (mem_of_getElem? hy))
def spF (A:List Int) (n:Nat) (z:Int):List Nat:=(range n).filter fun k=>decide (A[k]? = some z)
theorem Ajx {D:List Nst} {n i:Nat} {b:Int} {x:Nst} {l:Int} (h:D[i]? = some x) (hl:x.2.2 = some l):(rsF (stF D n b) (hmF (stF D n b) n (stF D n b).length))[1 + lcF D i]? = some (l,spF (arA D n D.length) n i):=by
 have sl:(stF D n b).length = 1 + lcF D D.length:=by
  unfold stF lcF
  rw[length_cons,Vr,take_length]; omega
 unfold rsF
 rw[getElem?_mapIdx,Ahy h hl,sl,AbQ D n b D.length (Nat.le_refl _),length_map,Jf]
 show some (l,_) = some (l,_)
 unfold spF
 congr 2
 refine List.filter_congr fun k hk=>?_
 rw[getElem?_map]
 obtain⟨z,hz⟩:∃ z,(arA D n D.length)[k]? = some z:=⟨_,getElem?_eq_getElem (by rw[Jf]; exact mem_range.mp hk)⟩
 rw[hz]
 refine decide_eq_decide.mpr ?_
 show some (phF D z) = some (1 + lcF D i) ↔ some z = some (i:Int)
 constructor
 ·intro e
  have e:=Option.some.inj e
  rcases Uz D n _ z (mem_of_getElem? hz) with rfl | ⟨i',_,rfl,x',l',hx',hl'⟩
  ·unfold phF at e; rw[if_pos (by decide)] at e; omega
  ·unfold phF at e
   rw[if_neg (by omega),toNat_natCast] at e
   rcases Nat.lt_trichotomy i i' with c | c | c
   ·have h1:=Rw h
    rw[hl,if_pos (show (some l).isSome = true from rfl)] at h1
    have:=Ud (D:=D) i' (show i + 1 <= i' from c)
    omega
   ·rw[c]
   ·have h1:=Rw hx'
    rw[hl',if_pos (show (some l').isSome = true from rfl)] at h1
    have:=Ud (D:=D) i (show i' + 1 <= i from c)
    omega
 ·intro e
  have e:=Option.some.inj e
  rw[e]
  unfold phF
  rw[if_neg (by omega),toNat_natCast]
theorem Ai6 {D:List Nst} {n:Nat} {b:Int}:(rsF (stF D n b) (hmF (stF D n b) n (stF D n b).length))[0]? = some (b,spF (arA D n D.length) n (-1)):=by
 have sl:(stF D n b).length = 1 + lcF D D.length:=by
  unfold stF lcF
  rw[length_cons,Vr,take_length]; omega
 unfold rsF
 rw[getElem?_mapIdx,sl,AbQ D n b D.length (Nat.le_refl _),length_map,Jf]
 show some (b,_) = some (b,_)
 unfold spF
 congr 2
 refine List.filter_congr fun k hk=>?_
 rw[getElem?_map]
 obtain⟨z,hz⟩:∃ z,(arA D n D.length)[k]? = some z:=⟨_,getElem?_eq_getElem (by rw[Jf]; exact mem_range.mp hk)⟩
 rw[hz]
 refine decide_eq_decide.mpr ?_
 show some (phF D z) = some 0 ↔ some z = some (-1)
 constructor
 ·intro e
  have e:=Option.some.inj e
  rcases Uz D n _ z (mem_of_getElem? hz) with rfl | ⟨i',_,rfl,_⟩
  ·rfl
  ·unfold phF at e; rw[if_neg (by omega)] at e; omega
 ·intro e
  rw[Option.some.inj e]; rfl
theorem AiR {D:List Nst} {n i:Nat} {x:Nst} (h:D[i]? = some x) (hl:x.2.2 = none):spF (arA D n D.length) n i = []:=by
 unfold spF
 refine List.filter_eq_nil_iff.mpr fun k hk hd=>?_
 have hz:=of_decide_eq_true hd
 rcases Uz D n _ _ (mem_of_getElem? hz) with e | ⟨i',_,e,x',l',hx',hl'⟩
 ·omega
 ·have:i = i':=by omega
  subst this
  rw[h] at hx'
  cases hx'
  rw[hl] at hl'; cases hl'
theorem Aiv (St:List Stc) (hs:List Nat):(∀ r ∈ rsF St hs,r.2.Nodup/\∀ k ∈ r.2,k < hs.length)/\(rsF St hs).Pairwise (fun r q=>∀ k ∈ r.2,¬ k ∈ q.2):=by
 have at':∀ i r,(rsF St hs)[i]? = some r->r.2 = (range hs.length).filter fun k=>decide (hs[k]? = some i):=fun i r h=>by
  unfold rsF at h
  rw[getElem?_mapIdx] at h
  obtain⟨s,_,rfl⟩:=map_eq_some_iff.mp h
  rfl
 refine⟨fun r hr=>?_,List.pairwise_iff_getElem.mpr fun i j hi hj hij k hk hk2=>?_⟩
 ·obtain⟨i,hi⟩:=getElem?_of_mem hr
  rw[at' i r hi]
  exact⟨List.nodup_range.filter _,fun k hk=>mem_range.mp (mem_filter.mp hk).1⟩
 ·rw[at' i _ (getElem?_eq_getElem hi)] at hk
  rw[at' j _ (getElem?_eq_getElem hj)] at hk2
  have h1:=of_decide_eq_true (mem_filter.mp hk).2
  have h2:=of_decide_eq_true (mem_filter.mp hk2).2
  rw[h1] at h2
  have:=Option.some.inj h2
  omega
theorem AfO {mt:Int->Option Int} {ks:List Str} {bs:List Int} {b m:Int} {r:Int × List Nat} (hr:r ∈ Jq ks b m):pkF (Le mt ks bs b m) r.2 = rwF mt (pkF ks r.2) (pkF bs r.2) r.1:=by
 unfold Jq at hr
 obtain⟨h1,h2⟩:=Aiv (stF (dF ks b m ks.length) ks.length b) (hmF (stF (dF ks b m ks.length) ks.length b) ks.length (stF (dF ks b m ks.length) ks.length b).length)
 unfold Le
 refine Ac1 mt ks bs _ _ (fun r' hr'=>?_) h2 r hr
 have:=h1 r' hr'
 rw[Og] at this
 rw[length_replicate]; exact this
def rgF (wh:List (List Int)) (ks:List Str) (sp:Int) (k:Nat):List Int:=if ((ks[k]?).getD default) ∈ bgK\/((ks[k]?).getD default) = "out" then [sp] else (wh[k]?).getD default
theorem Agb {W:List Sg} {M:List (Int × Int)} {ts:List Int} {sp:Int} (hsp:Fd W M sp = "plain") (p:Nat->Bool) :
  knL W M ((((range (knL W M ts).length).filter p).map (rgF (grp (Cl W M) ts) (knL W M ts) sp)).flatten) = (pkF (knL W M ts) ((range (knL W M ts).length).filter p)).map plK /\
  bsL W M ((((range (knL W M ts).length).filter p).map (rgF (grp (Cl W M) ts) (knL W M ts) sp)).flatten) = ((range (knL W M ts).length).filter p).map (fun k=>hdF (rgF (grp (Cl W M) ts) (knL W M ts) sp k)):=by
 have go:=Gh (Cl W M) ts
 have kg:(knL W M ts).length = (grp (Cl W M) ts).length:=by unfold knL; rw[length_map]
 have mks:Cl W M sp = false:=by unfold Cl; rw[hsp]; decide +kernel
 have srt:((range (knL W M ts).length).filter p).Pairwise (· < ·):=List.pairwise_lt_range.filter _
 have lt:∀ k ∈ (range (knL W M ts).length).filter p,k < (grp (Cl W M) ts).length:=fun k hk=>by rw[<- kg]; exact mem_range.mp (mem_filter.mp hk).1
 generalize (range (knL W M ts).length).filter p = S at srt lt
 have kat:∀ k (h:k < (grp (Cl W M) ts).length),((knL W M ts)[k]?).getD default = knW W M (grp (Cl W M) ts)[k]:=fun k h=>by
  unfold knL; rw[getElem?_map,getElem?_eq_getElem h]; rfl
 have gw:GW (Cl W M) (S.map (rgF (grp (Cl W M) ts) (knL W M ts) sp)):=by
  refine⟨fun g hg=>?_,fun i g hg hi=>?_⟩
  ·obtain⟨k,hk,rfl⟩:=mem_map.mp hg
   unfold rgF
   split
   ·exact⟨sp,[],rfl,fun m hm=>by cases hm⟩
   ·rw[getElem?_eq_getElem (lt k hk)]
    exact go.ne _ (getElem_mem (lt k hk))
  ·rw[getElem?_map] at hg
   obtain⟨k,hk,rfl⟩:=map_eq_some_iff.mp hg
   have hil:=(List.getElem?_eq_some_iff.mp hk).1
   have k0:0 < k:=by
    have:=List.pairwise_iff_getElem.mp srt 0 i (by omega) hil hi
    rw[getElem?_eq_getElem hil] at hk
    have:=Option.some.inj hk
    omega
   unfold rgF
   split
   ·exact⟨sp,[],rfl,mks⟩
   ·have:=lt k (mem_of_getElem? hk)
    rw[getElem?_eq_getElem this]
    exact go.hd k _ (getElem?_eq_getElem this) k0
 refine⟨?_,?_⟩
 ·have e:knL W M ((S.map (rgF (grp (Cl W M) ts) (knL W M ts) sp)).flatten) = (S.map (rgF (grp (Cl W M) ts) (knL W M ts) sp)).map (knW W M):=by
   show (grp (Cl W M) _).map (knW W M) = _
   rw[Aeq gw]
  rw[e]
  unfold pkF
  rw[map_map,map_map]
  refine List.map_congr_left fun k hk=>?_
  show knW W M (rgF (grp (Cl W M) ts) (knL W M ts) sp k) = plK (((knL W M ts)[k]?).getD default)
  unfold rgF plK
  split
  ·show (if Cl W M sp = true then ("plain" : Str) else Fd W M sp) = _
   rw[mks,if_neg (by decide),hsp]
  ·rw[kat k (lt k hk),getElem?_eq_getElem (lt k hk)]; rfl
 ·have e:bsL W M ((S.map (rgF (grp (Cl W M) ts) (knL W M ts) sp)).flatten) = (S.map (rgF (grp (Cl W M) ts) (knL W M ts) sp)).map hdF:=by
   show (grp (Cl W M) _).map hdF = _
   rw[Aeq gw]
  rw[e,map_map]; rfl
theorem Ah4 {W:List Sg} {M:List (Int × Int)} {ts:List Int} {sp:Int} (p:Nat->Bool):(((range (knL W M ts).length).filter p).map (rgF (grp (Cl W M) ts) (knL W M ts) sp)).flatten.length <= ts.length:=by
 have go:=Gh (Cl W M) ts
 have kg:(knL W M ts).length = (grp (Cl W M) ts).length:=by unfold knL; rw[length_map]
 rw[kg]
 have key:∀ n,n <= (grp (Cl W M) ts).length->(((range n).filter p).map (rgF (grp (Cl W M) ts) (knL W M ts) sp)).flatten.length <= ((grp (Cl W M) ts).take n).flatten.length:=fun n=>by
  induction n with
  | zero=>intro _; exact zero_le _
  | succ n ih =>
   intro h
   have ih:=ih (by omega)
   obtain⟨g,hg⟩:∃ g,(grp (Cl W M) ts)[n]? = some g:=⟨_,getElem?_eq_getElem (by omega)⟩
   obtain⟨a,r,rfl,_⟩:=go.ne g (mem_of_getElem? hg)
   rw[Dg hg,List.range_succ,filter_append,map_append,List.flatten_append,List.flatten_append,length_append,length_append]
   have le:(([n].filter p).map (rgF (grp (Cl W M) ts) (knL W M ts) sp)).flatten.length <= [a :: r].flatten.length:=by
    by_cases z:p n = true
    ·rw[filter_cons_of_pos z]
     show (rgF _ _ sp n ++ []).length <= ((a :: r) ++ []).length
     rw[append_nil,append_nil]
     unfold rgF
     split
     ·show 1 <= r.length + 1; omega
     ·rw[hg]; exact Nat.le_refl _
    ·rw[filter_cons_of_neg z]; exact zero_le _
   omega
 have:=key _ (Nat.le_refl _)
 rw[take_length,go.fl] at this
 exact this
theorem AcY {W:List Sg} {M:List (Int × Int)} {ts:List Int} {sp:Int} {b m:Int} {r:Int × List Nat} {p:Nat->Bool} (hsp:Fd W M sp = "plain") (hr:r ∈ Jq (knL W M ts) b m) (hp:r.2 = (range (knL W M ts).length).filter p) :
  Le (mtF M) (knL W M ((r.2.map (rgF (grp (Cl W M) ts) (knL W M ts) sp)).flatten)) (bsL W M ((r.2.map (rgF (grp (Cl W M) ts) (knL W M ts) sp)).flatten)) r.1 m = pkF (Le (mtF M) (knL W M ts) (bsL W M ts) b m) r.2:=by
 rw[AfO hr]
 obtain⟨e1,e2⟩:=Agb (ts:=ts) hsp p
 rw[<- hp] at e1 e2
 have lt:∀ k ∈ r.2,k < (grp (Cl W M) ts).length:=fun k hk=>by
  rw[hp] at hk
  have:=mem_range.mp (mem_filter.mp hk).1
  unfold knL at this; rw[length_map] at this; exact this
 rw[Ae2 (by
  rw[e1]
  intro k hk
  obtain⟨x,_,rfl⟩:=mem_map.mp hk
  rcases Adf x with ⟨e,h⟩ | ⟨e,h⟩
  ·rw[e]; exact fun z=>h (.inl z)
  ·rw[e]; decide +kernel) (by rw[e1,e2]; unfold pkF; rw[length_map,length_map,length_map]),e1,e2]
 refine AjL fun a k hk hn=>?_
 unfold pkF at hk ⊢
 rw[getElem?_map] at hk ⊢
 rw[getElem?_map]
 obtain⟨i,hi,rfl⟩:=map_eq_some_iff.mp hk
 rw[hi]
 show some (hdF (rgF _ _ sp i)) = some (((bsL W M ts)[i]?).getD default)
 unfold rgF
 rw[if_neg hn]
 have:=lt i (mem_of_getElem? hi)
 unfold bsL
 rw[getElem?_map,getElem?_eq_getElem this]; rfl
theorem AjM {α:Type} (xs:List α) (p q:Nat):Gr xs (some (p:Int)) (some (q:Int)) = (xs.take q).drop p:=by
 unfold Gr
 rw[HT.sIx_nat,HT.sIx_nat,List.drop_take]
 by_cases h:p <= xs.length
 ·rw[Nat.min_eq_left h]
  by_cases h2:q <= xs.length
  ·rw[Nat.min_eq_left h2]
  ·rw[Nat.min_eq_right (by omega),List.take_of_length_le (by rw[length_drop]; omega),List.take_of_length_le (by rw[length_drop]; omega)]
 ·rw[Nat.min_eq_right (show xs.length <= p by omega),drop_of_length_le (Nat.le_refl _),drop_of_length_le (by omega),take_nil,take_nil]
theorem Yr:∀ l:List (Option Str),l.filterMap (fun o=>o.map PV.str) = (l.filterMap id).map .str
 | []=>rfl
 | none :: r=>Yr r
 | some s :: r=>by
  show PV.str s :: r.filterMap (fun o=>o.map PV.str) = _
  rw[Yr r]; rfl
def Aj5:PSp:=fun ps P=>∃ (ws:List (Option Str)) (p:Nat × Nat) (own:Str),ps = [.lst (ws.map osP),ppP p,.str own]/\ws.length <= 1000/\P (osP (wpF ws p own))
theorem An7 (T:Txt K mg t):Binds K t.d_qs ["ways","pair","own"] []:=T.F_qs.binds fun _ _ _ _ _ _ us hl=>match us,hl with | [_,_,_],_=>rfl
theorem Anh (T:Txt K mg t):FnOk P w K mg base CX0 1 t.f_qs t.d_qs ["ways","pair","own"] (spOf K t.C_Book [false,false,true] .sh Aj5):=by
 refine T.F_qs.ok sc_qs (fun vs H Q E h=>h.len) (fun cdv A outer s H vs Q E hr h=>?_)
 have hu:=Cp hr
 have hu64:=hr.units
 refine⟨_,(Bc (Rq 1 ["way"] rfl rfl (Cs (Nh (Ls K) (pv 0) (Jh (Cb Fw (Ce (Cy K) (pv 1) Be (fun _ _=>rfl)) Be)) (Jh (Ce (Cy K) (pv 1) Be (fun _ _=>rfl))))) (fun _ _ _ _=>(Bo (i:=0) (show Nodup (["way"]:List Str) by decide +kernel) rfl (Or.inl rfl))) (fun _ _ _ _=>(Jz (Jm (Lz (pv 0))))) (fun _ _ _ _=>(pv 0)) (by decide +kernel) (by decide +kernel) rfl (by decide +kernel) (fun _=>rfl) (i:=3) sc_qs.nd rfl (Or.inl rfl) rfl)
   (Bc (De (Cd Dj (Cg (Ch K) rfl T.z_len PySem.boot_len (Ba (pv 3) Bd)) Be (Ci _))
    (Bf (Cc Ux))
    Ct)
   (Bc (De (Cd (Ji K) (pv 2) (pv 3) rfl)
    (Bf (Cc (pv 2)))
    Ct)
   (Bc (Rq 1 ["way"] rfl rfl (Cs (Nh (Ls K) (pv 0) Wg (Jh (Ce (Cy K) (pv 1) Be (fun _ _=>rfl))))) (fun _ _ _ _=>(Bo (i:=0) (show Nodup (["way"]:List Str) by decide +kernel) rfl (Or.inl rfl))) (fun _ _ _ _=>(Jz (Jm (Lz (pv 0))))) (fun _ _ _ _=>(pv 0)) (by decide +kernel) (by decide +kernel) rfl (by decide +kernel) (fun _=>rfl) (i:=4) sc_qs.nd rfl (Or.inl rfl) rfl)
   (Bf (Cc (Gs (Cd Ta (Cg (Ch K) rfl T.z_len PySem.boot_len (Ba (pv 4) Bd)) Be (Ci _)) (Ce (Cj K) (pv 4) (Oa Ll Be) (fun _ _=>rfl)) (pv 2)))))))),?_⟩
 try dsimp only [Ck,Bx]
 refine Cq h (by decide) (Bk (Bu (EF.eu (Ga (EF.eb (Rb Bb (Jd (EU.eb (Fa (fun _ _ _=>.int _) (EU.eb (Dh Bb (EU.eb Bg))) (EU.eb Bg)))) (Jd (EU.eb (Dh Bb (EU.eb Bg)))))) (By (top:=1)) (Cw (EU.eb (Lx Bb))) Br)))
   (Bk (Dl (Cw (EU.eb (Dv (EU.eb (Dr (Bp Bb Bh))) (EU.eb Bg))))
    (Dq Uv)
    Df)
   (Bk (Dl (Cw (EU.eb (Tf Br Bb)))
    (Dq Br)
    Df)
   (Bk (Bu (EF.eu (Ga (EF.eb (Rb Bb Vt (Jd (EU.eb (Dh Bb (EU.eb Bg)))))) (By (top:=1)) (Cw (EU.eb (Lx Bb))) Br)))
   (Dq (Nz (Cw (EU.eb (Fa (fun _ _ _=>.bl _) (EU.eb (Dr (Bp Bb Bh))) (EU.eb Bg)))) (Cv Bb (EU.eb (Ug (fun _ _=>.int _) (EU.eb Bg)))) Br)))))) (fun ps P hp=>?_)
 clear h hu hu64 hr
 obtain⟨ws,p,own,rfl,hl,q⟩:=hp
 walk_at "s"
 have cl:=Ub ws (some ((p.1:Int) + 1)) (some (p.2:Int))
 have cl2:=Ub ws none (some (p.1:Int))
 unfold wpF at q
 rw[show ppP p = .tup [.int p.1,.int p.2] from rfl]
 walk_at "p"
 rw[Rv]
 refine⟨by rw[length_map]; omega,?_⟩
 rw[show (some ((p.1:Int) + 1)) = some (((p.1 + 1:Nat):Int)) by rw[Int.natCast_add]; rfl,AjM]
 generalize (ws.take p.2).drop (p.1 + 1) = wi at q
 refine Ff (S:=wi) (enc:=osP) (f:=fun o=>o.map .str) ?_ (fun d hd Z hZ=>?_)
 rotate_left
 ·walk_at "c"
  walk_at "p"
  cases d with
  | none =>
   refine Lf (by decide) ?_
   exact hZ
  | some s =>
   refine Nk rfl ?_
   walk_at "p"
   exact hZ
 rw[Yr]
 generalize wi.filterMap id = w2 at q
 walk_at "p"
 rw[length_map]
 by_cases h1:w2 = []
 ·rw[if_pos h1] at q
  rw[decide_eq_true (by rw[h1]; rfl)]
  walk_at "p"
  exact q
 rw[if_neg h1] at q
 rw[decide_eq_false (by have:=List.length_pos_iff.mpr h1; omega)]
 walk_at "p"
 refine Aaf (L:=w2) (x:=own) ?_
 walk_at "p"
 by_cases h2:own ∈ w2
 ·rw[if_pos h2] at q
  rw[decide_eq_true h2]
  walk_at "p"
  exact q
 rw[if_neg h2] at q
 rw[decide_eq_false h2]
 walk_at "p"
 rw[Rv,Agr]
 refine⟨by rw[length_map,length_take]; omega,?_⟩
 generalize ws.take p.1 = wa at q
 refine Ff (S:=wa) (enc:=osP) (f:=fun o=>o.map .str) ?_ (fun d hd Z hZ=>?_)
 rotate_left
 ·walk_at "c"
  walk_at "p"
  cases d with
  | none =>
   refine Lf (by decide) ?_
   exact hZ
  | some s =>
   refine Nk rfl ?_
   walk_at "p"
   exact hZ
 rw[Yr]
 generalize wa.filterMap id = w3 at q
 walk_at "p"
 rcases eq_nil_or_concat w3 with z | ⟨w4,s,z⟩
 ·subst z
  rw[decide_eq_false (by simp)]
  walk_at "p"
  exact q
 ·rw[concat_eq_append] at z
  subst z
  rw[List.getLast?_concat] at q
  rw[decide_eq_true (by rw[length_map,length_append,length_singleton]; omega)]
  walk_at "p"
  refine Nl (by rw[map_append]; exact Js _ _) ?_
  exact q
def Ah6:PSp:=fun ps P=>∃ (ws:List (Option Str)) (pp:List (Nat × Nat)) (own:Str),ps = [.lst (ws.map osP),.lst (pp.map ppP),.str own]/\ws.length <= 1000/\(∀ p ∈ pp,p.1 < ws.length/\p.2 < ws.length)/\P (.lst ((wwF ws pp own).map osP))
theorem AnI (T:Txt K mg t):Binds K t.d_qb ["ways","pairs","own"] []:=T.F_qb.binds fun _ _ _ _ _ _ us hl=>match us,hl with | [_,_,_],_=>rfl
theorem Ame (T:Txt K mg t):FnOk P w K mg base CX0 2 t.f_qb t.d_qb ["ways","pairs","own"] (spOf K t.C_Book [false,false,true] .fr Ah6):=by
 refine T.F_qb.ok sc_qb (fun vs H Q E h=>h.len) (fun cdv A outer s H vs Q E hr h=>?_)
 have hu:=Cp hr
 have hu64:=hr.units
 refine⟨_,(Bc (Bl (i:=3) sc_qb.nd rfl (Or.inl rfl) (Gq (Gd K) rfl T.z_list PyProof.Rows.boot_list (Ba (pv 0) Bd)))
   (Bc (Dd PassesOwn.never rfl (Cs (pv 1)) (Bo (i:=4) sc_qb.nd rfl (Or.inl rfl))
    (Bc (Bl (i:=5) sc_qb.nd rfl (Or.inl rfl) (Bn (Anh T) (hr.mono (by decide)) rfl T.m_qs T.F_qs.kp (An7 T) .nil Bt (Ba (pv 0) (Ba (pv 4) (Ba (pv 2) Bd)))))
   (Bc (Ot (pv 5) (Qm (pv 3) (Ce (Cy K) (pv 4) Be (fun _ _=>rfl)) Jx))
   (Bf (Ot (pv 5) (Qm (pv 3) (Ce (Cy K) (pv 4) Be (fun _ _=>rfl)) Jx))))))
   (Bf (Cc (pv 3))))),?_⟩
 try dsimp only [Ck,Bx]
 refine Cq h (by decide) (Bk (Dk (Od (Bp Bb Bh)))
   (Bk (Ni (By (top:=6))
    (Bk (Bu (Ds (Bp Bb (Bp Bb (Bs Br Bh)))))
   (Bk (Qt (EU.eb (Dh Bb (EU.eb Bg))) Br)
   (Qt (EU.eb (Dh Bb (EU.eb Bg))) Br))))
   Fv)) (fun ps P hp=>?_)
 clear h hu hu64 hr
 obtain⟨ws,pp,own,rfl,hl,hp,q⟩:=hp
 walk_at "s"
 unfold wwF at q
 walk_at "p"
 refine⟨fun n ρ=>∃ (f:List (Option Str)) (v4 v5:Sl),ρ = [.bo (.lst (ws.map osP)),.bo (.lst (pp.map ppP)),.sh (.str own),.ow (.lst (f.map osP)),v4,v5]/\f.length = ws.length/\(pp.drop n).foldl (fun f p=>(f.set p.1 (wpF ws p own)).set p.2 (wpF ws p own)) f = pp.foldl (fun f p=>(f.set p.1 (wpF ws p own)).set p.2 (wpF ws p own)) ws,⟨ws,_,_,rfl,rfl,rfl⟩,?_,?_⟩
 ·rintro n p ρ hpn ⟨f,v4,v5,rfl,fl,he⟩
  rw[getElem?_map] at hpn
  obtain⟨x,hx,rfl⟩:=map_eq_some_iff.mp hpn
  obtain⟨x1,x2⟩:=hp x (mem_of_getElem? hx)
  obtain⟨hi,rfl⟩:=List.getElem?_eq_some_iff.mp hx
  rw[drop_eq_getElem_cons hi,foldl_cons] at he
  generalize pp[n] = x at *
  walk_at "p"
  refine⟨ws,x,own,rfl,hl,?_⟩
  rw[show ppP x = .tup [.int x.1,.int x.2] from rfl]
  walk_at "p"
  refine Td rfl (Tc (j:=x.1) (by rw[length_map]; omega)) ?_
  walk_at "p"
  refine Td rfl (Tc (j:=x.2) (by rw[length_set,length_map]; omega)) ?_
  walk_at "p"
  rw[<- map_set,<- map_set]
  exact⟨_,_,_,rfl,by rw[length_set,length_set,fl],he⟩
 rintro ρ ⟨f,v4,v5,rfl,fl,he⟩
 rw[length_map,drop_length,foldl_nil] at he
 walk_at "p"
 rw[he]
 exact q
def Alr:PSp:=fun ps P=>∃ (ws:List (Option Str)) (own:Str),ps = [.lst (ws.map osP),.str own]/\ws.length <= 1000/\P (.lst ((laF own ws).map .str))
theorem AgK (T:Txt K mg t):Binds K t.d_qbl ["ways","own"] []:=T.F_qbl.binds fun _ _ _ _ _ _ us hl=>match us,hl with | [_,_],_=>rfl
theorem AeP (T:Txt K mg t):FnOk P w K mg base CX0 1 t.f_qbl t.d_qbl ["ways","own"] (spOf K t.C_Book [false,true] .fr Alr):=by
 refine T.F_qbl.ok sc_qbl (fun vs H Q E h=>h.len) (fun cdv A outer s H vs Q E hr h=>?_)
 have hu:=Cp hr
 have hu64:=hr.units
 refine⟨_,(Bc (Bl (i:=2) sc_qbl.nd rfl (Or.inl rfl) (Cu Bd))
   (Bc (Bl (i:=3) sc_qbl.nd rfl (Or.inl rfl) (pv 1))
   (Bc (Dd PassesOwn.never rfl (Cs (pv 0)) (Bo (i:=4) sc_qbl.nd rfl (Or.inl rfl))
    (Bc (De (Jm (Lz (pv 4)))
    (Bf (Bl (i:=3) sc_qbl.nd rfl (Or.inl rfl) (pv 4)))
    Ct)
   (Bf (Co (Fo plainAttrs_list PySem.F.slot_list_append PySem.F.type_list_append Dc (pv 2) (Ba (pv 3) Bd))))))
   (Bf (Cc (pv 2)))))),?_⟩
 try dsimp only [Ck,Bx]
 refine Cq h (by decide) (Bk (Dk (Dn 0 Bh))
   (Bk (Bu Br)
   (Bk (Ni (By (top:=5))
    (Bk (Dl (Cw (EU.eb (Lx Bb)))
    (Bu Br)
    Df)
   (Fx (Bs Br Bh))))
   Fv))) (fun ps P hp=>?_)
 clear h hu hu64 hr
 obtain⟨ws,own,rfl,hl,q⟩:=hp
 walk_at "s"
 walk_at "p"
 refine⟨fun n ρ=>∃ (A:List Str) (l:Str) (v4:Sl),ρ = [.bo (.lst (ws.map osP)),.sh (.str own),.ow (.lst (A.map .str)),.sh (.str l),v4]/\A.length = n/\A ++ laF l (ws.drop n) = laF own ws,⟨[],own,_,rfl,rfl,rfl⟩,?_,?_⟩
 ·rintro n p ρ hp ⟨A,l,v4,rfl,al,he⟩
  rw[getElem?_map] at hp
  obtain⟨w,hw,rfl⟩:=map_eq_some_iff.mp hp
  obtain⟨hi,rfl⟩:=List.getElem?_eq_some_iff.mp hw
  rw[drop_eq_getElem_cons hi,laF] at he
  generalize ws[n] = w at *
  walk_at "p"
  cases w with
  | none =>
   refine Lf (by decide) ?_
   walk_at "p"
   rotate_left
   ·rw[length_map]; omega
   exact⟨A ++ [l],l,_,by rw[map_append]; rfl,by rw[length_append,al]; rfl,by rw[append_assoc]; exact he⟩
  | some s =>
   refine Nk rfl ?_
   walk_at "p"
   rotate_left
   ·rw[length_map]; omega
   exact⟨A ++ [s],s,_,by rw[map_append]; rfl,by rw[length_append,al]; rfl,by rw[append_assoc]; exact he⟩
 rintro ρ ⟨A,l,v4,rfl,al,he⟩
 rw[length_map,drop_length,laF,append_nil] at he
 walk_at "p"
 rw[he]
 exact q
def Aji:PSp:=fun ps P=>∃ (ws:List (Option Str)) (own:Str),ps = [.lst (ws.map osP),.str own]/\ws.length <= 1000/\P (.lst ((flF own ws).map .str))
theorem Any (T:Txt K mg t):Binds K t.d_qt ["ways","own"] []:=T.F_qt.binds fun _ _ _ _ _ _ us hl=>match us,hl with | [_,_],_=>rfl
theorem Anj (T:Txt K mg t):FnOk P w K mg base CX0 2 t.f_qt t.d_qt ["ways","own"] (spOf K t.C_Book [true,true] .fr Aji):=by
 refine T.F_qt.ok sc_qt (fun vs H Q E h=>h.len) (fun cdv A outer s H vs Q E hr h=>?_)
 have hu:=Cp hr
 have hu64:=hr.units
 refine⟨_,(Bc (Bl (i:=2) sc_qt.nd rfl (Or.inl rfl) (Bn (AeP T) (hr.mono (by decide)) rfl T.m_qbl T.F_qbl.kp (AgK T) .nil Bt (Ba (pv 0) (Ba (pv 1) Bd))))
   (Bc (Bl (i:=3) sc_qt.nd rfl (Or.inl rfl) (AdE (Bn (AeP T) (hr.mono (by decide)) rfl T.m_qbl T.F_qbl.kp (AgK T) .nil Bt (Ba (AdE (pv 0) rfl rfl T.z_list rfl T.z_reversed) (Ba (pv 1) Bd))) rfl rfl T.z_list rfl T.z_reversed))
   (Bf (Cc (Ja 2 [1] ["one","other","own"] ["own"] rfl (Wb K (pv 2) (pv 3) rfl T.z_zip) rfl (fun j y e1 i e2=>match j,e1,e2 with | 0,e1,e2=>by cases e1; cases e2; exact⟨rfl,rfl,rfl,by decide +kernel⟩ | _ + 1,_,e2=>by simp at e2) (forall_mem_cons.mpr ⟨rfl,fun _ h=>nomatch h⟩) (by decide +kernel) (fun _ _ _ _=>(Fu (K':=K) (n:=2) rfl rfl (Cf (Bo (i:=0) (show Nodup (["one","other","own"]:List Str) by decide +kernel) rfl (Or.inl rfl)) (Cf (Bo (i:=1) (show Nodup (["one","other","own"]:List Str) by decide +kernel) rfl (Or.inl rfl)) Dw)))) (fun _ _ _ _=>Gb) (fun _ _ _ _=>(Gs (Cd Dj (pv 0) (pv 1) (Ci _)) (pv 0) (pv 2))) rfl (by decide +kernel) rfl (by decide +kernel)))))),?_⟩
 try dsimp only [Ck,Bx]
 refine Cq h (by decide) (Bk (Bu (EF.eu (Do (Bp Bb (Bs Br Bh)))))
   (Bk (Bu (EF.eu (Adu (EF.eb (Do (Bp (EF.eb (Adu Bb)) (Bs Br Bh)))))))
   (Qy (Zt Bb Bb (Gv (Da (By (top:=2)) (Da (By (top:=2)) Gc))) Gk (Nz (Cw (EU.eb (Dv Bb Bb))) Br Br))))) (fun ps P hp=>?_)
 clear h hu hu64 hr
 obtain⟨ws,own,rfl,hl,q⟩:=hp
 walk_at "s"
 unfold flF at q
 walk_at "p"
 refine⟨ws,own,rfl,hl,?_⟩
 walk_at "p"
 rw[<- List.map_reverse]
 refine⟨ws.reverse,own,rfl,by rw[length_reverse]; exact hl,?_⟩
 walk_at "p"
 rw[<- List.map_reverse]
 refine⟨by rw[length_map,Te]; omega,?_⟩
 rw[Wc]
 refine Ff (S:=(laF own ws).zip (laF own ws.reverse).reverse) (enc:=fun z:Str × Str=>PV.tup [.str z.1,.str z.2]) (f:=fun z=>some (.str (if z.1 = z.2 then z.1 else own))) ?_ (fun d hd Z hZ=>?_)
 rotate_left
 ·walk_at "c"
  walk_at "p"
  by_cases h:d.1 = d.2
  ·rw[decide_eq_true h]
   rw[if_pos h] at hZ
   walk_at "p"
   exact hZ
  ·rw[decide_eq_false h]
   rw[if_neg h] at hZ
   walk_at "p"
   exact hZ
 generalize (laF own ws).zip (laF own ws.reverse).reverse = Z at q
 rw[show Z.filterMap (fun z:Str × Str=>some (PV.str (if z.1 = z.2 then z.1 else own))) = (Z.map fun z=>if z.1 = z.2 then z.1 else own).map .str by rw[map_map]; exact congrFun (filterMap_eq_map' (f:=fun z:Str × Str=>PV.str (if z.1 = z.2 then z.1 else own))) _]
 exact q
def Ajv:PSp:=fun ps P=>∃ U M J ks bs own,ps = [.bk U M J,.lst (map .str ks),.lst (map .int bs),.str own]/\ks.length = bs.length/\bs.length <= 1000/\P (.lst ((wrF (mtF M) ks bs own).map .str))
theorem AnZ (T:Txt K mg t):Binds K t.d_qu ["book","kinds","bases","own"] []:=T.F_qu.binds fun _ _ _ _ _ _ us hl=>match us,hl with | [_,_,_,_],_=>rfl
theorem Ana (T:Txt K mg t):FnOk P w K mg base CX0 3 t.f_qu t.d_qu ["book","kinds","bases","own"] (spOf K t.C_Book [false,true,false,true] .fr Ajv):=by
 refine T.F_qu.ok sc_qu (fun vs H Q E h=>h.len) (fun cdv A outer s H vs Q E hr h=>?_)
 have hu:=Cp hr
 have hu64:=hr.units
 refine⟨_,(Bc (Bl (i:=4) sc_qu.nd rfl (Or.inl rfl) (Bn (Amc T) (hr.mono (by decide)) rfl T.m_qk T.F_qk.kp (An8 T) .nil Bt (Ba (pv 1) (Ba (pv 3) Bd))))
   (Bc (Bl (i:=5) sc_qu.nd rfl (Or.inl rfl) (Bn (Ajh T) (hr.mono (by decide)) rfl T.m_qca T.F_qca.kp (Amz T) .nil Bt (Ba (pv 0) (Ba (pv 1) (Ba (pv 2) Bd)))))
   (Bf (Cc (Bn (Anj T) (hr.mono (by decide)) rfl T.m_qt T.F_qt.kp (Any T) .nil Bt (Ba (Bn (Ame T) (hr.mono (by decide)) rfl T.m_qb T.F_qb.kp (AnI T) .nil Bt (Ba (pv 4) (Ba (pv 5) (Ba (pv 3) Bd)))) (Ba (pv 3) Bd))))))),?_⟩
 try dsimp only [Ck,Bx]
 refine Cq h (by decide) (Bk (Bu (EF.eu (Do (Bp Bb (Bs Br Bh)))))
   (Bk (Bu (EF.eu (Do (Bp Bb (Bs Br (Bp Bb Bh))))))
   (Qy (Do (Bs (EF.eu (Do (Bp Bb (Bp Bb (Bs Br Bh))))) (Bs Br Bh)))))) (fun ps P hp=>?_)
 clear h hu hu64 hr
 obtain⟨U,M,J,ks,bs,own,rfl,hl,hb,q⟩:=hp
 walk_at "s"
 unfold wrF at q
 walk_at "p"
 refine⟨ks,own,rfl,by omega,?_⟩
 walk_at "p"
 refine⟨U,M,J,ks,bs,rfl,hl,hb,?_⟩
 walk_at "p"
 refine⟨_,_,own,rfl,by rw[Qq]; omega,fun p hp=>?_,?_⟩
 ·have:=(Aat (mt:=mtF M) (ks:=ks) (bs:=bs) ks.length).1 p hp
  rw[Qq]; exact this
 walk_at "p"
 refine⟨_,own,rfl,by rw[Abp,Qq]; omega,?_⟩
 exact q
def Ah9:PSp:=fun ps P=>∃ k w v,ps = [.str k,.str w,.int v]/\P (.int (lwF k w v))
theorem AnV (T:Txt K mg t):Binds K t.d_ql ["kind","way","level"] []:=T.F_ql.binds fun _ _ _ _ _ _ us hl=>match us,hl with | [_,_,_],_=>rfl
theorem Anr (T:Txt K mg t):FnOk P w K mg base CX0 2 t.f_ql t.d_ql ["kind","way","level"] (spOf K t.C_Book [false,false,true] .sh Ah9):=by
 refine T.F_ql.ok Amk (fun vs H Q E h=>h.len) (fun cdv A outer s H vs Q E hr h=>?_)
 have hu:=Cp hr
 have hu64:=hr.units
 refine⟨_,(Bc (De (Cd Dj (pv 0) Bw (Ci _))
    (Bc (De (Cd Dj (Cb Dm (pv 2) Be) Be (Ci _))
    (Bf (Cc (Cb Fw (pv 2) Be)))
    Ct)
   (Bf (Cc (Gs (Cd Dj (pv 1) Bw (Ci _)) (pv 2) (Cb Fw (pv 2) Be)))))
    Ct)
   (Bf (Cc (Gs (Cd Dj (pv 1) (Bn (Ag1 T) (hr.mono (by decide)) rfl T.m_qo T.F_qo.kp (Ajc T) .nil Bt (Ba (pv 2) Bd)) (Ci _)) (pv 2) (Cb Fw (pv 2) Be))))),?_⟩
 try dsimp only [Ck,Bx]
 refine Cq h (by decide) (Bk (Dl (Cw (EU.eb (Dv Bb (EU.eb Cn))))
    (Bk (Dl (Cw (EU.eb (Dv (EU.eb (Cz (fun _ _ _=>.int _) Bb (EU.eb Bg))) (EU.eb Bg))))
    (Dq (Fa (fun _ _ _=>.int _) Bb (EU.eb Bg)))
    Df)
   (Dq (Nz (Cw (EU.eb (Dv Bb (EU.eb Cn)))) Br (Fa (fun _ _ _=>.int _) Bb (EU.eb Bg)))))
    Df)
   (Dq (Nz (Cw (EU.eb (Dv Bb (EU.eb (Ds (Bp Bb Bh)))))) Br (Fa (fun _ _ _=>.int _) Bb (EU.eb Bg))))) (fun ps P hp=>?_)
 clear h hu hu64 hr
 obtain⟨k,w,v,rfl,q⟩:=hp
 walk_at "s"
 unfold lwF at q
 walk_at "p"
 by_cases h1:k = "num"
 ·rw[decide_eq_true h1]
  rw[if_pos h1] at q
  walk_at "p"
  all_goals try decide
  by_cases h2:v % 2 = 1
  ·rw[decide_eq_true h2]
   rw[if_pos h2] at q
   walk_at "p"
   exact q
  ·rw[decide_eq_false h2]
   rw[if_neg h2] at q
   walk_at "p"
   by_cases h3:w = "fore"
   ·rw[decide_eq_true h3]
    rw[if_pos h3] at q
    walk_at "p"
    exact q
   ·rw[decide_eq_false h3]
    rw[if_neg h3] at q
    walk_at "p"
    exact q
 ·rw[decide_eq_false h1]
  rw[if_neg h1] at q
  walk_at "p"
  refine⟨v,rfl,?_⟩
  walk_at "p"
  by_cases h3:w = wyF v
  ·rw[decide_eq_true h3]
   rw[if_pos h3] at q
   walk_at "p"
   exact q
  ·rw[decide_eq_false h3]
   rw[if_neg h3] at q
   walk_at "p"
   exact q
def AiX:PSp:=fun ps P=>∃ (U:List Sg) (M:List (Int × Int)) (J:List Jn) (ws:List (List Int)) (v:Int),ps = [.bk U M J,.lst (ws.map fun g:List Int=>PV.lst (g.map .int)),.int v]/\(∀ w ∈ ws,∃ n r,w = n :: r)/\ws.length <= 1000/\P (.lst ((rwF (mtF M) (ws.map (knW U M)) (ws.map hdF) v).map .int))
theorem AnW (T:Txt K mg t):Binds K t.d_qe ["book","row","level"] []:=T.F_qe.binds fun _ _ _ _ _ _ us hl=>match us,hl with | [_,_,_],_=>rfl
theorem Aml (T:Txt K mg t):FnOk P w K mg base CX0 4 t.f_qe t.d_qe ["book","row","level"] (spOf K t.C_Book [false,false,true] .fr AiX):=by
 refine T.F_qe.ok sc_qe (fun vs H Q E h=>h.len) (fun cdv A outer s H vs Q E hr h=>?_)
 have hu:=Cp hr
 have hu64:=hr.units
 refine⟨_,(Bc (Rj 1 [0] ["whole","book"] ["book"] rfl (Cs (pv 1)) rfl (fun j y e1 i e2=>match j,e1,e2 with | 0,e1,e2=>by cases e1; cases e2; exact⟨rfl,rfl,rfl,by decide +kernel⟩ | _ + 1,_,e2=>by simp at e2) (forall_mem_cons.mpr ⟨rfl,fun _ h=>nomatch h⟩) (by decide +kernel) (fun _ _ _ _=>(Bo (i:=0) (show Nodup (["whole","book"]:List Str) by decide +kernel) rfl (Or.inl rfl))) (fun _ _ _ _=>Gb) (fun _ _ _ _=>(Bn (AhL T) (hr.mono (by decide)) rfl T.m_qd T.F_qd.kp (AjI T) .nil Bt (Ba (pv 1) (Ba (pv 0) Bd)))) rfl (by decide +kernel) rfl (by decide +kernel) (fun _=>rfl) (i:=3) sc_qe.nd rfl (Or.inl rfl) rfl)
   (Bc (Rq 1 ["whole"] rfl rfl (Cs (pv 1)) (fun _ _ _ _=>(Bo (i:=0) (show Nodup (["whole"]:List Str) by decide +kernel) rfl (Or.inl rfl))) (fun _ _ _ _=>Gb) (fun _ _ _ _=>(Ce (Cj K) (pv 0) Be (fun _ _=>rfl))) (by decide +kernel) (by decide +kernel) rfl (by decide +kernel) (fun _=>rfl) (i:=4) sc_qe.nd rfl (Or.inl rfl) rfl)
   (Bc (Bl (i:=5) sc_qe.nd rfl (Or.inl rfl) (Bn (Ana T) (hr.mono (by decide)) rfl T.m_qu T.F_qu.kp (AnZ T) .nil Bt (Ba (pv 0) (Ba (pv 3) (Ba (pv 4) (Ba (Bn (Ag1 T) (hr.mono (by decide)) rfl T.m_qo T.F_qo.kp (Ajc T) .nil Bt (Ba (pv 2) Bd)) Bd))))))
   (Bf (Cc (Ja 2 [2] ["kind","way","level"] ["level"] rfl (Wb K (pv 3) (pv 5) rfl T.z_zip) rfl (fun j y e1 i e2=>match j,e1,e2 with | 0,e1,e2=>by cases e1; cases e2; exact⟨rfl,rfl,rfl,by decide +kernel⟩ | _ + 1,_,e2=>by simp at e2) (forall_mem_cons.mpr ⟨rfl,fun _ h=>nomatch h⟩) (by decide +kernel) (fun _ _ _ _=>(Fu (K':=K) (n:=2) rfl rfl (Cf (Bo (i:=0) (show Nodup (["kind","way","level"]:List Str) by decide +kernel) rfl (Or.inl rfl)) (Cf (Bo (i:=1) (show Nodup (["kind","way","level"]:List Str) by decide +kernel) rfl (Or.inl rfl)) Dw)))) (fun _ _ _ _=>Gb) (fun _ _ _ _=>(Bn (Anr T) (hr.mono (by decide)) rfl T.m_ql T.F_ql.kp (AnV T) .nil Bt (Ba (pv 0) (Ba (pv 1) (Ba (pv 2) Bd))))) rfl (by decide +kernel) rfl (by decide +kernel))))))),?_⟩
 try dsimp only [Ck,Bx]
 refine Cq h (by decide) (Bk (Bu (EF.eu (Ga Bb (By (top:=1)) Gk (Ds (Bp Bb (Bp Bb Bh))))))
   (Bk (Bu (EF.eu (Ga Bb (By (top:=1)) Gk (Cv Bb (EU.eb Bg)))))
   (Bk (Bu (EF.eu (Do (Bp Bb (Bs Br (Bp Bb (Bs (Ds (Bp Bb Bh)) Bh)))))))
   (Qy (Zt Bb Bb (Gv (Da (By (top:=2)) (Da (By (top:=2)) Gc))) Gk (Ds (Bp Bb (Bp Bb (Bs Br Bh))))))))) (fun ps P hp=>?_)
 clear h hu hu64 hr
 obtain⟨U,M,J,ws,v,rfl,hw,hl,q⟩:=hp
 walk_at "s"
 unfold rwF at q
 walk_at "p"
 refine⟨by rw[length_map]; omega,?_⟩
 refine Ff (S:=ws) (enc:=fun g:List Int=>PV.lst (g.map .int)) (f:=fun g=>some (.str (knW U M g))) ?_ (fun d hd Z hZ=>?_)
 rotate_left
 ·obtain⟨n,r,rfl⟩:=hw d hd
  walk_at "c"
  walk_at "p"
  refine⟨U,M,J,n,r,rfl,?_⟩
  exact hZ
 rw[show ws.filterMap (fun g=>some (PV.str (knW U M g))) = (ws.map (knW U M)).map .str by rw[map_map]; exact congrFun (filterMap_eq_map' (f:=fun g=>PV.str (knW U M g))) _]
 walk_at "p"
 refine⟨by rw[length_map]; omega,?_⟩
 refine Ff (S:=ws) (enc:=fun g:List Int=>PV.lst (g.map .int)) (f:=fun g=>some (.int (hdF g))) ?_ (fun d hd Z hZ=>?_)
 rotate_left
 ·obtain⟨n,r,rfl⟩:=hw d hd
  walk_at "c"
  walk_at "p"
  refine Dx (l:=n :: r) (f:=PV.int) (j:=0) (a:=n) rfl rfl ?_
  exact hZ
 rw[show ws.filterMap (fun g=>some (PV.int (hdF g))) = (ws.map hdF).map .int by rw[map_map]; exact congrFun (filterMap_eq_map' (f:=fun g=>PV.int (hdF g))) _]
 walk_at "p"
 refine⟨v,rfl,?_⟩
 walk_at "p"
 refine⟨U,M,J,ws.map (knW U M),ws.map hdF,wyF v,rfl,by rw[length_map,length_map],by rw[length_map]; omega,?_⟩
 walk_at "p"
 refine⟨by rw[length_map,length_map]; omega,?_⟩
 rw[Wc]
 refine Ff (S:=(ws.map (knW U M)).zip (wrF (mtF M) (ws.map (knW U M)) (ws.map hdF) (wyF v))) (enc:=fun z:Str × Str=>PV.tup [.str z.1,.str z.2]) (f:=fun z=>some (.int (lwF z.1 z.2 v))) ?_ (fun d hd Z hZ=>?_)
 rotate_left
 ·walk_at "c"
  walk_at "p"
  refine⟨d.1,d.2,v,rfl,?_⟩
  exact hZ
 generalize (ws.map (knW U M)).zip (wrF (mtF M) (ws.map (knW U M)) (ws.map hdF) (wyF v)) = Z at q
 rw[show Z.filterMap (fun z:Str × Str=>some (PV.int (lwF z.1 z.2 v))) = (Z.map fun z=>lwF z.1 z.2 v).map .int by rw[map_map]; exact congrFun (filterMap_eq_map' (f:=fun z:Str × Str=>PV.int (lwF z.1 z.2 v))) _]
 exact q
def AeU:PSp:=fun ps P=>∃ U M J ts o m,ps = [.bk U M J,.lst (map .int ts),opP o,.int m]/\ts.length <= 300/\P (.lst ((Le (mtF M) (knL U M ts) (bsL U M ts) (o.getD (obF 0 (knL U M ts))) m).map .int))
theorem Akh (T:Txt K mg t):Binds K t.d_qbs ["book","text","base","most"] [t.v_levels_of_0,t.v_levels_of_1]:=T.F_qbs.binds 2 rfl fun _ _ _ _ _ _ us hl=>match us,hl with | [_,_],_=>⟨_,rfl,rfl⟩
theorem AkX (T:Txt K mg t):Binds K t.d_qbs ["book","text","base","most"] [t.v_levels_of_1]:=T.F_qbs.binds 3 rfl fun _ _ _ _ _ _ us hl=>match us,hl with | [_,_,_],_=>⟨_,rfl,rfl⟩
theorem AcG (T:Txt K mg t):Binds K t.d_qbs ["book","text","base","most"] []:=T.F_qbs.binds 4 rfl fun _ _ _ _ _ _ us hl=>match us,hl with | [_,_,_,_],_=>⟨_,rfl,rfl⟩
theorem Aae (T:Txt K mg t):FnOk P w K mg base CX0 7 t.f_qbs t.d_qbs ["book","text","base","most"] (spOf K t.C_Book [false,false,true,false] .fr AeU):=by
 refine T.F_qbs.ok sc_qbs (fun vs H Q E h=>h.len) (fun cdv A outer s H vs Q E hr h=>?_)
 have hu:=Cp hr
 have hu64:=hr.units
 refine⟨_,(Bc (Bl (i:=4) sc_qbs.nd rfl (by first | exact Or.inl rfl | exact Or.inr rfl) (Bn (AdZ T) (hr.mono (by decide)) rfl T.m_qbt T.F_qbt.kp (AgF T) .nil Bt (Ba (pv 0) (Ba (pv 1) Bd))))
   (Bc (Bl (i:=5) sc_qbs.nd rfl (Or.inl rfl) (Bn (AmP T) (hr.mono (by decide)) rfl T.m_qq T.F_qq.kp (AnT T) .nil Bt (Ba (pv 0) (Ba (pv 1) (Ba (pv 2) Bd)))))
   (Bc (Bl (i:=6) sc_qbs.nd rfl (Or.inl rfl) (Cb We (Cu (Ba (pv 5) Bd)) (Cg (Ch K) rfl T.z_len PySem.boot_len (Ba (pv 4) Bd))))
   (Bc (Bl (i:=7) sc_qbs.nd rfl (Or.inl rfl) (Bn (Ae3 T) (hr.mono (by decide)) rfl T.m_qby T.F_qby.kp (Aha T) .nil Bt (Ba (pv 0) (Ba (pv 1) (Ba (pv 5) (Ba (pv 3) Bd))))))
   (Bc (Dd PassesOwn.never rfl (Cs (Bn (Amx T) (hr.mono (by decide)) rfl T.m_qn T.F_qn.kp (AnD T) .nil Bt (Ba (pv 7) (Ba (Cg (Ch K) rfl T.z_len PySem.boot_len (Ba (pv 4) Bd)) (Ba (pv 5) Bd))))) (Fu (K':=K) (n:=2) rfl rfl (Cf (Bo (i:=8) sc_qbs.nd rfl (Or.inl rfl)) (Cf (Bo (i:=9) sc_qbs.nd rfl (Or.inl rfl)) Dw)))
    (Bc (Bl (i:=10) sc_qbs.nd rfl (Or.inl rfl) (Bn (Aml T) (hr.mono (by decide)) rfl T.m_qe T.F_qe.kp (AnW T) .nil Bt (Ba (pv 0) (Ba (Ja 1 [4] ["k","wholes"] ["wholes"] rfl (Cs (pv 9)) rfl (fun j y e1 i e2=>match j,e1,e2 with | 0,e1,e2=>by cases e1; cases e2; exact⟨rfl,rfl,rfl,by decide +kernel⟩ | _ + 1,_,e2=>by simp at e2) (forall_mem_cons.mpr ⟨rfl,fun _ h=>nomatch h⟩) (by decide +kernel) (fun _ _ _ _=>(Bo (i:=0) (show Nodup (["k","wholes"]:List Str) by decide +kernel) rfl (Or.inl rfl))) (fun _ _ _ _=>Gb) (fun _ _ _ _=>(Ce (Cj K) (pv 1) (pv 0) (fun _ _=>rfl))) rfl (by decide +kernel) rfl (by decide +kernel)) (Ba (pv 8) Bd)))))
   (Bf (Dd PassesOwn.never rfl (Wb K (pv 9) (pv 10) rfl T.z_zip) (Fu (K':=K) (n:=2) rfl rfl (Cf (Bo (i:=11) sc_qbs.nd rfl (Or.inl rfl)) (Cf (Bo (i:=12) sc_qbs.nd rfl (Or.inl rfl)) Dw)))
    (Bf (Ot (pv 12) (Qm (pv 6) (pv 11) Jx)))))))
   (Bf (Cc (pv 6)))))))),?_⟩
 try dsimp only [Ck,Bx]
 refine Cq h (by decide) (Bk (Bu (Ady (Bp Bb (Bp Bb Bh))))
   (Bk (Bu (Ds (Bp Bb (Bp Bb (Bs Br Bh)))))
   (Bk (Dk (Zv (EF.eb (Dn 1 (Bs Br Bh))) (EU.eb (Dr (Bp Bb Bh)))))
   (Bk (Bu (EF.eu (Do (Bp Bb (Bp Bb (Bs Br (Bp Bb Bh)))))))
   (Bk (Sn (Ds (Bp Bb (Bs (Dr (Bp Bb Bh)) (Bs Br Bh)))) (Gv (Da (By (top:=13)) (Da (By (top:=13)) Gc)))
    (Bk (Bu (EF.eu (Do (Bp Bb (Bp (EF.eb (Ga Bb (By (top:=1)) Gk (Cv Bb Bb))) (Bs Br Bh))))))
   (Aim Br Br (Gv (Da (By (top:=13)) (Da (By (top:=13)) Gc)))
    (Qt Bb Br))))
   Fv))))) (fun ps P hp=>?_)
 clear h hu hu64 hr
 obtain⟨U,M,J,ts,o,m,rfl,hl,q⟩:=hp
 walk_at "s"
 have go:=Gh (Cl U M) ts
 have gl:=go.ln
 walk_at "p"
 refine⟨U,M,J,ts,rfl,hl,?_⟩
 walk_at "p"
 refine⟨U,M,J,ts,o,rfl,hl,?_⟩
 walk_at "x"
 have kl:(knL U M ts).length = (grp (Cl U M) ts).length:=by unfold knL; rw[length_map]
 unfold Le bsL at q
 have ne:∀ w ∈ grp (Cl U M) ts,∃ n r,w = n :: r:=fun w hw=>by
  obtain⟨n,r,e,_⟩:=go.ne w hw
  exact⟨n,r,e⟩
 have kn:knL U M ts = (grp (Cl U M) ts).map (knW U M):=rfl
 generalize o.getD (obF 0 (knL U M ts)) = b at q
 refine Ft ?_
 walk_at "x"
 all_goals try (first | exact⟨by rw[length_map]; omega,by rw[length_map]; omega⟩ | decide)
 refine Ft ?_
 walk_at "x"
 refine⟨U,M,J,ts,b,m,rfl,hl,?_⟩
 walk_at "p"
 rw[length_map,toNat_natCast]
 obtain⟨S,hS⟩:=NI.all (kn:=knL U M ts) (b:=b) (m:=m) (fun _ _=>trivial) (knL U M ts).length (Nat.le_refl _)
 have nend:=hS.end
 have dl:=Ve (kn:=knL U M ts) (b:=b) (m:=m) (knL U M ts).length
 refine⟨dF (knL U M ts) b m (knL U M ts).length,(grp (Cl U M) ts).length,b,rfl,by omega,by omega,fun x hx=>by rw[<- kl]; exact⟨Nat.le_of_lt ((Ze _).1 x hx),nend x hx⟩,?_⟩
 rw[<- kl]
 have rk:rsF (stF (dF (knL U M ts) b m (knL U M ts).length) (knL U M ts).length b) (hmF (stF (dF (knL U M ts) b m (knL U M ts).length) (knL U M ts).length b) (knL U M ts).length (stF (dF (knL U M ts) b m (knL U M ts).length) (knL U M ts).length b).length) = Jq (knL U M ts) b m:=rfl
 have rok:=Akm (St:=stF (dF (knL U M ts) b m (knL U M ts).length) (knL U M ts).length b) (hs:=hmF (stF (dF (knL U M ts) b m (knL U M ts).length) (knL U M ts).length b) (knL U M ts).length (stF (dF (knL U M ts) b m (knL U M ts).length) (knL U M ts).length b).length)
 have stl:=Aiq (dF (knL U M ts) b m (knL U M ts).length) (knL U M ts).length b
 rw[rk,Og] at rok
 rw[rk]
 generalize Jq (knL U M ts) b m = rows at q rok
 rw[kl] at rok stl dl q
 generalize dF (knL U M ts) b m (knL U M ts).length = DD at *
 rw[kl]
 rw[kn] at q
 generalize grp (Cl U M) ts = ws at *
 clear rk hS nend
 unfold lvA at q
 walk_at "p"
 refine⟨fun j ρ=>∃ (acc:List Int) (v8 v9 v10 v11 v12:Sl),ρ = [.bo (.bk U M J),.bo (.lst (ts.map .int)),.sh (opP o),.bo (.int m),.sh (.lst (ws.map fun g:List Int=>PV.lst (g.map .int))),.sh (.int b),.ow (.lst (acc.map .int)),.sh (.lst (DD.map nP)),v8,v9,v10,v11,v12]/\acc.length = ws.length/\(rows.drop j).foldl (fun l r=>lpF l r.2 (rwF (mtF M) (pkF (ws.map (knW U M)) r.2) (pkF (ws.map hdF) r.2) r.1)) acc = rows.foldl (fun l r=>lpF l r.2 (rwF (mtF M) (pkF (ws.map (knW U M)) r.2) (pkF (ws.map hdF) r.2) r.1)) (replicate ws.length b),⟨replicate ws.length b,_,_,_,_,_,by rw[List.map_replicate],length_replicate,rfl⟩,?_,?_⟩
 ·rintro j p ρ hp ⟨acc,v8,v9,v10,v11,v12,rfl,al,he⟩
  rw[getElem?_map] at hp
  obtain⟨r,hr,rfl⟩:=map_eq_some_iff.mp hp
  obtain⟨hi,rfl⟩:=List.getElem?_eq_some_iff.mp hr
  rw[drop_eq_getElem_cons hi,foldl_cons] at he
  obtain⟨rk1,rk2⟩:=rok.2 _ (getElem_mem hi)
  generalize rows[j] = r at *
  rw[AeS _ ws _ rk2,AeS _ ws _ rk2] at he
  rw[show rsP r = .tup [.int r.1,.lst (r.2.map fun k:Nat=>.int k)] from rfl]
  walk_at "p"
  refine⟨by rw[length_map]; omega,?_⟩
  refine Ff (S:=r.2) (enc:=fun k:Nat=>PV.int k) (f:=fun k=>some (.lst (((ws[k]?).getD default).map .int))) ?_ (fun d hd Z hZ=>?_)
  rotate_left
  ·have hdl:=rk2 d hd
   rw[getElem?_eq_getElem hdl] at hZ
   walk_at "c"
   walk_at "p"
   refine Dx (l:=ws) (f:=fun g:List Int=>PV.lst (g.map .int)) (j:=d) (a:=ws[d]) (getElem?_eq_getElem hdl) rfl ?_
   exact hZ
  rw[show r.2.filterMap (fun k=>some (PV.lst (((ws[k]?).getD default).map .int))) = (pkF ws r.2).map (fun g:List Int=>PV.lst (g.map .int)) by unfold pkF; rw[map_map]; exact congrFun (filterMap_eq_map' (f:=fun k:Nat=>PV.lst (((ws[k]?).getD default).map .int))) _]
  walk_at "p"
  refine⟨U,M,J,pkF ws r.2,r.1,rfl,fun w hw=>?_,by unfold pkF; rw[length_map]; omega,?_⟩
  ·unfold pkF at hw
   obtain⟨k,hk,rfl⟩:=mem_map.mp hw
   have hkl:=rk2 k hk
   rw[getElem?_eq_getElem hkl]
   exact ne _ (getElem_mem hkl)
  generalize rwF (mtF M) ((pkF ws r.2).map (knW U M)) ((pkF ws r.2).map hdF) r.1 = vals at he
  walk_at "p"
  rw[Wc]
  unfold lpF at he
  have zk:∀ z ∈ r.2.zip vals,z.1 < ws.length:=fun z hz=>rk2 _ (of_mem_zip hz).1
  generalize r.2.zip vals = zs at he zk
  refine⟨fun i ρ=>∃ (ac:List Int) (v11 v12:Sl),ρ = [.bo (.bk U M J),.bo (.lst (ts.map .int)),.sh (opP o),.bo (.int m),.sh (.lst (ws.map fun g:List Int=>PV.lst (g.map .int))),.sh (.int b),.ow (.lst (ac.map .int)),.sh (.lst (DD.map nP)),.sh (.int r.1),.sh (.lst (r.2.map fun k:Nat=>.int k)),.sh (.lst (vals.map .int)),v11,v12]/\ac.length = ws.length/\(zs.drop i).foldl (fun l p=>l.set p.1 p.2) ac = zs.foldl (fun l p=>l.set p.1 p.2) acc,⟨acc,_,_,rfl,al,rfl⟩,?_,?_⟩
  ·rintro i p ρ hp ⟨ac,v11,v12,rfl,al2,he2⟩
   rw[getElem?_map] at hp
   obtain⟨z,hz,rfl⟩:=map_eq_some_iff.mp hp
   obtain⟨hi2,rfl⟩:=List.getElem?_eq_some_iff.mp hz
   rw[drop_eq_getElem_cons hi2,foldl_cons] at he2
   have zk2:=zk _ (getElem_mem hi2)
   generalize zs[i] = z at *
   walk_at "p"
   refine Td rfl (Tc (j:=z.1) (by rw[length_map]; omega)) ?_
   walk_at "p"
   rw[<- map_set]
   exact⟨_,_,_,rfl,by rw[length_set,al2],he2⟩
  ·rintro ρ ⟨ac,v11,v12,rfl,al2,he2⟩
   rw[length_map,drop_length,foldl_nil] at he2
   rw[<- he2] at he
   exact⟨ac,_,_,_,_,_,rfl,al2,he⟩
 ·rintro ρ ⟨acc,v8,v9,v10,v11,v12,rfl,al,he⟩
  rw[length_map,drop_length,foldl_nil] at he
  walk_at "p"
  rw[he]
  exact q
def cR (ns:List Int) (k:Nat):Int:=(ns[k]?).getD 0
def AjX:PSp:=fun ps P=>∃ ns k,ps = [.scr ns,.int (k:Nat)]/\ns.length <= 63/\P (.int (cR ns k))
theorem AbU (T:Txt K mg t):Binds K t.d_qr ["_law_script","_law_k"] []:=T.F_qr.binds fun _ _ _ _ _ _ us hl=>match us,hl with | [_,_],_=>rfl
theorem Ye (T:Txt K mg t):FnOk P w K mg base CX0 1 t.f_qr t.d_qr ["_law_script","_law_k"] (spOf K t.C_Book [false,false] .sh AjX):=by
 refine T.F_qr.ok Al9 (fun vs H Q E h=>h.len) (fun cdv A outer s H vs Q E hr h=>?_)
 have hu:=Cp hr
 have hu64:=hr.units
 refine⟨_,(Bc (De (Cd Am9 (pv 1) (Cg (Ch K) rfl T.z_len PySem.boot_len (Ba (pv 0) Bd)) (Ci _))
    (Bf (Cc (Ce (Cj K) (pv 0) (pv 1) (fun _ _=>rfl))))
    Ct)
   (Bf (Cc Be))),?_⟩
 try dsimp only [Ck,Bx]
 refine Cq h (by decide) (Bk (Dl (Cw (EU.eb (Fa (fun _ _ _=>.bl _) Bb (EU.eb (Dr (Bp Bb Bh))))))
    (Dq (Cv Bb Bb))
    Df)
   (Dq Bg)) (fun ps P hp=>?_)
 clear h hu hu64 hr
 obtain⟨ns,k,rfl,hl,q⟩:=hp
 walk_at "s"
 unfold cR at q
 walk_at "p"
 by_cases hk:k < ns.length
 ·rw[decide_eq_true (by omega:(k:Int) < (ns.length:Int))]
  rw[getElem?_eq_getElem hk] at q
  walk_at "p"
  refine Amq (n:=ns[k]) (Fj (getElem?_eq_getElem hk)) ?_
  walk_at "p"
  exact q
 ·rw[decide_eq_false (by omega:¬ (k:Int) < (ns.length:Int))]
  rw[getElem?_eq_none (by omega)] at q
  walk_at "p"
  exact q
theorem Aaw {n:Nat} {f:Nat->Option PV} {P:PV->Prop} {ug:PV->Bi->(Bi->Prop)->Prop} {ta:UT} {ue:UE} {ρ':Bi} (hn:n < 100000) (q:P (.lst ((range n).filterMap f))) (h:∀ k,k < n->∀ Z:Option PV->Prop,Z (f k)->ug (.int (k:Int)) ρ' fun ρ2=>ta ρ2 fun b=>if b = true then ue ρ2 fun q=>Z (some q) else Z none):Aad ug ta ue ρ' P [.int (n:Int)]:=by
 refine⟨_,rfl,by omega,by omega,fun k rs=>rs = (range k).filterMap f,rfl,fun k rs hk hr=>?_,fun rs hr=>?_⟩
 ·subst hr
  rw[toNat_natCast] at hk
  rw[Int.zero_add]
  refine h k hk (fun o=>(match o with | some q=>(range k).filterMap f ++ [q] | none=>(range k).filterMap f) = (range (k + 1)).filterMap f) ?_
  rw[List.range_succ,List.filterMap_append]
  cases e:f k with
  | none=>simp [filterMap_cons,e]
  | some x=>simp [filterMap_cons,e]
 ·rw[toNat_natCast] at hr
  rw[hr]; exact q
def byL:List Int:=[1,3,5,9,11,13,15,17]
def byF (c:Int):Int:=(byL[(c % 8).toNat]?).getD 1
def s2F (c:Int) (k:Nat):Int:=c / 8 % 10 ^ 28 + (1 + c / 64 % 10 ^ 26) * (((k:Int) * byF c + c / 512) % 28)
def s2L (c:Int):List Int:=(range 28).map (s2F c)
def Alg:PSp:=fun ps P=>∃ c:Int,ps = [.int c]/\0 <= c/\P (.lst ((s2L c).map .int))
theorem Am2 (T:Txt K mg t):Binds K t.d_qbp ["_law_cell"] []:=T.F_qbp.binds fun _ _ _ _ _ _ us hl=>match us,hl with | [_],_=>rfl
theorem Al4 (T:Txt K mg t):FnOk P w K mg base CX0 1 t.f_qbp t.d_qbp ["_law_cell"] (spOf K t.C_Book [false] .fr Alg):=by
 refine T.F_qbp.ok sc_qbp (fun vs H Q E h=>h.len) (fun cdv A outer s H vs Q E hr h=>?_)
 have hu:=Cp hr
 have hu64:=hr.units
 refine⟨_,(Bc (Bl (i:=1) sc_qbp.nd rfl (by first | exact Or.inl rfl | exact Or.inr rfl) (Ce (Cj K) (Cu (Ba Be (Ba Be (Ba Be (Ba Be (Ba Be (Ba Be (Ba Be (Ba Be Bd))))))))) (Cb Dm (pv 0) Be) (fun _ _=>rfl)))
   (Bc (Bl (i:=2) sc_qbp.nd rfl (by first | exact Or.inl rfl | exact Or.inr rfl) (Cb Dm (Cb Fn (pv 0) Be) (Cb Nt Be Be)))
   (Bc (Bl (i:=3) sc_qbp.nd rfl (by first | exact Or.inl rfl | exact Or.inr rfl) (Cb Fw Be (Cb Dm (Cb Fn (pv 0) Be) (Cb Nt Be Be))))
   (Bf (Cc (Ja 1 [2,3,1,0] ["_law_k","_law_low","_law_step","_law_by","_law_cell"] ["_law_step","_law_low","_law_cell","_law_by"] rfl (Nn rfl T.z_range (Ba Be Bd)) rfl (fun j y e1 i e2=>match j,e1,e2 with | 0,e1,e2=>by cases e1; cases e2; exact⟨rfl,rfl,rfl,by decide +kernel⟩ | 1,e1,e2=>by cases e1; cases e2; exact⟨rfl,rfl,rfl,by decide +kernel⟩ | 2,e1,e2=>by cases e1; cases e2; exact⟨rfl,rfl,rfl,by decide +kernel⟩ | 3,e1,e2=>by cases e1; cases e2; exact⟨rfl,rfl,rfl,by decide +kernel⟩ | _ + 4,_,e2=>by simp at e2) (forall_mem_cons.mpr ⟨rfl,forall_mem_cons.mpr ⟨rfl,forall_mem_cons.mpr ⟨rfl,forall_mem_cons.mpr ⟨rfl,fun _ h=>nomatch h⟩⟩⟩⟩) (by decide +kernel) (fun _ _ _ _=>(Bo (i:=0) (show Nodup (["_law_k","_law_low","_law_step","_law_by","_law_cell"]:List Str) by decide +kernel) rfl (Or.inl rfl))) (fun _ _ _ _=>Gb) (fun _ _ _ _=>(Cb Fw (pv 1) (Cb Ur (pv 2) (Cb Dm (Cb Fw (Cb Ur (pv 0) (pv 3)) (Cb Fn (pv 4) Be)) Be)))) rfl (by decide +kernel) rfl (by decide +kernel))))))),?_⟩
 try dsimp only [Ck,Bx]
 refine Cq h (by decide) (Bk (Bu (Cv (EF.eb (Dn 8 (Bs Bg (Bs Bg (Bs Bg (Bs Bg (Bs Bg (Bs Bg (Bs Bg (Bs Bg Bh)))))))))) (EU.eb (Cz (fun _ _ _=>.int _) Bb (EU.eb Bg)))))
   (Bk (Bu (Cz (fun _ _ _=>.int _) (EU.eb (Cz (fun _ _ _=>.int _) Bb (EU.eb Bg))) (EU.eb (Cz (fun _ _ _=>.int _) (EU.eb Bg) (EU.eb Bg)))))
   (Bk (Bu (Fa (fun _ _ _=>.int _) (EU.eb Bg) (EU.eb (Cz (fun _ _ _=>.int _) (EU.eb (Cz (fun _ _ _=>.int _) Bb (EU.eb Bg))) (EU.eb (Cz (fun _ _ _=>.int _) (EU.eb Bg) (EU.eb Bg)))))))
   (Qy (Zi (Bp (EU.eb Bg) Bh) (By (top:=1)) Gk (Fa (fun _ _ _=>.int _) Bb (EU.eb (Cz (fun _ _ _=>.int _) Bb (EU.eb (Cz (fun _ _ _=>.int _) (EU.eb (Fa (fun _ _ _=>.int _) (EU.eb (Cz (fun _ _ _=>.int _) Bb Bb)) (EU.eb (Cz (fun _ _ _=>.int _) Bb (EU.eb Bg))))) (EU.eb Bg))))))))))) (fun ps P hp=>?_)
 clear h hu hu64 hr
 obtain⟨c,rfl,hc,q⟩:=hp
 walk_at "s"
 have h1:=emod_nonneg c (show (8:Int) ≠ 0 by decide)
 have h2:=emod_lt_of_pos c (show (0:Int) < 8 by decide)
 have hj:(c % 8).toNat < byL.length:=by show _ < 8; omega
 have eb:byL[(c % 8).toNat]? = some (byF c):=by unfold byF; rw[getElem?_eq_getElem hj]; rfl
 walk_at "p"
 all_goals try (first | decide | exact⟨by decide,by decide⟩ | exact⟨by decide,by decide,by decide⟩)
 refine Dx (l:=byL) (f:=PV.int) (j:=(c % 8).toNat) (a:=byF c) eb (by omega) ?_
 walk_at "p"
 all_goals try (first | decide | exact⟨by decide,by decide⟩ | exact⟨by decide,by decide,by decide⟩)
 have hb:0 <= byF c/\byF c < 20:=by
  have:∀ x ∈ byL,0 <= x/\x < 20:=by decide
  exact this _ (mem_of_getElem? eb)
 refine Aaw (n:=28) (f:=fun k=>some (.int (s2F c k))) (by decide) ?_ (fun k hk Z hZ=>?_)
 rotate_left
 ·walk_at "c"
  walk_at "p"
  all_goals try (first | decide | exact⟨by decide,by decide⟩)
  have g1:=emod_nonneg ((k:Int) * byF c + c / 512) (show (28:Int) ≠ 0 by decide)
  have g2:=emod_lt_of_pos ((k:Int) * byF c + c / 512) (show (0:Int) < 28 by decide)
  all_goals try (first | exact .inr ⟨by omega,by omega⟩ | exact .inl ⟨by omega,by omega⟩)
  exact hZ
 rw[show (range 28).filterMap (fun k=>some (PV.int (s2F c k))) = (s2L c).map .int by unfold s2L; rw[map_map]; exact congrFun (filterMap_eq_map' (f:=fun k=>PV.int (s2F c k))) _]
 exact q
theorem T2.nil {sg:List Int}:T2 sg []:=⟨fun k s h=>by simp at h,fun k s h=>by simp at h⟩
theorem T2.snoc {sg:List Int} {U:List Sg} (h:T2 sg U) {s:Sg} (h1:sg[U.length]? = some s.1) (h2:s.2.1 ∈ toldK) (h3:Np s.2.1 s.2.2) (h4:U.length < 8->toldK[U.length]? = some s.2.1):T2 sg (U ++ [s]):=by
 refine⟨fun k x e=>?_,fun k x e hk=>?_⟩
 ·rcases La e with e | ⟨rfl,rfl⟩
  ·exact h.at' k x e
  ·exact⟨h1,h2,h3⟩
 ·rcases La e with e | ⟨rfl,rfl⟩
  ·exact h.wd k x e hk
  ·exact h4 hk
def AjZ:PSp:=fun ps P=>∃ (c m:Int) (sg:List Int),ps = [.int c,.int m,.lst (sg.map .int)]/\0 <= m/\sg.length = 28/\∀ U:List Sg,U.length = 14->T2 sg U->P (.lst (U.map sgP))
theorem Am1 (T:Txt K mg t):Binds K t.d_qbx ["_law_cell","_law_more","_law_signs_here"] []:=T.F_qbx.binds fun _ _ _ _ _ _ us hl=>match us,hl with | [_,_,_],_=>rfl
theorem Alj (T:Txt K mg t):FnOk P w K mg base CX0 1 t.f_qbx t.d_qbx ["_law_cell","_law_more","_law_signs_here"] (spOf K t.C_Book [false,true,false] .fr AjZ):=by
 refine T.F_qbx.ok sc_qbx (fun vs H Q E h=>h.len) (fun cdv A outer s H vs Q E hr h=>?_)
 have hu:=Cp hr
 have hu64:=hr.units
 refine⟨_,(Bc (Bl (i:=3) sc_qbx.nd rfl (Or.inl rfl) (Cu (Ba Bw (Ba Bw (Ba Bw (Ba Bw (Ba Bw (Ba Bw (Ba Bw (Ba Bw Bd))))))))))
   (Bc (Bl (i:=4) sc_qbx.nd rfl (Or.inl rfl) (Cu Bd))
   (Bc (Dd PassesOwn.never rfl (Nn rfl T.z_range (Ba Be Bd)) (Bo (i:=5) sc_qbx.nd rfl (Or.inl rfl))
    (Bc (Bl (i:=6) sc_qbx.nd rfl (Or.inl rfl) (Ce (Cj K) (pv 3) (Cb Dm (pv 5) Be) (fun _ _=>rfl)))
   (Bc (De (Cd Ta (pv 5) Be (Ci _))
    (Bc (Bl (i:=6) sc_qbx.nd rfl (Or.inl rfl) (Ce (Cj K) (pv 3) (Cb Dm (pv 1) Be) (fun _ _=>rfl)))
   (Bf (Bl (i:=1) sc_qbx.nd rfl (Or.inl rfl) (Cb Fn (pv 1) Be))))
    Ct)
   (Bc (Bl (i:=7) sc_qbx.nd rfl (Or.inl rfl) Be)
   (Bc (De (Cd Dj (pv 6) Bw (Ci _))
    (Bc (Bl (i:=7) sc_qbx.nd rfl (Or.inl rfl) (Cb Ur (Cb Fw Be (Cb Dm (pv 1) Be)) (Ce (Cj K) (Cu (Ba Be (Ba (Cb Nt Be Be) Bd))) (Cb Dm (Cb Fn (pv 0) Be) Be) (fun _ _=>rfl))))
   (Bf (Bl (i:=1) sc_qbx.nd rfl (Or.inl rfl) (Cb Fn (pv 1) Be))))
    Ct)
   (Bf (Co (Fo plainAttrs_list PySem.F.slot_list_append PySem.F.type_list_append Dc (pv 4) (Ba (Fr (Ba (Ce (Cj K) (pv 2) (pv 5) (fun _ _=>rfl)) (Ba (pv 6) (Ba (pv 7) Bd)))) Bd)))))))))
   (Bf (Cc (pv 4)))))),?_⟩
 try dsimp only [Ck,Bx]
 refine Cq h (by decide) (Bk (Bu (EF.eu (Dn 8 (Bs Cn (Bs Cn (Bs Cn (Bs Cn (Bs Cn (Bs Cn (Bs Cn (Bs Cn Bh)))))))))))
   (Bk (Dk (Dn 0 Bh))
   (Bk (AaV (Bp (EU.eb Bg) Bh) (By (top:=8))
    (Bk (Bu (Cv Bb (EU.eb (Cz (fun _ _ _=>.int _) Bb (EU.eb Bg)))))
   (Bk (Dl (Cw (EU.eb (Fa (fun _ _ _=>.bl _) Bb (EU.eb Bg))))
    (Bk (Bu (Cv Bb (EU.eb (Cz (fun _ _ _=>.int _) Bb (EU.eb Bg)))))
   (Bu (Cz (fun _ _ _=>.int _) Bb (EU.eb Bg))))
    Df)
   (Bk (Bu Bg)
   (Bk (Dl (Cw (EU.eb (Dv Bb (EU.eb Cn))))
    (Bk (Bu (Cz (fun _ _ _=>.int _) (EU.eb (Fa (fun _ _ _=>.int _) (EU.eb Bg) (EU.eb (Cz (fun _ _ _=>.int _) Bb (EU.eb Bg))))) (EU.eb (Cv (EF.eb (Dn 2 (Bs Bg (Bs (Cz (fun _ _ _=>.int _) (EU.eb Bg) (EU.eb Bg)) Bh)))) (EU.eb (Cz (fun _ _ _=>.int _) (EU.eb (Cz (fun _ _ _=>.int _) Bb (EU.eb Bg))) (EU.eb Bg)))))))
   (Bu (Cz (fun _ _ _=>.int _) Bb (EU.eb Bg))))
    Df)
   (Fx (Bs (Gm 3 (Bs (Cv Bb Bb) (Bs Br (Bs Br Bh)))) Bh)))))))
   Fv))) (fun ps P hp=>?_)
 clear h hu hu64 hr
 obtain⟨c,m,sg,rfl,hm,hs,q⟩:=hp
 walk_at "s"
 have ew:([PV.str "fore",PV.str "back",PV.str "num",PV.str "blank",PV.str "mark",PV.str "forein",PV.str "backin",PV.str "out"]:List PV) = toldK.map PV.str:=rfl
 walk_at "p"
 rotate_left
 ·exact⟨by decide,by decide⟩
 rw[ew]
 refine⟨fun k ρ=>∃ (m:Int) (U:List Sg) (v5 v6 v7:Sl),ρ = [.bo (.int c),.sh (.int m),.bo (.lst (sg.map .int)),.sh (.lst (toldK.map PV.str)),.ow (.lst (U.map sgP)),v5,v6,v7]/\0 <= m/\U.length = k/\T2 sg U,⟨m,[],_,_,_,rfl,hm,rfl,T2.nil⟩,?_,?_⟩
 ·rintro k ρ hk ⟨m,U,v5,v6,v7,rfl,h0,ul,ht⟩
  have hk':k < 14:=hk
  rw[Int.zero_add]
  have wl:∀ i:Int,∃ w,toldK[(i % 8).toNat]? = some w/\w ∈ toldK/\i % 8 = ((i % 8).toNat:Int):=fun i=>by
   have g1:=emod_nonneg i (show (8:Int) ≠ 0 by decide)
   have g2:=emod_lt_of_pos i (show (0:Int) < 8 by decide)
   have hj:(i % 8).toNat < toldK.length:=by show _ < 8; omega
   exact⟨_,getElem?_eq_getElem hj,getElem_mem hj,by omega⟩
  walk_at "x"
  refine Ft ?_
  obtain⟨w0,hw0,hm0,he0⟩:=wl (k:Int)
  walk_at "x"
  all_goals try decide
  refine Dx (l:=toldK) (f:=PV.str) (j:=((k:Int) % 8).toNat) (a:=w0) hw0 he0 ?_
  walk_at "x"
  refine Lc (fun ρ=>∃ (m':Int) (w:Str),0 <= m'/\w ∈ toldK/\(k < 8->toldK[k]? = some w)/\ρ = [.bo (.int c),.sh (.int m'),.bo (.lst (sg.map .int)),.sh (.lst (toldK.map PV.str)),.ow (.lst (U.map sgP)),.sh (.int k),.sh (.str w),v7]) (fun ρ h=>?_) ?_
  rotate_left
  ·walk_at "p"
   by_cases h7:7 < k
   ·rw[decide_eq_true (by omega)]
    obtain⟨w1,hw1,hm1,he1⟩:=wl m
    walk_at "p"
    all_goals try (first | decide | exact⟨by decide,by decide⟩)
    refine Dx (l:=toldK) (f:=PV.str) (j:=(m % 8).toNat) (a:=w1) hw1 he1 ?_
    walk_at "p"
    all_goals try (first | decide | exact⟨by decide,by decide⟩)
    exact .inl ⟨m / 8,w1,by omega,hm1,fun z=>by omega,rfl⟩
   ·rw[decide_eq_false (by omega)]
    walk_at "p"
    exact .inl ⟨m,w0,h0,hm0,fun z=>by rw[show ((k:Int) % 8).toNat = k by omega] at hw0; exact hw0,rfl⟩
  obtain⟨m',w,hm',hw,hw8,rfl⟩:=h
  walk_at "x"
  refine Ft ?_
  walk_at "x"
  refine Lc (fun ρ=>∃ (m' r:Int),0 <= m'/\Np w r/\ρ = [.bo (.int c),.sh (.int m'),.bo (.lst (sg.map .int)),.sh (.lst (toldK.map PV.str)),.ow (.lst (U.map sgP)),.sh (.int k),.sh (.str w),.sh (.int r)]) (fun ρ h=>?_) ?_
  rotate_left
  ·walk_at "p"
   by_cases hmk:w = "mark"
   ·rw[decide_eq_true hmk]
    have g1:=emod_nonneg (c / 16) (show (2:Int) ≠ 0 by decide)
    have g2:=emod_lt_of_pos (c / 16) (show (0:Int) < 2 by decide)
    obtain⟨f,hf,hf1⟩:∃ f:Int,([1,10 ^ 28]:List Int)[(c / 16 % 2).toNat]? = some f/\1 <= f:=by
     have hj:(c / 16 % 2).toNat < ([1,10 ^ 28]:List Int).length:=by show _ < 2; omega
     have:∀ x ∈ ([1,10 ^ 28]:List Int),1 <= x:=by decide
     exact⟨_,getElem?_eq_getElem hj,this _ (getElem_mem hj)⟩
    walk_at "p"
    all_goals try (first | decide | exact⟨by decide,by decide⟩ | exact⟨by decide,by decide,by decide⟩)
    refine Dx (l:=([1,10 ^ 28]:List Int)) (f:=PV.int) (j:=(c / 16 % 2).toNat) (a:=f) hf (by omega) ?_
    have g3:=emod_nonneg m' (show (3:Int) ≠ 0 by decide)
    have g4:=emod_lt_of_pos m' (show (0:Int) < 3 by decide)
    walk_at "p"
    all_goals try (first | decide | exact⟨by decide,by decide⟩ | exact .inl ⟨by omega,by omega⟩)
    refine .inl ⟨m' / 3,(1 + m' % 3) * f,by omega,.inl ⟨hmk,?_⟩,rfl⟩
    have:=Int.mul_le_mul (show (1:Int) <= 1 + m' % 3 by omega) hf1 (by decide) (by omega)
    omega
   ·rw[decide_eq_false hmk]
    walk_at "p"
    exact .inl ⟨m',0,hm',.inr ⟨hmk,rfl⟩,rfl⟩
  obtain⟨m2,r,hm2,hr,rfl⟩:=h
  walk_at "p"
  have hk28:k < sg.length:=by omega
  refine Dx (l:=sg) (f:=PV.int) (j:=k) (a:=sg[k]) (getElem?_eq_getElem hk28) rfl ?_
  walk_at "p"
  rotate_left
  ·rw[length_map]; omega
  refine⟨m2,U ++ [(sg[k],w,r)],_,_,_,by rw[map_append]; rfl,hm2,by rw[length_append,ul]; rfl,ht.snoc (s:=(sg[k],w,r)) (by rw[ul]; exact getElem?_eq_getElem hk28) hw hr (by rw[ul]; exact hw8)⟩
 rintro ρ ⟨m,U,v5,v6,v7,rfl,h0,ul,ht⟩
 walk_at "p"
 exact q U ul ht
theorem Ahn {l:List Sg} {p:Sg->Prop} [DecidablePred p]:l.filterMap (fun s=>if p s then some (PV.int s.1) else none) = ((l.filter fun s=>decide (p s)).map (·.1)).map .int:=by
 induction l with
 | nil=>rfl
 | cons x r ih =>
  by_cases z:p x
  ·rw[List.filterMap_cons_some (by rw[if_pos z]),filter_cons_of_pos (by simp [z]),map_cons,map_cons,ih]
  ·rw[List.filterMap_cons_none (by rw[if_neg z]),filter_cons_of_neg (by simp [z]),ih]
def wdD (U:List Sg):List (Key × PV):=U.map fun s=>(Sum.inl s.1,.str s.2.1)
theorem Abe {U:List Sg} {k:Nat} {s:Sg} (nd:(U.map (·.1)).Nodup) (hs:U[k]? = some s):Lq (wdD (U.take k)) (.inl s.1) (.str s.2.1) = wdD (U.take (k + 1)):=by
 rw[Zo (kvs:=wdD (U.take k)) (fun z=>On (f:=fun s:Sg=>s.1) nd hs (AaR (f:=fun s:Sg=>s.1) z)),Dg hs]
 unfold wdD; rw[map_append]; rfl
theorem Zx (f:Nat->Int):Gr ((range 28).map fun k=>PV.int (f k)) (some 24) (some 26) = [.int (f 24),.int (f 25)]:=rfl
theorem AmG {f:Nat->Int} {U:List Sg}:((U.filter fun s=>decide (s.2.1 ∈ bs4)).map (·.1)).map PV.int ++ [PV.int (f 24),PV.int (f 25)] = (r0G f U).map fun s=>PV.int s.1:=by
 unfold r0G
 rw[map_append,map_map,map_map]; rfl
theorem Anw {U:List Sg}:((U.filter fun s:Sg=>decide (s.2.1 = "mark")).map (·.1)).map PV.int = (Lu U).map fun s=>PV.int s.1:=by unfold Lu; rw[map_map]; rfl
theorem AjF {f:Nat->Int} {U:List Sg}:upG U (r0G f U) (r0G f U).length = U:=by
 unfold upG; rw[drop_of_length_le (Nat.le_refl _)]; simp
theorem Aiz {U R:List Sg} {n:Nat} (h:n <= R.length) (x:Sg):upG U (R ++ [x]) n = upG U R n ++ (if x.2.1 = "plain" then [] else [x]):=by
 unfold upG
 rw[List.drop_append_of_le_length h,filter_append,append_assoc]
 by_cases z:x.2.1 = "plain"
 ·rw[if_pos z,filter_cons_of_neg (by simp [z])]; rfl
 ·rw[if_neg z,filter_cons_of_pos (by simp [z])]; rfl
theorem Ajs {s:Int × Int} {ss:List (Int × Int)} {P:PV->Prop} (h1:¬ s ∈ ss->P (.bl true)) (h2:s ∈ ss->P (.bl false)):AfL (prP s) (.lst (ss.map prP)) P:=by
 refine⟨ss.map prP,rfl,fun x hx=>?_,fun x hx=>?_,fun b hb=>?_⟩
 ·obtain⟨z,_,rfl⟩:=mem_map.mp hx; exact⟨_,rfl⟩
 ·obtain⟨z,_,rfl⟩:=mem_map.mp hx
  refine .tup (n:=39) fun i u v hu hv=>?_
  match i,hu,hv with
  | 0,hu,hv=>cases hu; cases hv; exact .flat rfl rfl
  | 1,hu,hv=>cases hu; cases hv; exact .flat rfl rfl
  | _ + 2,hu,_=>simp at hu
 ·have hm:prP s ∈ ss.map prP ↔ s ∈ ss:=by
   constructor
   ·intro h
    obtain⟨z,hz,e⟩:=mem_map.mp h
    have e':PV.tup [.int z.1,.int z.2] = .tup [.int s.1,.int s.2]:=e
    injection e' with e'
    injection e' with e1 e2
    injection e2 with e2
    injection e1 with e1
    injection e2 with e2
    rwa [<- show z = s from Prod.ext e1 e2]
   ·exact fun h=>mem_map.mpr ⟨s,h,rfl⟩
  by_cases h:s ∈ ss
  ·rw[hb.mpr (hm.mpr h)]; exact h2 h
  ·have:b = false:=by
    cases b with
    | false=>rfl
    | true=>exact absurd (hm.mp (hb.mp rfl)) h
   rw[this]; exact h1 h
theorem Aai (U:List Sg):(wdD U).map (fun kv=>kP kv.1) = U.map fun s=>PV.int s.1:=by unfold wdD; rw[map_map]; rfl
theorem Sz {U:List Sg} (nd:(U.map (·.1)).Nodup) {s:Sg} (hs:s ∈ U):Fy (wdD U) (.inl s.1) = some (.str s.2.1):=by
 induction U with
 | nil=>cases hs
 | cons x r ih =>
  obtain⟨h1,h2⟩:=nodup_cons.mp (show (x.1 :: r.map (·.1)).Nodup from nd)
  show Fy ((Sum.inl x.1,PV.str x.2.1) :: wdD r) (Sum.inl s.1) = _
  rw[Sf]
  rcases mem_cons.mp hs with e | e
  ·subst e; rw[if_pos rfl]
  ·rw[if_neg (fun z=>h1 (mem_map.mpr ⟨s,e,(Sum.inl.inj z).symm⟩))]
   exact ih h2 e
theorem AlJ {U:List Sg} {n:Int} (h:∀ u ∈ U,¬ u.1 = n):Fy (wdD U) (.inl n) = none:=by
 induction U with
 | nil=>rfl
 | cons x r ih =>
  show Fy ((Sum.inl x.1,PV.str x.2.1) :: wdD r) (Sum.inl n) = _
  rw[Sf,if_neg (fun z=>h x mem_cons_self (Sum.inl.inj z))]
  exact ih fun u hu=>h u (mem_cons_of_mem _ hu)
def Alw:Tu:=fun p q r P=>∃ (c:Int) (f:Nat->Int) (U:List Sg),p = .int c/\q = .lst (U.map sgP)/\r = .lst ((range 28).map fun k=>.int (f k))/\T2 ((range 28).map f) U/\U.length = 14/\S28 f/\∀ k R J,k <= 6->JG f U k R J->P (.lst (map jnP J)) (.lst (map sgP (upG U R (r0G f U).length)))
theorem Anu (T:Txt K mg t):Binds K t.d_qbm ["_law_cell","_law_told_here","_law_signs_here"] []:=T.F_qbm.binds fun _ _ _ _ _ _ us hl=>match us,hl with | [_,_,_],_=>rfl
theorem Ak5 (T:Txt K mg t):FnOk P w K mg base CX0 1 t.f_qbm t.d_qbm ["_law_cell","_law_told_here","_law_signs_here"] (spM K t.C_Book Alw):=by
 refine T.F_qbm.ok sc_qbm (fun vs H Q E h=>h.len) (fun cdv A outer s H vs Q E hr h=>?_)
 have hu:=Cp hr
 have hu64:=hr.units
 refine⟨_,(Bc (Bl (i:=3) sc_qbm.nd rfl (by first | exact Or.inl rfl | exact Or.inr rfl) Nf)
   (Bc (Dd PassesOwn.never rfl (Cs (pv 1)) (Fu (K':=K) (n:=3) rfl rfl (Cf (Bo (i:=4) sc_qbm.nd rfl (Or.inl rfl)) (Cf (Bo (i:=5) sc_qbm.nd rfl (Or.inl rfl)) (Cf (Bo (i:=6) sc_qbm.nd rfl (Or.inl rfl)) Dw))))
    (Bf (Gn hu (pv 3) (pv 4) (pv 5) rfl)))
   (Bc (Uo (Rj 1 [3] ["_law_sign","_law_words_here"] ["_law_words_here"] rfl (Ue (pv 3)) rfl (fun j y e1 i e2=>match j,e1,e2 with | 0,e1,e2=>by cases e1; cases e2; exact⟨rfl,rfl,rfl,by decide +kernel⟩ | _ + 1,_,e2=>by simp at e2) (forall_mem_cons.mpr ⟨rfl,fun _ h=>nomatch h⟩) (by decide +kernel) (fun _ _ _ _=>(Bo (i:=0) (show Nodup (["_law_sign","_law_words_here"]:List Str) by decide +kernel) rfl (Or.inl rfl))) (fun _ _ _ _=>(Jz (Cd Dj (Qp hu (pv 1) (pv 0) (fun _ _=>rfl)) Bw (Ci _)))) (fun _ _ _ _=>(pv 0)) rfl (by decide +kernel) rfl (by decide +kernel) (fun _=>rfl) (i:=7) sc_qbm.nd rfl (Or.inl rfl) rfl))
   (Bc (Uo (Bl (i:=8) sc_qbm.nd rfl (Or.inl rfl) (Cb Tg (Ja 1 [3] ["_law_sign","_law_words_here"] ["_law_words_here"] rfl (Ue (pv 3)) rfl (fun j y e1 i e2=>match j,e1,e2 with | 0,e1,e2=>by cases e1; cases e2; exact⟨rfl,rfl,rfl,by decide +kernel⟩ | _ + 1,_,e2=>by simp at e2) (forall_mem_cons.mpr ⟨rfl,fun _ h=>nomatch h⟩) (by decide +kernel) (fun _ _ _ _=>(Bo (i:=0) (show Nodup (["_law_sign","_law_words_here"]:List Str) by decide +kernel) rfl (Or.inl rfl))) (fun _ _ _ _=>(Jz (Cd (Ji K) (Qp hu (pv 1) (pv 0) (fun _ _=>rfl)) (Cu (Ba Bw (Ba Bw (Ba Bw (Ba Bw Bd))))) rfl))) (fun _ _ _ _=>(pv 0)) rfl (by decide +kernel) rfl (by decide +kernel)) (Nh (Ls K) (pv 2) (Jh Be) (Jh Be)))))
   (Bc (Bl (i:=9) sc_qbm.nd rfl (Or.inl rfl) (Cu Bd))
   (Bc (Bl (i:=10) sc_qbm.nd rfl (Or.inl rfl) (Cu Bd))
   (Bc (Dd PassesOwn.never rfl (Qe rfl T.z_range (Ba Be (Ba (Cb Fw Be (Cb Dm (pv 0) Be)) Bd))) (Bo (i:=11) sc_qbm.nd rfl (Or.inl rfl))
    (Bc (Bl (i:=0) sc_qbm.nd rfl (Or.inl rfl) (Cb Fn (pv 0) Be))
   (Bc (Bl (i:=12) sc_qbm.nd rfl (Or.inl rfl) (Ce (Cj K) (pv 8) (Cb Dm (pv 0) (Cg (Ch K) rfl T.z_len PySem.boot_len (Ba (pv 8) Bd))) (fun _ _=>rfl)))
   (Bc (Bl (i:=13) sc_qbm.nd rfl (Or.inl rfl) (Ce (Cj K) (pv 7) (Cb Dm (Cb Fn (pv 0) (Cg (Ch K) rfl T.z_len PySem.boot_len (Ba (pv 8) Bd))) (Cg (Ch K) rfl T.z_len PySem.boot_len (Ba (pv 7) Bd))) (fun _ _=>rfl)))
   (Bc (Bl (i:=0) sc_qbm.nd rfl (Or.inl rfl) (Cb Fn (pv 0) (Cb Ur (Cg (Ch K) rfl T.z_len PySem.boot_len (Ba (pv 8) Bd)) (Cg (Ch K) rfl T.z_len PySem.boot_len (Ba (pv 7) Bd)))))
   (Bf (De (Cd (Xj hu64) (Fr (Ba (pv 12) (Ba (pv 13) Bd))) (pv 10) rfl)
    (Bc (Co (Fo plainAttrs_list PySem.F.slot_list_append PySem.F.type_list_append Dc (pv 10) (Ba (Fr (Ba (pv 12) (Ba (pv 13) Bd))) Bd)))
   (Bc (Co (Fo plainAttrs_list PySem.F.slot_list_append PySem.F.type_list_append Dc (pv 9) (Ba (Fr (Ba (Ce (Cj K) (pv 2) (pv 11) (fun _ _=>rfl)) (Ba (pv 12) (Ba (pv 13) Bd)))) Bd)))
   (Bc (Co (Fo plainAttrs_list PySem.F.slot_list_append PySem.F.type_list_append Dc (pv 8) (Ba (Ce (Cj K) (pv 2) (pv 11) (fun _ _=>rfl)) Bd)))
   (Bf (De (Jm (Ael hu (pv 12) (pv 3)))
    (Bc (Gn hu (pv 3) (Ce (Cj K) (pv 2) (pv 11) (fun _ _=>rfl)) (Qp hu (pv 3) (pv 12) (fun _ _=>rfl)) rfl)
   (Bf (Co (Fo plainAttrs_list PySem.F.slot_list_append PySem.F.type_list_append Dc (pv 1) (Ba (Fr (Ba (Ce (Cj K) (pv 2) (pv 11) (fun _ _=>rfl)) (Ba (Qp hu (pv 3) (pv 12) (fun _ _=>rfl)) (Ba Be Bd)))) Bd)))))
    Ct)))))
    Ct)))))))
   (Bf (Cc (pv 9)))))))))),?_⟩
 try dsimp only [Ck,Bx]
 refine Ae1 h (by decide) (fun a=>(Bk (Dk Aa2)
   (Bk (AiH (i:=1) (a:=a) (AiY (Gv (Da (By (top:=14)) (Da (By (top:=14)) (Da (By (top:=14)) Gc))))
    (Qi Bb Br)))
   (Bk (Aey (i:=3) (Bu (EF.eu (Wv  (By (top:=1)) (Cw (EU.eb (Dv (EU.eb (AaI Bb)) (EU.eb Cn)))) Br))))
   (Bk (Aey (i:=3) (Dk (Uw (EF.eb (Wv  (By (top:=1)) (Cw (EU.eb (Tf (AaI Bb) (EF.eb (Dn 4 (Bs Cn (Bs Cn (Bs Cn (Bs Cn Bh))))))))) Br)) (EF.eb (Rb Bb (Jd (EU.eb Bg)) (Jd (EU.eb Bg)))))))
   (Bk (Dk (Dn 0 Bh))
   (Bk (Dk (Dn 0 Bh))
   (Bk (Sy (Bp (EU.eb Bg) (Bp (EU.eb (Fa (fun _ _ _=>.int _) (EU.eb Bg) (EU.eb (Cz (fun _ _ _=>.int _) Bb (EU.eb Bg))))) Bh)) (By (top:=14))
    (Bk (Bu (Cz (fun _ _ _=>.int _) Bb (EU.eb Bg)))
   (Bk (Bu (Cv Bb (EU.eb (Cz (fun _ _ _=>.int _) Bb (EU.eb (Dr (Bp Bb Bh)))))))
   (Bk (Bu (Cv Bb (EU.eb (Cz (fun _ _ _=>.int _) (EU.eb (Cz (fun _ _ _=>.int _) Bb (EU.eb (Dr (Bp Bb Bh))))) (EU.eb (Dr (Bp Bb Bh)))))))
   (Bk (Bu (Cz (fun _ _ _=>.int _) Bb (EU.eb (Cz (fun _ _ _=>.int _) (EU.eb (Dr (Bp Bb Bh))) (EU.eb (Dr (Bp Bb Bh)))))))
   (Dl (Cw (EU.eb (AdR (Gm 2 (Bs Br (Bs Br Bh))) Bb)))
    (Bk (Fx (Bs (Gm 2 (Bs Br (Bs Br Bh))) Bh))
   (Bk (Fx (Bs (Gm 3 (Bs (Cv Bb Bb) (Bs Br (Bs Br Bh)))) Bh))
   (Bk (Fx (Bs (Cv Bb Bb) Bh))
   (Dl (Cw (EU.eb (AjY Bb Bb)))
    (Bk (Qi (EU.eb (Cv Bb Bb)) (Abd Bb Bb))
   (Ai0 (a:=a) (Bs (Gm 3 (Bs (Cv Bb Bb) (Bs (Abd Bb Bb) (Bs Bg Bh)))) Bh)))
    Df))))
    Df))))))
   (AiS (i:=1)))))))))) (fun a p0 q0 r0 P hp=>?_)
 clear h hu hu64 hr
 obtain⟨c,f,U,rfl,rfl,rfl,ht,ul,hf,q⟩:=hp
 walk_at "s"
 have nd:=ht.nd ul hf
 walk_at "p"
 refine Akp rfl (fun z=>?_)
 refine AlA rfl ⟨fun k ρ=>∃ v4 v5 v6,k <= 14/\ρ = [.sh (.int c),.fl z (U.map sgP),.sh (.lst ((range 28).map fun k=>.int (f k))),.ow (.dk (wdD (U.take k))),v4,v5,v6,.un,.un,.un,.un,.un,.un,.un],⟨_,_,_,zero_le _,rfl⟩,?_,?_,?_⟩
 ·rintro k ρ ⟨v4,v5,v6,_,rfl⟩; rfl
 ·rintro k p ρ hp ⟨v4,v5,v6,hk14,rfl⟩
  rw[getElem?_map] at hp
  obtain⟨s,hs,rfl⟩:=map_eq_some_iff.mp hp
  have hk:k < U.length:=(List.getElem?_eq_some_iff.mp hs).1
  walk_at "p"
  rotate_left
  ·unfold wdD; rw[length_map,length_take]; omega
  rw[show Lq (wdD (U.take k)) (Sum.inl s.1) (.str s.2.1) = wdD (U.take (k + 1)) from Abe nd hs]
  exact⟨_,_,_,by omega,rfl⟩
 ·rintro ρ ⟨v4,v5,v6,hk14,rfl⟩
  rw[length_map,take_length]
  refine⟨rfl,?_⟩
  have wl:(wdD U).length = 14:=by unfold wdD; rw[length_map,ul]
  walk_at "p"
  refine⟨by omega,?_⟩
  rw[Aai]
  refine Ff (S:=U) (enc:=fun s=>PV.int s.1) (f:=fun s=>if s.2.1 = "mark" then some (.int s.1) else none) ?_ (fun d hd Z hZ=>?_)
  rotate_left
  ·walk_at "c"
   walk_at "p"
   refine Vd (Sz nd hd) ?_
   walk_at "p"
   by_cases hm:d.2.1 = "mark"
   ·rw[decide_eq_true hm]
    rw[if_pos hm] at hZ
    walk_at "p"
    exact hZ
   ·rw[decide_eq_false hm]
    rw[if_neg hm] at hZ
    walk_at "p"
    exact hZ
  rw[Ahn,Anw]
  show fzE _ _ _ _ _
  refine⟨rfl,?_⟩
  walk_at "p"
  refine⟨by omega,?_⟩
  rw[Aai]
  refine Ff (S:=U) (enc:=fun s=>PV.int s.1) (f:=fun s=>if s.2.1 ∈ bs4 then some (.int s.1) else none) ?_ (fun d hd Z hZ=>?_)
  rotate_left
  ·walk_at "c"
   walk_at "p"
   refine Vd (Sz nd hd) ?_
   walk_at "p"
   refine Aaf (L:=bs4) (x:=d.2.1) ?_
   by_cases hm:d.2.1 ∈ bs4
   ·rw[decide_eq_true hm]
    rw[if_pos hm] at hZ
    walk_at "p"
    exact hZ
   ·rw[decide_eq_false hm]
    rw[if_neg hm] at hZ
    walk_at "p"
    exact hZ
  rw[Ahn]
  have fl:=length_filter_le (fun s:Sg=>decide (s.2.1 ∈ bs4)) U
  walk_at "p"
  all_goals try (first | decide | (rw[length_map,length_map,Zx]; show _ + 2 <= _; omega))
  rw[Zx,AmG]
  have rl:(r0G f U).length <= 16:=by unfold r0G; rw[length_append,length_map]; show _ + 2 <= _; omega
  have g1:=emod_nonneg c (show (7:Int) ≠ 0 by decide)
  have g2:=emod_lt_of_pos c (show (0:Int) < 7 by decide)
  show fzE _ _ _ _ _
  refine⟨rfl,?_⟩
  walk_at "p"
  all_goals try (first | decide | exact⟨by decide,by decide⟩ | omega)
  refine⟨fun n ρ=>∃ (c':Int) (R:List Sg) (J:List Jn) (v11 v12 v13:Sl),n <= 6/\ρ = [.sh (.int c'),.om a (.lst ((upG U R (r0G f U).length).map sgP)),.sh (.lst ((range 28).map fun k=>.int (f k))),.ow (.dk (wdD (upG U R (r0G f U).length))),v4,v5,v6,.sh (.lst ((Lu U).map fun s=>PV.int s.1)),.ow (.lst (R.map fun s=>PV.int s.1)),.ow (.lst (J.map jnP)),.ow (.lst ((J.map (·.2)).map prP)),v11,v12,v13]/\JG f U n R J,⟨c,r0G f U,[],_,_,_,zero_le _,by rw[AjF]; rfl,.nil⟩,?_,?_⟩
  ·rintro n ρ hn ⟨c',R,J,v11,v12,v13,hn6,rfl,jg⟩
   have hn':n < 6:=by omega
   obtain⟨und,uix⟩:=Vn jg hn6 ht ul hf
   have kk:=Ro ht ul hf
   have old:=jg.old2 hn' kk
   have jl:=jg.len
   have rp:0 < R.length:=by rw[jl.2]; unfold r0G; rw[length_append]; show 0 < _ + 2 + _; omega
   have ml:=length_filter_le (fun s:Sg=>decide (s.2.1 = "mark")) U
   have mp:0 < (Lu U).length:=by
    have h4:4 < U.length:=by omega
    have:=ht.wd 4 _ (getElem?_eq_getElem h4) (by omega)
    exact List.length_pos_of_mem (mem_filter.mpr ⟨getElem_mem h4,decide_eq_true (Option.some.inj this).symm⟩)
   have ulen:(upG U R (r0G f U).length).length <= 60:=by
    have:=(Yl jg hn6 ht ul hf 0).ln
    omega
   have pick:∀ (l:List Sg) (i:Int),0 < l.length->∃ s,l[(i % (l.length:Int)).toNat]? = some s/\s ∈ l/\i % (l.length:Int) = ((i % (l.length:Int)).toNat:Int):=fun l i hl=>by
    have q1:=emod_nonneg i (show (l.length:Int) ≠ 0 by omega)
    have q2:=emod_lt_of_pos i (show (0:Int) < (l.length:Int) by omega)
    have hj:(i % (l.length:Int)).toNat < l.length:=by omega
    exact⟨_,getElem?_eq_getElem hj,getElem_mem hj,by omega⟩
   obtain⟨s,hs1,hs2,hs3⟩:=pick R (c' / 7) rp
   obtain⟨mr,hm1,hm2,hm3⟩:=pick (Lu U) (c' / 7 / (R.length:Int)) mp
   have fk:((range 28).map fun k=>PV.int (f k))[18 + n]? = some (PV.int (f (18 + n))):=by rw[getElem?_map,getElem?_range (by omega)]; rfl
   have ai:atI ((range 28).map fun k=>PV.int (f k)) (18 + (n:Int)) = some (PV.int (f (18 + n))):=by
    rw[show (18 + (n:Int)) = ((18 + n:Nat):Int) by omega]; exact Fj fk
   walk_at "p"
   all_goals try (first | decide | exact⟨by decide,by decide⟩ | (simp only [length_map]; omega))
   simp only [length_map]
   refine Dx (l:=R) (f:=fun s:Sg=>PV.int s.1) (j:=(c' / 7 % (R.length:Int)).toNat) (a:=s) hs1 hs3 ?_
   walk_at "p"
   all_goals try (first | decide | exact⟨by decide,by decide⟩ | (simp only [length_map]; omega) | exact⟨by simp only [length_map]; omega,by simp only [length_map]; omega⟩)
   simp only [length_map]
   refine Dx (l:=Lu U) (f:=fun s:Sg=>PV.int s.1) (j:=(c' / 7 / (R.length:Int) % ((Lu U).length:Int)).toNat) (a:=mr) hm1 hm3 ?_
   have mlen:(Lu U).length <= 14:=by unfold Lu; omega
   have prd:0 < (R.length:Int) * ((Lu U).length:Int):=Int.mul_pos (by omega) (by omega)
   have prd2:(R.length:Int) * ((Lu U).length:Int) <= 22 * 14:=Int.mul_le_mul (by omega) (by omega) (by omega) (by decide)
   walk_at "p"
   all_goals try (first | decide | exact⟨by decide,by decide⟩ | exact .inl ⟨by simp only [length_map]; omega,by simp only [length_map]; omega⟩ | exact⟨by simp only [length_map]; omega,by simp only [length_map]; omega⟩)
   refine Ajs (s:=(s.1,mr.1)) (ss:=J.map (·.2)) (fun hnew=>?_) (fun hold=>?_)
   rotate_left
   ·walk_at "p"
    exact⟨_,R,J,_,_,_,by omega,rfl,.skip jg⟩
   have jg2:JG f U (n + 1) (R ++ [(f (10 + n + 8),s.2.1,0)]) (J ++ [(f (10 + n + 8),s.1,mr.1)]):=.add jg hs2 hm2 hnew
   rw[show 10 + n + 8 = 18 + n by omega] at jg2
   obtain⟨und2,_⟩:=Vn jg2 (by omega) ht ul hf
   have us:=Aiz (U:=U) (R:=R) (n:=(r0G f U).length) (by omega) (f (18 + n),s.2.1,0)
   have eh:(J.map (·.2)).map prP ++ [PV.tup [.int s.1,.int mr.1]] = ((J ++ [(f (18 + n),s.1,mr.1)]).map (·.2)).map prP:=by rw[map_append,map_append]; rfl
   have ej:J.map jnP ++ [PV.tup [.int (f (18 + n)),.int s.1,.int mr.1]] = (J ++ [(f (18 + n),s.1,mr.1)]).map jnP:=by rw[map_append]; rfl
   have er:R.map (fun s:Sg=>PV.int s.1) ++ [PV.int (f (18 + n))] = (R ++ [((f (18 + n),s.2.1,0):Sg)]).map fun s:Sg=>PV.int s.1:=by rw[map_append]; rfl
   walk_at "p"
   all_goals try (first | (simp only [length_map]; omega))
   refine Nl ai ?_
   walk_at "p"
   all_goals try (first | (simp only [length_map]; omega))
   refine Nl ai ?_
   walk_at "p"
   all_goals try (first | (simp only [length_map]; omega))
   rw[eh,ej,er]
   rcases AeO jg hn6 ht ul hf s hs2 with ⟨np,r,hr⟩ | ⟨pl,hr⟩
   ·have hv:=Sz und hr
    rw[if_neg np] at us
    have hv2:=Sz (s:=(s.1,s.2.1,r)) und2 (by rw[us]; exact mem_append_left _ hr)
    have ep:Lq (wdD (upG U R (r0G f U).length)) (Sum.inl (f (18 + n))) (.str s.2.1) = wdD (upG U (R ++ [(f (18 + n),s.2.1,0)]) (r0G f U).length):=by
     rw[us] at und2 ⊢
     have hx:(upG U R (r0G f U).length ++ [(f (18 + n),s.2.1,0)])[(upG U R (r0G f U).length).length]? = some (f (18 + n),s.2.1,0):=by simp
     have:=Abe und2 hx
     rwa [List.take_left,List.take_of_length_le (by simp)] at this
    have et:(upG U R (r0G f U).length).map sgP ++ [PV.tup [.int (f (18 + n)),.str s.2.1,.int 0]] = (upG U (R ++ [(f (18 + n),s.2.1,0)]) (r0G f U).length).map sgP:=by rw[us,map_append]; rfl
    rw[hv,isSome_some]
    walk_at "p"
    refine Vd hv ?_
    walk_at "p"
    refine Nl ai ?_
    walk_at "p"
    rotate_left
    ·unfold wdD; rw[length_map]; omega
    rw[ep]
    refine Nl ai ?_
    walk_at "p"
    refine Vd hv2 ?_
    walk_at "p"
    rotate_left
    ·rw[length_map]; omega
    rw[et]
    exact⟨_,_,_,_,_,_,by omega,rfl,jg2⟩
   ·have hv:=AlJ hr
    rw[if_pos pl,append_nil] at us
    rw[hv,Option.isSome_none]
    walk_at "p"
    exact⟨_,R ++ [(f (18 + n),s.2.1,0)],_,_,_,_,by omega,(by rw[us]),jg2⟩
  ·rintro ρ ⟨c',R,J,v11,v12,v13,hn6,rfl,jg⟩
   walk_at "p"
   exact⟨_,_,rfl,q _ R J hn6 jg⟩
theorem Ags {c:Int} (hc:0 <= c):S28 (s2F c):=by
 have hst:(0:Int) < 1 + c / 64 % 10 ^ 26:=by have:=emod_nonneg (c / 64) (show (10:Int) ^ 26 ≠ 0 by decide); omega
 have hb:byF c ∈ byL:=by
  have h1:=emod_nonneg c (show (8:Int) ≠ 0 by decide)
  have h2:=emod_lt_of_pos c (show (0:Int) < 8 by decide)
  have hj:(c % 8).toNat < byL.length:=by show _ < 8; omega
  unfold byF; rw[getElem?_eq_getElem hj]; exact getElem_mem hj
 refine⟨fun i=>?_,fun i j hi hj e=>?_⟩
 ·unfold s2F
  have h1:=emod_nonneg (c / 8) (show (10:Int) ^ 28 ≠ 0 by decide)
  have h2:=emod_nonneg ((i:Int) * byF c + c / 512) (show (28:Int) ≠ 0 by decide)
  have:=Int.mul_nonneg (Int.le_of_lt hst) h2
  omega
 ·unfold s2F at e
  have e2:=Int.eq_of_mul_eq_mul_left (show 1 + c / 64 % 10 ^ 26 ≠ 0 by omega) (show (1 + c / 64 % 10 ^ 26) * (((i:Int) * byF c + c / 512) % 28) = (1 + c / 64 % 10 ^ 26) * (((j:Int) * byF c + c / 512) % 28) by omega)
  generalize c / 512 = z at e2
  generalize byF c = b at hb e2
  simp only [byL,mem_cons,not_mem_nil,or_false] at hb
  rcases hb with rfl | rfl | rfl | rfl | rfl | rfl | rfl | rfl <;> omega
structure G2A (f:Nat->Int) (U R:List Sg) (J:List Jn) (k y:Nat):Prop where
 hf:S28 f
 ht:T2 ((range 28).map f) U
 ul:U.length = 14
 hk:k <= 6
 jg:JG f U k R J
 hy:y = 1\/y = 2
def g2P (f:Nat->Int) (U R:List Sg) (J:List Jn) (y:Nat):PV:=.tup [.lst ((range 28).map fun k=>.int (f k)),.lst ((upG U R (r0G f U).length).map sgP),.lst ((mtG f y).map prP),.lst (J.map jnP)]
def Akn:PSp:=fun ps P=>∃ ns,ps = [.scr ns]/\ns.length <= 63/\∀ f U R J k y,G2A f U R J k y->P (g2P f U R J y)
theorem AmT (T:Txt K mg t):Binds K t.d_qbo ["_law_script"] []:=T.F_qbo.binds fun _ _ _ _ _ _ us hl=>match us,hl with | [_],_=>rfl
theorem AjW (T:Txt K mg t):FnOk P w K mg base CX0 2 t.f_qbo t.d_qbo ["_law_script"] (spOf K t.C_Book [false] .sh Akn):=by
 refine T.F_qbo.ok sc_qbo (fun vs H Q E h=>h.len) (fun cdv A outer s H vs Q E hr h=>?_)
 have hu:=Cp hr
 have hu64:=hr.units
 refine⟨_,(Bc (Bl (i:=1) sc_qbo.nd rfl (Or.inl rfl) (Cb Dm (Bn (Ye T) (hr.mono (by decide)) rfl T.m_qr T.F_qr.kp (AbU T) .nil Bt (Ba (pv 0) (Ba Be Bd))) (Cb Nt Be Be)))
   (Bc (Bl (i:=2) sc_qbo.nd rfl (Or.inl rfl) (Bn (Al4 T) (hr.mono (by decide)) rfl T.m_qbp T.F_qbp.kp (Am2 T) .nil Bt (Ba (pv 1) Bd)))
   (Bc (Bl (i:=3) sc_qbo.nd rfl (Or.inl rfl) (Bn (Alj T) (hr.mono (by decide)) rfl T.m_qbx T.F_qbx.kp (Am1 T) .nil Bt (Ba (pv 1) (Ba (Cb Dm (Bn (Ye T) (hr.mono (by decide)) rfl T.m_qr T.F_qr.kp (AbU T) .nil Bt (Ba (pv 0) (Ba Be Bd))) (Cb Nt Be Be)) (Ba (pv 2) Bd)))))
   (Bc (Bl (i:=4) sc_qbo.nd rfl (Or.inl rfl) (Bn (Ak5 T) (hr.mono (by decide)) rfl T.m_qbm T.F_qbm.kp (Anu T) .nil Bt (Ba (Cb Dm (Bn (Ye T) (hr.mono (by decide)) rfl T.m_qr T.F_qr.kp (AbU T) .nil Bt (Ba (pv 0) (Ba Be Bd))) (Cb Nt Be Be)) (Ba (pv 3) (Ba (pv 2) Bd)))))
   (Bc (Bl (i:=5) sc_qbo.nd rfl (Or.inl rfl) (Nh (Ls K) (Cu (Ba (Fr (Ba (Ce (Cj K) (pv 2) Be (fun _ _=>rfl)) (Ba (Ce (Cj K) (pv 2) Be (fun _ _=>rfl)) Bd))) (Ba (Fr (Ba (Ce (Cj K) (pv 2) Be (fun _ _=>rfl)) (Ba (Ce (Cj K) (pv 2) Be (fun _ _=>rfl)) Bd))) Bd))) Wg (Jh (Cb Fw Be (Cb Dm (Cb Fn (pv 1) Be) Be)))))
   (Bf (Cc (Fr (Ba (pv 2) (Ba (pv 3) (Ba (pv 5) (Ba (pv 4) Bd)))))))))))),?_⟩
 try dsimp only [Ck,Bx]
 refine Cq h (by decide) (Bk (Bu (Cz (fun _ _ _=>.int _) (EU.eb (Ds (Bp Bb (Bp (EU.eb Bg) Bh)))) (EU.eb (Cz (fun _ _ _=>.int _) (EU.eb Bg) (EU.eb Bg)))))
   (Bk (Bu (EF.eu (Do (Bp Bb Bh))))
   (Bk (Dk (Do (Bp Bb (Bs (Cz (fun _ _ _=>.int _) (EU.eb (Ds (Bp Bb (Bp (EU.eb Bg) Bh)))) (EU.eb (Cz (fun _ _ _=>.int _) (EU.eb Bg) (EU.eb Bg)))) (Bp Bb Bh)))))
   (Bk (Ai5 (Cz (fun _ _ _=>.int _) (EU.eb (Ds (Bp Bb (Bp (EU.eb Bg) Bh)))) (EU.eb (Cz (fun _ _ _=>.int _) (EU.eb Bg) (EU.eb Bg)))) Br)
   (Bk (Bu (EF.eu (Rb (EF.eb (Dn 2 (Bs (Gm 2 (Bs (Cv Bb (EU.eb Bg)) (Bs (Cv Bb (EU.eb Bg)) Bh))) (Bs (Gm 2 (Bs (Cv Bb (EU.eb Bg)) (Bs (Cv Bb (EU.eb Bg)) Bh))) Bh)))) Vt (Jd (EU.eb (Fa (fun _ _ _=>.int _) (EU.eb Bg) (EU.eb (Cz (fun _ _ _=>.int _) (EU.eb (Cz (fun _ _ _=>.int _) Bb (EU.eb Bg))) (EU.eb Bg)))))))))
   (Zh 3 (Zh 4 (Dq (Gm 4 (Bs Br (Bs Br (Bs Br (Bs Br Bh))))))))))))) (fun ps P hp=>?_)
 clear h hu hu64 hr
 obtain⟨ns,rfl,hl,q⟩:=hp
 walk_at "s"
 walk_at "p"
 refine⟨ns,0,rfl,hl,?_⟩
 walk_at "p"
 all_goals try (first | decide | exact⟨by decide,by decide,by decide⟩)
 have hc:=emod_nonneg (cR ns 0) (show (10:Int) ^ 30 ≠ 0 by decide)
 rw[show (10:Int) ^ toNat 30 = 10 ^ 30 from rfl]
 generalize cR ns 0 % 10 ^ 30 = c at hc
 refine⟨c,rfl,hc,?_⟩
 walk_at "p"
 refine⟨ns,1,rfl,hl,?_⟩
 walk_at "p"
 all_goals try (first | decide | exact⟨by decide,by decide,by decide⟩)
 refine⟨c,_,s2L c,rfl,emod_nonneg _ (by decide),by unfold s2L; rw[length_map,length_range],fun U ul ht=>?_⟩
 walk_at "p"
 refine⟨ns,2,rfl,hl,?_⟩
 walk_at "p"
 all_goals try (first | decide | exact⟨by decide,by decide,by decide⟩)
 refine⟨_,s2F c,U,rfl,rfl,(by unfold s2L; rw[map_map]; rfl),ht,ul,Ags hc,fun k R J hk jg=>?_⟩
 have gx:∀ i,i < 28->(s2L c)[i]? = some (s2F c i):=fun i hi=>by unfold s2L; rw[getElem?_map,getElem?_range hi]; rfl
 walk_at "p"
 refine Dx (l:=s2L c) (f:=PV.int) (j:=14) (a:=s2F c 14) (gx 14 (by decide)) rfl ?_
 walk_at "p"
 refine Dx (l:=s2L c) (f:=PV.int) (j:=15) (a:=s2F c 15) (gx 15 (by decide)) rfl ?_
 walk_at "p"
 refine Dx (l:=s2L c) (f:=PV.int) (j:=16) (a:=s2F c 16) (gx 16 (by decide)) rfl ?_
 walk_at "p"
 refine Dx (l:=s2L c) (f:=PV.int) (j:=17) (a:=s2F c 17) (gx 17 (by decide)) rfl ?_
 walk_at "p"
 all_goals try (first | decide | exact⟨by decide,by decide⟩)
 obtain⟨y,hy,ey⟩:∃ y:Nat,(y = 1\/y = 2)/\1 + c / 32 % 2 = (y:Int):=by
  have h1:=emod_nonneg (c / 32) (show (2:Int) ≠ 0 by decide)
  have h2:=emod_lt_of_pos (c / 32) (show (0:Int) < 2 by decide)
  exact⟨(1 + c / 32 % 2).toNat,by omega,by omega⟩
 rw[ey]
 have em:Gr [PV.tup [.int (s2F c 14),.int (s2F c 15)],PV.tup [.int (s2F c 16),.int (s2F c 17)]] none (some (y:Int)) = (mtG (s2F c) y).map prP:=by
  rcases hy with rfl | rfl <;> rfl
 have z:=q (s2F c) U R J k y ⟨Ags hc,ht,ul,hk,jg,hy⟩
 unfold g2P at z
 rw[<- em,show ((range 28).map fun k=>PV.int (s2F c k)) = (s2L c).map .int by unfold s2L; rw[map_map]; rfl] at z
 exact z
def cvD (l:List (Key × V)):List (Key × PV):=l.map fun kv=>(kv.1,vP kv.2)
def kkD (U:List Sg) (M:List (Int × Int)):List (Key × PV):=cvD (kK U ++ kM M)
theorem Vw {l:List (Key × V)} {k:Key} {v:V} (nd:((l ++ [(k,v)]).map (·.1)).Nodup):Lq (cvD l) k (vP v) = cvD (l ++ [(k,v)]):=by
 rw[Zo (kvs:=cvD l) (fun z=>by
  rw[map_append] at nd
  refine (nodup_append.mp nd).2.2 k ?_ k mem_cons_self rfl
  unfold cvD at z
  rw[map_map] at z
  exact z)]
 unfold cvD
 rw[map_append]; rfl
theorem AiM (l:List (Key × V)) (k:Key):Fy (cvD l) k = (Cr l k).map vP:=by
 induction l with
 | nil=>rfl
 | cons x r ih =>
  show Fy ((x.1,vP x.2) :: cvD r) k = _
  rw[Sf]
  by_cases z:x.1 = k
  ·rw[if_pos z,Nd z]; rfl
  ·rw[if_neg z,Lw z,ih]
theorem Vu (U:List Sg) (M:List (Int × Int)) (n:Int):(Fy (kkD U M) (.inl n)).getD (.str "plain") = .str (Fd U M n):=by
 unfold kkD
 rw[AiM]
 have:=AbF U M n
 cases e:Cr (kK U ++ kM M) (Sum.inl n) with
 | none=>rw[e] at this; show PV.str "plain" = _; injection this with this; rw[this]
 | some v=>rw[e] at this; have t:v = V.str (Fd U M n):=this; rw[t]; rfl
def Alx:PSp:=fun ps P=>∃ f U R J k y,ps = [g2P f U R J y]/\G2A f U R J k y/\P (.dk (kkD (upG U R (r0G f U).length) (mtG f y)))
theorem AmC (T:Txt K mg t):Binds K t.d_qbr ["_law_lists_here"] []:=T.F_qbr.binds fun _ _ _ _ _ _ us hl=>match us,hl with | [_],_=>rfl
theorem Aja (T:Txt K mg t):FnOk P w K mg base CX0 1 t.f_qbr t.d_qbr ["_law_lists_here"] (spOf K t.C_Book [true] .fr Alx):=by
 refine T.F_qbr.ok sc_qbr (fun vs H Q E h=>h.len) (fun cdv A outer s H vs Q E hr h=>?_)
 have hu:=Cp hr
 have hu64:=hr.units
 refine⟨_,(Bc (Bl (i:=1) sc_qbr.nd rfl (Or.inl rfl) Nf)
   (Bc (Dd PassesOwn.never rfl (Cs (Ce (Cy K) (pv 0) Be (fun _ _=>rfl))) (Fu (K':=K) (n:=3) rfl rfl (Cf (Bo (i:=2) sc_qbr.nd rfl (Or.inl rfl)) (Cf (Bo (i:=3) sc_qbr.nd rfl (Or.inl rfl)) (Cf (Bo (i:=4) sc_qbr.nd rfl (Or.inl rfl)) Dw))))
    (Bf (Gn hu (pv 1) (pv 2) (pv 3) rfl)))
   (Bc (Dd PassesOwn.never rfl (Cs (Ce (Cy K) (pv 0) Be (fun _ _=>rfl))) (Fu (K':=K) (n:=2) rfl rfl (Cf (Bo (i:=5) sc_qbr.nd rfl (Or.inl rfl)) (Cf (Bo (i:=6) sc_qbr.nd rfl (Or.inl rfl)) Dw)))
    (Bc (Gn hu (pv 1) (pv 5) Bw rfl)
   (Bf (Gn hu (pv 1) (pv 6) Bw rfl))))
   (Bf (Cc (pv 1)))))),?_⟩
 try dsimp only [Ck,Bx]
 refine Cq h (by decide) (Bk (Dk Aa2)
   (Bk (Sn (Dh Bb (EU.eb Bg)) (Gv (Da (By (top:=7)) (Da (By (top:=7)) (Da (By (top:=7)) Gc))))
    (Qi Bb Br))
   (Bk (Sn (Dh Bb (EU.eb Bg)) (Gv (Da (By (top:=7)) (Da (By (top:=7)) Gc)))
    (Bk (Qi Bb Cn)
   (Qi Bb Cn)))
   Fv))) (fun ps P hp=>?_)
 clear h hu hu64 hr
 obtain⟨f,U,R,J,k0,y,rfl,ga,q⟩:=hp
 walk_at "s"
 have bk:=Yl ga.jg ga.hk ga.ht ga.ul ga.hf y
 unfold g2P
 generalize upG U R (r0G f U).length = W at bk q
 generalize mtG f y = M at bk q
 have ndk:=Yc bk.nd
 have wl:W.length <= 60:=by have:=bk.ln; omega
 have ml:M.length <= 30:=by have:=bk.ln; omega
 walk_at "p"
 refine⟨fun k ρ=>∃ v2 v3 v4,ρ = [.sh (.tup [.lst ((range 28).map fun k=>.int (f k)),.lst (W.map sgP),.lst (M.map prP),.lst (J.map jnP)]),.ow (.dk (cvD (kK (W.take k)))),v2,v3,v4,.un,.un],⟨_,_,_,rfl⟩,?_,?_⟩
 ·rintro k p ρ hp ⟨v2,v3,v4,rfl⟩
  rw[getElem?_map] at hp
  obtain⟨s,hs,rfl⟩:=map_eq_some_iff.mp hp
  have e1:kK (W.take (k + 1)) = kK (W.take k) ++ [(Sum.inl s.1,V.str s.2.1)]:=by rw[Dg hs]; unfold kK; rw[map_append]; rfl
  have n1:((kK (W.take (k + 1))).map (·.1)).Nodup:=by
   rw[map_append] at ndk
   refine Nodup.sublist (Sublist.map _ ?_) (nodup_append.mp ndk).1
   unfold kK
   exact Sublist.map _ (List.take_sublist _ _)
  rw[e1] at n1
  walk_at "p"
  rotate_left
  ·unfold cvD kK; rw[length_map,length_map,length_take]; omega
  rw[show Lq (cvD (kK (W.take k))) (Sum.inl s.1) (PV.str s.2.1) = cvD (kK (W.take (k + 1))) by rw[e1]; exact Vw n1]
  exact⟨_,_,_,rfl⟩
 rintro ρ ⟨v2,v3,v4,rfl⟩
 rw[length_map,take_length]
 walk_at "p"
 refine⟨fun k ρ=>∃ v5 v6,ρ = [.sh (.tup [.lst ((range 28).map fun k=>.int (f k)),.lst (W.map sgP),.lst (M.map prP),.lst (J.map jnP)]),.ow (.dk (cvD (kK W ++ kM (M.take k)))),v2,v3,v4,v5,v6],⟨_,_,by rw[List.take_zero]; unfold kM; rw[append_nil]⟩,?_,?_⟩
 ·rintro k p ρ hp ⟨v5,v6,rfl⟩
  rw[getElem?_map] at hp
  obtain⟨m,hm,rfl⟩:=map_eq_some_iff.mp hp
  have hk:k < M.length:=(List.getElem?_eq_some_iff.mp hm).1
  have e1:kK W ++ kM (M.take (k + 1)) = (kK W ++ kM (M.take k) ++ [(Sum.inl m.1,V.str "open")]) ++ [(Sum.inl m.2,V.str "shut")]:=by rw[Dg hm,Qb,append_assoc,append_assoc]; rfl
  have n1:((kK W ++ kM (M.take (k + 1))).map (·.1)).Nodup:=by
   have e:=Qb (M.take (k + 1)) (M.drop (k + 1))
   rw[take_append_drop] at e
   rw[e,<- append_assoc,map_append] at ndk
   exact (nodup_append.mp ndk).1
  rw[e1] at n1
  have n2:=n1
  rw[map_append] at n2
  have n3:=(nodup_append.mp n2).1
  have kl:(cvD (kK W ++ kM (M.take k))).length <= 1000:=by
   have:∀ M:List (Int × Int),(kM M).length = 2 * M.length:=fun M=>by
    induction M with
    | nil=>rfl
    | cons x r ih=>show (kM r).length + 1 + 1 = _; rw[ih,length_cons]; omega
   unfold cvD kK
   rw[length_map,length_append,length_map,this,length_take]; omega
  have p1:Lq (cvD (kK W ++ kM (M.take k))) (Sum.inl m.1) (PV.str "open") = cvD (kK W ++ kM (M.take k) ++ [(Sum.inl m.1,V.str "open")]):=Vw n3
  have p2:Lq (cvD (kK W ++ kM (M.take k) ++ [(Sum.inl m.1,V.str "open")])) (Sum.inl m.2) (PV.str "shut") = cvD (kK W ++ kM (M.take (k + 1))):=by rw[e1]; have z:=Vw n1; exact z
  have l2:(cvD (kK W ++ kM (M.take k) ++ [(Sum.inl m.1,V.str "open")])).length < 100000:=by
   unfold cvD at kl ⊢; rw[length_map] at kl ⊢; rw[length_append]; show _ + 1 < _; omega
  have l1:(cvD (kK W ++ kM (M.take k))).length < 100000:=by omega
  walk_at "p"
  all_goals try (first | exact l1 | (rw[p1]; exact l2))
  rw[p1,p2]
  exact⟨_,_,rfl⟩
 rintro ρ ⟨v5,v6,rfl⟩
 rw[length_map,take_length]
 walk_at "p"
 exact q
def Ajt:PSp:=fun ps P=>∃ (f:Nat->Int) (W:List Sg) (M:List (Int × Int)) (J:List Jn) (ws:List Str),ps = [.tup [.lst ((range 28).map fun k=>.int (f k)),.lst (W.map sgP),.lst (M.map prP),.lst (J.map jnP)],.dk (kkD W M),.lst (ws.map .str)]/\ws.length <= 100/\P (.lst (ws.map fun w=>.lst ((gpF f W M w).map .int)))
theorem AmA (T:Txt K mg t):Binds K t.d_qbb ["_law_lists_here","_law_words_here","_law_chosen"] []:=T.F_qbb.binds fun _ _ _ _ _ _ us hl=>match us,hl with | [_,_,_],_=>rfl
theorem AjU (T:Txt K mg t):FnOk P w K mg base CX0 1 t.f_qbb t.d_qbb ["_law_lists_here","_law_words_here","_law_chosen"] (spOf K t.C_Book [false,false,true] .fr Ajt):=by
 refine T.F_qbb.ok sc_qbb (fun vs H Q E h=>h.len) (fun cdv A outer s H vs Q E hr h=>?_)
 have hu:=Cp hr
 have hu64:=hr.units
 refine⟨_,(Bc (Bl (i:=3) sc_qbb.nd rfl (Or.inl rfl) (Cu Bd))
   (Bc (Dd PassesOwn.never rfl (Cs (pv 2)) (Bo (i:=4) sc_qbb.nd rfl (by first | exact Or.inl rfl | exact Or.inr rfl))
    (Bf (Co (Fo plainAttrs_list PySem.F.slot_list_append PySem.F.type_list_append Dc (pv 3) (Ba (Ja 1 [1,4] ["_law_sign","_law_words_here","_law_word"] ["_law_words_here","_law_word"] rfl (Cs (Ce (Cy K) (pv 0) Be (fun _ _=>rfl))) rfl (fun j y e1 i e2=>match j,e1,e2 with | 0,e1,e2=>by cases e1; cases e2; exact⟨rfl,rfl,rfl,by decide +kernel⟩ | 1,e1,e2=>by cases e1; cases e2; exact⟨rfl,rfl,rfl,by decide +kernel⟩ | _ + 2,_,e2=>by simp at e2) (forall_mem_cons.mpr ⟨rfl,forall_mem_cons.mpr ⟨rfl,fun _ h=>nomatch h⟩⟩) (by decide +kernel) (fun _ _ _ _=>(Bo (i:=0) (show Nodup (["_law_sign","_law_words_here","_law_word"]:List Str) by decide +kernel) rfl (Or.inl rfl))) (fun _ _ _ _=>(Jz (Cd Dj (Rk hu (pv 1) (pv 0) Bw ⟨rfl,rfl,rfl,rfl⟩) (pv 2) (Ci _)))) (fun _ _ _ _=>(pv 0)) rfl (by decide +kernel) rfl (by decide +kernel)) Bd)))))
   (Bf (Cc (pv 3))))),?_⟩
 try dsimp only [Ck,Bx]
 refine Cq h (by decide) (Bk (Dk (Dn 0 Bh))
   (Bk (Ni (By (top:=5))
    (Fx (Bs (EF.eu (Ga (EU.eb (Dh Bb (EU.eb Bg))) (By (top:=1)) (Cw (EU.eb (Dv (EU.eb (Aak Bb Cn)) Bb))) Br)) Bh)))
   Fv)) (fun ps P hp=>?_)
 clear h hu hu64 hr
 obtain⟨f,W,M,J,ws,rfl,hw,q⟩:=hp
 walk_at "s"
 walk_at "p"
 refine⟨fun k ρ=>∃ v4,ρ = [.bo (.tup [.lst ((range 28).map fun k=>.int (f k)),.lst (W.map sgP),.lst (M.map prP),.lst (J.map jnP)]),.bo (.dk (kkD W M)),.sh (.lst (ws.map .str)),.ow (.lst ((ws.take k).map fun w=>.lst ((gpF f W M w).map .int))),v4],⟨_,rfl⟩,?_,?_⟩
 ·rintro k p ρ hp ⟨v4,rfl⟩
  rw[getElem?_map] at hp
  obtain⟨w,hk,rfl⟩:=map_eq_some_iff.mp hp
  walk_at "p"
  refine⟨by simp,?_⟩
  refine Ff (S:=(range 28).map f) (enc:=PV.int) (f:=fun n=>if Fd W M n = w then some (.int n) else none) ?_ (fun d hd Z hZ=>?_)
  rotate_left
  ·walk_at "c"
   walk_at "p"
   rw[Vu]
   walk_at "p"
   by_cases hm:Fd W M d = w
   ·rw[decide_eq_true hm]
    rw[if_pos hm] at hZ
    walk_at "p"
    exact hZ
   ·rw[decide_eq_false hm]
    rw[if_neg hm] at hZ
    walk_at "p"
    exact hZ
  rw[show ((range 28).map f).filterMap (fun n=>if Fd W M n = w then some (PV.int n) else none) = (gpF f W M w).map .int by
   unfold gpF
   generalize (range 28).map f = l
   induction l with
   | nil=>rfl
   | cons x r ih =>
    by_cases z:Fd W M x = w
    ·rw[List.filterMap_cons_some (by rw[if_pos z]),filter_cons_of_pos (by simp [z]),map_cons,ih]
    ·rw[List.filterMap_cons_none (by rw[if_neg z]),filter_cons_of_neg (by simp [z]),ih]]
  walk_at "p"
  rotate_left
  ·rw[length_map,length_take]; omega
  exact⟨_,by rw[Dg hk,map_append]; rfl⟩
 rintro ρ ⟨v4,rfl⟩
 rw[length_map,take_length]
 walk_at "p"
 exact q
def AjS:PSp:=fun ps P=>∃ (gs:List (List Int)) (cs:List Int),ps = [.lst (gs.map fun g=>.lst (g.map .int)),.lst (cs.map .int)]/\(0 < gs.length/\gs.length <= 100)/\(∀ g ∈ gs,0 < g.length/\g.length <= 100)/\cs.length <= 300/\∀ ts:List Int,ts.length = cs.length->(∀ t ∈ ts,∃ g ∈ gs,t ∈ g)->P (.lst (ts.map .int))
theorem AmK (T:Txt K mg t):Binds K t.d_qbw ["_law_groups_here","_law_cells"] []:=T.F_qbw.binds fun _ _ _ _ _ _ us hl=>match us,hl with | [_,_],_=>rfl
theorem Ake (T:Txt K mg t):FnOk P w K mg base CX0 1 t.f_qbw t.d_qbw ["_law_groups_here","_law_cells"] (spOf K t.C_Book [true,true] .fr AjS):=by
 refine T.F_qbw.ok sc_qbw (fun vs H Q E h=>h.len) (fun cdv A outer s H vs Q E hr h=>?_)
 have hu:=Cp hr
 have hu64:=hr.units
 refine⟨_,(Bc (Bl (i:=2) sc_qbw.nd rfl (Or.inl rfl) (Cu Bd))
   (Bc (Dd PassesOwn.never rfl (Cs (pv 1)) (Bo (i:=3) sc_qbw.nd rfl (Or.inl rfl))
    (Bc (Bl (i:=4) sc_qbw.nd rfl (Or.inl rfl) (Ce (Cj K) (pv 0) (Cb Dm (pv 3) (Cg (Ch K) rfl T.z_len PySem.boot_len (Ba (pv 0) Bd))) (fun _ _=>rfl)))
   (Bf (Co (Fo plainAttrs_list PySem.F.slot_list_append PySem.F.type_list_append Dc (pv 2) (Ba (Ce (Cj K) (pv 4) (Cb Dm (Cb Fn (pv 3) (Cg (Ch K) rfl T.z_len PySem.boot_len (Ba (pv 0) Bd))) (Cg (Ch K) rfl T.z_len PySem.boot_len (Ba (pv 4) Bd))) (fun _ _=>rfl)) Bd))))))
   (Bf (Cc (pv 2))))),?_⟩
 try dsimp only [Ck,Bx]
 refine Cq h (by decide) (Bk (Dk (Dn 0 Bh))
   (Bk (Ni (By (top:=5))
    (Bk (Bu (Cv Bb (EU.eb (Cz (fun _ _ _=>.int _) Bb (EU.eb (Dr (Bp Bb Bh)))))))
   (Fx (Bs (Cv Bb (EU.eb (Cz (fun _ _ _=>.int _) (EU.eb (Cz (fun _ _ _=>.int _) Bb (EU.eb (Dr (Bp Bb Bh))))) (EU.eb (Dr (Bp Bb Bh)))))) Bh))))
   Fv)) (fun ps P hp=>?_)
 clear h hu hu64 hr
 obtain⟨gs,cs,rfl,hg,hg2,hc,q⟩:=hp
 walk_at "s"
 walk_at "p"
 refine⟨fun k ρ=>∃ (ts:List Int) (v3 v4:Sl),ρ = [.sh (.lst (gs.map fun g=>.lst (g.map .int))),.sh (.lst (cs.map .int)),.ow (.lst (ts.map .int)),v3,v4]/\ts.length = k/\∀ t ∈ ts,∃ g ∈ gs,t ∈ g,⟨[],_,_,rfl,rfl,fun t h=>by cases h⟩,?_,?_⟩
 ·rintro k p ρ hp ⟨ts,v3,v4,rfl,tl,ht⟩
  rw[getElem?_map] at hp
  obtain⟨c,hk,rfl⟩:=map_eq_some_iff.mp hp
  have hkl:k < cs.length:=(List.getElem?_eq_some_iff.mp hk).1
  have g1:=emod_nonneg c (show (gs.length:Int) ≠ 0 by omega)
  have g2:=emod_lt_of_pos c (show (0:Int) < (gs.length:Int) by omega)
  have hj:(c % (gs.length:Int)).toNat < gs.length:=by omega
  obtain⟨g,hgm,hgi⟩:∃ g,g ∈ gs/\gs[(c % (gs.length:Int)).toNat]? = some g:=⟨_,getElem_mem hj,getElem?_eq_getElem hj⟩
  obtain⟨gp,gl⟩:=hg2 g hgm
  have g3:=emod_nonneg (c / (gs.length:Int)) (show (g.length:Int) ≠ 0 by omega)
  have g4:=emod_lt_of_pos (c / (gs.length:Int)) (show (0:Int) < (g.length:Int) by omega)
  have hj2:(c / (gs.length:Int) % (g.length:Int)).toNat < g.length:=by omega
  obtain⟨t,htm,hti⟩:∃ t,t ∈ g/\g[(c / (gs.length:Int) % (g.length:Int)).toNat]? = some t:=⟨_,getElem_mem hj2,getElem?_eq_getElem hj2⟩
  walk_at "p"
  all_goals try (simp only [length_map]; omega)
  simp only [length_map]
  refine Dx (l:=gs) (f:=fun g:List Int=>PV.lst (g.map .int)) (j:=(c % (gs.length:Int)).toNat) (a:=g) hgi (by omega) ?_
  walk_at "p"
  all_goals try (first | (simp only [length_map]; omega) | exact⟨by simp only [length_map]; omega,by simp only [length_map]; omega⟩)
  simp only [length_map]
  refine Dx (l:=g) (f:=PV.int) (j:=(c / (gs.length:Int) % (g.length:Int)).toNat) (a:=t) hti (by omega) ?_
  walk_at "p"
  rotate_left
  ·rw[length_map]; omega
  refine⟨ts ++ [t],_,_,by rw[map_append]; rfl,by rw[length_append,tl]; rfl,fun x hx=>?_⟩
  rcases mem_append.mp hx with hx | hx
  ·exact ht x hx
  ·rw[mem_singleton.mp hx]; exact⟨g,hgm,htm⟩
 rintro ρ ⟨ts,v3,v4,rfl,tl,ht⟩
 rw[length_map] at tl
 walk_at "p"
 exact q ts tl ht
def Afc (K:Frag):Sp:=fun vs H Q _=>∃ l d m kvs ts,vs = [.ref d,.ref l]/\H d = some (.dK kvs)/\SqL K H l (map V.int ts)/\ts.length <= 300/\(∀ n:Int,∃ w:Str,(Cr kvs (Sum.inl n)).getD (.str "plain") = .str w/\m n = decide (w = "mark")) /\
 ∀ (wl:Addr) (xs:List V) (H':Hp),H wl = none->Same H H'->(∀ x ∈ xs,∃ p,x = V.ref p/\H p = none)->LLat H' wl xs (grp m ts)->Q (.ref wl) H'
def Aix:PSp:=fun ps P=>∃ W M ts,ps = [.dk (kkD W M),.lst (map .int ts)]/\ts.length <= 300/\P (.lst (map (fun g=>PV.lst (map .int g)) (grp (Cl W M) ts)))
theorem Aed {C:Addr} {ω:Om} {E:XK} {m n:Bool} {t:TA} {u:UA} (ha:AU K C ω [m,n] t u):EU K C ω (Ri (Afc K) [] E t) (Vi Aix u) :=
 fun B G0 H0 own G σ H ρ P Q S hu k=>ha B G0 H0 own G σ H ρ _ _ S hu fun vs ps G1 H1 w1 ok ⟨W,M,ts,e,hl,h⟩=>by
  obtain⟨v,w,p,q,rfl,e2,r2,r1⟩:=Rt ok
  rw[e] at e2; cases e2
  obtain⟨a,xs,rfl,ea,l⟩:=r1.lst w1.i
  rw[Sd l] at ea
  obtain⟨d,kvs,rfl,ed,ld⟩:=r2.dk w1.i
  refine⟨a,d,Cl W M,kvs,ts,rfl,ed,SqL.of ea,hl,fun n=>⟨Fd W M n,?_,rfl⟩,fun wl xs H2 hwl s2 fx ll=>?_⟩
  ·have kv:=Vu W M n
   rcases Ut (Sum.inl n) ld with ⟨h1,h2⟩ | ⟨x,p,h1,h2,h3⟩
   ·rw[h2] at kv
    rw[h1]
    have kv':PV.str "plain" = .str (Fd W M n):=kv
    injection kv' with kv'
    rw[<- kv']; rfl
   ·rw[h2] at kv
    have kv':p = .str (Fd W M n):=kv
    subst kv'
    cases h3
    rw[h1]; rfl
  ·refine k _ _ _ H2 (w1.trans (Ob w1.i s2)) (Rep.ofL (Fe hwl ll.li) ⟨by rw[ll.at'.1,length_map],fun i x y hx hy=>?_⟩) h
   rw[getElem?_map] at hy
   obtain⟨g,hg,rfl⟩:=map_eq_some_iff.mp hy
   obtain⟨p,e1,hp⟩:=ll.at'.2 i x g hx hg
   obtain⟨p',e2,hn⟩:=fx x (mem_of_getElem? hx)
   subst e1
   cases e2
   exact Rep.ofL (Fe hn hp) (Fk g)
theorem AgI (T:Txt K mg t):Binds K t.d_qbd ["_law_words_here","_law_signs_here"] []:=T.F_qbd.binds fun _ _ _ _ _ _ us hl=>match us,hl with | [_,_],_=>rfl
theorem Ada (T:Txt K mg t):FnOk P w K mg base CX0 1 t.f_qbd t.d_qbd ["_law_words_here","_law_signs_here"] (Afc K):=by
 refine T.F_qbd.ok sc_qbd (fun vs H Q E h=>?_) (fun cdv A outer s H vs Q E hr h=>?_)
 ·obtain⟨l,d,m,kvs,ts,rfl,hD,hT,hl,hm,q⟩:=h
  rfl
 ·obtain⟨l,d,m,kvs,ts,rfl,hD,hT,hl,hm,q⟩:=h
  have hu:=Cp hr
  have hu64:=hr.units
  refine⟨_,(Bc (Bl (i:=2) sc_qbd.nd rfl (Or.inl rfl) (Cu Bd))
   (Bc (Dd PassesOwn.never rfl (Cs (pv 1)) (Bo (i:=3) sc_qbd.nd rfl (Or.inl rfl))
    (Bf (De (PW.pt (Sq (Cd Dj (Rk hu (pv 0) (pv 3) Bw ⟨rfl,rfl,rfl,rfl⟩) Bw (Ci _)) (Qs (Cd Ta (Cg (Lh) rfl T.z_len PySem.boot_len (Ba (pv 2) Bd)) Be (Ci _)))))
    (Bf (Co (Fo plainAttrs_list PySem.F.slot_list_append PySem.F.type_list_append Dc (Ce (Vq) (pv 2) (Oa Ll Be) (fun _ _=>rfl)) (Ba (pv 3) Bd))))
    (Bf (Co (Fo plainAttrs_list PySem.F.slot_list_append PySem.F.type_list_append Dc (pv 2) (Ba (Cu (Ba (pv 3) Bd)) Bd)))))))
   (Bf (Cc (pv 2))))),?_⟩
  try dsimp only [Ck,Bx]
  walk_at "rd"
  refine⟨by decide,fun wl H0 hwl s0 e0=>?_⟩
  walk_at "rd"
  refine Nq (i:=1) rfl (s0.seq hT) (fun i σ H'=>∃ v3 xs,σ = [some (.ref d),some (.ref l),some (.ref wl),v3]/\Same H H'/\(∀ x ∈ xs,∃ p,x = V.ref p/\H p = none)/\LLat H' wl xs (grp m (ts.take i))) ⟨none,[],rfl,s0,(fun x h=>by cases h),⟨e0,LAt.nil,nodup_nil,by simp⟩⟩ (fun i σ H' _ ⟨_,_,_,s,_⟩=>s.seq hT) ?_ ?_
  ·rintro i x σ H' hi ⟨v3,xs,rfl,s,fx,ll⟩
   obtain⟨n,en,rfl⟩:=Aay hi
   have hlt:=(List.getElem?_eq_some_iff.mp en).1
   have eg:grp m (ts.take (i + 1)) = Nw m (grp m (ts.take i)) n:=by rw[Dg en,Zw]
   have hli:=ll.li
   have hxl:xs.length <= 300:=by
    have:=(Gh m (ts.take i)).ln
    rw[<- ll.at'.1,length_take] at this
    omega
   have hD':H' d = some (.dK kvs):=s _ _ hD
   have push:(grp m (ts.take i) = []\/m n = false)->∀ (p:Addr) (H3 H4:Hp),H' p = none->Same H' H3->H3 p = some (.lst [V.int n])->Chg wl H3 H4->H4 wl = some (.lst (xs ++ [.ref p]))->∃ v3 xs,[some (V.ref d),some (.ref l),some (.ref wl),some (.int n)] = [some (V.ref d),some (.ref l),some (.ref wl),v3]/\Same H H4/\(∀ x ∈ xs,∃ p,x = V.ref p/\H p = none)/\LLat H4 wl xs (grp m (ts.take (i + 1))):=fun hz p H3 H4 hp s3 e3 c4 e4=>by
    have npw:p ≠ wl:=(Bv hli hp).symm
    refine⟨_,_,rfl,(s.trans s3).chg c4 hwl,fun x hx=>?_,by rw[eg,Oj hz]; exact ll.push hp s3 c4 e4 (fun _ _ h _=>h) (c4 _ _ e3 npw)⟩
    rcases mem_append.mp hx with w | w
    ·exact fx x w
    ·exact⟨p,mem_singleton.mp w,s.free hp⟩
   walk_at "rd"
   obtain⟨w,hw,hmw⟩:=hm n
   rw[hw]
   walk_at "rd"
   by_cases hx:w = "mark"
   ·have hmt:m n = true:=by rw[hmw,decide_eq_true hx]
    refine Nk (by simp [hx]) ?_
    walk_at "rd"
    by_cases hz0:xs.length = 0
    ·have hz:grp m (ts.take i) = []\/m n = false:=.inl (List.eq_nil_of_length_eq_zero (by rw[<- ll.at'.1]; exact hz0))
     refine Lf (by simp [hz0]) ?_
     walk_at "rd"
     refine⟨(by decide:1 <= sizeLine),fun p H3 hp s3 e3=>?_⟩
     walk_at "rd"
     walk_at "rd"
     refine Gp (s3 _ _ hli) (Gu (by omega)) fun H4 c4 e4=>?_
     walk_at "rd"
     exact push hz p H3 H4 hp s3 e3 c4 e4
    ·refine Nk (decide_eq_true (by omega)) ?_
     obtain⟨xs',p,gs',g,ex,eg',hp⟩:=ll.last (fun z=>hz0 (by rw[ll.at'.1,z]; rfl))
     have ll2:=ll
     rw[eg',ex] at ll2
     rw[eg'] at eg
     have hgl:g.length <= 300:=by
      have z:=(Gh m (ts.take i)).fl
      rw[eg'] at z
      have:=congrArg length z
      simp at this
      omega
     walk_at "rd"
     refine Yw (SqL.of ll2.li) ?_ (Js _ _)
     walk_at "rd"
     walk_at "rd"
     refine Gp hp (Gu (by rw[length_map]; omega)) fun H4 c4 e4=>?_
     walk_at "rd"
     have fp:H p = none:=by
      obtain⟨p',e,z⟩:=fx (V.ref p) (by rw[ex]; exact mem_append_right _ mem_cons_self)
      cases e; exact z
     exact⟨_,_,rfl,s.chg c4 fp,fun x hx=>fx x (by rw[ex]; exact hx),by rw[eg,Rp hmt]; exact ll2.add c4 e4⟩
   ·have hmt:m n = false:=by rw[hmw,decide_eq_false hx]
    refine Lf (by simp [hx]) ?_
    refine Lf (by simp) ?_
    walk_at "rd"
    refine⟨(by decide:1 <= sizeLine),fun p H3 hp s3 e3=>?_⟩
    walk_at "rd"
    walk_at "rd"
    refine Gp (s3 _ _ hli) (Gu (by omega)) fun H4 c4 e4=>?_
    walk_at "rd"
    exact push (.inr hmt) p H3 H4 hp s3 e3 c4 e4
  ·rintro σ H' ⟨v3,xs,rfl,s,fx,ll⟩
   rw[length_map,take_length] at ll
   walk_at "rd"
   exact q wl xs H' hwl s fx ll
def Ak0:PSp:=fun ps P=>∃ W M ts,ps = [.dk (kkD W M),.lst (map .int ts)]/\ts.length <= 300/\P (.lst ((knL W M ts).map .str))
theorem Amg (T:Txt K mg t):Binds K t.d_qbn ["_law_words_here","_law_signs_here"] []:=T.F_qbn.binds fun _ _ _ _ _ _ us hl=>match us,hl with | [_,_],_=>rfl
theorem Ak9 (T:Txt K mg t):FnOk P w K mg base CX0 2 t.f_qbn t.d_qbn ["_law_words_here","_law_signs_here"] (spOf K t.C_Book [false,false] .fr Ak0):=by
 refine T.F_qbn.ok sc_qbn (fun vs H Q E h=>h.len) (fun cdv A outer s H vs Q E hr h=>?_)
 have hu:=Cp hr
 have hu64:=hr.units
 refine⟨_,(Bc (Bl (i:=2) sc_qbn.nd rfl (Or.inl rfl) (Cu Bd))
   (Bc (Dd PassesOwn.never rfl (Cs (Bn (Ada T) (hr.mono (by decide)) rfl T.m_qbd T.F_qbd.kp (AgI T) .nil Bt (Ba (pv 0) (Ba (pv 1) Bd)))) (Bo (i:=3) sc_qbn.nd rfl (Or.inl rfl))
    (Bc (Bl (i:=4) sc_qbn.nd rfl (Or.inl rfl) (Rk hu (pv 0) (Ce (Cj K) (pv 3) Be (fun _ _=>rfl)) Bw ⟨rfl,rfl,rfl,rfl⟩))
   (Bf (Co (Fo plainAttrs_list PySem.F.slot_list_append PySem.F.type_list_append Dc (pv 2) (Ba (Ce (Cj K) (Cu (Ba (pv 4) (Ba Bw Bd))) (Gq Xd rfl T.z_int boot_int (Ba (Gg Dj (pv 4) Bw (Ci _)) Bd)) (fun _ _=>rfl)) Bd))))))
   (Bf (Cc (pv 2))))),?_⟩
 try dsimp only [Ck,Bx]
 refine Cq h (by decide) (Bk (Dk (Dn 0 Bh))
   (Bk (Sn (Aed (Bp Bb (Bp Bb Bh))) (By (top:=5))
    (Bk (Bu (Aak (EU.eb (Cv Bb (EU.eb Bg))) Cn))
   (Fx (Bs (Cv (EF.eb (Dn 2 (Bs Br (Bs Cn Bh)))) (EU.eb (Abw (Bp (EU.eb (Dv Bb (EU.eb Cn))) Bh)))) Bh))))
   Fv)) (fun ps P hp=>?_)
 clear h hu hu64 hr
 obtain⟨W,M,ts,rfl,hl,q⟩:=hp
 walk_at "s"
 unfold knL at q
 walk_at "p"
 refine⟨W,M,ts,rfl,hl,?_⟩
 walk_at "p"
 have go:=Gh (Cl W M) ts
 have gl:=go.ln
 generalize hgs:grp (Cl W M) ts = gs at go gl q
 refine⟨fun k ρ=>∃ v3 v4,ρ = [.bo (.dk (kkD W M)),.bo (.lst (map .int ts)),.ow (.lst (((gs.take k).map (knW W M)).map .str)),v3,v4],⟨_,_,rfl⟩,?_,?_⟩
 ·rintro k p ρ hk ⟨v3,v4,rfl⟩
  rw[getElem?_map] at hk
  obtain⟨g,hg,rfl⟩:=map_eq_some_iff.mp hk
  obtain⟨n,r,rfl,hr⟩:=go.ne g (mem_of_getElem? hg)
  have e4:((gs.take k).map (knW W M)).map PV.str ++ [PV.str (if Fd W M n = "mark" then ("plain" : Str) else Fd W M n)] = ((gs.take (k + 1)).map (knW W M)).map PV.str:=by
   rw[Dg hg,map_append,map_append]
   have:knW W M (n :: r) = if Fd W M n = "mark" then ("plain" : Str) else Fd W M n:=by
    show (if Cl W M n = true then ("plain" : Str) else Fd W M n) = _
    unfold Cl
    by_cases h:Fd W M n = "mark"
    ·rw[if_pos h,if_pos (decide_eq_true h)]
    ·rw[if_neg h,if_neg (fun z=>h (of_decide_eq_true z))]
   rw[<- this]; rfl
  have hk64:(((gs.take k).map (knW W M)).map PV.str).length < 100000:=by
   rw[length_map,length_map,length_take]; omega
  walk_at "p"
  refine Dx (l:=n :: r) (j:=0) (a:=n) rfl rfl ?_
  walk_at "p"
  rw[Vu]
  walk_at "p"
  by_cases h:Fd W M n = "mark"
  ·rw[decide_eq_true h]
   rw[if_pos h] at e4
   rw[if_pos rfl]
   refine AdS ?_
   walk_at "p"
   rotate_left
   ·exact hk64
   rw[e4]
   exact⟨_,_,rfl⟩
  ·rw[decide_eq_false h]
   rw[if_neg h] at e4
   rw[if_neg (by decide)]
   refine Aah ?_
   walk_at "p"
   rotate_left
   ·exact hk64
   rw[e4]
   exact⟨_,_,rfl⟩
 rintro ρ ⟨v3,v4,rfl⟩
 rw[length_map,take_length]
 walk_at "p"
 exact q
theorem AlC {A:List Int} {a i:Nat} {j:Int} (hi:a + 1 + i < A.length):(A.mapIdx fun k y=>if a < k/\k < a + 1 + i then j else y).set (a + 1 + i) j = A.mapIdx fun k y=>if a < k/\k < a + 1 + (i + 1) then j else y:=by
 refine ext_getElem? fun k=>?_
 rw[getElem?_set,length_mapIdx,getElem?_mapIdx,getElem?_mapIdx]
 by_cases e:a + 1 + i = k
 ·rw[if_pos e,if_pos (by omega),getElem?_eq_getElem (show k < A.length by omega)]
  show some j = some (if a < k/\k < a + 1 + (i + 1) then j else _)
  rw[if_pos (by omega)]
 ·rw[if_neg e]
  cases A[k]? with
  | none=>rfl
  | some x =>
   show some (if a < k/\k < a + 1 + i then j else x) = some (if a < k/\k < a + 1 + (i + 1) then j else x)
   by_cases z:a < k/\k < a + 1 + i
   ·rw[if_pos z,if_pos (by omega)]
   ·rw[if_neg z,if_neg (by omega)]
def AiW:PSp:=fun ps P=>∃ (D:List Nst) (n:Nat),ps = [.lst (D.map nP),.int n]/\D.length <= 300/\n <= 300/\(∀ x ∈ D,x.1 < n/\x.2.1 <= n)/\P (.lst ((arA D n D.length).map .int))
theorem Am3 (T:Txt K mg t):Binds K t.d_qbc ["_law_told_here","_law_many"] []:=T.F_qbc.binds fun _ _ _ _ _ _ us hl=>match us,hl with | [_,_],_=>rfl
theorem AlO (T:Txt K mg t):FnOk P w K mg base CX0 1 t.f_qbc t.d_qbc ["_law_told_here","_law_many"] (spOf K t.C_Book [false,false] .fr AiW):=by
 refine T.F_qbc.ok sc_qbc (fun vs H Q E h=>h.len) (fun cdv A outer s H vs Q E hr h=>?_)
 have hu:=Cp hr
 have hu64:=hr.units
 refine⟨_,(Bc (Bl (i:=2) sc_qbc.nd rfl (Or.inl rfl) (Cb We (Cu (Ba (Oa Ll Be) Bd)) (pv 1)))
   (Bc (Dd PassesOwn.never rfl (Nn rfl T.z_range (Ba (Cg (Ch K) rfl T.z_len PySem.boot_len (Ba (pv 0) Bd)) Bd)) (Bo (i:=3) sc_qbc.nd rfl (Or.inl rfl))
    (Bc (Ot (Ce (Cj K) (pv 0) (pv 3) (fun _ _=>rfl)) (Fu (K':=K) (n:=3) rfl rfl (Cf (Bo (i:=4) sc_qbc.nd rfl (Or.inl rfl)) (Cf (Bo (i:=5) sc_qbc.nd rfl (Or.inl rfl)) (Cf (Bo (i:=6) sc_qbc.nd rfl (Or.inl rfl)) Dw)))))
   (Bf (De (Jm (Lz (pv 6)))
    (Bf (Dd PassesOwn.never rfl (Qe rfl T.z_range (Ba (Cb Fw (pv 4) Be) (Ba (Cg (Xe rfl) rfl T.z_min PyProof.Rows.boot_min (Ba (pv 5) (Ba (pv 1) Bd))) Bd))) (Bo (i:=7) sc_qbc.nd rfl (Or.inl rfl))
    (Bf (Ot (pv 3) (Qm (pv 2) (pv 7) Jx)))))
    Ct))))
   (Bf (Cc (pv 2))))),?_⟩
 try dsimp only [Ck,Bx]
 refine Cq h (by decide) (Bk (Dk (Zv (EF.eb (Dn 1 (Bs (Ug (fun _ _=>.int _) (EU.eb Bg)) Bh))) Bb))
   (Bk (AaV (Bp (EU.eb (Dr (Bp Bb Bh))) Bh) (By (top:=8))
    (Bk (Ako (Cv Bb Bb) (Gv (Da (By (top:=8)) (Da (By (top:=8)) (Da (By (top:=8)) Gc)))))
   (Dl (Cw (EU.eb (Lx Bb)))
    (Sy (Bp (EU.eb (Fa (fun _ _ _=>.int _) Bb (EU.eb Bg))) (Bp (EU.eb (Ae6 (Bp Bb (Bp Bb Bh)))) Bh)) (By (top:=8))
    (Qt Bb Br))
    Df)))
   Fv)) (fun ps P hp=>?_)
 clear h hu hu64 hr
 obtain⟨D,n,rfl,hl,hn,hD,q⟩:=hp
 walk_at "s"
 walk_at "p"
 all_goals try exact⟨by omega,by omega⟩
 all_goals try exact⟨by rw[length_map]; omega,by rw[length_map]; omega⟩
 rw[toNat_natCast,length_map,toNat_natCast]
 refine⟨fun j ρ=>∃ (v3 v4 v5 v6 v7:Sl),j <= D.length/\ρ = [.bo (.lst (D.map nP)),.bo (.int n),.ow (.lst ((arA D n j).map .int)),v3,v4,v5,v6,v7],⟨_,_,_,_,_,zero_le _,by rw[arA,List.map_replicate]⟩,?_,?_⟩
 ·rintro j ρ hj ⟨v3,v4,v5,v6,v7,_,rfl⟩
  rw[Int.zero_add]
  obtain⟨x,hx⟩:∃ x,D[j]? = some x:=⟨_,getElem?_eq_getElem hj⟩
  obtain⟨x1,x2⟩:=hD x (mem_of_getElem? hx)
  have al:=Jf D n j
  walk_at "p"
  refine Dx (l:=D) (f:=nP) (j:=j) (a:=x) hx rfl ?_
  rw[show nP x = .tup [.int x.1,.int x.2.1,opP x.2.2] from rfl]
  walk_at "p"
  cases el:x.2.2 with
  | none =>
   have ea:arA D n (j + 1) = arA D n j:=by
    rw[arA,hx]
    show (if x.2.2.isSome = true then _ else _:List Int) = _
    rw[el]; rfl
   refine Lf (by decide) ?_
   walk_at "p"
   exact⟨_,_,_,_,_,hj,by rw[ea]⟩
  | some l =>
   have ea:arA D n (j + 1) = (arA D n j).mapIdx (fun k y=>if x.1 < k/\k < x.2.1 then (j:Int) else y):=by
    rw[arA,hx]
    show (if x.2.2.isSome = true then _ else _:List Int) = _
    rw[el]; rfl
   refine Nk rfl ?_
   walk_at "p"
   have mn:(if (n:Int) < (x.2.1:Int) then (n:Int) else (x.2.1:Int)) = (x.2.1:Int):=if_neg (by omega)
   have mn2:min (x.2.1:Int) (n:Int) = (x.2.1:Int):=by omega
   all_goals try (first | rw[mn] | rw[mn2])
   all_goals try exact⟨by omega,by omega,by omega,by omega⟩
   rw[show ((x.2.1:Int) - ((x.1:Int) + 1)).toNat = x.2.1 - (x.1 + 1) by omega]
   generalize arA D n j = A at al ea
   refine⟨fun i ρ=>∃ v7,ρ = [.bo (.lst (D.map nP)),.bo (.int n),.ow (.lst ((A.mapIdx fun k y=>if x.1 < k/\k < x.1 + 1 + i then (j:Int) else y).map .int)),.sh (.int j),.sh (.int x.1),.sh (.int x.2.1),.sh (opP (some l)),v7],⟨_,by rw[Nm A _ (fun k y _=>if_neg (by omega))]⟩,?_,?_⟩
   ·rintro i ρ hi ⟨v7,rfl⟩
    walk_at "p"
    refine Td rfl (AbD (by omega) (by rw[length_map,length_mapIdx]; omega)) ?_
    walk_at "p"
    rw[<- map_set,show ((x.1:Int) + 1 + (i:Int)).toNat = x.1 + 1 + i by omega,AlC (by omega)]
    exact⟨_,rfl⟩
   ·rintro ρ ⟨v7,rfl⟩
    rw[show (A.mapIdx fun k y=>if x.1 < k/\k < x.1 + 1 + (x.2.1 - (x.1 + 1)) then (j:Int) else y) = A.mapIdx (fun k y=>if x.1 < k/\k < x.2.1 then (j:Int) else y) by
     congr 1
     funext k y
     by_cases z:x.1 < k/\k < x.2.1
     ·rw[if_pos z,if_pos (by omega)]
     ·rw[if_neg z,if_neg (by omega)],<- ea]
    exact⟨_,_,_,_,_,hj,rfl⟩
 rintro ρ ⟨v3,v4,v5,v6,v7,_,rfl⟩
 walk_at "p"
 exact q
def AeZ:PSp:=fun ps P=>∃ i:Int,ps = [.int i]/\P (.bl true)
theorem Yv (T:Txt K mg t):Binds K t.d_qbq ["_law_found"] []:=T.F_qbq.binds fun _ _ _ _ _ _ us hl=>match us,hl with | [_],_=>rfl
theorem Vc (T:Txt K mg t):FnOk P w K mg base CX0 1 t.f_qbq t.d_qbq ["_law_found"] (spOf K t.C_Book [false] .sh AeZ):=by
 refine T.F_qbq.ok Al6 (fun vs H Q E h=>h.len) (fun cdv A outer s H vs Q E hr h=>?_)
 have hu:=Cp hr
 have hu64:=hr.units
 refine⟨_,(Bf (Cc (Op (Cg (Jb K) rfl T.z_isinstance boot_isinstance (Ba (pv 0) (Ba (Gw (v:=.ty "int") rfl T.z_int boot_int rfl) Bd))) (Qr (Afa (Cg (Jb K) rfl T.z_isinstance boot_isinstance (Ba (pv 0) (Ba (Gw (v:=.ty "bool") rfl T.z_bool boot_bool rfl) Bd)))))))),?_⟩
 try dsimp only [Ck,Bx]
 refine Cq h (by decide) (Dq (AiI (EU.eb (Ss Bb)) (AhY (EU.eb (Ss Bb))))) (fun ps P hp=>?_)
 clear h hu hu64 hr
 obtain⟨i,rfl,q⟩:=hp
 walk_at "s"
 walk_at "p"
 exact q
def Aig:PSp:=fun ps P=>∃ (D:List Nst) (n:Nat),ps = [.lst (D.map nP),.int n]/\D.length <= 300/\n <= 300/\(∀ x ∈ D,x.1 < n/\x.1 < x.2.1/\x.2.1 <= n)/\D.Pairwise (fun x y=>x.1 < y.1)/\P (.bl true)
theorem An4 (T:Txt K mg t):Binds K t.d_qc ["_law_told_here","_law_many"] []:=T.F_qc.binds fun _ _ _ _ _ _ us hl=>match us,hl with | [_,_],_=>rfl
theorem AmI (T:Txt K mg t):FnOk P w K mg base CX0 2 t.f_qc t.d_qc ["_law_told_here","_law_many"] (spOf K t.C_Book [false,false] .sh Aig):=by
 refine T.F_qc.ok sc_qc (fun vs H Q E h=>h.len) (fun cdv A outer s H vs Q E hr h=>?_)
 have hu:=Cp hr
 have hu64:=hr.units
 refine⟨_,(Bc (Bl (i:=2) sc_qc.nd rfl (Or.inl rfl) (Oa Ll Be))
   (Bc (Dd PassesOwn.never rfl (Cs (pv 0)) (Bo (i:=3) sc_qc.nd rfl (Or.inl rfl))
    (Bc (De (PW.pt (Lo (Jl (Jk (Cg (Jb K) rfl T.z_isinstance boot_isinstance (Ba (pv 3) (Ba (Gw (v:=.ty "tuple") rfl T.z_tuple boot_tuple rfl) Bd))))) (Lo (Cd Yz (Cg (Ch K) rfl T.z_len PySem.boot_len (Ba (pv 3) Bd)) Be (Ci _)) (Lo (Jl (Jk (Bn (Vc T) (hr.mono (by decide)) rfl T.m_qbq T.F_qbq.kp (Yv T) .nil Bt (Ba (Ce (Cy K) (pv 3) Be (fun _ _=>rfl)) Bd)))) (Qn (Jl (Jk (Bn (Vc T) (hr.mono (by decide)) rfl T.m_qbq T.F_qbq.kp (Yv T) .nil Bt (Ba (Ce (Cy K) (pv 3) Be (fun _ _=>rfl)) Bd)))))))))
    (Bf (Cc Ow))
    Ct)
   (Bc (De (PW.pt (Lo (Cd Agm (Ce (Cy K) (pv 3) Be (fun _ _=>rfl)) (pv 2) (Ci _)) (Lo (Cd Ach (Ce (Cy K) (pv 3) Be (fun _ _=>rfl)) (Ce (Cy K) (pv 3) Be (fun _ _=>rfl)) (Ci _)) (Qn (Cd Ta (Ce (Cy K) (pv 3) Be (fun _ _=>rfl)) (pv 1) (Ci _))))))
    (Bf (Cc Ow))
    Ct)
   (Bc (De (PW.pt (Sq (Jm (Lz (Ce (Cy K) (pv 3) Be (fun _ _=>rfl)))) (Qs (Jl (Jk (Bn (Vc T) (hr.mono (by decide)) rfl T.m_qbq T.F_qbq.kp (Yv T) .nil Bt (Ba (Ce (Cy K) (pv 3) Be (fun _ _=>rfl)) Bd)))))))
    (Bf (Cc Ow))
    Ct)
   (Bf (Bl (i:=2) sc_qc.nd rfl (Or.inl rfl) (Ce (Cy K) (pv 3) Be (fun _ _=>rfl))))))))
   (Bf (Cc Ow)))),?_⟩
 try dsimp only [Ck,Bx]
 refine Cq h (by decide) (Bk (Bu (Ug (fun _ _=>.int _) (EU.eb Bg)))
   (Bk (Ni (By (top:=4))
    (Bk (Dl (Nj (Nu (Lb (EU.eb (Ss Bb)))) (Nj (Cw (EU.eb (Acq (EU.eb (Dr (Bp Bb Bh))) (EU.eb Bg)))) (Nj (Nu (Lb (EU.eb (Ds (Bp (EU.eb (Dh Bb (EU.eb Bg))) Bh))))) (Nu (Lb (EU.eb (Ds (Bp (EU.eb (Dh Bb (EU.eb Bg))) Bh))))))))
    (Dq Rg)
    Df)
   (Bk (Dl (Nj (Cw (EU.eb (Fa (fun _ _ _=>.bl _) (EU.eb (Dh Bb (EU.eb Bg))) Bb))) (Nj (Cw (EU.eb (Fa (fun _ _ _=>.bl _) (EU.eb (Dh Bb (EU.eb Bg))) (EU.eb (Dh Bb (EU.eb Bg)))))) (Cw (EU.eb (Fa (fun _ _ _=>.bl _) (EU.eb (Dh Bb (EU.eb Bg))) Bb)))))
    (Dq Rg)
    Df)
   (Bk (Dl (Vl (Cw (EU.eb (Lx (EU.eb (Dh Bb (EU.eb Bg)))))) (Nu (Lb (EU.eb (Ds (Bp (EU.eb (Dh Bb (EU.eb Bg))) Bh))))))
    (Dq Rg)
    Df)
   (Bu (Dh Bb (EU.eb Bg)))))))
   (Dq Rg))) (fun ps P hp=>?_)
 clear h hu hu64 hr
 obtain⟨D,n,rfl,hl,hn,hD,pw,q⟩:=hp
 walk_at "s"
 walk_at "p"
 refine⟨fun j ρ=>∃ (z:Int) (v3:Sl),(∀ x,D[j]? = some x->z < (x.1:Int))/\ρ = [.bo (.lst (D.map nP)),.bo (.int n),.sh (.int z),v3],⟨-1,_,fun x _=>by omega,rfl⟩,?_,?_⟩
 ·rintro j p ρ hp ⟨z,v3,hz,rfl⟩
  rw[getElem?_map] at hp
  obtain⟨x,hx,rfl⟩:=map_eq_some_iff.mp hp
  obtain⟨x1,x2,x3⟩:=hD x (mem_of_getElem? hx)
  have hz2:=hz x hx
  rw[show nP x = .tup [.int x.1,.int x.2.1,opP x.2.2] from rfl]
  walk_at "p"
  rw[decide_eq_true (show ((([PV.int (x.1:Int),PV.int (x.2.1:Int),opP x.2.2]:List PV).length:Nat):Int) = 3 from rfl)]
  walk_at "p"
  refine⟨_,rfl,?_⟩
  walk_at "p"
  refine⟨_,rfl,?_⟩
  walk_at "p"
  rw[decide_eq_false (show ¬ (x.1:Int) <= z by omega)]
  walk_at "p"
  rw[decide_eq_false (show ¬ (x.2.1:Int) <= (x.1:Int) by omega)]
  walk_at "p"
  rw[decide_eq_false (show ¬ (n:Int) < (x.2.1:Int) by omega)]
  walk_at "p"
  have nx:∀ y,D[j + 1]? = some y->(x.1:Int) < (y.1:Int):=fun y hy=>by
   obtain⟨hj,rfl⟩:=List.getElem?_eq_some_iff.mp hx
   obtain⟨hj2,rfl⟩:=List.getElem?_eq_some_iff.mp hy
   have:=List.pairwise_iff_getElem.mp pw j (j + 1) hj hj2 (by omega)
   omega
  cases el:x.2.2 with
  | none =>
   refine Lf (by decide) ?_
   walk_at "p"
   exact⟨_,_,nx,rfl⟩
  | some l =>
   refine Nk rfl ?_
   rw[show opP (some l) = .int l from rfl]
   walk_at "p"
   refine⟨_,rfl,?_⟩
   walk_at "p"
   exact⟨_,_,nx,rfl⟩
 rintro ρ ⟨z,v3,_,rfl⟩
 walk_at "p"
 exact q
def Aiw:PSp:=fun ps P=>∃ (wh:List (List Int)) (ks:List Str) (S:List Nat) (sp:Int),ps = [.lst (wh.map fun g:List Int=>PV.lst (g.map .int)),.lst (ks.map .str),.lst (S.map fun k:Nat=>.int k),.int sp]/\ks.length = wh.length/\(∀ k ∈ S,k < wh.length)/\((S.map (rgF wh ks sp)).flatten).length <= 300/\P (.lst (((S.map (rgF wh ks sp)).flatten).map .int))
theorem AnS (T:Txt K mg t):Binds K t.d_qj ["_law_signs_here","_law_sorts","_law_spots","_law_spare"] []:=T.F_qj.binds fun _ _ _ _ _ _ us hl=>match us,hl with | [_,_,_,_],_=>rfl
theorem AmN (T:Txt K mg t):FnOk P w K mg base CX0 1 t.f_qj t.d_qj ["_law_signs_here","_law_sorts","_law_spots","_law_spare"] (spOf K t.C_Book [false,false,false,true] .fr Aiw):=by
 refine T.F_qj.ok sc_qj (fun vs H Q E h=>h.len) (fun cdv A outer s H vs Q E hr h=>?_)
 have hu:=Cp hr
 have hu64:=hr.units
 refine⟨_,(Bc (Bl (i:=4) sc_qj.nd rfl (Or.inl rfl) (Cu Bd))
   (Bc (Dd PassesOwn.never rfl (Cs (pv 2)) (Bo (i:=5) sc_qj.nd rfl (Or.inl rfl))
    (Bf (De (Cd (Ji K) (Ce (Cj K) (pv 1) (pv 5) (fun _ _=>rfl)) (Cu (Ba Bw (Ba Bw (Ba Bw Bd)))) rfl)
    (Bf (Co (Fo plainAttrs_list PySem.F.slot_list_append PySem.F.type_list_append Dc (pv 4) (Ba (pv 3) Bd))))
    (Bf (Bl (i:=4) sc_qj.nd rfl (Or.inl rfl) (Cb Tg (pv 4) (Ce (Cj K) (pv 0) (pv 5) (fun _ _=>rfl))))))))
   (Bf (Cc (pv 4))))),?_⟩
 try dsimp only [Ck,Bx]
 refine Cq h (by decide) (Bk (Dk (Dn 0 Bh))
   (Bk (Ni (By (top:=6))
    (Dl (Cw (EU.eb (Tf (Cv Bb Bb) (EF.eb (Dn 3 (Bs Cn (Bs Cn (Bs Cn Bh))))))))
    (Fx (Bs Br Bh))
    (Dk (Uw Bb (EU.eb (Cv Bb Bb))))))
   Fv)) (fun ps P hp=>?_)
 clear h hu hu64 hr
 obtain⟨wh,ks,S,sp,rfl,hl,hS,hlen,q⟩:=hp
 walk_at "s"
 walk_at "p"
 refine⟨fun j ρ=>∃ (v5:Sl),ρ = [.bo (.lst (wh.map fun g:List Int=>PV.lst (g.map .int))),.bo (.lst (ks.map .str)),.bo (.lst (S.map fun k:Nat=>.int k)),.sh (.int sp),.ow (.lst ((((S.take j).map (rgF wh ks sp)).flatten).map .int)),v5],⟨_,rfl⟩,?_,?_⟩
 ·rintro j p ρ hp ⟨v5,rfl⟩
  rw[getElem?_map] at hp
  obtain⟨k,hk,rfl⟩:=map_eq_some_iff.mp hp
  have hkl:=hS k (mem_of_getElem? hk)
  obtain⟨x,hx⟩:∃ x,ks[k]? = some x:=⟨_,getElem?_eq_getElem (by omega)⟩
  obtain⟨g,hg⟩:∃ g,wh[k]? = some g:=⟨_,getElem?_eq_getElem hkl⟩
  have et:(((S.take (j + 1)).map (rgF wh ks sp)).flatten).map PV.int = (((S.take j).map (rgF wh ks sp)).flatten).map PV.int ++ (rgF wh ks sp k).map PV.int:=by
   rw[Dg hk,map_append,List.flatten_append,map_append]
   show _ ++ ((rgF wh ks sp k) ++ []).map PV.int = _
   rw[append_nil]
  have sz:((((S.take (j + 1)).map (rgF wh ks sp)).flatten).map PV.int).length <= 300:=by
   rw[length_map]
   have e:S = S.take (j + 1) ++ S.drop (j + 1):=(take_append_drop ..).symm
   rw[e,map_append,List.flatten_append,length_append] at hlen
   omega
  rw[et,length_append] at sz
  walk_at "p"
  refine Dx (l:=ks) (f:=PV.str) (j:=k) (a:=x) hx rfl ?_
  walk_at "p"
  refine Aaf (L:=(["forein","backin","out"]:List Str)) (x:=x) ?_
  walk_at "p"
  have mem:x ∈ (["forein","backin","out"]:List Str) ↔ (x ∈ bgK\/x = "out"):=by
   unfold bgK
   simp only [mem_cons,not_mem_nil,or_false]
   constructor
   ·rintro (h | h | h)
    ·exact .inl (.inl h)
    ·exact .inl (.inr h)
    ·exact .inr h
   ·rintro ((h | h) | h)
    ·exact .inl h
    ·exact .inr (.inl h)
    ·exact .inr (.inr h)
  by_cases hb:x ∈ bgK\/x = "out"
  ·have er:rgF wh ks sp k = [sp]:=by unfold rgF; rw[hx]; exact if_pos hb
   rw[er] at et sz
   rw[decide_eq_true (mem.mpr hb)]
   walk_at "p"
   rotate_left
   ·omega
   exact⟨_,by rw[et]; rfl⟩
  ·have er:rgF wh ks sp k = g:=by
    unfold rgF
    rw[hx]
    refine (if_neg hb).trans ?_
    rw[hg]; rfl
   rw[er] at et sz
   rw[decide_eq_false (fun z=>hb (mem.mp z))]
   walk_at "p"
   refine Dx (l:=wh) (f:=fun g:List Int=>PV.lst (g.map .int)) (j:=k) (a:=g) hg rfl ?_
   walk_at "p"
   rotate_left
   ·omega
   exact⟨_,by rw[et]⟩
 rintro ρ ⟨v5,rfl⟩
 rw[length_map,take_length]
 walk_at "p"
 exact q
def chA:List Str:=["fore","back","num","blank","mark","forein","backin","out","plain","open","shut"]
theorem Af2:∀ w ∈ chA,w = "plain"\/w = "open"\/w = "shut"\/∃ k,k < 8/\toldK[k]? = some w:=by
 have:∀ w ∈ chA,w = "plain"\/w = "open"\/w = "shut"\/w ∈ toldK:=by decide +kernel
 intro w hw
 rcases this w hw with h | h | h | h
 ·exact .inl h
 ·exact .inr (.inl h)
 ·exact .inr (.inr (.inl h))
 ·obtain⟨k,hk⟩:=getElem?_of_mem h
  have:=(List.getElem?_eq_some_iff.mp hk).1
  exact .inr (.inr (.inr ⟨k,this,hk⟩))
theorem AlV {f:Nat->Int} {U R:List Sg} {J:List Jn} {k y:Nat} (ga:G2A f U R J k y):∀ w ∈ chA,0 < (gpF f (upG U R (r0G f U).length) (mtG f y) w).length/\(gpF f (upG U R (r0G f U).length) (mtG f y) w).length <= 28:=by
 intro w hw
 have bk:=Yl ga.jg ga.hk ga.ht ga.ul ga.hf y
 have nd:=bk.nd
 have uix:=(Vn ga.jg ga.hk ga.ht ga.ul ga.hf).2
 have le:(gpF f (upG U R (r0G f U).length) (mtG f y) w).length <= 28:=by
  unfold gpF
  refine Nat.le_trans (length_filter_le _ _) ?_
  rw[length_map,length_range]; exact Nat.le_refl _
 have one:∀ n,n < 28->Fd (upG U R (r0G f U).length) (mtG f y) (f n) = w->0 < (gpF f (upG U R (r0G f U).length) (mtG f y) w).length:=fun n hn h =>
  List.length_pos_of_mem (mem_filter.mpr ⟨mem_map.mpr ⟨n,mem_range.mpr hn,rfl⟩,decide_eq_true h⟩)
 have mm:(f 14,f 15) ∈ mtG f y:=by
  unfold mtG
  rcases ga.hy with rfl | rfl <;> exact .head _
 refine⟨?_,le⟩
 rcases Af2 w hw with rfl | rfl | rfl | ⟨i,hi,hw2⟩
 ·refine one 26 (by decide) (Ra (Zp fun z=>?_))
  rcases mem_append.mp z with z | z
  ·obtain⟨u,hu,e⟩:=mem_map.mp z
   obtain⟨⟨a,h1,h2⟩,_⟩:=uix u hu
   have:=ga.hf.inj a 26 (by omega) (by omega) (by rw[<- h2]; exact e)
   omega
  ·obtain⟨a,h1,h2,h3⟩:=Yp f y _ z
   have:=ga.hf.inj 26 a (by omega) (by omega) h3
   omega
 ·exact one 14 (by decide) (Ra (Aij nd mm))
 ·exact one 15 (by decide) (Ra (Ai4 nd mm))
 ·have hl:i < U.length:=by have:=ga.ul; omega
  obtain⟨s,hs⟩:∃ s,U[i]? = some s:=⟨_,getElem?_eq_getElem hl⟩
  have h1:=ga.ht.wd i s hs hi
  have h2:=(ga.ht.at' i s hs).1
  rw[getElem?_map,getElem?_range (by omega)] at h2
  rw[hw2] at h1
  refine one i (by omega) (Ra ?_)
  have h3:f i = s.1:=Option.some.inj h2
  rw[h3,Option.some.inj h1]
  exact Wm nd (mem_append_left _ (mem_of_getElem? hs))
theorem AiP {xs:List PV} {P:PV->Prop} (h0:xs = []->P (.bl false)) (h1:xs ≠ []->P (.bl true)):AaB true (.lst xs) (.lst []) P:=⟨xs,[],rfl,rfl,(fun _ i x y _ h=>by cases h),fun b hb=>by
 by_cases z:xs = []
 ·rw[hb.mpr z]; exact h0 z
 ·have:b = false:=by
   cases b with
   | false=>rfl
   | true=>exact absurd (hb.mp rfl) z
  rw[this]; exact h1 z⟩
theorem Anv (A:List Int) (n:Nat) (z:Int):(range n).filterMap (fun k=>if A[k]? = some z then some (PV.int (k:Nat)) else none) = (spF A n z).map (fun k:Nat=>PV.int k):=by
 unfold spF
 generalize range n = l
 induction l with
 | nil=>rfl
 | cons k r ih =>
  by_cases c:A[k]? = some z
  ·rw[List.filterMap_cons_some (by rw[if_pos c]),filter_cons_of_pos (p:=fun k=>decide (A[k]? = some z)) (decide_eq_true c),map_cons,ih]
  ·rw[List.filterMap_cons_none (by rw[if_neg c]),filter_cons_of_neg (p:=fun k=>decide (A[k]? = some z)) (by rw[decide_eq_false c]; decide),ih]
theorem Aeh (mt:Int->Option Int) (ks:List Str) (bs:List Int) (b m:Int):(Le mt ks bs b m).length = ks.length:=by
 unfold Le lvA
 suffices h:∀ (rows:List (Int × List Nat)) (acc:List Int),(rows.foldl (fun l r=>lpF l r.2 (rwF mt (pkF ks r.2) (pkF bs r.2) r.1)) acc).length = acc.length by rw[h,length_replicate]
 intro rows
 induction rows with
 | nil=>intro acc; rfl
 | cons r l ih=>intro acc; rw[foldl_cons,ih,Abs]
def c35:List Str:=["fore","forein","back","out","num","open","blank","backin","shut","plain","mark","out"]
theorem Agl:∀ w ∈ c35,w ∈ chA:=by decide +kernel
theorem Af4 {f:Nat->Int} {U R:List Sg} {J:List Jn} {k y:Nat} (ga:G2A f U R J k y):Fd (upG U R (r0G f U).length) (mtG f y) (f 26) = "plain":=by
 have uix:=(Vn ga.jg ga.hk ga.ht ga.ul ga.hf).2
 refine Ra (Zp fun z=>?_)
 rcases mem_append.mp z with z | z
 ·obtain⟨u,hu,e⟩:=mem_map.mp z
  obtain⟨⟨a,h1,h2⟩,_⟩:=uix u hu
  have:=ga.hf.inj a 26 (by omega) (by omega) (by rw[<- h2]; exact e)
  omega
 ·obtain⟨a,h1,h2,h3⟩:=Yp f y _ z
  have:=ga.hf.inj 26 a (by omega) (by omega) h3
  omega
theorem Vp {kn:List Str} {b m:Int}:∀ n,∀ x ∈ dF kn b m n,x.1 < x.2.1
 | 0,x,h=>by cases h
 | n + 1,x,h=>by
  cases e:kn[n]? with
  | none=>rw[dF,e] at h; exact Vp n x h
  | some k =>
   by_cases hb:k ∈ bgK
   ·rw[Up e hb] at h
    rcases mem_append.mp h with h | h
    ·exact Vp n x h
    ·rw[mem_singleton.mp h]
     show n < Jr kn n
     unfold Jr
     rw[Jg e,show (0:Int) = ((0:Nat):Int) from rfl,Ql hb]; omega
   ·rw[Qw e hb] at h; exact Vp n x h
theorem Aoc (T:Txt K mg t):Binds K t.d_qcd ["_law_script"] []:=T.F_qcd.binds fun _ _ _ _ _ _ us hl=>match us,hl with | [_],_=>rfl
theorem Akv (T:Txt K mg t):FnOk P w K mg base CX0 8 t.f_qcd t.d_qcd ["_law_script"] (spOf K t.C_Book [false] .sh AbB):=by
 refine T.F_qcd.ok sc_qcd (fun vs H Q E h=>h.len) (fun cdv A outer s H vs Q E hr h=>?_)
 have hu:=Cp hr
 have hu64:=hr.units
 refine⟨_,(@Bc _ _ _ _ _ (Bl (i:=1) sc_qcd.nd rfl (Or.inl rfl) (Bn (AjW T) (hr.mono (by decide)) rfl T.m_qbo T.F_qbo.kp (AmT T) .nil Bt (@Ba _ _ _ _ _ (pv 0) Bd rfl)))
   (@Bc _ _ _ _ _ (Bl (i:=2) sc_qcd.nd rfl (Or.inl rfl) (Bn (Aja T) (hr.mono (by decide)) rfl T.m_qbr T.F_qbr.kp (AmC T) .nil Bt (@Ba _ _ _ _ _ (pv 1) Bd rfl)))
   (@Bc _ _ _ _ _ (@Bl _ _ 3 _ _ _ _ sc_qcd.nd rfl (Or.inl rfl) (@Cu _ _ _ _ (@Dz _ _ _ _ _ _ _ Bw (@Dz _ _ _ _ _ _ _ Bw (@Dz _ _ _ _ _ _ _ Bw (@Dz _ _ _ _ _ _ _ Bw (@Dz _ _ _ _ _ _ _ Bw (@Dz _ _ _ _ _ _ _ Bw (@Dz _ _ _ _ _ _ _ Bw (@Dz _ _ _ _ _ _ _ Bw (@Dz _ _ _ _ _ _ _ Bw (@Dz _ _ _ _ _ _ _ Bw (@Dz _ _ _ _ _ _ _ Bw (@Dz _ _ _ _ _ _ _ Bw Bd))))))))))))) rfl (by first | exact .inl rfl | exact .inr rfl))
   (@Bc _ _ _ _ _ (Bl (i:=4) sc_qcd.nd rfl (Or.inl rfl) (Bn (AjU T) (hr.mono (by decide)) rfl T.m_qbb T.F_qbb.kp (AmA T) .nil Bt (@Ba _ _ _ _ _ (pv 1) (@Ba _ _ _ _ _ (pv 2) (@Ba _ _ _ _ _ (pv 3) Bd rfl) rfl) rfl)))
   (@Bc _ _ _ _ _ (Bl (i:=5) sc_qcd.nd rfl (Or.inl rfl) (Cb Dm (Bn (Ye T) (hr.mono (by decide)) rfl T.m_qr T.F_qr.kp (AbU T) .nil Bt (@Ba _ _ _ _ _ (pv 0) (@Dz _ _ _ _ _ _ _ Be Bd) rfl)) (Cb Nt Be Be)))
   (@Bc _ _ _ _ _ (Bl (i:=6) sc_qcd.nd rfl (Or.inl rfl) (AiF T.K_Book (AjG T) (hr.mono (by decide)) rfl T.m_Book (Ann T) .nil Bt (@Ba _ _ _ _ _ (Gq (Gd K) rfl T.z_list PyProof.Rows.boot_list (@Ba _ _ _ _ _ (@Ce _ _ _ _ _ _ _ (Cy K) (pv 1) Be (fun _ _=>rfl)) Bd rfl)) (@Ba _ _ _ _ _ (Gq (Gd K) rfl T.z_list PyProof.Rows.boot_list (@Ba _ _ _ _ _ (@Ce _ _ _ _ _ _ _ (Cy K) (pv 1) Be (fun _ _=>rfl)) Bd rfl)) (@Ba _ _ _ _ _ (Gq (Gd K) rfl T.z_list PyProof.Rows.boot_list (@Ba _ _ _ _ _ (@Ce _ _ _ _ _ _ _ (Cy K) (pv 1) Be (fun _ _=>rfl)) Bd rfl)) Bd rfl) rfl) rfl)))
   (@Bc _ _ _ _ _ (Bl (i:=7) sc_qcd.nd rfl (Or.inl rfl) (Bn (Ake T) (hr.mono (by decide)) rfl T.m_qbw T.F_qbw.kp (AmK T) .nil Bt (@Ba _ _ _ _ _ (pv 4) (@Ba _ _ _ _ _ (Rn 1 ["_law_number"] rfl rfl (Cs (Nh (Ls K) (pv 0) (Jh Be) (Jh Be))) (fun _ _ _ _=>(Bo (i:=0) (show Nodup (["_law_number"]:List Str) by decide +kernel) rfl (Or.inl rfl))) (fun _ _ _ _=>Gb) (fun _ _ _ _=>(Cb Dm (pv 0) (Cb Nt Be Be))) (by decide +kernel) (by decide +kernel) rfl (by decide +kernel)) Bd rfl) rfl)))
   (@Bc _ _ _ _ _ (Bl (i:=8) sc_qcd.nd rfl (Or.inl rfl) (Cb Dm (Cb Fn (pv 5) Be) Be))
   (@Bc _ _ _ _ _ (De (Cd Dj (Cb Dm (pv 5) Be) Be (Ci _))
    (@Bf _ _ _ (Bl (i:=8) sc_qcd.nd rfl (Or.inl rfl) (Bn (Adh T) (hr.mono (by decide)) rfl T.m_qbz T.F_qbz.kp (Ahj T) .nil Bt (@Ba _ _ _ _ _ (pv 6) (@Ba _ _ _ _ _ (pv 7) Bd rfl) rfl))))
    Ct)
   (@Bc _ _ _ _ _ (Bl (i:=9) sc_qcd.nd rfl (Or.inl rfl) (Cb Dm (Cb Fn (pv 5) Be) Be))
   (@Bc _ _ _ _ _ (De (Cd Dj (Cb Dm (Cb Fn (pv 5) Be) Be) Be (Ci _))
    (@Bf _ _ _ (Bl (i:=9) sc_qcd.nd rfl (Or.inl rfl) (Cg (Xe rfl) rfl T.z_min PyProof.Rows.boot_min (@Dz _ _ _ _ _ _ _ Be (@Ba _ _ _ _ _ (Cb Fw (pv 8) (Cb Dm (Cb Fn (pv 5) Be) Be)) Bd rfl)))))
    Ct)
   (@Bc _ _ _ _ _ (Bl (i:=10) sc_qcd.nd rfl (Or.inl rfl) (Gq (Gd K) rfl T.z_list PyProof.Rows.boot_list (@Ba _ _ _ _ _ (pv 7) Bd rfl)))
   (@Bc _ _ _ _ _ (Bl (i:=11) sc_qcd.nd rfl (Or.inl rfl) (Bn (Ae3 T) (hr.mono (by decide)) rfl T.m_qby T.F_qby.kp (Aha T) .nil Bt (@Ba _ _ _ _ _ (pv 6) (@Ba _ _ _ _ _ (pv 10) (@Ba _ _ _ _ _ (pv 8) (@Ba _ _ _ _ _ (pv 9) Bd rfl) rfl) rfl) rfl)))
   (@Bc _ _ _ _ _ (Bl (i:=12) sc_qcd.nd rfl (by first | exact Or.inl rfl | exact Or.inr rfl) (Bn (Aae T) (hr.mono (by decide)) rfl T.m_qbs T.F_qbs.kp (AcG T) .nil Bt (@Ba _ _ _ _ _ (pv 6) (@Ba _ _ _ _ _ (pv 10) (@Ba _ _ _ _ _ (@Ce _ _ _ _ _ _ _ (Cj K) (@Cu _ _ _ _ (@Ba _ _ _ _ _ (pv 8) (@Dz _ _ _ _ _ _ _ Ux Bd) rfl)) (Gq Xd rfl T.z_int boot_int (@Ba _ _ _ _ _ (Gg Dj (Cb Dm (pv 5) Be) Be (Ci _)) Bd rfl)) (fun _ _=>rfl)) (@Ba _ _ _ _ _ (pv 9) Bd rfl) rfl) rfl) rfl)))
   (@Bc _ _ _ _ _ (Bl (i:=13) sc_qcd.nd rfl (Or.inl rfl) (Bn (Ada T) (hr.mono (by decide)) rfl T.m_qbd T.F_qbd.kp (AgI T) .nil Bt (@Ba _ _ _ _ _ (pv 2) (@Ba _ _ _ _ _ (pv 7) Bd rfl) rfl)))
   (@Bc _ _ _ _ _ (Bl (i:=14) sc_qcd.nd rfl (Or.inl rfl) (Bn (Ak9 T) (hr.mono (by decide)) rfl T.m_qbn T.F_qbn.kp (Amg T) .nil Bt (@Ba _ _ _ _ _ (pv 2) (@Ba _ _ _ _ _ (pv 7) Bd rfl) rfl)))
   (@Bc _ _ _ _ _ (De (PW.pt (Lo (Jl (Jk (Cg (Jb K) rfl T.z_isinstance boot_isinstance (@Ba _ _ _ _ _ (pv 11) (@Ba _ _ _ _ _ (Gw (v:=.ty "list") rfl T.z_list PyProof.Rows.boot_list rfl) Bd rfl) rfl)))) (Lo (Jl (Jk (Bn (AmI T) (hr.mono (by decide)) rfl T.m_qc T.F_qc.kp (An4 T) .nil Bt (@Ba _ _ _ _ _ (pv 11) (@Ba _ _ _ _ _ (Cg (Ch K) rfl T.z_len PySem.boot_len (@Ba _ _ _ _ _ (pv 14) Bd rfl)) Bd rfl) rfl)))) (Qn (Cd (Vy K hu64) (pv 10) (pv 7) (Ci _))))))
    (@Bf _ _ _ (@Cc _ _ _ _ Ow))
    Ct)
   (@Bc _ _ _ _ _ (De (PW.pt (Lo (Jl (Jk (Cg (Jb K) rfl T.z_isinstance boot_isinstance (@Ba _ _ _ _ _ (pv 12) (@Ba _ _ _ _ _ (Gw (v:=.ty "list") rfl T.z_list PyProof.Rows.boot_list rfl) Bd rfl) rfl)))) (Lo (Cd Yz (Cg (Ch K) rfl T.z_len PySem.boot_len (@Ba _ _ _ _ _ (pv 12) Bd rfl)) (Cg (Ch K) rfl T.z_len PySem.boot_len (@Ba _ _ _ _ _ (pv 14) Bd rfl)) (Ci _)) (Qn (Jl (Jk (Cg (AfJ hr.hd K) rfl T.z_all boot_all (@Ba _ _ _ _ _ (Rn 1 ["_law_level"] rfl rfl (Cs (pv 12)) (fun _ _ _ _=>(Bo (i:=0) (show Nodup (["_law_level"]:List Str) by decide +kernel) rfl (Or.inl rfl))) (fun _ _ _ _=>Gb) (fun _ _ _ _=>(Bn (Vc T) (hr.mono (by decide)) rfl T.m_qbq T.F_qbq.kp (Yv T) .nil Bt (@Ba _ _ _ _ _ (pv 0) Bd rfl))) (by decide +kernel) (by decide +kernel) rfl (by decide +kernel)) Bd rfl))))))))
    (@Bf _ _ _ (@Cc _ _ _ _ Ow))
    Ct)
   (@Bc _ _ _ _ _ (Bl (i:=15) sc_qcd.nd rfl (by first | exact Or.inl rfl | exact Or.inr rfl) (Bn (AlO T) (hr.mono (by decide)) rfl T.m_qbc T.F_qbc.kp (Am3 T) .nil Bt (@Ba _ _ _ _ _ (pv 11) (@Ba _ _ _ _ _ (Cg (Ch K) rfl T.z_len PySem.boot_len (@Ba _ _ _ _ _ (pv 14) Bd rfl)) Bd rfl) rfl)))
   (@Bc _ _ _ _ _ (Dd PassesOwn.never rfl (Qe rfl T.z_range (@Ba _ _ _ _ _ (Oa Ll Be) (@Ba _ _ _ _ _ (Cg (Ch K) rfl T.z_len PySem.boot_len (@Ba _ _ _ _ _ (pv 11) Bd rfl)) Bd rfl) rfl)) (Bo (i:=16) sc_qcd.nd rfl (by first | exact Or.inl rfl | exact Or.inr rfl))
    (@Bc _ _ _ _ _ (Rj 1 [15,16] ["_law_k","_law_around","_law_number"] ["_law_number","_law_around"] rfl (Nn rfl T.z_range (@Ba _ _ _ _ _ (Cg (Ch K) rfl T.z_len PySem.boot_len (@Ba _ _ _ _ _ (pv 14) Bd rfl)) Bd rfl)) rfl (fun j y e1 i e2=>match j,e1,e2 with | 0,e1,e2=>by cases e1; cases e2; exact⟨rfl,rfl,rfl,by decide +kernel⟩ | 1,e1,e2=>by cases e1; cases e2; exact⟨rfl,rfl,rfl,by decide +kernel⟩ | _ + 2,_,e2=>by simp at e2) (forall_mem_cons.mpr ⟨rfl,forall_mem_cons.mpr ⟨rfl,fun _ h=>nomatch h⟩⟩) (by decide +kernel) (fun _ _ _ _=>(Bo (i:=0) (show Nodup (["_law_k","_law_around","_law_number"]:List Str) by decide +kernel) rfl (Or.inl rfl))) (fun _ _ _ _=>(Jz (Cd Dj (@Ce _ _ _ _ _ _ _ (Cj K) (pv 1) (pv 0) (fun _ _=>rfl)) (pv 2) (Ci _)))) (fun _ _ _ _=>(pv 0)) rfl (by decide +kernel) rfl (by decide +kernel) (fun _=>rfl) (i:=17) sc_qcd.nd rfl (Or.inl rfl) rfl)
   (@Bf _ _ _ (De (Cd (Vy K hu64) (pv 17) (@Cu _ _ _ _ Bd) (Ci _))
    (@Bc _ _ _ _ _ (Bl (i:=18) sc_qcd.nd rfl (Or.inl rfl) (Cb Tg (@Cu _ _ _ _ (@Ba _ _ _ _ _ (pv 8) Bd rfl)) (Rn 1 ["_law_one"] rfl rfl (Cs (pv 11)) (fun _ _ _ _=>(Bo (i:=0) (show Nodup (["_law_one"]:List Str) by decide +kernel) rfl (Or.inl rfl))) (fun _ _ _ _=>Gb) (fun _ _ _ _=>(@Ce _ _ _ _ _ _ _ (Cy K) (pv 0) Be (fun _ _=>rfl))) (by decide +kernel) (by decide +kernel) rfl (by decide +kernel))))
   (@Bc _ _ _ _ _ (Bl (i:=18) sc_qcd.nd rfl (Or.inl rfl) (@Ce _ _ _ _ _ _ _ (Cj K) (pv 18) (Cb Fw (pv 16) Be) (fun _ _=>rfl)))
   (@Bc _ _ _ _ _ (Bl (i:=19) sc_qcd.nd rfl (Or.inl rfl) (Bn (Aae T) (hr.mono (by decide)) rfl T.m_qbs T.F_qbs.kp (AcG T) .nil Bt (@Ba _ _ _ _ _ (pv 6) (@Ba _ _ _ _ _ (Bn (AmN T) (hr.mono (by decide)) rfl T.m_qj T.F_qj.kp (AnS T) .nil Bt (@Ba _ _ _ _ _ (pv 13) (@Ba _ _ _ _ _ (pv 14) (@Ba _ _ _ _ _ (pv 17) (@Ba _ _ _ _ _ (@Ce _ _ _ _ _ _ _ (Cj K) (@Ce _ _ _ _ _ _ _ (Cy K) (pv 1) Be (fun _ _=>rfl)) Be (fun _ _=>rfl)) Bd rfl) rfl) rfl) rfl)) (@Ba _ _ _ _ _ (pv 18) (@Ba _ _ _ _ _ (pv 9) Bd rfl) rfl) rfl) rfl)))
   (@Bf _ _ _ (De (Cd (Vy K hu64) (pv 19) (Ja 1 [12] ["_law_k","_law_found"] ["_law_found"] rfl (Cs (pv 17)) rfl (fun j y e1 i e2=>match j,e1,e2 with | 0,e1,e2=>by cases e1; cases e2; exact⟨rfl,rfl,rfl,by decide +kernel⟩ | _ + 1,_,e2=>by simp at e2) (forall_mem_cons.mpr ⟨rfl,fun _ h=>nomatch h⟩) (by decide +kernel) (fun _ _ _ _=>(Bo (i:=0) (show Nodup (["_law_k","_law_found"]:List Str) by decide +kernel) rfl (Or.inl rfl))) (fun _ _ _ _=>Gb) (fun _ _ _ _=>(@Ce _ _ _ _ _ _ _ (Cj K) (pv 1) (pv 0) (fun _ _=>rfl))) rfl (by decide +kernel) rfl (by decide +kernel)) (Ci _))
    (@Bf _ _ _ (@Cc _ _ _ _ Ow))
    Ct)))))
    Ct))))
   (@Bc _ _ _ _ _ (Bl (i:=20) sc_qcd.nd rfl (Or.inl rfl) (Gq (Gd K) rfl T.z_list PyProof.Rows.boot_list (@Ba _ _ _ _ _ (pv 12) Bd rfl)))
   (@Bc _ _ _ _ _ (Co (Fo plainAttrs_list PySem.F.slot_list_append PySem.F.type_list_append Dc (pv 12) (@Dz _ _ _ _ _ _ _ Be Bd)))
   (@Bf _ _ _ (@Cc _ _ _ _ (Gg (Ain K hu64) (Bn (Aae T) (hr.mono (by decide)) rfl T.m_qbs T.F_qbs.kp (AcG T) .nil Bt (@Ba _ _ _ _ _ (pv 6) (@Ba _ _ _ _ _ (pv 10) (@Ba _ _ _ _ _ (pv 8) (@Ba _ _ _ _ _ (pv 9) Bd rfl) rfl) rfl) rfl)) (pv 20) (Ci _)))))))))))))))))))))))))),?_⟩
 try dsimp only [Ck,Bx]
 refine Cq h (by decide) (Bk (Bu (Ds (Bp Bb Bh)))
   (Bk (Bu (EF.eu (Do (Bs Br Bh))))
   (Bk (Bu (EF.eu (Dn 12 (Bs Cn (Bs Cn (Bs Cn (Bs Cn (Bs Cn (Bs Cn (Bs Cn (Bs Cn (Bs Cn (Bs Cn (Bs Cn (Bs Cn Bh)))))))))))))))
   (Bk (Bu (EF.eu (Do (Bp Bb (Bp Bb (Bs Br Bh))))))
   (Bk (Bu (Cz (fun _ _ _=>.int _) (EU.eb (Ds (Bp Bb (Bp (EU.eb Bg) Bh)))) (EU.eb (Cz (fun _ _ _=>.int _) (EU.eb Bg) (EU.eb Bg)))))
   (Bk (Bu (Am5 (Bp (EF.eb (Od (Bp (EU.eb (Dh Bb (EU.eb Bg))) Bh))) (Bp (EF.eb (Od (Bp (EU.eb (Dh Bb (EU.eb Bg))) Bh))) (Bp (EF.eb (Od (Bp (EU.eb (Dh Bb (EU.eb Bg))) Bh))) Bh)))))
   (Bk (Bu (EF.eu (Do (Bs Br (Bs (EF.eu (Ga (EF.eb (Rb Bb (Jd (EU.eb Bg)) (Jd (EU.eb Bg)))) (By (top:=1)) Gk (Cz (fun _ _ _=>.int _) Bb (EU.eb (Cz (fun _ _ _=>.int _) (EU.eb Bg) (EU.eb Bg)))))) Bh)))))
   (Bk (Bu (Cz (fun _ _ _=>.int _) (EU.eb (Cz (fun _ _ _=>.int _) Bb (EU.eb Bg))) (EU.eb Bg)))
   (Bk (Dl (Cw (EU.eb (Dv (EU.eb (Cz (fun _ _ _=>.int _) Bb (EU.eb Bg))) (EU.eb Bg))))
    (Bu (Ds (Bp Bb (Bp Bb Bh))))
    Df)
   (Bk (Bu (Cz (fun _ _ _=>.int _) (EU.eb (Cz (fun _ _ _=>.int _) Bb (EU.eb Bg))) (EU.eb Bg)))
   (Bk (Dl (Cw (EU.eb (Dv (EU.eb (Cz (fun _ _ _=>.int _) (EU.eb (Cz (fun _ _ _=>.int _) Bb (EU.eb Bg))) (EU.eb Bg))) (EU.eb Bg))))
    (Bu (Ae6 (Bp (EU.eb Bg) (Bp (EU.eb (Fa (fun _ _ _=>.int _) Bb (EU.eb (Cz (fun _ _ _=>.int _) (EU.eb (Cz (fun _ _ _=>.int _) Bb (EU.eb Bg))) (EU.eb Bg))))) Bh))))
    Df)
   (Bk (Bu (EF.eu (Od (Bp Bb Bh))))
   (Bk (Bu (EF.eu (Do (Bp Bb (Bp Bb (Bs Br (Bp Bb Bh)))))))
   (Bk (Dk (Do (Bp Bb (Bp Bb (Bs (Cv (EF.eb (Dn 2 (Bs Br (Bs Uv Bh)))) (EU.eb (Abw (Bp (EU.eb (Dv (EU.eb (Cz (fun _ _ _=>.int _) Bb (EU.eb Bg))) (EU.eb Bg))) Bh)))) (Bp Bb Bh))))))
   (Bk (Bu (Aed (Bp Bb (Bp Bb Bh))))
   (Bk (Bu (EF.eu (Do (Bp Bb (Bp Bb Bh)))))
   (Bk (Dl (Nj (Nu (Lb (EU.eb (Ss Bb)))) (Nj (Nu (Lb (EU.eb (Ds (Bp Bb (Bp (EU.eb (Dr (Bp Bb Bh))) Bh)))))) (Cw (EU.eb (Us Bb Bb)))))
    (Dq Rg)
    Df)
   (Bk (Dl (Nj (Nu (Lb (EU.eb (Ss Bb)))) (Nj (Cw (EU.eb (Acq (EU.eb (Dr (Bp Bb Bh))) (EU.eb (Dr (Bp Bb Bh)))))) (Nu (Lb (EU.eb (AkO (Bp (EF.eb (Ga Bb (By (top:=1)) Gk (Ds (Bp Bb Bh)))) Bh)))))))
    (Dq Rg)
    Df)
   (Bk (Bu (EF.eu (Do (Bp Bb (Bp (EU.eb (Dr (Bp Bb Bh))) Bh)))))
   (Bk (Sy (Bp (EU.eb (Ug (fun _ _=>.int _) (EU.eb Bg))) (Bp (EU.eb (Dr (Bp Bb Bh))) Bh)) (By (top:=21))
    (Bk (Bu (EF.eu (Zi (Bp (EU.eb (Dr (Bp Bb Bh))) Bh) (By (top:=1)) (Cw (EU.eb (Dv (EU.eb (Cv Bb Bb)) Bb))) Br)))
   (Dl (Cw (EU.eb (Us Bb (EF.eb (Dn 0 Bh)))))
    (Bk (Bu (EF.eu (Uw (EF.eb (Dn 1 (Bs Br Bh))) (EF.eb (Ga Bb (By (top:=1)) Gk (Dh Bb (EU.eb Bg)))))))
   (Bk (Bu (Cv Bb (EU.eb (Fa (fun _ _ _=>.int _) Bb (EU.eb Bg)))))
   (Bk (Bu (EF.eu (Do (Bp Bb (Bp (EF.eb (Do (Bp Bb (Bp Bb (Bp Bb (Bs (Cv (EU.eb (Dh Bb (EU.eb Bg))) (EU.eb Bg)) Bh)))))) (Bs Br (Bp Bb Bh)))))))
   (Dl (Cw (EU.eb (Us Bb (EF.eb (Ga Bb (By (top:=1)) Gk (Cv Bb Bb))))))
    (Dq Rg)
    Df))))
    Df)))
   (Bk (Bu (EF.eu (Od (Bp Bb Bh))))
   (Bk (Fx (Bs Bg Bh))
   (Dq (Us (EF.eb (Do (Bp Bb (Bp Bb (Bs Br (Bp Bb Bh)))))) Bb)))))))))))))))))))))))) (fun ps P hp=>?_)
 clear h hu hu64 hr
 obtain⟨ns,rfl,hlen,q⟩:=hp
 walk_at "s"
 walk_at "p"
 refine⟨ns,rfl,hlen,fun f U R J k y ga=>?_⟩
 have bk:=Yl ga.jg ga.hk ga.ht ga.ul ga.hf y
 have gne:=AlV ga
 have hsp:=Af4 ga
 walk_at "p"
 refine⟨f,U,R,J,k,y,rfl,ga,?_⟩
 walk_at "p"
 unfold g2P
 generalize upG U R (r0G f U).length = W at bk gne hsp
 generalize mtG f y = M at bk gne hsp
 refine⟨f,W,M,J,c35,rfl,by decide,?_⟩
 rw[show (c35.map fun w=>PV.lst ((gpF f W M w).map .int)) = (c35.map (gpF f W M)).map (fun g:List Int=>PV.lst (g.map .int)) by rw[map_map]; rfl]
 have g0:∀ g ∈ c35.map (gpF f W M),0 < g.length/\g.length <= 100:=fun g hg=>by
  obtain⟨w,hw,rfl⟩:=mem_map.mp hg
  have:=gne w (Agl w hw)
  exact⟨this.1,by omega⟩
 have gl:(c35.map (gpF f W M)).length = 12:=by rw[length_map]; rfl
 generalize c35.map (gpF f W M) = gs at g0 gl
 have cl:=Ub ns (some 4) (some 64)
 walk_at "x"
 refine Ft ?_
 walk_at "x"
 refine⟨ns,3,rfl,hlen,?_⟩
 walk_at "x"
 all_goals try (first | decide | exact⟨by decide,by decide,by decide⟩)
 generalize cR ns 3 % 10 ^ toNat 9 = c
 refine Ft ?_
 walk_at "x"
 refine⟨3,_,_,rfl,rfl,Fj (j:=3) rfl,?_⟩
 walk_at "x"
 refine⟨W,M,J,rfl,bk.so,bk.mo,bk.nd,bk.jo,by have:=bk.ln; omega,?_⟩
 walk_at "x"
 refine Ft ?_
 walk_at "x"
 refine⟨by rw[length_map]; omega,?_⟩
 refine Ff (S:=Gr ns (some 4) (some 64)) (enc:=PV.int) (f:=fun c=>some (.int (c % 10 ^ 9))) ?_ (fun d hd Z hZ=>?_)
 rotate_left
 ·walk_at "c"
  walk_at "p"
  all_goals try (first | decide | exact⟨by decide,by decide,by decide⟩)
  exact hZ
 rw[show (Gr ns (some 4) (some 64)).filterMap (fun c=>some (PV.int (c % 10 ^ 9))) = ((Gr ns (some 4) (some 64)).map fun c=>c % 10 ^ 9).map .int by rw[map_map]; exact congrFun (filterMap_eq_map' (f:=fun c=>PV.int (c % 10 ^ 9))) _]
 walk_at "x"
 refine⟨gs,_,rfl,⟨by omega,by omega⟩,g0,by rw[length_map]; omega,fun ts tl tin=>?_⟩
 rw[length_map] at tl
 have hl:ts.length <= 63:=by omega
 have hl3:ts.length <= 300:=by omega
 obtain⟨kl1,kl2⟩:=AlY W M ts
 have go:=Gh (Cl W M) ts
 have kg:(knL W M ts).length = (grp (Cl W M) ts).length:=by unfold knL; rw[length_map]
 refine Ft ?_
 walk_at "x"
 all_goals try (first | decide | exact⟨by decide,by decide⟩)
 refine Lc (fun ρ=>∃ b:Int,(c % 3 = 1->b = obF 0 (knL W M ts))/\ρ = [.bo (.scr ns),.sh (.tup [.lst ((range 28).map fun k=>.int (f k)),.lst (W.map sgP),.lst (M.map prP),.lst (J.map jnP)]),.sh (.dk (kkD W M)),.sh (.lst (c35.map .str)),.sh (.lst (gs.map fun g:List Int=>PV.lst (g.map .int))),.sh (.int c),.sh (.bk W M J),.sh (.lst (ts.map .int)),.sh (.int b),.un,.un,.un,.un,.un,.un,.un,.un,.un,.un,.un,.un]) (fun ρ h=>?_) ?_
 rotate_left
 ·walk_at "p"
  all_goals try decide
  by_cases h3:c % 3 = 1
  ·rw[decide_eq_true h3]
   walk_at "p"
   refine⟨W,M,J,ts,rfl,hl3,?_⟩
   walk_at "p"
   exact .inl ⟨_,fun _=>rfl,rfl⟩
  ·rw[decide_eq_false h3]
   walk_at "p"
   exact .inl ⟨_,fun z=>absurd z h3,rfl⟩
 obtain⟨b,hb,rfl⟩:=h
 walk_at "x"
 refine Ft ?_
 walk_at "x"
 all_goals try (first | decide | exact⟨by decide,by decide⟩)
 refine Lc (fun ρ=>∃ m:Int,ρ = [.bo (.scr ns),.sh (.tup [.lst ((range 28).map fun k=>.int (f k)),.lst (W.map sgP),.lst (M.map prP),.lst (J.map jnP)]),.sh (.dk (kkD W M)),.sh (.lst (c35.map .str)),.sh (.lst (gs.map fun g:List Int=>PV.lst (g.map .int))),.sh (.int c),.sh (.bk W M J),.sh (.lst (ts.map .int)),.sh (.int b),.sh (.int m),.un,.un,.un,.un,.un,.un,.un,.un,.un,.un,.un]) (fun ρ h=>?_) ?_
 rotate_left
 ·walk_at "p"
  all_goals try (first | decide | exact⟨by decide,by decide⟩)
  refine Zs (fun h=>?_) (fun h=>?_)
  ·walk_at "p"
   all_goals try (first | decide | exact⟨by decide,by decide⟩)
   exact .inl ⟨_,rfl⟩
  ·walk_at "p"
   exact .inl ⟨_,rfl⟩
 obtain⟨m,rfl⟩:=h
 obtain⟨S,hS⟩:=NI.all (kn:=knL W M ts) (b:=b) (m:=m) (fun _ _=>trivial) (knL W M ts).length (Nat.le_refl _)
 have nend:=hS.end
 have dlt:=Ze (kn:=knL W M ts) (b:=b) (m:=m) (knL W M ts).length
 have dend:=Vp (kn:=knL W M ts) (b:=b) (m:=m) (knL W M ts).length
 have dl:=Ve (kn:=knL W M ts) (b:=b) (m:=m) (knL W M ts).length
 have ral:=fun (r:Int × List Nat) (p:Nat->Bool) (hr:r ∈ Jq (knL W M ts) b m) (hp:r.2 = (range (knL W M ts).length).filter p)=>AcY (ts:=ts) (sp:=f 26) (b:=b) (m:=m) hsp hr hp
 have rln:=fun (p:Nat->Bool)=>Ah4 (W:=W) (M:=M) (ts:=ts) (sp:=f 26) p
 have hr0:(b,spF (arA (dF (knL W M ts) b m (knL W M ts).length) (knL W M ts).length (dF (knL W M ts) b m (knL W M ts).length).length) (knL W M ts).length (-1)) ∈ Jq (knL W M ts) b m:=mem_of_getElem? Ai6
 have hr1:∀ (i:Nat) (x:Nst) (l:Int),(dF (knL W M ts) b m (knL W M ts).length)[i]? = some x->x.2.2 = some l->(l,spF (arA (dF (knL W M ts) b m (knL W M ts).length) (knL W M ts).length (dF (knL W M ts) b m (knL W M ts).length).length) (knL W M ts).length i) ∈ Jq (knL W M ts) b m:=fun i x l h1 h2=>mem_of_getElem? (Ajx h1 h2)
 have hrd:∀ (i:Nat) (x:Nst),(dF (knL W M ts) b m (knL W M ts).length)[i]? = some x->x.2.2 = none->spF (arA (dF (knL W M ts) b m (knL W M ts).length) (knL W M ts).length (dF (knL W M ts) b m (knL W M ts).length).length) (knL W M ts).length i = []:=fun i x h1 h2=>AiR h1 h2
 have ll:(Le (mtF M) (knL W M ts) (bsL W M ts) b m).length = (knL W M ts).length:=Aeh ..
 walk_at "x"
 refine Ft ?_
 walk_at "x"
 refine Ft ?_
 walk_at "x"
 refine⟨W,M,J,ts,b,m,rfl,hl3,?_⟩
 walk_at "x"
 refine Lc (fun ρ=>ρ = [.bo (.scr ns),.sh (.tup [.lst ((range 28).map fun k=>.int (f k)),.lst (W.map sgP),.lst (M.map prP),.lst (J.map jnP)]),.sh (.dk (kkD W M)),.sh (.lst (c35.map .str)),.sh (.lst (gs.map fun g:List Int=>PV.lst (g.map .int))),.sh (.int c),.sh (.bk W M J),.sh (.lst (ts.map .int)),.sh (.int b),.sh (.int m),.sh (.lst (ts.map .int)),.sh (.lst ((dF (knL W M ts) b m (knL W M ts).length).map nP)),.ow (.lst ((Le (mtF M) (knL W M ts) (bsL W M ts) b m).map .int)),.un,.un,.un,.un,.un,.un,.un,.un]) (fun ρ h=>?_) ?_
 rotate_left
 ·walk_at "p"
  all_goals try decide
  by_cases h3:c % 3 = 1
  ·rw[decide_eq_true h3]
   refine Nl (Fj (j:=1) rfl) ?_
   walk_at "p"
   refine⟨W,M,J,ts,none,m,rfl,hl3,?_⟩
   rw[show (none:Option Int).getD (obF 0 (knL W M ts)) = b from (hb h3).symm]
   walk_at "p"
   exact .inl rfl
  ·rw[decide_eq_false h3]
   refine Nl (Fj (j:=0) rfl) ?_
   walk_at "p"
   refine⟨W,M,J,ts,some b,m,rfl,hl3,?_⟩
   walk_at "p"
   exact .inl rfl
 subst h
 have again:∀ (P:PV->Prop),P (.lst ((Le (mtF M) (knL W M ts) (bsL W M ts) b m).map .int))->AeU [.bk W M J,.lst (ts.map .int),.int b,.int m] P:=fun P h=>⟨W,M,J,ts,some b,m,rfl,hl3,h⟩
 walk_at "x"
 refine Ft ?_
 walk_at "x"
 refine⟨W,M,ts,rfl,hl3,?_⟩
 walk_at "x"
 refine Ft ?_
 walk_at "x"
 refine⟨W,M,ts,rfl,hl3,?_⟩
 generalize Le (mtF M) (knL W M ts) (bsL W M ts) b m = lv at *
 generalize dF (knL W M ts) b m (knL W M ts).length = D at *
 walk_at "x"
 refine Ft ?_
 walk_at "p"
 rw[length_map]
 refine⟨D,(knL W M ts).length,rfl,by omega,by omega,fun x hx=>⟨dlt.1 x hx,dend x hx,nend x hx⟩,dlt.2,?_⟩
 walk_at "p"
 refine Aep Uf ?_
 walk_at "p"
 rw[length_map,length_map,ll,decide_eq_true rfl]
 walk_at "p"
 refine⟨by rw[length_map]; omega,?_⟩
 refine Ff (S:=lv) (enc:=PV.int) (f:=fun _=>some (.bl true)) ?_ (fun d hd Z hZ=>?_)
 rotate_left
 ·walk_at "c"
  walk_at "p"
  refine⟨_,rfl,?_⟩
  walk_at "p"
  exact hZ
 rw[show lv.filterMap (fun _=>some (PV.bl true)) = (lv.map fun _=>true).map PV.bl by rw[map_map]; exact congrFun (filterMap_eq_map' (f:=fun _=>PV.bl true)) lv]
 walk_at "p"
 rw[show (lv.map fun _=>true).all id = true by rw[List.all_map]; exact all_eq_true.mpr fun _ _=>rfl]
 walk_at "p"
 rw[length_map]
 refine⟨D,(knL W M ts).length,rfl,by omega,by omega,fun x hx=>⟨dlt.1 x hx,nend x hx⟩,?_⟩
 have arl:=Jf D (knL W M ts).length D.length
 generalize arA D (knL W M ts).length D.length = A at *
 walk_at "p"
 all_goals try exact⟨by omega,by omega,by rw[length_map]; omega,by rw[length_map]; omega⟩
 rw[length_map,show ((D.length:Int) - -1).toNat = D.length + 1 by omega]
 refine⟨fun i ρ=>∃ v16 v17 v18 v19:Sl,ρ = [.bo (.scr ns),.sh (.tup [.lst ((range 28).map fun k=>.int (f k)),.lst (W.map sgP),.lst (M.map prP),.lst (J.map jnP)]),.sh (.dk (kkD W M)),.sh (.lst (c35.map .str)),.sh (.lst (gs.map fun g:List Int=>PV.lst (g.map .int))),.sh (.int c),.sh (.bk W M J),.sh (.lst (ts.map .int)),.sh (.int b),.sh (.int m),.sh (.lst (ts.map .int)),.sh (.lst (D.map nP)),.ow (.lst (lv.map .int)),.sh (.lst ((grp (Cl W M) ts).map fun g:List Int=>PV.lst (g.map .int))),.sh (.lst ((knL W M ts).map .str)),.sh (.lst (A.map .int)),v16,v17,v18,v19,.un],⟨_,_,_,_,rfl⟩,?_,?_⟩
 ·rintro i ρ hi ⟨v16,v17,v18,v19,rfl⟩
  rw[show (-1:Int) + (i:Int) = (i:Int) - 1 by omega]
  walk_at "p"
  rw[length_map]
  refine Aaw (n:=(knL W M ts).length) (f:=fun k=>if A[k]? = some ((i:Int) - 1) then some (.int (k:Nat)) else none) (by omega) ?_ (fun k hk Z hZ=>?_)
  rotate_left
  ·obtain⟨z,hz⟩:∃ z,A[k]? = some z:=⟨_,getElem?_eq_getElem (by omega)⟩
   rw[hz] at hZ
   walk_at "c"
   walk_at "p"
   refine Dx (l:=A) (f:=PV.int) (j:=k) (a:=z) hz rfl ?_
   walk_at "p"
   by_cases hzi:z = (i:Int) - 1
   ·rw[decide_eq_true hzi]
    rw[if_pos (by rw[hzi])] at hZ
    walk_at "p"
    exact hZ
   ·rw[decide_eq_false hzi]
    rw[if_neg (fun y=>hzi (Option.some.inj y))] at hZ
    exact hZ
  rw[show (range (knL W M ts).length).filterMap (fun k=>if A[k]? = some ((i:Int) - 1) then some (PV.int (k:Nat)) else none) = (spF A (knL W M ts).length ((i:Int) - 1)).map (fun k:Nat=>PV.int k) from Anv ..]
  have sps:∀ k ∈ spF A (knL W M ts).length ((i:Int) - 1),k < (grp (Cl W M) ts).length:=fun k hk=>by
   rw[<- kg]; exact mem_range.mp (mem_filter.mp hk).1
  have spl:(spF A (knL W M ts).length ((i:Int) - 1)).length <= (knL W M ts).length:=by
   have:=length_filter_le (fun k=>decide (A[k]? = some ((i:Int) - 1))) (range (knL W M ts).length)
   rw[length_range] at this; exact this
  have key:spF A (knL W M ts).length ((i:Int) - 1) ≠ []->∃ l:Int,atI (PV.int b :: D.map fun x=>opP x.2.2) (i:Int) = some (PV.int l)/\(l,spF A (knL W M ts).length ((i:Int) - 1)) ∈ Jq (knL W M ts) b m:=fun ne=>by
   cases i with
   | zero=>exact⟨b,Fj (j:=0) rfl,hr0⟩
   | succ i =>
    rw[show ((i + 1:Nat):Int) - 1 = (i:Int) by omega] at ne ⊢
    obtain⟨x,hx⟩:∃ x,D[i]? = some x:=⟨_,getElem?_eq_getElem (by omega)⟩
    cases el:x.2.2 with
    | none=>exact absurd (hrd i x hx el) ne
    | some l=>exact⟨l,Fj (by rw[List.getElem?_cons_succ,getElem?_map,hx]; show some (opP x.2.2) = _; rw[el]; rfl),hr1 i x l hx el⟩
  have rl2:=rln (fun k=>decide (A[k]? = some ((i:Int) - 1)))
  have ra2:=fun l h=>ral (l,spF A (knL W M ts).length ((i:Int) - 1)) (fun k=>decide (A[k]? = some ((i:Int) - 1))) h rfl
  have rl3:(((spF A (knL W M ts).length ((i:Int) - 1)).map (rgF (grp (Cl W M) ts) (knL W M ts) (f 26))).flatten).length <= 300:=Nat.le_trans rl2 (by omega)
  generalize spF A (knL W M ts).length ((i:Int) - 1) = Sp at sps spl key ra2 rl3
  walk_at "p"
  refine AiP (fun h0=>?_) (fun h0=>?_)
  ·walk_at "p"
   exact⟨_,_,_,_,rfl⟩
  ·have h0:Sp ≠ []:=fun y=>h0 (by rw[y]; rfl)
   obtain⟨l,hl1,hl2⟩:=key h0
   walk_at "p"
   refine⟨by rw[length_map]; omega,?_⟩
   refine Ff (S:=D) (enc:=nP) (f:=fun x=>some (opP x.2.2)) ?_ (fun d hd Z hZ=>?_)
   rotate_left
   ·walk_at "c"
    rw[show nP d = .tup [.int d.1,.int d.2.1,opP d.2.2] from rfl]
    walk_at "p"
    exact hZ
   rw[show D.filterMap (fun x=>some (opP x.2.2)) = D.map (fun x=>opP x.2.2) from congrFun (filterMap_eq_map' (f:=fun x:Nst=>opP x.2.2)) D]
   walk_at "p"
   all_goals try (simp only [length_map,length_cons,length_nil]; omega)
   rw[show (i:Int) - 1 + 1 = (i:Int) by omega]
   refine Nl hl1 ?_
   walk_at "p"
   refine Dx (l:=range 28) (f:=fun k:Nat=>PV.int (f k)) (j:=26) (a:=26) rfl rfl ?_
   walk_at "p"
   refine⟨grp (Cl W M) ts,knL W M ts,Sp,f 26,rfl,kg,sps,rl3,?_⟩
   walk_at "p"
   refine⟨W,M,J,_,some l,m,rfl,rl3,?_⟩
   rw[show (some l).getD (obF 0 (knL W M ((Sp.map (rgF (grp (Cl W M) ts) (knL W M ts) (f 26))).flatten))) = l from rfl,ra2 l hl2]
   walk_at "p"
   refine⟨by rw[length_map]; omega,?_⟩
   refine Ff (S:=Sp) (enc:=fun k:Nat=>PV.int k) (f:=fun k=>some (.int ((lv[k]?).getD default))) ?_ (fun d hd Z hZ=>?_)
   rotate_left
   ·have hdl:=sps d hd
    obtain⟨v,hv⟩:∃ v,lv[d]? = some v:=⟨_,getElem?_eq_getElem (by omega)⟩
    rw[hv] at hZ
    walk_at "c"
    walk_at "p"
    refine Dx (l:=lv) (f:=PV.int) (j:=d) (a:=v) hv rfl ?_
    exact hZ
   rw[show Sp.filterMap (fun k=>some (PV.int ((lv[k]?).getD default))) = (pkF lv Sp).map .int by unfold pkF; rw[map_map]; exact congrFun (filterMap_eq_map' (f:=fun k:Nat=>PV.int ((lv[k]?).getD default))) Sp]
   refine Aep Uf ?_
   walk_at "p"
   exact⟨_,_,_,_,rfl⟩
 ·rintro ρ ⟨v16,v17,v18,v19,rfl⟩
  walk_at "p"
  rotate_left
  ·rw[length_map]; omega
  refine again _ ?_
  walk_at "p"
  refine Akc Uf ?_
  exact q
end
def _root_.PySem.W.Fast.tw10341291304270945948:Nat:=0
def _root_.PySem.W.Fast.tw11006552238630436825:Nat:=0
def _root_.PySem.W.Fast.tw11795566910103807629:Nat:=0
def _root_.PySem.W.Fast.tw12784038689920553664:Nat:=0
def _root_.PySem.W.Fast.tw13012063292520225641:Nat:=0
def _root_.PySem.W.Fast.tw13168144090234876180:Nat:=0
def _root_.PySem.W.Fast.tw13434400954238773279:Nat:=0
def _root_.PySem.W.Fast.tw14293827706166687371:Nat:=0
def _root_.PySem.W.Fast.tw14928667040242343724:Nat:=0
def _root_.PySem.W.Fast.tw1495049299945564880:Nat:=0
def _root_.PySem.W.Fast.tw15998874276858959183:Nat:=0
def _root_.PySem.W.Fast.tw16256872821212475491:Nat:=0
def _root_.PySem.W.Fast.tw16380023094746788862:Nat:=0
def _root_.PySem.W.Fast.tw16824408770872606770:Nat:=0
def _root_.PySem.W.Fast.tw17042843775735021688:Nat:=0
def _root_.PySem.W.Fast.tw17340713547832002915:Nat:=0
def _root_.PySem.W.Fast.tw17597130429867850316:Nat:=0
def _root_.PySem.W.Fast.tw17716051815196505789:Nat:=0
def _root_.PySem.W.Fast.tw2969972297148780852:Nat:=0
def _root_.PySem.W.Fast.tw3125782668941810160:Nat:=0
def _root_.PySem.W.Fast.tw357310559957390072:Nat:=0
def _root_.PySem.W.Fast.tw4123298142273380193:Nat:=0
def _root_.PySem.W.Fast.tw4347370355170682547:Nat:=0
def _root_.PySem.W.Fast.tw439247453545611393:Nat:=0
def _root_.PySem.W.Fast.tw5000917560075531826:Nat:=0
def _root_.PySem.W.Fast.tw5382196271144563072:Nat:=0
def _root_.PySem.W.Fast.tw5385477682527119425:Nat:=0
def _root_.PySem.W.Fast.tw589372051260183600:Nat:=0
def _root_.PySem.W.Fast.tw6044044644836168411:Nat:=0
def _root_.PySem.W.Fast.tw6970910853847169976:Nat:=0
def _root_.PySem.W.Fast.tw7378539650708325466:Nat:=0
def _root_.PySem.W.Fast.tw7410958949666216799:Nat:=0
def _root_.PySem.W.Fast.tw7529091761398766610:Nat:=0
def _root_.PySem.W.Fast.tw7997525607584230693:Nat:=0
def _root_.PySem.W.Fast.tw8123954428655835433:Nat:=0
def _root_.PySem.W.Fast.tw8391478906983143182:Nat:=0
def _root_.PySem.W.Fast.tw8968030356781534024:Nat:=0
def _root_.PySem.W.Fast.tw917887205534579856:Nat:=0
def _root_.PySem.W.Fast.tw920356661899010815:Nat:=0
abbrev fnD (x q:Str) (st:Stmt) (dV kV doc pm:Value) (an:Option Addr) (cdv ct:Value):FuncData:=fnOf x q (Jc st) (Gi st) (Bq st) dV kV doc pm an cdv ct
theorem all_mk {l:PySem.W.OpenLaw} {w:World} {K:Frag} {h:Heap} {mg:Str->Option Value} {fa:Addr} (X:K.In h) (G:h.Ns mainGlobals mg) (hfa:mg "law" = some (.ref fa)) {x00 x01 x02 x03 x04 x05 x06 x07 x08 x09 x0a x0b x0c x0d x0e x0f x0g x0h x0i x0j x0k x0l x0m x0n x0o x0p x0q x0r x0s x0t x0u x0v x0w x0x x0y x0z x10 x11 x12 x13 x14 x15 x16 x17 x18 x19 x1a x1b x1c x1d x1e x1f x1g x1h x1i x1j x1k:Addr} {x1l:Addr} {x1m:Value} {x1n:Option Addr} {x1o:Nat} {x1p:Array (Option Value)} {x1q:Addr} {x1r x1s:Value} {x1t:Option Addr} {x1u:Nat} {x1v:Array (Option Value)} {x1w:Option Addr} {x1x:Array Value} {x1y:Nat} {x1z:Array (Option Value)} {x20:Option Addr} {x21:Array Value} {x22:Nat} {x23:Array (Option Value)} {x24:Option Addr} {x25:Array Value} {x26:Nat} {x27:Array (Option Value)} {x28:Value} {x29:Option Addr} {x2a:Array Value} {x2b:Nat} {x2c:Array (Option Value)} {x2d x2e x2f x2g x2h x2i x2j x2k x2l x2m x2n x2o x2p x2q x2r x2s x2t x2u x2v x2w x2x x2y x2z x30 x31 x32 x33 x34 x35 x36 x37 x38 x39 x3a x3b x3c x3d x3e x3f x3g x3h x3i x3j x3k x3l x3m x3n x3o x3p x3q x3r x3s x3t x3u x3v x3w x3x x3y x3z x40 x41 x42 x43 x44 x45 x46 x47 x48 x49 x4a x4b x4c x4d x4e x4f x4g x4h x4i x4j x4k x4l x4m x4n x4o x4p x4q x4r x4s x4t x4u x4v x4w x4x x4y x4z x50 x51 x52 x53 x54 x55 x56 x57 x58:Option Addr} {x59 x5a x5b x5c x5d x5e x5f x5g x5h x5i x5j x5k x5l x5m x5n x5o x5p x5q x5r x5s x5t x5u x5v x5w x5x x5y x5z x60 x61 x62 x63 x64 x65 x66 x67 x68 x69 x6a x6b x6c x6d x6e x6f x6g x6h x6i x6j x6k x6l x6m x6n x6o:Array (Option Value)} {x6p x6q x6r x6s x6t x6u x6v x6w x6x x6y x6z x70 x71 x72 x73 x74 x75 x76 x77 x78 x79 x7a x7b x7c x7d x7e x7f x7g x7h x7i x7j x7k x7l x7m x7n x7o x7p x7q x7r x7s x7t x7u x7v x7w x7x x7y x7z x80 x81 x82 x83 x84 x85 x86 x87 x88 x89 x8a x8b x8c x8d x8e x8f x8g x8h x8i x8j x8k x8l x8m x8n x8o x8p x8q x8r x8s x8t x8u x8v x8w x8x x8y x8z x90 x91 x92 x93 x94 x95 x96 x97 x98 x99 x9a x9b x9c x9d x9e x9f x9g x9h x9i x9j x9k x9l x9m x9n x9o x9p x9q x9r x9s x9t x9u x9v x9w x9x x9y x9z xa0 xa1 xa2 xa3 xa4 xa5 xa6 xa7 xa8 xa9 xaa xab xac xad xae xaf xag xah xai xaj xak xal xam xan xao xap xaq xar xas xat xau xav xaw xax xay xaz xb0 xb1 xb2 xb3 xb4 xb5 xb6 xb7 xb8 xb9 xba xbb xbc xbd xbe xbf xbg xbh xbi xbj xbk xbl xbm xbn xbo xbp xbq xbr xbs xbt xbu xbv xbw xbx xby xbz xc0 xc1 xc2 xc3 xc4 xc5 xc6 xc7 xc8 xc9 xca xcb xcc xcd xce xcf xcg xch xci xcj xck xcl xcm xcn xco xcp xcq xcr xcs xct xcu xcv xcw xcx xcy xcz xd0 xd1 xd2 xd3 xd4 xd5 xd6 xd7 xd8 xd9 xda xdb xdc xdd xde xdf xdg xdh xdi xdj xdk xdl xdm xdn xdo xdp xdq xdr xds xdt xdu xdv xdw xdx xdy xdz xe0 xe1 xe2 xe3 xe4 xe5 xe6 xe7 xe8 xe9 xea xeb xec xed xee xef xeg xeh xei xej xek xel xem xen xeo xep xeq xer xes xet xeu xev xew xex xey xez xf0 xf1 xf2 xf3 xf4 xf5 xf6 xf7 xf8 xf9 xfa xfb xfc:Value}
  (xfd:nsIn K mainGlobals "Book" = some (some (.ref x1g)))
  (xfe:nsIn K mainGlobals "_law_signs" = some (some (.ref x00)))
  (xff:K.lookup x00 = some ⟨x6p,x2d,.func (fnD "_law_signs" "_law_signs" Yn .none x6q x6r x6s x2e x6t x6u),x59⟩)
  (xfg:codeIn K x6t "_law_signs" = true)
  (xfh:keepIn K (.ref x00) = true)
  (xfi:nsIn K mainGlobals "_law_told" = some (some (.ref x01)))
  (xfj:K.lookup x01 = some ⟨x6v,x2f,.func (fnD "_law_told" "_law_told" Yg .none x6w x6x x6y x2g x6z x70),x5a⟩)
  (xfk:codeIn K x6z "_law_told" = true)
  (xfl:keepIn K (.ref x01) = true)
  (xfm:nsIn K mainGlobals "_law_joins" = some (some (.ref x02)))
  (xfn:K.lookup x02 = some ⟨x71,x2h,.func (fnD "_law_joins" "_law_joins" Yb .none x72 x73 x74 x2i x75 x76),x5b⟩)
  (xfo:codeIn K x75 "_law_joins" = true)
  (xfp:keepIn K (.ref x02) = true)
  (xfq:nsIn K mainGlobals "_law_cell_at" = some (some (.ref x03)))
  (xfr:K.lookup x03 = some ⟨x77,x2j,.func (fnD "_law_cell_at" "_law_cell_at" AcH .none x78 x79 x7a x2k x7b x7c),x5c⟩)
  (xfs:codeIn K x7b "_law_cell_at" = true)
  (xft:keepIn K (.ref x03) = true)
  (xfu:nsIn K mainGlobals "_law_lists" = some (some (.ref x04)))
  (xfv:K.lookup x04 = some ⟨x7d,x2l,.func (fnD "_law_lists" "_law_lists" Yd .none x7e x7f x7g x2m x7h x7i),x5d⟩)
  (xfw:codeIn K x7h "_law_lists" = true)
  (xfx:keepIn K (.ref x04) = true)
  (xfy:nsIn K mainGlobals "_law_words" = some (some (.ref x05)))
  (xfz:K.lookup x05 = some ⟨x7j,x2n,.func (fnD "_law_words" "_law_words" Xy .none x7k x7l x7m x2o x7n x7o),x5e⟩)
  (xg0:codeIn K x7n "_law_words" = true)
  (xg1:keepIn K (.ref x05) = true)
  (xg2:nsIn K mainGlobals "_law_groups" = some (some (.ref x06)))
  (xg3:K.lookup x06 = some ⟨x7p,x2p,.func (fnD "_law_groups" "_law_groups" Xw .none x7q x7r x7s x2q x7t x7u),x5f⟩)
  (xg4:codeIn K x7t "_law_groups" = true)
  (xg5:keepIn K (.ref x06) = true)
  (xg6:nsIn K mainGlobals "refuse_unless" = some (some (.ref x07)))
  (xg7:K.lookup x07 = some ⟨x7v,x2r,.func (fnD "refuse_unless" "refuse_unless" AcJ .none x7w x7x x7y x2s x7z x80),x5g⟩)
  (xg8:codeIn K x7z "refuse_unless" = true)
  (xg9:keepIn K (.ref x07) = true)
  (xga:nsIn K mainGlobals "check_tuples" = some (some (.ref x08)))
  (xgb:K.lookup x08 = some ⟨x81,x2t,.func (fnD "check_tuples" "check_tuples" AbS .none x82 x83 x84 x2u x85 x86),x5h⟩)
  (xgc:codeIn K x85 "check_tuples" = true)
  (xgd:keepIn K (.ref x08) = true)
  (xge:nsIn K mainGlobals "is_whole_number" = some (some (.ref x09)))
  (xgf:K.lookup x09 = some ⟨x87,x2v,.func (fnD "is_whole_number" "is_whole_number" AcW .none x88 x89 x8a x2w x8b x8c),x5i⟩)
  (xgg:codeIn K x8b "is_whole_number" = true)
  (xgh:keepIn K (.ref x09) = true)
  (xgi:nsIn K mainGlobals "is_sign" = some (some (.ref x0a)))
  (xgj:K.lookup x0a = some ⟨x8d,x2x,.func (fnD "is_sign" "is_sign" Xx .none x8e x8f x8g x2y x8h x8i),x5j⟩)
  (xgk:codeIn K x8h "is_sign" = true)
  (xgl:keepIn K (.ref x0a) = true)
  (xgm:nsIn K mainGlobals "add_kind" = some (some (.ref x0b)))
  (xgn:K.lookup x0b = some ⟨x8j,x2z,.func (fnD "add_kind" "add_kind" Xo .none x8k x8l x8m x30 x8n x8o),x5k⟩)
  (xgo:codeIn K x8n "add_kind" = true)
  (xgp:keepIn K (.ref x0b) = true)
  (xgq:nsIn K mainGlobals "is_told_kind" = some (some (.ref x0c)))
  (xgr:K.lookup x0c = some ⟨x8p,x31,.func (fnD "is_told_kind" "is_told_kind" AcS .none x8q x8r x8s x32 x8t x8u),x5l⟩)
  (xgs:codeIn K x8t "is_told_kind" = true)
  (xgt:keepIn K (.ref x0c) = true)
  (xgu:nsIn K mainGlobals "is_rank_of" = some (some (.ref x0d)))
  (xgv:K.lookup x0d = some ⟨x8v,x33,.func (fnD "is_rank_of" "is_rank_of" Acw .none x8w x8x x8y x34 x8z x90),x5m⟩)
  (xgw:codeIn K x8z "is_rank_of" = true)
  (xgx:keepIn K (.ref x0d) = true)
  (xgy:nsIn K mainGlobals "kinds_told" = some (some (.ref x0e)))
  (xgz:K.lookup x0e = some ⟨x91,x35,.func (fnD "kinds_told" "kinds_told" Yf .none x92 x93 x94 x36 x95 x96),x5n⟩)
  (xh0:codeIn K x95 "kinds_told" = true)
  (xh1:keepIn K (.ref x0e) = true)
  (xh2:nsIn K mainGlobals "ranks_told" = some (some (.ref x0f)))
  (xh3:K.lookup x0f = some ⟨x97,x37,.func (fnD "ranks_told" "ranks_told" Yt .none x98 x99 x9a x38 x9b x9c),x5o⟩)
  (xh4:codeIn K x9b "ranks_told" = true)
  (xh5:keepIn K (.ref x0f) = true)
  (xh6:nsIn K mainGlobals "both_ways" = some (some (.ref x0g)))
  (xh7:K.lookup x0g = some ⟨x9d,x39,.func (fnD "both_ways" "both_ways" Zc .none x9e x9f x9g x3a x9h x9i),x5p⟩)
  (xh8:codeIn K x9h "both_ways" = true)
  (xh9:keepIn K (.ref x0g) = true)
  (xha:nsIn K mainGlobals "kind_among" = some (some (.ref x0h)))
  (xhb:K.lookup x0h = some ⟨x9j,x3b,.func (fnD "kind_among" "kind_among" AbT .none x9k x9l x9m x3c x9n x9o),x5q⟩)
  (xhc:codeIn K x9n "kind_among" = true)
  (xhd:keepIn K (.ref x0h) = true)
  (xhe:nsIn K mainGlobals "check_join" = some (some (.ref x0i)))
  (xhf:K.lookup x0i = some ⟨x9p,x3d,.func (fnD "check_join" "check_join" AcQ .none x9q x9r x9s x3e x9t x9u),x5r⟩)
  (xhg:codeIn K x9t "check_join" = true)
  (xhh:keepIn K (.ref x0i) = true)
  (xhi:nsIn K mainGlobals "ends_in_time" = some (some (.ref x0j)))
  (xhj:K.lookup x0j = some ⟨x9v,x3f,.func (fnD "ends_in_time" "ends_in_time" Acd .none x9w x9x x9y x3g x9z xa0),x5s⟩)
  (xhk:codeIn K x9z "ends_in_time" = true)
  (xhl:keepIn K (.ref x0j) = true)
  (xhm:nsIn K mainGlobals "pairs_told" = some (some (.ref x0k)))
  (xhn:K.lookup x0k = some ⟨xa1,x3h,.func (fnD "pairs_told" "pairs_told" Xq .none xa2 xa3 xa4 x3i xa5 xa6),x5t⟩)
  (xho:codeIn K xa5 "pairs_told" = true)
  (xhp:keepIn K (.ref x0k) = true)
  (xhq:nsIn K mainGlobals "wholes_told" = some (some (.ref x0l)))
  (xhr:K.lookup x0l = some ⟨xa7,x3j,.func (fnD "wholes_told" "wholes_told" AcB .none xa8 xa9 xaa x3k xab xac),x5u⟩)
  (xhs:codeIn K xab "wholes_told" = true)
  (xht:keepIn K (.ref x0l) = true)
  (xhu:findIn K (.ref x1g) "__init__" = some (some (.ref x0m)))
  (xhv:isFn K (.ref x0m) = true)
  (xhw:K.lookup x0m = some ⟨xad,x3l,.func (fnD "__init__" "Book.__init__" Ys .none xae xaf xag x3m xah xai),x5v⟩)
  (xhx:codeIn K xah "Book.__init__" = true)
  (xhy:keepIn K (.ref x0m) = true)
  (xhz:nsIn K mainGlobals "_law_text" = some (some (.ref x0n)))
  (xi0:K.lookup x0n = some ⟨xaj,x3n,.func (fnD "_law_text" "_law_text" Xs .none xak xal xam x3o xan xao),x5w⟩)
  (xi1:codeIn K xan "_law_text" = true)
  (xi2:keepIn K (.ref x0n) = true)
  (xi3:findIn K (.ref x1g) "kind" = some (some (.ref x0o)))
  (xi4:isFn K (.ref x0o) = true)
  (xi5:K.lookup x0o = some ⟨xap,x3p,.func (fnD "kind" "Book.kind" Yx .none xaq xar xas x3q xat xau),x5x⟩)
  (xi6:codeIn K xat "Book.kind" = true)
  (xi7:keepIn K (.ref x0o) = true)
  (xi8:nsIn K mainGlobals "kind_of_whole" = some (some (.ref x0p)))
  (xi9:K.lookup x0p = some ⟨xav,x3r,.func (fnD "kind_of_whole" "kind_of_whole" Acj .none xaw xax xay x3s xaz xb0),x5y⟩)
  (xia:codeIn K xaz "kind_of_whole" = true)
  (xib:keepIn K (.ref x0p) = true)
  (xic:nsIn K mainGlobals "wholes_of" = some (some (.ref x0q)))
  (xid:K.lookup x0q = some ⟨xb1,x3t,.func (fnD "wholes_of" "wholes_of" Xr .none xb2 xb3 xb4 x3u xb5 xb6),x5z⟩)
  (xie:codeIn K xb5 "wholes_of" = true)
  (xif:keepIn K (.ref x0q) = true)
  (xig:nsIn K mainGlobals "kinds_of" = some (some (.ref x0r)))
  (xih:K.lookup x0r = some ⟨xb7,x3v,.func (fnD "kinds_of" "kinds_of" Yk .none xb8 xb9 xba x3w xbb xbc),x60⟩)
  (xii:codeIn K xbb "kinds_of" = true)
  (xij:keepIn K (.ref x0r) = true)
  (xik:nsIn K mainGlobals "level_within" = some (some (.ref x0s)))
  (xil:K.lookup x0s = some ⟨xbd,x3x,.func (fnD "level_within" "level_within" Acl .none xbe xbf xbg x3y xbh xbi),x61⟩)
  (xim:codeIn K xbh "level_within" = true)
  (xin:keepIn K (.ref x0s) = true)
  (xio:nsIn K mainGlobals "nests_of" = some (some (.ref x0t)))
  (xip:K.lookup x0t = some ⟨xbj,x3z,.func (fnD "nests_of" "nests_of" Xn (.ref x1l) xbk xbl xbm x40 xbn xbo),x62⟩)
  (xiq:codeIn K xbn "nests_of" = true)
  (xir:keepIn K (.ref x0t) = true)
  (xis:K.lookup x1l = some ⟨.type "tuple",x1n,.seq [x1m].toArray x1o,x1p⟩)
  (xit:Vals [.int 20] [x1m])
  (xiu:nsIn K mainGlobals "own_base" = some (some (.ref x0u)))
  (xiv:K.lookup x0u = some ⟨xbp,x41,.func (fnD "own_base" "own_base" Xu .none xbq xbr xbs x42 xbt xbu),x63⟩)
  (xiw:codeIn K xbt "own_base" = true)
  (xix:keepIn K (.ref x0u) = true)
  (xiy:nsIn K mainGlobals "base_or_own" = some (some (.ref x0v)))
  (xiz:K.lookup x0v = some ⟨xbv,x43,.func (fnD "base_or_own" "base_or_own" AcU .none xbw xbx xby x44 xbz xc0),x64⟩)
  (xj0:codeIn K xbz "base_or_own" = true)
  (xj1:keepIn K (.ref x0v) = true)
  (xj2:nsIn K mainGlobals "stretch_rows" = some (some (.ref x0w)))
  (xj3:K.lookup x0w = some ⟨xc1,x45,.func (fnD "stretch_rows" "stretch_rows" AcF .none xc2 xc3 xc4 x46 xc5 xc6),x65⟩)
  (xj4:codeIn K xc5 "stretch_rows" = true)
  (xj5:keepIn K (.ref x0w) = true)
  (xj6:nsIn K mainGlobals "leading_ways" = some (some (.ref x0x)))
  (xj7:K.lookup x0x = some ⟨xc7,x47,.func (fnD "leading_ways" "leading_ways" Acp .none xc8 xc9 xca x48 xcb xcc),x66⟩)
  (xj8:codeIn K xcb "leading_ways" = true)
  (xj9:keepIn K (.ref x0x) = true)
  (xja:findIn K (.ref x1g) "mate" = some (some (.ref x0y)))
  (xjb:isFn K (.ref x0y) = true)
  (xjc:K.lookup x0y = some ⟨xcd,x49,.func (fnD "mate" "Book.mate" Xt .none xce xcf xcg x4a xch xci),x67⟩)
  (xjd:codeIn K xch "Book.mate" = true)
  (xje:keepIn K (.ref x0y) = true)
  (xjf:nsIn K mainGlobals "pairs_in" = some (some (.ref x0z)))
  (xjg:K.lookup x0z = some ⟨xcj,x4b,.func (fnD "pairs_in" "pairs_in" Za .none xck xcl xcm x4c xcn xco),x68⟩)
  (xjh:codeIn K xcn "pairs_in" = true)
  (xji:keepIn K (.ref x0z) = true)
  (xjj:nsIn K mainGlobals "last_ways" = some (some (.ref x10)))
  (xjk:K.lookup x10 = some ⟨xcp,x4d,.func (fnD "last_ways" "last_ways" Zb .none xcq xcr xcs x4e xct xcu),x69⟩)
  (xjl:codeIn K xct "last_ways" = true)
  (xjm:keepIn K (.ref x10) = true)
  (xjn:nsIn K mainGlobals "ways_filled" = some (some (.ref x11)))
  (xjo:K.lookup x11 = some ⟨xcv,x4f,.func (fnD "ways_filled" "ways_filled" AbX .none xcw xcx xcy x4g xcz xd0),x6a⟩)
  (xjp:codeIn K xcz "ways_filled" = true)
  (xjq:keepIn K (.ref x11) = true)
  (xjr:nsIn K mainGlobals "way_of_pair" = some (some (.ref x12)))
  (xjs:K.lookup x12 = some ⟨xd1,x4h,.func (fnD "way_of_pair" "way_of_pair" AbL .none xd2 xd3 xd4 x4i xd5 xd6),x6b⟩)
  (xjt:codeIn K xd5 "way_of_pair" = true)
  (xju:keepIn K (.ref x12) = true)
  (xjv:nsIn K mainGlobals "ways_with_pairs" = some (some (.ref x13)))
  (xjw:K.lookup x13 = some ⟨xd7,x4j,.func (fnD "ways_with_pairs" "ways_with_pairs" AbG .none xd8 xd9 xda x4k xdb xdc),x6c⟩)
  (xjx:codeIn K xdb "ways_with_pairs" = true)
  (xjy:keepIn K (.ref x13) = true)
  (xjz:nsIn K mainGlobals "ways_in_row" = some (some (.ref x14)))
  (xk0:K.lookup x14 = some ⟨xdd,x4l,.func (fnD "ways_in_row" "ways_in_row" Acv .none xde xdf xdg x4m xdh xdi),x6d⟩)
  (xk1:codeIn K xdh "ways_in_row" = true)
  (xk2:keepIn K (.ref x14) = true)
  (xk3:nsIn K mainGlobals "way_of_level" = some (some (.ref x15)))
  (xk4:K.lookup x15 = some ⟨xdj,x4n,.func (fnD "way_of_level" "way_of_level" AcR .none xdk xdl xdm x4o xdn xdo),x6e⟩)
  (xk5:codeIn K xdn "way_of_level" = true)
  (xk6:keepIn K (.ref x15) = true)
  (xk7:nsIn K mainGlobals "level_by_way" = some (some (.ref x16)))
  (xk8:K.lookup x16 = some ⟨xdp,x4p,.func (fnD "level_by_way" "level_by_way" AcT .none xdq xdr xds x4q xdt xdu),x6f⟩)
  (xk9:codeIn K xdt "level_by_way" = true)
  (xka:keepIn K (.ref x16) = true)
  (xkb:nsIn K mainGlobals "levels_in_row" = some (some (.ref x17)))
  (xkc:K.lookup x17 = some ⟨xdv,x4r,.func (fnD "levels_in_row" "levels_in_row" Acm .none xdw xdx xdy x4s xdz xe0),x6g⟩)
  (xkd:codeIn K xdz "levels_in_row" = true)
  (xke:keepIn K (.ref x17) = true)
  (xkf:nsIn K mainGlobals "levels_of" = some (some (.ref x18)))
  (xkg:K.lookup x18 = some ⟨xe1,x4t,.func (fnD "levels_of" "levels_of" Yq (.ref x1q) xe2 xe3 xe4 x4u xe5 xe6),x6h⟩)
  (xkh:codeIn K xe5 "levels_of" = true)
  (xki:keepIn K (.ref x18) = true)
  (xkj:K.lookup x1q = some ⟨.type "tuple",x1t,.seq [x1r,x1s].toArray x1u,x1v⟩)
  (xkk:Vals [.non] [x1r])
  (xkl:Vals [.int 20] [x1s])
  (xkm:nsIn K mainGlobals "_law_wholes" = some (some (.ref x19)))
  (xkn:K.lookup x19 = some ⟨xe7,x4v,.func (fnD "_law_wholes" "_law_wholes" Zd .none xe8 xe9 xea x4w xeb xec),x6i⟩)
  (xko:codeIn K xeb "_law_wholes" = true)
  (xkp:keepIn K (.ref x19) = true)
  (xkq:nsIn K mainGlobals "_law_kinds" = some (some (.ref x1a)))
  (xkr:K.lookup x1a = some ⟨xed,x4x,.func (fnD "_law_kinds" "_law_kinds" Xv .none xee xef xeg x4y xeh xei),x6j⟩)
  (xks:codeIn K xeh "_law_kinds" = true)
  (xkt:keepIn K (.ref x1a) = true)
  (xku:nsIn K mainGlobals "_law_stands" = some (some (.ref x1b)))
  (xkv:K.lookup x1b = some ⟨xej,x4z,.func (fnD "_law_stands" "_law_stands" Yh .none xek xel xem x50 xen xeo),x6k⟩)
  (xkw:codeIn K xen "_law_stands" = true)
  (xkx:keepIn K (.ref x1b) = true)
  (xky:nsIn K mainGlobals "_law_whole" = some (some (.ref x1c)))
  (xkz:K.lookup x1c = some ⟨xep,x51,.func (fnD "_law_whole" "_law_whole" Xp .none xeq xer xes x52 xet xeu),x6l⟩)
  (xl0:codeIn K xet "_law_whole" = true)
  (xl1:keepIn K (.ref x1c) = true)
  (xl2:nsIn K mainGlobals "_law_told_right" = some (some (.ref x1d)))
  (xl3:K.lookup x1d = some ⟨xev,x53,.func (fnD "_law_told_right" "_law_told_right" AbZ .none xew xex xey x54 xez xf0),x6m⟩)
  (xl4:codeIn K xez "_law_told_right" = true)
  (xl5:keepIn K (.ref x1d) = true)
  (xl6:nsIn K mainGlobals "_law_row_text" = some (some (.ref x1e)))
  (xl7:K.lookup x1e = some ⟨xf1,x55,.func (fnD "_law_row_text" "_law_row_text" AcK .none xf2 xf3 xf4 x56 xf5 xf6),x6n⟩)
  (xl8:codeIn K xf5 "_law_row_text" = true)
  (xl9:keepIn K (.ref x1e) = true)
  (xla:nsIn K mainGlobals "law" = some (some (.ref x1f)))
  (xlb:K.lookup x1f = some ⟨xf7,x57,.func (fnD "law" "law" Vb .none xf8 xf9 xfa x58 xfb xfc),x6o⟩)
  (xlc:codeIn K xfb "law" = true)
  (xld:keepIn K (.ref x1f) = true)
  (xle:plainGet K x1g Str.empty = true)
  (xlf:hasDictIn K x1g = true)
  (xlg:plainOver K x1g = true)
  (xlh:findIn K (.ref x1g) "__setattr__" = some (some (.builtin "object.__setattr__")))
  (xli:makesIn K x1g = true)
  (xlj:keepIn K (.ref x1g) = true)
  (xlk:findIn K (.ref x1g) "kinds" = some none)
  (xll:findIn K (.ref x1g) "ranks" = some none)
  (xlm:findIn K (.ref x1g) "mates" = some none)
  (xln:findIn K (.ref x1g) "pairs" = some none)
  (xlo:findIn K (.ref x1g) "wholes" = some none)
  (xlp:nsIn K mainGlobals "all" = some none)
  (xlq:nsIn K mainGlobals "bool" = some none)
  (xlr:nsIn K mainGlobals "enumerate" = some none)
  (xls:nsIn K mainGlobals "int" = some none)
  (xlt:nsIn K mainGlobals "isinstance" = some none)
  (xlu:nsIn K mainGlobals "len" = some none)
  (xlv:nsIn K mainGlobals "list" = some none)
  (xlw:nsIn K mainGlobals "max" = some none)
  (xlx:nsIn K mainGlobals "min" = some none)
  (xly:nsIn K mainGlobals "range" = some none)
  (xlz:nsIn K mainGlobals "reversed" = some none)
  (xm0:nsIn K mainGlobals "str" = some none)
  (xm1:nsIn K mainGlobals "tuple" = some none)
  (xm2:nsIn K mainGlobals "zip" = some none)
  (xm3:nsIn K mainGlobals "BEGINNINGS" = some (some (.ref x1h)))
  (xm4:K.lookup x1h = some ⟨.type "tuple",x1w,.seq x1x x1y,x1z⟩)
  (xm5:x1x.size <= sizeLine)
  (xm6:Vals [.str "forein",.str "backin"] x1x.toList)
  (xm7:nsIn K mainGlobals "JOINED_KINDS" = some (some (.ref x1i)))
  (xm8:K.lookup x1i = some ⟨.type "tuple",x20,.seq x21 x22,x23⟩)
  (xm9:x21.size <= sizeLine)
  (xma:Vals [.str "fore",.str "back",.str "num",.str "blank",.str "plain"] x21.toList)
  (xmb:nsIn K mainGlobals "LEADING_KINDS" = some (some (.ref x1j)))
  (xmc:K.lookup x1j = some ⟨.type "tuple",x24,.seq x25 x26,x27⟩)
  (xmd:x25.size <= sizeLine)
  (xme:Vals [.str "fore",.str "back",.str "num"] x25.toList)
  (xmf:nsIn K mainGlobals "MOST_GOINGS" = some (some x28))
  (xmg:RelV (.int 7) x28)
  (xmh:nsIn K mainGlobals "TOLD_KINDS" = some (some (.ref x1k)))
  (xmi:K.lookup x1k = some ⟨.type "tuple",x29,.seq x2a x2b,x2c⟩)
  (xmj:x2a.size <= sizeLine)
  (xmk:Vals [.str "fore",.str "back",.str "num",.str "blank",.str "mark",.str "forein",.str "backin",.str "out"] x2a.toList)
  : ∃ fd:FuncData,(∀ (s:Shared) (v:Value),BindsTo s fd ⟨[v],[]⟩ [("_law_script",v)])/\∀ base:Heap,K.In base->base.Ns mainGlobals mg->FnOk l.prog w K mg base CX0 8 fa fd ["_law_script"] (Ul K):=by
 have e:=hfa.symm.trans (mg_of X G xla)
 cases e
 have T:Txt K mg ⟨x00,_,x01,_,x02,_,x03,_,x04,_,x05,_,x06,_,x07,_,x08,_,x09,_,x0a,_,x0b,_,x0c,_,x0d,_,x0e,_,x0f,_,x0g,_,x0h,_,x0i,_,x0j,_,x0k,_,x0l,_,x0m,_,x0n,_,x0o,_,x0p,_,x0q,_,x0r,_,x0s,_,x0t,_,x1l,x1m,x0u,_,x0v,_,x0w,_,x0x,_,x0y,_,x0z,_,x10,_,x11,_,x12,_,x13,_,x14,_,x15,_,x16,_,x17,_,x18,_,x1q,x1r,x1s,x19,_,x1a,_,x1b,_,x1c,_,x1d,_,x1e,_,fa,_,x1g,x1h,x1i,x1j,x1k⟩:={
  F_qbp:=Cm (st:=Yn) xff xfg xfh
  m_qbp:=mg_of X G xfe
  F_qbx:=Cm (st:=Yg) xfj xfk xfl
  m_qbx:=mg_of X G xfi
  F_qbm:=Cm (st:=Yb) xfn xfo xfp
  m_qbm:=mg_of X G xfm
  F_qr:=Cm (st:=AcH) xfr xfs xft
  m_qr:=mg_of X G xfq
  F_qbo:=Cm (st:=Yd) xfv xfw xfx
  m_qbo:=mg_of X G xfu
  F_qbr:=Cm (st:=Xy) xfz xg0 xg1
  m_qbr:=mg_of X G xfy
  F_qbb:=Cm (st:=Xw) xg3 xg4 xg5
  m_qbb:=mg_of X G xg2
  F_qf:=Cm (st:=AcJ) xg7 xg8 xg9
  m_qf:=mg_of X G xg6
  F_qg:=Cm (st:=AbS) xgb xgc xgd
  m_qg:=mg_of X G xga
  F_qa:=Cm (st:=AcW) xgf xgg xgh
  m_qa:=mg_of X G xge
  F_qcb:=Cm (st:=Xx) xgj xgk xgl
  m_qcb:=mg_of X G xgi
  F_qbu:=Cm (st:=Xo) xgn xgo xgp
  m_qbu:=mg_of X G xgm
  F_qi:=Cm (st:=AcS) xgr xgs xgt
  m_qi:=mg_of X G xgq
  F_qy:=Cm (st:=Acw) xgv xgw xgx
  m_qy:=mg_of X G xgu
  F_qba:=Cm (st:=Yf) xgz xh0 xh1
  m_qba:=mg_of X G xgy
  F_qbf:=Cm (st:=Yt) xh3 xh4 xh5
  m_qbf:=mg_of X G xh2
  F_qbk:=Cm (st:=Zc) xh7 xh8 xh9
  m_qbk:=mg_of X G xh6
  F_qz:=Cm (st:=AbT) xhb xhc xhd
  m_qz:=mg_of X G xha
  F_qx:=Cm (st:=AcQ) xhf xhg xhh
  m_qx:=mg_of X G xhe
  F_qh:=Cm (st:=Acd) xhj xhk xhl
  m_qh:=mg_of X G xhi
  F_qbe:=Cm (st:=Xq) xhn xho xhp
  m_qbe:=mg_of X G xhm
  F_qv:=Cm (st:=AcB) xhr xhs xht
  m_qv:=mg_of X G xhq
  F_qbg:=Cm (st:=Ys) xhw xhx xhy
  F_qbw:=Cm (st:=Xs) xi0 xi1 xi2
  m_qbw:=mg_of X G xhz
  F_qbh:=Cm (st:=Yx) xi5 xi6 xi7
  M_qbh:=⟨xi3,xi4,xi7⟩
  F_qd:=Cm (st:=Acj) xi9 xia xib
  m_qd:=mg_of X G xi8
  F_qbt:=Cm (st:=Xr) xid xie xif
  m_qbt:=mg_of X G xic
  F_qbv:=Cm (st:=Yk) xih xii xij
  m_qbv:=mg_of X G xig
  F_qm:=Cm (st:=Acl) xil xim xin
  m_qm:=mg_of X G xik
  F_qby:=Abi (st:=Xn) xip xiq xir xis
  w_nests_of_0:=xit
  m_qby:=mg_of X G xio
  F_qbz:=Cm (st:=Xu) xiv xiw xix
  m_qbz:=mg_of X G xiu
  F_qq:=Cm (st:=AcU) xiz xj0 xj1
  m_qq:=mg_of X G xiy
  F_qn:=Cm (st:=AcF) xj3 xj4 xj5
  m_qn:=mg_of X G xj2
  F_qk:=Cm (st:=Acp) xj7 xj8 xj9
  m_qk:=mg_of X G xj6
  F_qbi:=Cm (st:=Xt) xjc xjd xje
  M_qbi:=⟨xja,xjb,xje⟩
  F_qca:=Cm (st:=Za) xjg xjh xji
  m_qca:=mg_of X G xjf
  F_qbl:=Cm (st:=Zb) xjk xjl xjm
  m_qbl:=mg_of X G xjj
  F_qt:=Cm (st:=AbX) xjo xjp xjq
  m_qt:=mg_of X G xjn
  F_qs:=Cm (st:=AbL) xjs xjt xju
  m_qs:=mg_of X G xjr
  F_qb:=Cm (st:=AbG) xjw xjx xjy
  m_qb:=mg_of X G xjv
  F_qu:=Cm (st:=Acv) xk0 xk1 xk2
  m_qu:=mg_of X G xjz
  F_qo:=Cm (st:=AcR) xk4 xk5 xk6
  m_qo:=mg_of X G xk3
  F_ql:=Cm (st:=AcT) xk8 xk9 xka
  m_ql:=mg_of X G xk7
  F_qe:=Cm (st:=Acm) xkc xkd xke
  m_qe:=mg_of X G xkb
  F_qbs:=Abi (st:=Yq) xkg xkh xki xkj
  w_levels_of_0:=xkk
  w_levels_of_1:=xkl
  m_qbs:=mg_of X G xkf
  F_qbd:=Cm (st:=Zd) xkn xko xkp
  m_qbd:=mg_of X G xkm
  F_qbn:=Cm (st:=Xv) xkr xks xkt
  m_qbn:=mg_of X G xkq
  F_qbc:=Cm (st:=Yh) xkv xkw xkx
  m_qbc:=mg_of X G xku
  F_qbq:=Cm (st:=Xp) xkz xl0 xl1
  m_qbq:=mg_of X G xky
  F_qc:=Cm (st:=AbZ) xl3 xl4 xl5
  m_qc:=mg_of X G xl2
  F_qj:=Cm (st:=AcK) xl7 xl8 xl9
  m_qj:=mg_of X G xl6
  F_qcd:=Cm (st:=Vb) xlb xlc xld
  m_qcd:=mg_of X G xla
  m_Book:=mg_of X G xfd
  cl_Book:=⟨xle,xlf,xlg,xlh⟩
  K_Book:=⟨xli,xhu,xhv,xlj⟩
  n_Book_kinds:=xlk
  n_Book_ranks:=xll
  n_Book_mates:=xlm
  n_Book_pairs:=xln
  n_Book_wholes:=xlo
  z_all:=mg_none_of X G xlp
  z_bool:=mg_none_of X G xlq
  z_enumerate:=mg_none_of X G xlr
  z_int:=mg_none_of X G xls
  z_isinstance:=mg_none_of X G xlt
  z_len:=mg_none_of X G xlu
  z_list:=mg_none_of X G xlv
  z_max:=mg_none_of X G xlw
  z_min:=mg_none_of X G xlx
  z_range:=mg_none_of X G xly
  z_reversed:=mg_none_of X G xlz
  z_str:=mg_none_of X G xm0
  z_tuple:=mg_none_of X G xm1
  z_zip:=mg_none_of X G xm2
  g_BEGINNINGS:=mg_of X G xm3
  q_BEGINNINGS:=fun _=>.inr ⟨_,_,_,xm4,rfl,rfl,xm5,xm6⟩
  g_JOINED_KINDS:=mg_of X G xm7
  q_JOINED_KINDS:=fun _=>.inr ⟨_,_,_,xm8,rfl,rfl,xm9,xma⟩
  g_LEADING_KINDS:=mg_of X G xmb
  q_LEADING_KINDS:=fun _=>.inr ⟨_,_,_,xmc,rfl,rfl,xmd,xme⟩
  g_MOST_GOINGS:=⟨_,mg_of X G xmf,xmg⟩
  g_TOLD_KINDS:=mg_of X G xmh
  q_TOLD_KINDS:=fun _=>.inr ⟨_,_,_,xmi,rfl,rfl,xmj,xmk⟩ }
 exact⟨fnD "law" "law" Vb .none xf8 xf9 xfa x58 xfb xfc,fun s v=>.of_eq rfl,fun base _ _=>(Akv T).imp Ah0⟩
theorem walk {l:PySem.W.OpenLaw} {q:Program} {loose:List Str} {XP:(Str->Option Value)->Heap->Prop} {YP:World->Heap->Prop} {d:DefRec} {K:Params->Frag} (hn:l.most = some 63) (hdf:d.params.defaults = [])
  (hY:∀ (w:World) (h:Heap),YP w h->(K w.params).In h)
  (F:∀ (w:World) (mg:Str->Option Value) (fa:Addr) (h:Heap),(K w.params).In h->h.Ns mainGlobals mg->mg d.name = some (.ref fa) ->
   ∃ fd:FuncData,(∀ (s:Shared) (u:Value),BindsTo s fd ⟨[u],[]⟩ [("_law_script",u)])/\∀ base:Heap,(K w.params).In base->base.Ns mainGlobals mg->FnOk l.prog w (K w.params) mg base CX0 8 fa fd ["_law_script"] (Ul (K w.params))) :
  PySem.W.WalkO q loose XP YP l.row.toRowW d [] (fun f vs=>PySem.call f vs) :=
 L2.Aob (n:=63) (k:=8) (x:="_law_script") (CX:=fun w=>CX0) (sp:=fun w=>Ul (K w.params)) hn (by decide) hdf ⟨rfl,by decide,by decide⟩ hY F (fun _ _ a ns hl _ hS=>⟨a,ns,rfl,hS,hl,fun _=>rfl⟩) fun _ _ _ _ _ z=>z
end My
open PySem PySem.W PyProof.Rows
set_option maxRecDepth 100000 in
set_option maxHeartbeats 0 in
theorem PySem.Challenge.cw_bothhands_k35_whole_rows_by_themselves_holds : PySem.Challenge.rw_bothhands_k35_whole_rows_by_themselves.Holds := by
 w_on; o_law; k_head; (case hw=>w_witness2)
 k_fill
 refine My.walk (l:=PySem.Challenge.rw_bothhands_k35_whole_rows_by_themselves) rfl rfl (fun w h Y=>kIn_of Y) ?F
 case F =>
  intro w mg fa h KX G hmg
  refine' My.all_mk KX G hmg ?xfd ?xfe ?xff ?xfg ?xfh ?xfi ?xfj ?xfk ?xfl ?xfm ?xfn ?xfo ?xfp ?xfq ?xfr ?xfs ?xft ?xfu ?xfv ?xfw ?xfx ?xfy ?xfz ?xg0 ?xg1 ?xg2 ?xg3 ?xg4 ?xg5 ?xg6 ?xg7 ?xg8 ?xg9 ?xga ?xgb ?xgc ?xgd ?xge ?xgf ?xgg ?xgh ?xgi ?xgj ?xgk ?xgl ?xgm ?xgn ?xgo ?xgp ?xgq ?xgr ?xgs ?xgt ?xgu ?xgv ?xgw ?xgx ?xgy ?xgz ?xh0 ?xh1 ?xh2 ?xh3 ?xh4 ?xh5 ?xh6 ?xh7 ?xh8 ?xh9 ?xha ?xhb ?xhc ?xhd ?xhe ?xhf ?xhg ?xhh ?xhi ?xhj ?xhk ?xhl ?xhm ?xhn ?xho ?xhp ?xhq ?xhr ?xhs ?xht ?xhu ?xhv ?xhw ?xhx ?xhy ?xhz ?xi0 ?xi1 ?xi2 ?xi3 ?xi4 ?xi5 ?xi6 ?xi7 ?xi8 ?xi9 ?xia ?xib ?xic ?xid ?xie ?xif ?xig ?xih ?xii ?xij ?xik ?xil ?xim ?xin ?xio ?xip ?xiq ?xir ?xis ?xit ?xiu ?xiv ?xiw ?xix ?xiy ?xiz ?xj0 ?xj1 ?xj2 ?xj3 ?xj4 ?xj5 ?xj6 ?xj7 ?xj8 ?xj9 ?xja ?xjb ?xjc ?xjd ?xje ?xjf ?xjg ?xjh ?xji ?xjj ?xjk ?xjl ?xjm ?xjn ?xjo ?xjp ?xjq ?xjr ?xjs ?xjt ?xju ?xjv ?xjw ?xjx ?xjy ?xjz ?xk0 ?xk1 ?xk2 ?xk3 ?xk4 ?xk5 ?xk6 ?xk7 ?xk8 ?xk9 ?xka ?xkb ?xkc ?xkd ?xke ?xkf ?xkg ?xkh ?xki ?xkj ?xkk ?xkl ?xkm ?xkn ?xko ?xkp ?xkq ?xkr ?xks ?xkt ?xku ?xkv ?xkw ?xkx ?xky ?xkz ?xl0 ?xl1 ?xl2 ?xl3 ?xl4 ?xl5 ?xl6 ?xl7 ?xl8 ?xl9 ?xla ?xlb ?xlc ?xld ?xle ?xlf ?xlg ?xlh ?xli ?xlj ?xlk ?xll ?xlm ?xln ?xlo ?xlp ?xlq ?xlr ?xls ?xlt ?xlu ?xlv ?xlw ?xlx ?xly ?xlz ?xm0 ?xm1 ?xm2 ?xm3 ?xm4 ?xm5 ?xm6 ?xm7 ?xm8 ?xm9 ?xma ?xmb ?xmc ?xmd ?xme ?xmf ?xmg ?xmh ?xmi ?xmj ?xmk
  (case xfd | xfe | xff | xfg | xfh | xfi | xfj | xfk | xfl | xfm | xfn | xfo | xfp | xfq | xfr | xfs | xft | xfu | xfv | xfw | xfx | xfy | xfz | xg0 | xg1 | xg2 | xg3 | xg4 | xg5 | xg6 | xg7 | xg8 | xg9 | xga | xgb | xgc | xgd | xge | xgf | xgg | xgh | xgi | xgj | xgk | xgl | xgm | xgn | xgo | xgp | xgq | xgr | xgs | xgt | xgu | xgv | xgw | xgx | xgy | xgz | xh0 | xh1 | xh2 | xh3 | xh4 | xh5 | xh6 | xh7 | xh8 | xh9 | xha | xhb | xhc | xhd | xhe | xhf | xhg | xhh | xhi | xhj | xhk | xhl | xhm | xhn | xho | xhp | xhq | xhr | xhs | xht | xhu | xhv | xhw | xhx | xhy | xhz | xi0 | xi1 | xi2 | xi3 | xi4 | xi5 | xi6 | xi7 | xi8 | xi9 | xia | xib | xic | xid | xie | xif | xig | xih | xii | xij | xik | xil | xim | xin | xio | xip | xiq | xir | xis=>k_is)
  (case xit=>exact .cons ⟨_,rfl⟩ .nil)
  (case xiu | xiv | xiw | xix | xiy | xiz | xj0 | xj1 | xj2 | xj3 | xj4 | xj5 | xj6 | xj7 | xj8 | xj9 | xja | xjb | xjc | xjd | xje | xjf | xjg | xjh | xji | xjj | xjk | xjl | xjm | xjn | xjo | xjp | xjq | xjr | xjs | xjt | xju | xjv | xjw | xjx | xjy | xjz | xk0 | xk1 | xk2 | xk3 | xk4 | xk5 | xk6 | xk7 | xk8 | xk9 | xka | xkb | xkc | xkd | xke | xkf | xkg | xkh | xki | xkj=>k_is)
  (case xkk=>exact .cons rfl .nil)
  (case xkl=>exact .cons ⟨_,rfl⟩ .nil)
  (case xkm | xkn | xko | xkp | xkq | xkr | xks | xkt | xku | xkv | xkw | xkx | xky | xkz | xl0 | xl1 | xl2 | xl3 | xl4 | xl5 | xl6 | xl7 | xl8 | xl9 | xla | xlb | xlc | xld | xle | xlf | xlg | xlh | xli | xlj | xlk | xll | xlm | xln | xlo | xlp | xlq | xlr | xls | xlt | xlu | xlv | xlw | xlx | xly | xlz | xm0 | xm1 | xm2 | xm3 | xm4=>k_is)
  (case xm5=>decide)
  (case xm6=>exact .cons ⟨_,rfl⟩ (.cons ⟨_,rfl⟩ (.nil)))
  (case xm7 | xm8=>k_is)
  (case xm9=>decide)
  (case xma=>exact .cons ⟨_,rfl⟩ (.cons ⟨_,rfl⟩ (.cons ⟨_,rfl⟩ (.cons ⟨_,rfl⟩ (.cons ⟨_,rfl⟩ (.nil))))))
  (case xmb | xmc=>k_is)
  (case xmd=>decide)
  (case xme=>exact .cons ⟨_,rfl⟩ (.cons ⟨_,rfl⟩ (.cons ⟨_,rfl⟩ (.nil))))
  (case xmf=>k_is)
  (case xmg=>exact⟨_,rfl⟩)
  (case xmh | xmi=>k_is)
  (case xmj=>decide)
  (case xmk=>exact .cons ⟨_,rfl⟩ (.cons ⟨_,rfl⟩ (.cons ⟨_,rfl⟩ (.cons ⟨_,rfl⟩ (.cons ⟨_,rfl⟩ (.cons ⟨_,rfl⟩ (.cons ⟨_,rfl⟩ (.cons ⟨_,rfl⟩ (.nil)))))))))
