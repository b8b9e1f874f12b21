import PyProof.Rows.All
import Wide.All
import OpenK.AllK
import Wide.FinOn
import Lean
import PyProof.EqAt
import PyProof.EqKinds
import PyProof.TupleCall
import PyProof.NeKinds
import PyProof.DictItems
import PyProof.DictWalks
import KE.KTurnsDict
import KE.KDictSum
import KE.KSortKey
import KE.KBoundM
import KE.KMinKey
import KE.KRevIter
import KE.KFind
import KE.LcSums
import PyProof.ListRange
import PyProof.CollectIter
import PyProof.ConsumeWalk
import PyProof.ZipIter
import PySem.Challenge.RW_bothhands_k45_levels_of_rows
open PySem.W (instObj methodObj lookIn plainGet hasDictIn findIn handedIn plainGet_of isFn plainOver takerIn Looks makesIn typeIn emptyDict keepIn mroIn kitOne kia_one kitx_list kitx_dict callWith_K cellsFrom_some kIn_of mg_of kitMeta mg_none_of Frag fnOf nsIn codeIn)
open PySem.Heap (lt_size SameBut get?_push_of_some get?_push_size Ns1)
open Nat (ne_of_lt zero_le lt_succ_self le_succ lt_succ_of_lt le_add_right succ_le_succ)
open List (range mem_filter mem_range filterMap_cons mem_cons_self mem_cons_of_mem mem_cons mem_append mem_append_left getElem?_set_self getElem?_set_ne mem_filterMap mem_append_right length_cons map_cons length_map append_nil nodup_cons of_mem_zip replicate length length_take getElem?_append_right getElem?_replicate getElem?_append_left getElem?_map mem_of_getElem? length_append length_replicate length_drop size_toArray length_set all_cons any_cons replicate_succ flatten_cons foldl foldl_cons length_singleton nil_append find?_cons length_nil map_nil nodup_nil Pairwise any_eq_true mem_map mem_singleton lookup_cons getElem_mem not_mem_nil map_append getElem?_take getElem?_of_mem take_append_drop drop_eq_getElem_cons nodup_append map_take zipWith take_length getElem?_mapIdx length_mapIdx length_reverse zip eq_nil_or_concat concat_eq_append getElem?_range Nodup length_filter_le filter_append filter_cons_of_pos filter_cons_of_neg drop_length map getElem?_set length_range foldl_nil cons_append any_map forall_mem_cons map_set take_nil filterMap_eq_map' getElem?_eq_getElem map_map append_assoc getElem?_eq_none ext_getElem?)
open Int (toNat_natCast emod_nonneg emod_lt_of_pos)
open Option (getD_none isSome_map map_eq_some_iff getD_some)
open Bool (and_eq_true false_eq_true)
open PySem.F (slot_dict_get entry_dict_get plainAttrs_dict type_dict_get plainAttrs_list)
open PyProof.Rows (boot_isinstance boot_int boot_bool boot_tuple boot_str boot_max)
set_option Elab.async false
set_option linter.all false
set_option maxRecDepth 100000
namespace L2
open PySem PySem.Spec PyProof.Rows
abbrev Key:=Sum Int Str
def Vc:Key->Value->Bool
 | .inl k,v=>Value.isInt k v
 | .inr x,v=>Value.isStrOf x v
def AnN (w:World):Key->Int
 | .inl k=>hashInt k
 | .inr x=>hashStr w x
theorem Fg:∀ {k:Key} {v:Value},Vc k v = true->(∃ i t,k = Sum.inl i/\v = Value.int i t)\/(∃ x t,k = Sum.inr x/\v = Value.str x t)
 | .inl i,v,h=>by
  obtain ⟨t,e⟩:=Value.isInt_shape (k:=i) (v:=v) h
  exact .inl ⟨i,t,rfl,e⟩
 | .inr x,v,h=>by
  obtain ⟨t,e⟩:=Value.isStrOf_shape (x:=x) (v:=v) h
  exact .inr ⟨x,t,rfl,e⟩
theorem AdG (i:Int) (t:Tok):Vc (.inl i) (.int i t) = true:=by simp [Vc,Value.isInt]
theorem AdC (x:Str) (t:Tok):Vc (.inr x) (.str x t) = true:=by simp [Vc,Value.isStrOf]
theorem AjW (a b:Int):decide ((Sum.inl a:Key) = Sum.inl b) = (a == b):=by
 by_cases e:a = b
 ·subst e; simp
 ·have h:¬ (Sum.inl a:Key) = Sum.inl b:=fun q=>e (Sum.inl.inj q)
  rw [decide_eq_false h]
  exact (beq_eq_false_iff_ne.mpr e).symm
theorem AjE (a b:Str):decide ((Sum.inr a:Key) = Sum.inr b) = decide (a = b):=by
 by_cases e:a = b
 ·subst e; simp
 ·have h:¬ (Sum.inr a:Key) = Sum.inr b:=fun q=>e (Sum.inr.inj q)
  rw [decide_eq_false h,decide_eq_false e]
theorem Akz (a:Int) (b:Str):decide ((Sum.inl a:Key) = Sum.inr b) = false:=decide_eq_false (fun q=>nomatch q)
theorem AkO (a:Str) (b:Int):decide ((Sum.inr a:Key) = Sum.inl b) = false:=decide_eq_false (fun q=>nomatch q)
def Ds (prog:Program) (w:World):PySem.KeyKind prog w Key where
 is:=Vc
 hash:=AnN w
 inj:=fun v a b ha hb=>by
  rcases Fg ha with ⟨i,t,rfl,rfl⟩ | ⟨x,t,rfl,rfl⟩
  ·rcases Fg hb with ⟨j,u,rfl,e⟩ | ⟨y,u,rfl,e⟩
   ·injection e with e1 _; rw [e1]
   ·exact nomatch e
  ·rcases Fg hb with ⟨j,u,rfl,e⟩ | ⟨y,u,rfl,e⟩
   ·exact nomatch e
   ·injection e with e1 _; rw [e1]
 byValue:=fun k v h=>by
  rcases Fg h with ⟨i,t,rfl,rfl⟩ | ⟨x,t,rfl,rfl⟩ <;> rfl
 pyHash:=fun hv h=>by
  rcases Fg hv with ⟨i,t,rfl,rfl⟩ | ⟨x,t,rfl,rfl⟩
  ·exact wpAny_pyHash_int h
  ·exact wpAny_pyHash_str h
 eqBool:=fun hu hv h=>by
  rcases Fg hu with ⟨i,t,rfl,rfl⟩ | ⟨x,t,rfl,rfl⟩
  ·rcases Fg hv with ⟨j,u,rfl,rfl⟩ | ⟨y,u,rfl,rfl⟩
   ·rw [AjW] at h; exact wpAny_eqBool_int h
   ·rw [Akz] at h; exact SeqAt.EqAt.int_str i t y u _ _ _ _ h
  ·rcases Fg hv with ⟨j,u,rfl,rfl⟩ | ⟨y,u,rfl,rfl⟩
   ·rw [AkO] at h; exact SeqAt.EqAt.str_int x t j u _ _ _ _ h
   ·rw [AjE] at h; exact wpAny_eqBool_str h
 «strs»:=fun k x t v h=>by
  rcases Fg h with ⟨i,u,rfl,e⟩ | ⟨y,u,rfl,e⟩
  ·exact nomatch e
  ·injection e with e1 _
   subst e1
   cases v <;> rfl
theorem Aba (prog:Program) (w:World) (i:Int) (t:Tok):(Ds prog w).is (.inl i) (.int i t) = true:=AdG i t
theorem Aa7 (prog:Program) (w:World) (x:Str) (t:Tok):(Ds prog w).is (.inr x) (.str x t) = true:=AdC x t
end L2
namespace L2
open PySem PySem.Spec PyProof.Rows
inductive V where
 | non | bl (b:Bool) | int (i:Int) | str (x:Str) | byt (b:Array UInt8) | flt (b:UInt64) | ref (a:Addr) | ty (n:String)
 deriving DecidableEq
def RelV:V->Value->Prop
 | .non,u=>u = Value.none
 | .bl b,u=>u = Value.bool b
 | .int i,u=>∃ t,u = Value.int i t
 | .str x,u=>∃ t,u = Value.str x t
 | .byt b,u=>∃ t,u = Value.bytes b t
 | .flt b,u=>∃ t,u = Value.float b t
 | .ref a,u=>u = Value.ref a
 | .ty n,u=>u = Value.type n
abbrev Vals:List V->List Value->Prop:=Paired RelV
theorem Vals.length {xs:List V} {us:List Value} (r:Vals xs us):xs.length = us.length:=Paired.length r
theorem Vals.get:∀ {xs:List V} {us:List Value} {i:Nat} {x:V},Vals xs us->xs[i]? = some x->∃ u,us[i]? = some u/\RelV x u
 | _,_,_,_,.nil,e=>by simp at e
 | _,_,0,_,.cons r _,e=>by simp at e; subst e; exact ⟨_,rfl,r⟩
 | _,_,i + 1,x,.cons _ t,e=>by
  obtain ⟨u,h1,h2⟩:=Vals.get (i:=i) (x:=x) t (by simpa using e)
  exact ⟨u,by simpa using h1,h2⟩
theorem Vals.set {x:V} {u:Value} (r:RelV x u):∀ {xs:List V} {us:List Value} (i:Nat),Vals xs us->Vals (xs.set i x) (us.set i u)
 | _,_,_,.nil=>.nil
 | _,_,0,.cons _ t=>.cons r t
 | _,_,i + 1,.cons q t=>.cons q (Vals.set r i t)
theorem Vals.append:∀ {xs ys:List V} {us ws:List Value},Vals xs us->Vals ys ws->Vals (xs ++ ys) (us ++ ws)
 | _,_,_,_,.nil,s=>s
 | _,_,_,_,.cons r t,s=>.cons r (Vals.append t s)
theorem Vals.take:∀ {xs:List V} {us:List Value} (n:Nat),Vals xs us->Vals (xs.take n) (us.take n)
 | _,_,0,_=>.nil
 | _,_,_ + 1,.nil=>.nil
 | _,_,n + 1,.cons r t=>.cons r (Vals.take n t)
theorem Vals.drop:∀ {xs:List V} {us:List Value} (n:Nat),Vals xs us->Vals (xs.drop n) (us.drop n)
 | _,_,0,r=>r
 | _,_,_ + 1,.nil=>.nil
 | _,_,n + 1,.cons _ t=>Vals.drop n t
def RelO:Option V->Option Value->Prop
 | some v,some u=>RelV v u
 | none,none=>True
 | _,_=>False
def KV {κ:Type}:List (κ × V)->List (κ × Value)->Prop:=Paired fun (p:κ × V) (q:κ × Value)=>p.1 = q.1/\RelV p.2 q.2
def kV:Key->V
 | .inl i=>.int i
 | .inr x=>.str x
inductive HO where
 | lst (xs:List V)
 | tup (xs:List V)
 | dK (kvs:List (Key × V)) | dT (kvs:List (List Key × V))
 | set (S:Int->Bool) (n:Nat)
 | ins (C dx:Addr) (fs:List (Str × V))
 | own (x:Addr)
 | xd (fs:List (Str × V))
 | met (f x:Addr)
 | rng (lo hi:Int)
 | frz (o:Obj) (u:HO)
 | tbl (ps:Array Value)
 | ext (φ:Heap->Prop)
abbrev Hp:=Addr->Option HO
def upd (H:Hp) (a:Addr) (o:HO):Hp:=fun b=>if b = a then some o else H b
theorem Bt {H:Hp} {a:Addr} {o:HO}:upd H a o a = some o:=by unfold upd; rw [if_pos rfl]
theorem Bl {H:Hp} {a b:Addr} {o:HO} (h:b ≠ a):upd H a o b = H b:=by unfold upd; rw [if_neg h]
theorem Fy {H:Hp} {a:Addr} {o u:HO}:upd (upd H a o) a u = upd H a u:=by
 funext b; unfold upd; split <;> rfl
theorem Fe {H:Hp} {a b:Addr} {o u:HO} (h:H a = some o) (h':H b = some u) (d:o ≠ u):a ≠ b:=by
 intro e; subst e; rw [h] at h'; exact d (Option.some.inj h')
theorem Cb {H:Hp} {a b:Addr} {o:HO} (h:H a = some o) (h':H b = none):a ≠ b:=by
 intro e; subst e; rw [h] at h'; cases h'
section
variable (P:Program) (w:World)
def ObjOk (H:Hp) (h:Heap) (a:Addr):HO->Prop
 | .lst xs=>xs.length <= sizeLine/\∃ (its:List Value) (n:Nat),Vals xs its/\h.get? a = some { cls:=.type "list",data:=.seq its.toArray n }
 | .tup xs=>xs.length <= sizeLine/\∃ its:List Value,Vals xs its/\IsTup h a its.toArray
 | .dK kvs=>kvs.length <= sizeLine/\(a == sysModules) = false/\∃ vs,KV kvs vs/\h.DictOf (Ds P w) a vs
 | .dT kvs=>kvs.length <= sizeLine/\(a == sysModules) = false/\∃ xs:List (List Key × Addr × Value),
   Paired (fun (p:List Key × V) (q:List Key × Addr × Value)=>p.1 = q.1/\H q.2.1 = some (.tup (p.1.map kV))/\RelV p.2 q.2.2) kvs xs /\
   ∃ o es ep,h.get? a = some o/\o.ExactDict/\o.data = .dict es ep/\es.toList = xs.map (entryOfKey (tupleKind (Ds P w)))/\(xs.map (·.1)).Nodup
 | .set S n=>h.SetOf (intKind P w) a S n
 | .ins C dx fs=>H dx = some (.own a)/\fs.length <= 1000/\dx ≠ a/\h.get? a = some (instObj C dx) /\
   ∃ mA,h.Ns1 dx mA/\(∀ f,RelO (fs.lookup f) (mA f))/\PySem.Within mA (fs.map (·.1))
 | .own _=>∃ o,h.get? a = some o
 | .xd fs=>∃ mA,h.Ns1 a mA/\∀ f,RelO (fs.lookup f) (mA f)
 | .rng lo hi=>∃ t u v,h.get? a = some { cls:=.type "range",data:=.fields #[.int lo t,.int hi u,.int 1 v] }
 | .frz o u=>h.get? a = some o/\ObjOk H h a u
 | .tbl ps=>h.get? a = some { cls:=.none,data:=.fields ps }
 | .met f x=>h.get? a = some (methodObj (.ref f) (.ref x))
 | .ext φ=>φ h/\(∃ o,h.get? a = some o)/\∀ h1 h2:Heap,φ h1->(∀ o,h1.get? a = some o->h2.get? a = some o)->φ h2
def HOk (H:Hp) (h:Heap):Prop:=∀ a o,H a = some o->ObjOk P w H h a o
end
section
variable {P:Program} {w:World} {H H':Hp} {h h':Heap} {a:Addr} {o:HO}
theorem ObjOk.lt (x:ObjOk P w H h a o):a < h.objs.size:=by
 cases o with
 | lst xs=>obtain ⟨_,_,_,_,e⟩:=x; exact lt_size e
 | tup xs=>obtain ⟨_,_,_,p⟩:=x; exact p.lt
 | dK kvs=>obtain ⟨_,_,_,_,o,_,_,e,_⟩:=x; exact lt_size e
 | dT kvs=>obtain ⟨_,_,_,_,o,_,_,e,_⟩:=x; exact lt_size e
 | set S n=>obtain ⟨o,_,_,_,e,_⟩:=x; exact lt_size e
 | ins C dx fs=>obtain ⟨_,_,_,e,_⟩:=x; exact lt_size e
 | own y=>obtain ⟨_,e⟩:=x; exact lt_size e
 | xd fs=>obtain ⟨_,⟨_,_,_,e,_⟩,_⟩:=x; exact lt_size e
 | rng lo hi=>obtain ⟨_,_,_,e⟩:=x; exact lt_size e
 | frz ob u=>obtain ⟨e,_⟩:=x; exact lt_size e
 | tbl ps=>exact lt_size (show h.get? a = some _ from x)
 | met f y=>exact lt_size (show h.get? a = some _ from x)
 | ext φ=>obtain ⟨_,⟨_,e⟩,_⟩:=x; exact lt_size e
theorem Paired.mapP {α β:Type} {F G:α->β->Prop}:∀ {l₁:List α} {l₂:List β},Paired F l₁ l₂->(∀ a b,F a b->G a b)->Paired G l₁ l₂
 | _,_,.nil,_=>.nil
 | _,_,.cons r t,f=>.cons (f _ _ r) (Paired.mapP t f)
theorem ObjOk.stay (x:ObjOk P w H h a o) (k:∀ b u,(b = a\/H b = some (.own a))->h.get? b = some u->h'.get? b = some u)
  (ho:∀ b,H b = some (.own a)->H' b = some (.own a)) (ht:∀ b xs,H b = some (.tup xs)->H' b = some (.tup xs)):ObjOk P w H' h' a o:=by
 induction o with
 | lst xs=>obtain ⟨z,its,n,r,e⟩:=x; exact ⟨z,its,n,r,k _ _ (.inl rfl) e⟩
 | tup xs=>obtain ⟨z,its,r,ob,e,c⟩:=x; exact ⟨z,its,r,ob,k _ _ (.inl rfl) e,c⟩
 | dK kvs=>obtain ⟨z,y,vs,r,ob,es,ep,e,c⟩:=x; exact ⟨z,y,vs,r,ob,es,ep,k _ _ (.inl rfl) e,c⟩
 | dT kvs =>
  obtain ⟨z,y,xs,r,ob,es,ep,e,c⟩:=x
  exact ⟨z,y,xs,Paired.mapP r fun p q z=>⟨z.1,ht _ _ z.2.1,z.2.2⟩,ob,es,ep,k _ _ (.inl rfl) e,c⟩
 | set S n=>obtain ⟨ob,es,ep,t,e,c⟩:=x; exact ⟨ob,es,ep,t,k _ _ (.inl rfl) e,c⟩
 | ins C dx fs =>
  obtain ⟨d,z,ne,e,mA,⟨od,es,ep,e2,c⟩,r⟩:=x
  exact ⟨ho _ d,z,ne,k _ _ (.inl rfl) e,mA,⟨od,es,ep,k _ _ (.inr d) e2,c⟩,r⟩
 | own y=>obtain ⟨ob,e⟩:=x; exact ⟨ob,k _ _ (.inl rfl) e⟩
 | xd fs=>obtain ⟨mA,⟨od,es,ep,e,c⟩,r⟩:=x; exact ⟨mA,⟨od,es,ep,k _ _ (.inl rfl) e,c⟩,r⟩
 | rng lo hi=>obtain ⟨t,u,v,e⟩:=x; exact ⟨t,u,v,k _ _ (.inl rfl) e⟩
 | frz ob u ih=>obtain ⟨e,q⟩:=x; exact ⟨k _ _ (.inl rfl) e,ih q⟩
 | tbl ps =>
  have e:h.get? a = some { cls:=.none,data:=.fields ps }:=x
  show h'.get? a = some { cls:=.none,data:=.fields ps }
  exact k a _ (.inl rfl) e
 | met f y =>
  have e:h.get? a = some (methodObj (.ref f) (.ref y)):=x
  show h'.get? a = some (methodObj (.ref f) (.ref y))
  exact k a _ (.inl rfl) e
 | ext φ=>obtain ⟨p,⟨o,e⟩,st⟩:=x; exact ⟨st _ _ p fun o q=>k _ _ (.inl rfl) q,⟨o,k _ _ (.inl rfl) e⟩,st⟩
theorem HOk.lt (x:HOk P w H h) (e:H a = some o):a < h.objs.size:=(x a o e).lt
theorem HOk.fresh (x:HOk P w H h) (e:h.objs.size <= a):H a = none:=by
 cases q:H a with
 | none=>rfl
 | some u=>exact absurd (Nat.lt_of_lt_of_le (x.lt q) e) (Nat.lt_irrefl _)
theorem HOk.kept (x:HOk P w H h) (k:∀ b u,h.get? b = some u->h'.get? b = some u):HOk P w H h':=fun a o e =>
 (x a o e).stay (fun b u _ q=>k b u q) (fun _ q=>q) fun _ _ q=>q
theorem HOk.laid (x:HOk P w H h) (k:∀ b u,h.get? b = some u->h'.get? b = some u) (hp:h.objs.size <= a) (new:ObjOk P w (upd H a o) h' a o):HOk P w (upd H a o) h':=fun b u e=>by
 have hn:=x.fresh hp
 by_cases hb:b = a
 ·subst hb; rw [Bt] at e; cases e; exact new
 ·rw [Bl hb] at e
  exact (x b u e).stay (fun c v _ q=>k c v q) (fun c q=>by rw [Bl (Cb q hn)]; exact q) fun c xs q=>by rw [Bl (Cb q hn)]; exact q
end
def Rd (H:Hp) (a:Addr) (u:HO):Prop:=H a = some u\/∃ o,H a = some (.frz o u)
theorem Rd.ok {P:Program} {w:World} {H:Hp} {h:Heap} {a:Addr} {u:HO} (r:Rd H a u) (x:HOk P w H h):ObjOk P w H h a u:=by
 rcases r with r | ⟨o,r⟩
 ·exact x a u r
 ·obtain ⟨_,q⟩:=x a _ r
  exact q
def Mut:Option HO->Prop
 | some (.lst _)=>True
 | some (.dK _)=>True
 | some (.dT _)=>True
 | some (.set _ _)=>True
 | some (.ins _ _ _)=>True
 | some (.ext _)=>True
 | _=>False
section
variable {P:Program} {w:World} {H:Hp} {h h':Heap} {x e:Addr} {o':HO}
theorem HOk.write (ok:HOk P w H h) (mu:Mut (H x)) (he:e = x\/H e = some (.own x)) (k:∀ b u,b ≠ e->h.get? b = some u->h'.get? b = some u) (heo:∃ u,h'.get? e = some u)
  (new:ObjOk P w (upd H x o') h' x o'):HOk P w (upd H x o') h':=fun b u q=>by
 have nown:∀ c y,H c = some (.own y)->c ≠ x:=fun c y r z=>by subst z; rw [r] at mu; exact mu
 have ntup:∀ c xs,H c = some (.tup xs)->c ≠ x:=fun c xs r z=>by subst z; rw [r] at mu; exact mu
 by_cases hb:b = x
 ·subst hb; rw [Bt] at q; cases q; exact new
 ·rw [Bl hb] at q
  by_cases hbe:b = e
  ·have q':H b = some (.own x):=by
    rcases he with z | z
    ·exact absurd (hbe.trans z) hb
    ·rw [hbe]; exact z
   rw [q] at q'; cases q'
   obtain ⟨v,hv⟩:=heo
   exact ⟨v,by rw [hbe]; exact hv⟩
  ·refine (ok b u q).stay (fun c v hc r=>k c v ?_ r) (fun c r=>by rw [Bl (nown c b r)]; exact r) fun c xs r=>by rw [Bl (ntup c xs r)]; exact r
   rcases hc with rfl | hc
   ·exact hbe
   ·rintro rfl
    rcases he with z | z
    ·exact nown c b hc z
    ·rw [hc] at z; cases z; exact hb rfl
end
structure Un (fs ex:List Addr) (H H':Hp) (h h':Heap):Prop where
 keep:∀ b o,h.get? b = some o->H b = none->b ∉ fs->b ∉ ex->h'.get? b = some o
 slot:∀ b o,h.get? b = some o->H b = none->b ∈ fs->b ∉ ex->∃ sl,h'.get? b = some { o with slots:=sl }
 free:∀ b o,h.get? b = some o->H b = none->b ∉ ex->H' b = none
 there:∀ b o,h.get? b = some o->b ∉ ex->∃ o',h'.get? b = some o'
 tups:∀ b xs,H b = some (.tup xs)->H' b = some (.tup xs)
 frzs:∀ b o u,H b = some (.frz o u)->H' b = some (.frz o u)
 tbls:∀ b ps,H b = some (.tbl ps)->∃ more,H' b = some (.tbl (ps ++ more))
section
variable {fs fs' ex ex':List Addr} {H H1 H2:Hp} {h h1 h2 h':Heap} {a x e:Addr} {o:HO}
theorem Un.any (u:Un fs ex H H1 h h1) {b:Addr} {ob:Obj} (q:h.get? b = some ob) (n:H b = none) (hx:b ∉ ex):∃ sl,h1.get? b = some { ob with slots:=sl }:=by
 by_cases hb:b ∈ fs
 ·exact u.slot b ob q n hb hx
 ·exact ⟨ob.slots,u.keep b ob q n hb hx⟩
theorem Un.kept (k:∀ b u,h.get? b = some u->h'.get? b = some u):Un fs ex H H h h' :=
 ⟨fun b ob q _ _ _=>k b ob q,fun b ob q _ _ _=>⟨ob.slots,k b ob q⟩,fun _ _ _ n _=>n,fun b ob q _=>⟨ob,k b ob q⟩,fun _ _ q=>q,fun _ _ _ q=>q,fun _ ps q=>⟨#[],by rw [q]; simp⟩⟩
theorem Un.refl:Un fs ex H H h h:=Un.kept fun _ _ q=>q
theorem Un.laid (k:∀ b u,h.get? b = some u->h'.get? b = some u) (hp:h.objs.size <= a) (hn:H a = none):Un fs ex H (upd H a o) h h' where
 keep:=fun b u q _ _ _=>k b u q
 slot:=fun b u q _ _ _=>⟨u.slots,k b u q⟩
 free:=fun b u q n _=>by rw [Bl (ne_of_lt (Nat.lt_of_lt_of_le (lt_size q) hp))]; exact n
 there:=fun b u q _=>⟨u,k b u q⟩
 tups:=fun b xs q=>by rw [Bl (Cb q hn)]; exact q
 frzs:=fun b u xs q=>by rw [Bl (Cb q hn)]; exact q
 tbls:=fun b ps q=>⟨#[],by rw [Bl (Cb q hn),q]; simp⟩
theorem Un.write (mu:Mut (H x)) (he:e = x\/H e = some (.own x)) (k:∀ b u,b ≠ e->h.get? b = some u->h'.get? b = some u) (heo:∃ u,h'.get? e = some u):Un fs ex H (upd H x o) h h':=by
 have hx:∀ b,H b = none->b ≠ x:=fun b n z=>by subst z; rw [n] at mu; exact mu
 have hb:∀ b,H b = none->b ≠ e:=fun b n z=>by
  subst z
  rcases he with r | r
  ·exact hx b n r
  ·rw [n] at r; cases r
 have hm:∀ b u,H b = some u->¬ Mut (some u)->b ≠ x:=fun b u q nm z=>by subst z; rw [q] at mu; exact nm mu
 refine ⟨fun b u q n _ _=>k b u (hb b n) q,fun b u q n _ _=>⟨u.slots,k b u (hb b n) q⟩,fun b u q n _=>by rw [Bl (hx b n)]; exact n,fun b u q _=>?_,
  fun b xs q=>by rw [Bl (hm b _ q fun z=>z)]; exact q,fun b u xs q=>by rw [Bl (hm b _ q fun z=>z)]; exact q,fun b ps q=>⟨#[],by rw [Bl (hm b _ q fun z=>z),q]; simp⟩⟩
 by_cases hbe:b = e
 ·subst hbe; exact heo
 ·exact ⟨u,k b u hbe q⟩
end
def trk (h:Heap) (H:Hp):List Addr:=(range h.objs.size).filter fun a=>(H a).isSome
def Sn (h:Heap) (H:Hp):Heap:=PySem.W.hideAll h (trk h H)
theorem Adm (h:Heap) (H:Hp):(Sn h H).objs.size = h.objs.size:=PySem.W.hideAll_size _ _
theorem Afc {h:Heap} {H:Hp} {b:Addr} {o:Obj} (e:h.get? b = some o) (n:H b = none):(Sn h H).get? b = some o :=
 PySem.W.hideAll_get _ e fun hm=>by
  have q:(H b).isSome = true:=(mem_filter.mp hm).2
  rw [n] at q; simp at q
theorem Aiv {h:Heap} {H:Hp} {b:Addr} {o:Obj} (e:(Sn h H).get? b = some o):h.get? b = some o/\H b = none:=by
 have e':h.get? b = some o:=PySem.W.of_hideAll (trk h H) e
 refine ⟨e',?_⟩
 cases q:H b with
 | none=>rfl
 | some x =>
  have hm:b ∈ trk h H:=mem_filter.mpr ⟨mem_range.mpr (lt_size e'),by simp [q]⟩
  have z:(Sn h H).get? b = none:=PySem.W.hideAll_none (trk h H) hm
  rw [z] at e; cases e
end L2
namespace L2
open PySem PySem.Spec PyProof.Rows
structure Mod (K:Frag) (mg:Str->Option Value) (base:Heap):Prop where
 kin:K.In base
 glob:base.Ns mainGlobals mg
 blt:∃ mb,base.Ns builtinsNs mb/\∀ x:Str,x ≠ "__name__"->mb x = bootBuiltins x
 nolimit:base.NoLimit
structure Cx where
 prog:Program
 w:World
 K:Frag
 mg:Str->Option Value
 base:Heap
 A:Around
 N:List Str
 s₀:Shared
 H₀:Hp
 env:Env
 outer:List Env
 stack:List Env
 ex:List Addr
 fn:Str->Bool
 calm:Bool
 pn:List (Addr × Obj)
 xe:Value->Shared->Prop
def frs (l:List Env):List Addr:=l.filterMap (·.frame)
abbrev Cx.fs (X:Cx):List Addr:=frs X.outer
def Vis (sc:Scope) (x:Str):Prop:=sc.names.lookup x = some .local\/sc.names.lookup x = some .cell\/sc.names.lookup x = some .free
def Loc (sc:Scope) (x:Str):Prop:=sc.names.lookup x = some .local\/sc.names.lookup x = some .cell
def AnW (env:Env) (h:Heap) (m:Str->Option Value) (x:Str) (u:Value):Prop :=
 (env.kindOf x = some .local/\m x = some u)\/((env.kindOf x = some .cell\/env.kindOf x = some .free)/\∃ c,env.cells.lookup x = some c/\h.IsCell c (some u))
structure Cx.Ok (X:Cx):Prop where
 mod:Mod X.K X.mg X.base
 kind:X.env.scope.kind = .function
 glob:X.env.globals = mainGlobals
 blt:X.env.builtins = builtinsNs
 above:X.s₀.heap.objs.size <= X.env.locals
 inj:∀ x y c,X.env.cells.lookup x = some c->X.env.cells.lookup y = some c->x = y
 has:∀ x,(X.env.kindOf x = some .cell\/X.env.kindOf x = some .free)->∃ c,X.env.cells.lookup x = some c
 cab:∀ x c,X.fn x = true->X.env.cells.lookup x = some c->X.s₀.heap.objs.size <= c
 hd:X.calm = true->X.A.handled = none
 frames:X.A.frames = some X.stack
 stk:X.stack = X.outer\/(X.stack = X.env :: X.outer/\X.env.frame = some X.env.locals)
 exf:∀ b ∈ X.ex,b ≠ X.env.locals/\∀ x c,X.env.cells.lookup x = some c->c ≠ b
 bs:∀ b o,X.base.get? b = some o->X.s₀.heap.get? b = some o/\X.H₀ b = none
 bsz:X.base.objs.size <= X.s₀.heap.objs.size
 noex:∀ b o,X.base.get? b = some o->b ∉ X.ex
 exfs:∀ b ∈ X.ex,b ∉ X.fs
 funs:X.s₀.heap.FunFrames X.base X.outer
 frf:∀ b ∈ X.fs,X.H₀ b = none
structure Inv (X:Cx) (pins:List (Addr × Obj)) (σ:List (Option V)) (H:Hp) (s:Shared):Prop where
 ok:X.Ok
 os:s.os = X.s₀.os
 bare:AllBare s.gens
 base:Un X.fs X.ex X.H₀ H X.s₀.heap s.heap
 loc:∃ m,s.heap.Ns X.env.locals m/\∀ (i:Nat) (x:Str) (v:V),X.N[i]? = some x->σ[i]? = some (some v)->Vis X.env.scope x->∃ u,RelV v u/\AnW X.env s.heap m x u
 cell:∀ x c,X.env.cells.lookup x = some c->∃ v,s.heap.IsCell c v
 free:H X.env.locals = none
 freeC:∀ x c,X.env.cells.lookup x = some c->H c = none
 pin:∀ p ∈ X.pn ++ pins,s.heap.get? p.1 = some p.2/\H p.1 = none/\p.1 ≠ X.env.locals/\p.1 ∉ X.fs/\∀ v,p.2.data ≠ .cell v
 hok:HOk X.prog X.w H s.heap
 len:σ.length = X.N.length
section
variable {X:Cx} {pins:List (Addr × Obj)} {σ:List (Option V)} {H H':Hp} {s:Shared} {h':Heap}
theorem Cx.Ok.nofr (ok:X.Ok) {b:Addr} {o:Obj} (e:X.base.get? b = some o):b ∉ X.fs:=fun hb=>by
 have:=(ok.funs.mem hb).1
 rw [e] at this; cases this
theorem Inv.bs (I:Inv X pins σ H s):∀ b o,X.base.get? b = some o->s.heap.get? b = some o/\H b = none:=fun b o e =>
 ⟨I.base.keep b o (I.ok.bs b o e).1 (I.ok.bs b o e).2 (I.ok.nofr e) (I.ok.noex b o e),I.base.free b o (I.ok.bs b o e).1 (I.ok.bs b o e).2 (I.ok.noex b o e)⟩
theorem Inv.bk (I:Inv X pins σ H s):∀ b o,X.base.get? b = some o->s.heap.get? b = some o:=fun b o e=>(I.bs b o e).1
theorem Inv.mod (I:Inv X pins σ H s):Mod X.K X.mg X.base:=I.ok.mod
theorem Inv.kIn (I:Inv X pins σ H s):X.K.In s.heap:=I.ok.mod.kin.keeps I.bk
theorem Inv.lt (I:Inv X pins σ H s):X.env.locals < s.heap.objs.size:=let ⟨_,hn,_⟩:=I.loc; hn.lt
theorem Inv.sz (I:Inv X pins σ H s):X.s₀.heap.objs.size <= s.heap.objs.size:=Nat.le_trans I.ok.above (Nat.le_of_lt I.lt)
theorem Inv.nofs (I:Inv X pins σ H s) {a:Addr} (h:s.heap.objs.size <= a):a ∉ X.fs:=fun hb=>by
 obtain ⟨_,o,ho,_⟩:=I.ok.funs.mem hb
 exact absurd (Nat.lt_of_lt_of_le (lt_size ho) (Nat.le_trans I.sz h)) (Nat.lt_irrefl _)
theorem Inv.cne (I:Inv X pins σ H s):∀ x c,X.env.cells.lookup x = some c->c ≠ X.env.locals:=fun x c e z=>by
 obtain ⟨v,o,ho,hd⟩:=I.cell x c e
 obtain ⟨m,⟨o',es,ep,ho',hd',_⟩,_⟩:=I.loc
 rw [z,ho'] at ho; cases ho; rw [hd'] at hd; cases hd
theorem Inv.funs (I:Inv X pins σ H s):s.heap.FunFrames X.base X.outer:=by
 have all:∀ (l:List Env),(∀ b ∈ frs l,b ∈ X.fs)->X.s₀.heap.FunFrames X.base l->s.heap.FunFrames X.base l:=by
  intro l
  induction l with
  | nil=>intro _ _; trivial
  | cons env r ih =>
   intro hs hl
   obtain ⟨hk,⟨L,o,hf,hn,ho,hd⟩,hr⟩:=hl
   have hL:L ∈ X.fs:=hs L (by unfold frs; rw [filterMap_cons,hf]; exact mem_cons_self)
   obtain ⟨sl,e⟩:=I.base.slot L o ho (I.ok.frf L hL) hL fun z=>I.ok.exfs L z hL
   exact ⟨hk,⟨L,_,hf,hn,e,hd⟩,ih (fun b hb=>hs b (by unfold frs; rw [filterMap_cons,hf]; exact mem_cons_of_mem _ hb)) hr⟩
 exact all X.outer (fun _ hb=>hb) I.ok.funs
theorem Inv.stack (I:Inv X pins σ H s):s.heap.FunFrames X.base X.stack:=by
 rcases I.ok.stk with e | ⟨e,hf⟩
 ·rw [e]; exact I.funs
 ·rw [e]
  obtain ⟨m,hn,_⟩:=I.loc
  refine .cons (by rw [I.ok.kind]; decide) hf hn ?_ I.funs
  exact Heap.get?_none_of_le (Nat.le_trans I.ok.bsz I.ok.above)
theorem Inv.stkSub (I:Inv X pins σ H s):∀ b ∈ frs X.stack,b ∈ X.env.locals :: X.fs:=fun b hb=>by
 rcases I.ok.stk with e | ⟨e,hf⟩
 ·rw [e] at hb; exact mem_cons_of_mem _ hb
 ·rw [e] at hb
  unfold frs at hb
  rw [filterMap_cons,hf] at hb
  exact hb
theorem Inv.stkFree (I:Inv X pins σ H s):∀ b ∈ frs X.stack,H b = none:=fun b hb=>by
 rcases mem_cons.mp (I.stkSub b hb) with e | hb
 ·rw [e]; exact I.free
 ·obtain ⟨_,o,ho,_⟩:=I.ok.funs.mem hb
  exact I.base.free b o ho (I.ok.frf b hb) fun z=>I.ok.exfs b z hb
theorem Inv.step {g':Array GenState} {t':Nat} {d':Drawn} {ch:List Addr} (I:Inv X pins σ H s)
  (hch:∀ b ∈ ch,(b ∈ X.ex\/X.s₀.heap.objs.size <= b)/\b ≠ X.env.locals/\(∀ x c,X.env.cells.lookup x = some c->c ≠ b)/\∀ p ∈ X.pn ++ pins,p.1 ≠ b)
  (keep:∀ b o,b ≠ X.env.locals->b ∉ X.fs->b ∉ ch->s.heap.get? b = some o->H b = none->h'.get? b = some o)
  (slot:∀ b o,b ≠ X.env.locals->b ∈ X.fs->b ∉ ch->s.heap.get? b = some o->H b = none->∃ sl,h'.get? b = some { o with slots:=sl }) (free:∀ b o,b ∉ ch->s.heap.get? b = some o->H b = none->H' b = none)
  (there:∀ b o,b ∉ ch->s.heap.get? b = some o->∃ o',h'.get? b = some o')
  (tups:∀ b xs,H b = some (.tup xs)->H' b = some (.tup xs)) (frzs:∀ b o u,H b = some (.frz o u)->H' b = some (.frz o u)) (tbls:∀ b ps,H b = some (.tbl ps)->∃ more,H' b = some (.tbl (ps ++ more)))
  (ns:∀ m,s.heap.Ns X.env.locals m->h'.Ns X.env.locals m) (hok:HOk X.prog X.w H' h') (hg:AllBare g') :
  Inv X pins σ H' { s with heap:=h',gens:=g',drawn:=d',toks:=t' }:=by
 have neL:∀ b o,X.s₀.heap.get? b = some o->b ≠ X.env.locals:=fun b o e=>ne_of_lt (Nat.lt_of_lt_of_le (lt_size e) I.ok.above)
 have neC:∀ b o,X.s₀.heap.get? b = some o->b ∉ X.ex->b ∉ ch:=fun b o e hx hb=>by
  rcases (hch b hb).1 with z | z
  ·exact hx z
  ·exact absurd (Nat.lt_of_lt_of_le (lt_size e) z) (Nat.lt_irrefl _)
 have cellK:∀ x c,X.env.cells.lookup x = some c->∀ v,s.heap.IsCell c v->h'.IsCell c v:=fun x c e v ⟨o,ho,hd⟩=>by
  have nch:c ∉ ch:=fun z=>(hch c z).2.2.1 x c e rfl
  by_cases hc:c ∈ X.fs
  ·obtain ⟨sl,q⟩:=slot c o (I.cne x c e) hc nch ho (I.freeC x c e)
   exact ⟨_,q,hd⟩
  ·exact ⟨o,keep c o (I.cne x c e) hc nch ho (I.freeC x c e),hd⟩
 refine ⟨I.ok,I.os,hg,⟨fun b o e n hb hx=>?_,fun b o e n hb hx=>?_,fun b o e n hx=>?_,fun b o e hx=>?_,fun b xs e=>tups b xs (I.base.tups b xs e),fun b o xs e=>frzs b o xs (I.base.frzs b o xs e),fun b ps e=>?_⟩,?_,fun x c e=>?_,?_,fun x c e=>?_,fun p hp=>?_,hok,I.len⟩
 ·exact keep b o (neL b o e) hb (neC b o e hx) (I.base.keep b o e n hb hx) (I.base.free b o e n hx)
 ·obtain ⟨sl,e1⟩:=I.base.slot b o e n hb hx
  obtain ⟨sl',e2⟩:=slot b _ (neL b o e) hb (neC b o e hx) e1 (I.base.free b o e n hx)
  exact ⟨sl',e2⟩
 ·obtain ⟨o',e1⟩:=I.base.there b o e hx
  exact free b o' (neC b o e hx) e1 (I.base.free b o e n hx)
 ·obtain ⟨o',e1⟩:=I.base.there b o e hx
  exact there b o' (neC b o e hx) e1
 ·obtain ⟨m1,e1⟩:=I.base.tbls b ps e
  obtain ⟨m2,e2⟩:=tbls b _ e1
  exact ⟨m1 ++ m2,by rw [e2,Array.append_assoc]⟩
 ·obtain ⟨m,hn,hl⟩:=I.loc
  refine ⟨m,ns m hn,fun i x v e1 e2 e3=>?_⟩
  obtain ⟨u,r,l⟩:=hl i x v e1 e2 e3
  refine ⟨u,r,?_⟩
  rcases l with l | ⟨k,c,e,z⟩
  ·exact .inl l
  ·exact .inr ⟨k,c,e,cellK x c e _ z⟩
 ·obtain ⟨v,z⟩:=I.cell x c e
  exact ⟨v,cellK x c e v z⟩
 ·obtain ⟨m,⟨o,_,_,ho,_⟩,_⟩:=I.loc
  exact free _ o (fun z=>(hch _ z).2.1 rfl) ho I.free
 ·obtain ⟨v,o,ho,hd⟩:=I.cell x c e
  exact free c o (fun z=>(hch c z).2.2.1 x c e rfl) ho (I.freeC x c e)
 ·obtain ⟨e,n,ne,nf,d⟩:=I.pin p hp
  have nch:p.1 ∉ ch:=fun z=>(hch p.1 z).2.2.2 p hp rfl
  exact ⟨keep p.1 p.2 ne nf nch e n,free p.1 p.2 nch e n,ne,nf,d⟩
theorem Inv.un {t':Nat} (I:Inv X pins σ H s) (u:Un X.fs [] H H' s.heap h') (hok:HOk X.prog X.w H' h'):Inv X pins σ H' { s with heap:=h',toks:=t' }:=by
 obtain ⟨m,⟨o,es,ep,ho,r⟩,_⟩:=id I.loc
 obtain ⟨sl,hL⟩:=u.any ho I.free (by simp)
 exact I.step (g':=s.gens) (d':=s.drawn) (ch:=[]) (fun _ z=>nomatch z) (fun b o _ hb _ e n=>u.keep b o e n hb (by simp)) (fun b o _ hb _ e n=>u.slot b o e n hb (by simp)) (fun b o _ e n=>u.free b o e n (by simp)) (fun b o _ e=>u.there b o e (by simp)) u.tups u.frzs u.tbls (fun m' hm=>by
  obtain ⟨o',es',ep',ho',r'⟩:=hm
  rw [ho] at ho'; cases ho'
  exact ⟨_,es',ep',hL,r'⟩) hok I.bare
theorem Inv.call {g':Array GenState} {t':Nat} {d':Drawn} {ch:List Addr} (I:Inv X pins σ H s) (u:Un (frs X.stack) ch H H' s.heap h') (hok:HOk X.prog X.w H' h') (hg:AllBare g')
  (hch:∀ b ∈ ch,(b ∈ X.ex\/X.s₀.heap.objs.size <= b)/\b ≠ X.env.locals/\(∀ x c,X.env.cells.lookup x = some c->c ≠ b)/\∀ p ∈ X.pn ++ pins,p.1 ≠ b) :
  Inv X pins σ H' { s with heap:=h',gens:=g',drawn:=d',toks:=t' }:=by
 obtain ⟨m,⟨o,es,ep,ho,r⟩,_⟩:=id I.loc
 obtain ⟨sl,hL⟩:=u.any ho I.free fun z=>(hch _ z).2.1 rfl
 exact I.step (ch:=ch) hch (fun b o hL hb hc e n=>u.keep b o e n (fun z=>(mem_cons.mp (I.stkSub b z)).elim hL hb) hc) (fun b o _ _ hc e n=>u.any e n hc) (fun b o hc e n=>u.free b o e n hc) (fun b o hc e=>u.there b o e hc) u.tups u.frzs u.tbls (fun m' hm=>by
  obtain ⟨o',es',ep',ho',r'⟩:=hm
  rw [ho] at ho'; cases ho'
  exact ⟨_,es',ep',hL,r'⟩) hok hg
theorem Inv.turned {t':Nat} {it:Addr} (I:Inv X pins σ H s) (k:∀ b o,b ≠ it->s.heap.get? b = some o->h'.get? b = some o) (hn:H it = none) (hL:it ≠ X.env.locals)
  (h1:it ∈ X.ex\/X.s₀.heap.objs.size <= it) (h2:∀ x c,X.env.cells.lookup x = some c->c ≠ it) (h3:∀ p ∈ X.pn ++ pins,p.1 ≠ it):Inv X pins σ H { s with heap:=h',toks:=t' }:=by
 have nit:∀ b u,H b = some u->b ≠ it:=fun b u e z=>by rw [z,hn] at e; cases e
 refine I.step (g':=s.gens) (d':=s.drawn) (ch:=[it]) (fun b hb=>?_) (fun b o _ _ hc e _=>k b o (fun z=>hc (by simp [z])) e) (fun b o _ _ hc e _=>⟨o.slots,k b o (fun z=>hc (by simp [z])) e⟩) (fun _ _ _ _ n=>n)
  (fun b o hc e=>⟨o,k b o (fun z=>hc (by simp [z])) e⟩) (fun _ _ e=>e) (fun _ _ _ e=>e) (fun b ps e=>⟨#[],by rw [e]; simp⟩) (fun m hm=>?_) (fun b u e=>?_) I.bare
 ·have e:b = it:=by simpa using hb
  subst e
  exact ⟨h1,hL,h2,h3⟩
 ·obtain ⟨o,es,ep,ho,r⟩:=hm
  exact ⟨o,es,ep,k _ o (Ne.symm hL) ho,r⟩
 ·refine (I.hok b u e).stay (fun c v hc q=>k c v ?_ q) (fun _ q=>q) fun _ _ q=>q
  rcases hc with z | z
  ·rw [z]; exact nit b u e
  ·exact nit c _ z
theorem Inv.tok (I:Inv X pins σ H s) (t:Nat):Inv X pins σ H { s with toks:=t }:=I.un (h':=s.heap) (t':=t) Un.refl I.hok
theorem Inv.kept {t':Nat} (I:Inv X pins σ H s) (k:∀ b u,s.heap.get? b = some u->h'.get? b = some u):Inv X pins σ H { s with heap:=h',toks:=t' }:=I.un (Un.kept k) (I.hok.kept k)
theorem Inv.laid {a:Addr} {o:HO} {t':Nat} (I:Inv X pins σ H s) (k:∀ b u,s.heap.get? b = some u->h'.get? b = some u) (hp:s.heap.objs.size <= a) (new:ObjOk X.prog X.w (upd H a o) h' a o) :
  Inv X pins σ (upd H a o) { s with heap:=h',toks:=t' }:=I.un (Un.laid k hp (I.hok.fresh hp)) (I.hok.laid k hp new)
theorem Inv.write {x e:Addr} {o:HO} {t':Nat} (I:Inv X pins σ H s) (mu:Mut (H x)) (he:e = x\/H e = some (.own x)) (k:∀ b u,b ≠ e->s.heap.get? b = some u->h'.get? b = some u) (heo:∃ u,h'.get? e = some u)
  (new:ObjOk X.prog X.w (upd H x o) h' x o):Inv X pins σ (upd H x o) { s with heap:=h',toks:=t' }:=I.un (Un.write mu he k heo) (I.hok.write mu he k heo new)
theorem Inv.weak {σ':List (Option V)} (I:Inv X pins σ H s) (hl:σ'.length = σ.length) (w:∀ (i:Nat) v,σ'[i]? = some (some v)->σ[i]? = some (some v)):Inv X pins σ' H s :=
 ⟨I.ok,I.os,I.bare,I.base,let ⟨m,hn,hl'⟩:=I.loc; ⟨m,hn,fun i x v e1 e2 e3=>hl' i x v e1 (w i v e2) e3⟩,I.cell,I.free,I.freeC,I.pin,I.hok,hl.trans I.len⟩
theorem Inv.pins_of {pins':List (Addr × Obj)} (I:Inv X pins σ H s) (h:∀ p ∈ pins',s.heap.get? p.1 = some p.2/\H p.1 = none/\p.1 ≠ X.env.locals/\p.1 ∉ X.fs/\∀ v,p.2.data ≠ .cell v):Inv X pins' σ H s :=
 ⟨I.ok,I.os,I.bare,I.base,I.loc,I.cell,I.free,I.freeC,fun p hp=>(mem_append.mp hp).elim (fun z=>I.pin p (mem_append_left _ z)) (h p),I.hok,I.len⟩
theorem Aaq {N:List Str} (hN:N.Nodup) {i j:Nat} {x:Str} (a:N[i]? = some x) (b:N[j]? = some x):i = j:=by
 obtain ⟨h1,e1⟩:=List.getElem?_eq_some_iff.mp a
 obtain ⟨h2,e2⟩:=List.getElem?_eq_some_iff.mp b
 exact (List.getElem_inj hN).mp (e1.trans e2.symm)
theorem Yu {M:Model} {A:Around} {E:Value->Shared->Prop} {i:Nat} {x:Str} {v:V} {u:Value} {Q:Unit->Shared->Prop} (I:Inv X pins σ H s) (hN:X.N.Nodup) (hi:X.N[i]? = some x) (hx:Loc X.env.scope x) (r:RelV v u)
  (h:∀ s',Inv X pins (σ.set i (some v)) H s'->(∃ a,SameBut a s.heap s'.heap/\(a = X.env.locals\/X.env.cells.lookup x = some a))->Q () s') (hf:X.fn x = true\/X.env.scope.names.lookup x = some .local:=by first | exact .inl rfl | exact .inr rfl | assumption):wpAny M A (storeName X.env x u) Q E s:=by
 obtain ⟨m,hn,hl⟩:=id I.loc
 have hcls:(X.env.scope.kind == .class || (X.env.scope.kind == .module && X.env.locals != X.env.globals)) = false:=by rw [I.ok.kind]; rfl
 have hiσ:i < σ.length:=by rw [I.len]; exact (List.getElem?_eq_some_iff.mp hi).1
 have cne:=I.cne
 have tracked:∀ {a:Addr} {h':Heap},(∃ o,s.heap.get? a = some o/\H a = none)->SameBut a s.heap h'->HOk X.prog X.w H h':=fun {a h'} ha hs b ob e=>by
  obtain ⟨_,_,hfree⟩:=ha
  refine (I.hok b ob e).stay (fun c w' hc q=>(hs.2 c ?_).trans q) (fun _ q=>q) fun _ _ q=>q
  rintro rfl
  rcases hc with rfl | hc
  ·rw [hfree] at e; cases e
  ·rw [hfree] at hc; cases hc
 rcases hx with hk | hk
 ·refine wpAny_storeName_local hk hn (fun h' hn' hs=>?_) hcls
  obtain ⟨oL,_,_,hoL,_⟩:=id hn
  refine h _ ⟨I.ok,I.os,I.bare,⟨fun b o e n hb hx=>?_,fun b o e n hb hx=>?_,I.base.free,fun b o e hx=>?_,I.base.tups,I.base.frzs,I.base.tbls⟩,⟨_,hn',fun j y v' e1 e2 e3=>?_⟩,fun y c e=>?_,I.free,I.freeC,fun p hp=>?_,tracked ⟨oL,hoL,I.free⟩ hs,by simpa using I.len⟩ ⟨_,hs,.inl rfl⟩
  ·exact (hs.2 b (ne_of_lt (Nat.lt_of_lt_of_le (lt_size e) I.ok.above))).trans (I.base.keep b o e n hb hx)
  ·obtain ⟨sl,e1⟩:=I.base.slot b o e n hb hx
   exact ⟨sl,(hs.2 b (ne_of_lt (Nat.lt_of_lt_of_le (lt_size e) I.ok.above))).trans e1⟩
  ·obtain ⟨o',e1⟩:=I.base.there b o e hx
   exact ⟨o',(hs.2 b (ne_of_lt (Nat.lt_of_lt_of_le (lt_size e) I.ok.above))).trans e1⟩
  ·by_cases hj:j = i
   ·subst hj
    rw [hi] at e1; cases e1
    rw [getElem?_set_self hiσ] at e2
    cases e2
    exact ⟨u,r,.inl ⟨hk,by simp⟩⟩
   ·rw [getElem?_set_ne (Ne.symm hj)] at e2
    obtain ⟨u',r',q⟩:=hl j y v' e1 e2 e3
    refine ⟨u',r',?_⟩
    rcases q with ⟨k,e⟩ | ⟨k,c,e,z⟩
    ·refine .inl ⟨k,?_⟩
     have:y ≠ x:=fun e=>hj (Aaq hN e1 (e ▸ hi))
     simp [this,e]
    ·exact .inr ⟨k,c,e,z.sameBut hs (cne y c e)⟩
  ·obtain ⟨w',z⟩:=I.cell y c e
   exact ⟨w',z.sameBut hs (cne y c e)⟩
  ·obtain ⟨e,n,ne,nf,d⟩:=I.pin p hp
   exact ⟨(hs.2 p.1 ne).trans e,n,ne,nf,d⟩
 ·have hfn:X.fn x = true:=by
   rcases hf with z | z
   ·exact z
   ·rw [z] at hk; cases hk
  obtain ⟨c,hc⟩:=I.ok.has x (.inl hk)
  obtain ⟨w',z⟩:=I.cell x c hc
  refine wpAny_storeName_cell I.ok.kind hk hc z (fun h' hc' hs=>?_)
  obtain ⟨oc,hoc,hocd⟩:=id z
  refine h { s with heap:=h' } ⟨I.ok,I.os,I.bare,⟨fun b o e n hb hx=>?_,fun b o e n hb hx=>?_,I.base.free,fun b o e hx=>?_,I.base.tups,I.base.frzs,I.base.tbls⟩,⟨m,hn.sameBut hs (Ne.symm (cne x c hc)),fun j y v' e1 e2 e3=>?_⟩,fun y c' e=>?_,I.free,I.freeC,fun p hp=>?_,tracked ⟨oc,hoc,I.freeC x c hc⟩ hs,by simpa using I.len⟩ ⟨c,hs,.inr hc⟩
  ·exact (hs.2 b (ne_of_lt (Nat.lt_of_lt_of_le (lt_size e) (I.ok.cab x c hfn hc)))).trans (I.base.keep b o e n hb hx)
  ·obtain ⟨sl,e1⟩:=I.base.slot b o e n hb hx
   exact ⟨sl,(hs.2 b (ne_of_lt (Nat.lt_of_lt_of_le (lt_size e) (I.ok.cab x c hfn hc)))).trans e1⟩
  ·obtain ⟨o',e1⟩:=I.base.there b o e hx
   exact ⟨o',(hs.2 b (ne_of_lt (Nat.lt_of_lt_of_le (lt_size e) (I.ok.cab x c hfn hc)))).trans e1⟩
  ·by_cases hj:j = i
   ·subst hj
    rw [hi] at e1; cases e1
    rw [getElem?_set_self hiσ] at e2
    cases e2
    exact ⟨u,r,.inr ⟨.inl hk,c,hc,hc'⟩⟩
   ·rw [getElem?_set_ne (Ne.symm hj)] at e2
    obtain ⟨u',r',q⟩:=hl j y v' e1 e2 e3
    refine ⟨u',r',?_⟩
    rcases q with q | ⟨k,c',e,z'⟩
    ·exact .inl q
    ·refine .inr ⟨k,c',e,z'.sameBut hs ?_⟩
     rintro rfl
     exact hj (Aaq hN e1 (I.ok.inj _ _ _ e hc ▸ hi))
  ·by_cases hcc:c' = c
   ·subst hcc; exact ⟨_,hc'⟩
   ·obtain ⟨w2,z2⟩:=I.cell y c' e
    exact ⟨w2,z2.sameBut hs hcc⟩
  ·obtain ⟨e,n,ne,nf,d⟩:=I.pin p hp
   refine ⟨(hs.2 p.1 ?_).trans e,n,ne,nf,d⟩
   intro q
   rw [q,hoc] at e
   have q':oc = p.2:=Option.some.inj e
   exact d w' (by rw [<- q']; exact hocd)
theorem Wb {M:Model} {A:Around} {E:Value->Shared->Prop} {i:Nat} {x:Str} {v:V} {u:Value} {Q:Unit->Shared->Prop} (I:Inv X pins σ H s) (hN:X.N.Nodup) (hi:X.N[i]? = some x) (hx:Loc X.env.scope x) (r:RelV v u)
  (h:∀ s',Inv X pins (σ.set i (some v)) H s'->Q () s') (hf:X.fn x = true\/X.env.scope.names.lookup x = some .local:=by first | exact .inl rfl | exact .inr rfl | assumption):wpAny M A (storeName X.env x u) Q E s :=
 Yu I hN hi hx r (fun s' I' _=>h s' I') hf
end
abbrev XK:=Value->Option Addr->Hp->Prop
abbrev St:=List (Option V)
abbrev VK:=V->Hp->Prop
abbrev TE:=St->Hp->VK->Prop
abbrev TT:=St->Hp->(Bool->Hp->Prop)->Prop
abbrev TA:=St->Hp->(List V->Hp->Prop)->Prop
structure Ends where
 nx:St->Hp->Prop
 rt:VK
 bk:St->Hp->Prop:=fun _ _=>False
 ct:St->Hp->Prop:=fun _ _=>False
abbrev TS:=Ends->St->Hp->Prop
def EP (X:Cx) (pins:List (Addr × Obj)) (σ:St) (Q:VK) (u:Value) (s':Shared):Prop:=∃ v H',Inv X pins σ H' s'/\RelV v u/\Q v H'
def TP (X:Cx) (pins:List (Addr × Obj)) (σ:St) (Q:Bool->Hp->Prop) (b:Bool) (s':Shared):Prop:=∃ H',Inv X pins σ H' s'/\Q b H'
def AP (X:Cx) (pins:List (Addr × Obj)) (σ:St) (Q:List V->Hp->Prop) (us:List Value) (s':Shared):Prop:=∃ vs H',Inv X pins σ H' s'/\Vals vs us/\Q vs H'
def SP (X:Cx) (pins:List (Addr × Obj)) (D:Ends) (f:Flow) (s':Shared):Prop :=
 match f with
 | .next=>∃ σ' H',Inv X pins σ' H' s'/\D.nx σ' H'
 | .brk=>∃ σ' H',Inv X pins σ' H' s'/\D.bk σ' H'
 | .cont=>∃ σ' H',Inv X pins σ' H' s'/\D.ct σ' H'
 | .ret u=>∃ v σ' H',Inv X pins σ' H' s'/\RelV v u/\D.rt v H'
def PE (X:Cx) (e:Expr) (t:TE):Prop :=
 ∀ (pins:List (Addr × Obj)) (s:Shared) (σ:St) (H:Hp) (Q:VK),Inv X pins σ H s->t σ H Q->wpAny (model X.prog X.w) X.A (eval e X.env) (EP X pins σ Q) X.xe s
def PT (X:Cx) (e:Expr) (t:TT):Prop :=
 ∀ (pins:List (Addr × Obj)) (s:Shared) (σ:St) (H:Hp) (Q:Bool->Hp->Prop),Inv X pins σ H s->t σ H Q->wpAny (model X.prog X.w) X.A (isTrue e X.env (eval e X.env)) (TP X pins σ Q) X.xe s
def PW (X:Cx) (e:Expr) (t:TT):Prop :=
 ∀ (whole:Sem Value) (pins:List (Addr × Obj)) (s:Shared) (σ:St) (H:Hp) (Q:Bool->Hp->Prop),Inv X pins σ H s->t σ H Q->wpAny (model X.prog X.w) X.A (isTrue e X.env whole) (TP X pins σ Q) X.xe s
theorem PW.pt {X:Cx} {e:Expr} {t:TT} (h:PW X e t):PT X e t:=h _
def PA (X:Cx) (es:List Expr) (t:TA):Prop :=
 ∀ (pos:Pos) (pins:List (Addr × Obj)) (s:Shared) (σ:St) (H:Hp) (Q:List V->Hp->Prop),Inv X pins σ H s->t σ H Q->wpAny (model X.prog X.w) X.A (spliced (backTo pos (starEach es X.env))) (AP X pins σ Q) X.xe s
def PS (X:Cx) (st:Stmt) (t:TS):Prop :=
 ∀ (pins:List (Addr × Obj)) (s:Shared) (σ:St) (H:Hp) (D:Ends),Inv X pins σ H s->t D σ H->wpAny (model X.prog X.w) X.A (exec st X.env) (SP X pins D) X.xe s
def PSs (X:Cx) (st:List Stmt) (t:TS):Prop :=
 ∀ (pins:List (Addr × Obj)) (s:Shared) (σ:St) (H:Hp) (D:Ends),Inv X pins σ H s->t D σ H->wpAny (model X.prog X.w) X.A (execs st X.env) (SP X pins D) X.xe s
theorem thn {α:Type} {t:Sem α} {Q Q':α->Shared->Prop} {M:Model} {A:Around} {E:Value->Shared->Prop} {s:Shared} (h:wpAny M A t Q E s) (hQ:∀ a s,Q a s->Q' a s):wpAny M A t Q' E s:=wpAny_mono h hQ fun _ _ x=>x
end L2
namespace L2
open PySem PySem.Spec PyProof.Rows
section
variable {X:Cx}
def Fk (i:Nat):TE:=fun σ H Q=>∃ v,σ[i]? = some (some v)/\Q v H
def tC (v:V):TE:=fun _ H Q=>Q v H
theorem AkJ {i:Nat} {x:Str} {pos:Pos} (hN:X.N[i]? = some x) (hv:Vis X.env.scope x) (hd:(x == ("__debug__" : Str)) = false:=by decide) (hcd:(x == ("__classdict__" : Str)) = false:=by decide):PE X (.Name x pos) (Fk i):=by
 intro pins s σ H Q I h
 obtain ⟨v,e,h⟩:=h
 obtain ⟨m,hn,hl⟩:=I.loc
 obtain ⟨u,r,l⟩:=hl i x v hN e hv
 have fin:EP X pins σ Q u s:=⟨v,H,I,r,h⟩
 rcases l with ⟨hk,hm⟩ | ⟨hk,c,hc,hcell⟩
 ·exact wpAny_Name (wpAny_loadName_local I.ok.kind hk hn hm fin) hd
 ·rcases hk with hk | hk
  ·exact wpAny_Name (wpAny_loadName_cell I.ok.kind hk hc hcell fin) hd
  ·exact wpAny_Name (wpAny_loadName_free I.ok.kind hk hc hcell fin hcd) hd
theorem Be {i j pos}:PE X (.Constant (.int i) j pos) (tC (.int i)):=fun _ _ _ H _ I h=>wpAny_Constant_int ⟨.int i,H,I.tok _,⟨_,rfl⟩,h⟩
theorem Zu {b j pos}:PE X (.Constant (.bool b) j pos) (tC (.bl b)):=fun _ _ _ H _ I h=>Constant_bool ⟨.bl b,H,I,rfl,h⟩
theorem Rr {j pos}:PE X (.Constant .none j pos) (tC .non):=fun _ _ _ H _ I h=>Constant_none ⟨.non,H,I,rfl,h⟩
theorem Bx {x j pos}:PE X (.Constant (.str x) j pos) (tC (.str x)):=fun _ _ _ H _ I h=>Calls.Constant_str ⟨.str x,H,I.tok _,⟨_,rfl⟩,h⟩
def Gl (X:Cx) (x:Str):Prop:=X.env.kindOf x = some .globalImplicit
theorem Xv {E:Value->Shared->Prop} {pins:List (Addr × Obj)} {s:Shared} {σ:St} {H:Hp} {x:Str} {u:Value} {pos:Pos} {Q:Value->Shared->Prop} (I:Inv X pins σ H s) (hg:Gl X x) (hm:X.mg x = some u) (h:Q u s)
  (hd:(x == ("__debug__" : Str)) = false:=by decide):wpAny (model X.prog X.w) X.A (eval (.Name x pos) X.env) Q E s :=
 Calls.Name_function_global I.ok.kind hg (Calls.loadGlobal_global (by rw [I.ok.glob]; exact I.mod.glob.keeps I.bk) hm h) hd
theorem Gj {E:Value->Shared->Prop} {pins:List (Addr × Obj)} {s:Shared} {σ:St} {H:Hp} {x:Str} {u:Value} {pos:Pos} {Q:Value->Shared->Prop} (I:Inv X pins σ H s) (hg:Gl X x) (hm:X.mg x = none) (hv:bootBuiltins x = some u) (h:Q u s)
  (hn:x ≠ "__name__":=by decide) (hd:(x == ("__debug__" : Str)) = false:=by decide):wpAny (model X.prog X.w) X.A (eval (.Name x pos) X.env) Q E s:=by
 obtain ⟨mb,h1,h2⟩:=I.mod.blt
 exact Calls.Name_function_global I.ok.kind hg (Calls.loadGlobal_builtin (by rw [I.ok.glob]; exact I.mod.glob.keeps I.bk) hm (by rw [I.ok.blt]; exact h1.keeps I.bk) ((h2 x hn).trans hv) h) hd
theorem Qd {x:Str} {v:V} {u:Value} {pos:Pos} (hg:Gl X x) (hm:X.mg x = some u) (r:RelV v u) (hd:(x == ("__debug__" : Str)) = false:=by decide):PE X (.Name x pos) (tC v) :=
 fun _ _ _ H _ I h=>Xv I hg hm ⟨v,H,I,r,h⟩ hd
theorem Jh {x:Str} {v:V} {u:Value} {pos:Pos} (hg:Gl X x) (hm:X.mg x = none) (hv:bootBuiltins x = some u) (r:RelV v u) (hn:x ≠ "__name__":=by decide) (hd:(x == ("__debug__" : Str)) = false:=by decide):PE X (.Name x pos) (tC v) :=
 fun _ _ _ H _ I h=>Gj I hg hm hv ⟨v,H,I,r,h⟩ hn hd
variable {a b:Expr} {ta tb:TE} {pos:Pos}
def PC (X:Cx) (op:CmpOp) (a b:Expr) (t:TE):Prop :=
 ∀ (pins:List (Addr × Obj)) (s:Shared) (σ:St) (H:Hp) (Q:VK),Inv X pins σ H s->t σ H Q ->
  wpAny (model X.prog X.w) X.A (eval a X.env) (fun v s₁=>wpAny (model X.prog X.w) X.A (eval b X.env) (fun u s₂=>wpAny (model X.prog X.w) X.A (compareOp op v u) (EP X pins σ Q) X.xe s₂) X.xe s₁) X.xe s
theorem Aax (b:Expr) {op:CmpOp} (h:op ≠ .In) (h2:op ≠ .NotIn):behindInMarks op b = false:=by
 have e1:(op == CmpOp.In) = false:=by cases op <;> first | rfl | exact absurd rfl h
 have e2:(op == CmpOp.NotIn) = false:=by cases op <;> first | rfl | exact absurd rfl h2
 cases b <;> simp [behindInMarks,e1,e2]
def Ai8 (ta:TE):TE:=fun σ H Q=>ta σ H fun x H1=>Q (.bl (decide (x = .non))) H1
def Ahw (ta:TE):TE:=fun σ H Q=>ta σ H fun x H1=>Q (.bl (!decide (x = .non))) H1
theorem RelV.none_iff {x:V} {v:Value} (r:RelV x v):(v == Value.none) = decide (x = .non):=by
 cases x with
 | non=>cases r; rfl
 | bl _=>cases r; rfl
 | int _=>obtain ⟨t,rfl⟩:=r; rfl
 | str _=>obtain ⟨t,rfl⟩:=r; rfl
 | byt _=>obtain ⟨t,rfl⟩:=r; rfl
 | flt _=>obtain ⟨t,rfl⟩:=r; rfl
 | ref _=>cases r; rfl
 | ty _=>cases r; rfl
theorem Qf {j pos'} (ha:PE X a ta):PC X .Is a (.Constant .none j pos') (Ai8 ta):=by
 intro pins s σ H Q I h
 refine thn (ha pins s σ H _ I h) fun v s1 ⟨x,H1,I1,r1,q1⟩=>?_
 exact Constant_none (is_none_gen ⟨.bl _,H1,I1,by rw [r1.none_iff]; rfl,q1⟩)
theorem Ox {j pos'} (ha:PE X a ta):PC X .IsNot a (.Constant .none j pos') (Ahw ta):=by
 intro pins s σ H Q I h
 refine thn (ha pins s σ H _ I h) fun v s1 ⟨x,H1,I1,r1,q1⟩=>?_
 exact Constant_none (isnot_none_gen ⟨.bl _,H1,I1,by rw [r1.none_iff]; rfl,q1⟩)
def tB (t:TE):TT:=fun σ H Q=>t σ H fun x H1=>∃ c,x = .bl c/\Q c H1
theorem Us {op:CmpOp} {t:TE} (h:PC X op a b t) (h1:behindInMarks op b = false:=by first | exact Aax _ (by decide) (by decide) | rfl):PE X (.Compare a [op] [b] pos) t:=fun pins s σ H Q I hw=>wpAny_Compare1 (h pins s σ H Q I hw) h1
theorem Gb {op:CmpOp} {t:TE} (h:PC X op a b t) (h1:behindInMarks op b = false:=by first | exact Aax _ (by decide) (by decide) | rfl):PT X (.Compare a [op] [b] pos) (tB t):=by
 intro pins s σ H Q I hw
 refine wpAny_isTrue_Compare1 (thn (h pins s σ H _ I hw) fun v s1 h1=>thn h1 fun u s2 h2=>thn h2 fun c s3 ⟨x,H1,I1,r1,q1⟩=>?_) h1
 obtain ⟨d,rfl,q⟩:=q1
 cases r1
 exact wpAny_truthy_bool ⟨H1,I1,q⟩
theorem Lx {e:Expr} {t:TE} (h:PE X e t) (he:∀ whole,isTrue e X.env whole = (do let v <- whole; standAt e.pos; holding [v] (truthy v)):=by intro _; rfl):PT X e (tB t):=by
 intro pins s σ H Q I hw
 refine isTrue_plain (thn (h pins s σ H _ I hw) fun v s1 ⟨x,H1,I1,r1,q1⟩=>?_) (he _)
 obtain ⟨d,rfl,q⟩:=q1
 cases r1
 exact wpAny_truthy_bool ⟨H1,I1,q⟩
variable {tA tB':TT} {rest:List Expr}
def Ai6 (t u:TT):TT:=fun σ H Q=>t σ H fun c H1=>if c = true then u σ H1 Q else Q false H1
def tOr (t u:TT):TT:=fun σ H Q=>t σ H fun c H1=>if c = true then Q true H1 else u σ H1 Q
def AfI (t:TT):TT:=fun σ H Q=>t σ H fun c H1=>Q (!c) H1
theorem Lf (ha:PT X a tA):PW X (.BoolOp .And [a] pos) tA:=by
 intro wh pins s σ H Q I h
 refine isTrue_and (thn (ha pins s σ H Q I h) fun c s1 e=>?_)
 cases c with
 | true=>exact isTrue_and_nil e
 | false=>exact e
theorem Qq (ha:PT X a tA):PW X (.BoolOp .Or [a] pos) tA:=by
 intro wh pins s σ H Q I h
 refine isTrue_or (thn (ha pins s σ H Q I h) fun c s1 e=>?_)
 cases c with
 | false=>exact isTrue_or_nil e
 | true=>exact e
theorem Qv (ha:PT X a tA) (hb:PW X (.BoolOp .And (b :: rest) pos) tB'):PW X (.BoolOp .And (a :: b :: rest) pos) (Ai6 tA tB'):=by
 intro wh pins s σ H Q I h
 refine isTrue_and (thn (ha pins s σ H _ I h) fun c s1 ⟨H1,I1,q1⟩=>?_)
 cases c with
 | true=>exact hb wh pins s1 σ H1 Q I1 q1
 | false=>exact ⟨H1,I1,q1⟩
theorem Rn (ha:PT X a tA) (hb:PW X (.BoolOp .Or (b :: rest) pos) tB'):PW X (.BoolOp .Or (a :: b :: rest) pos) (tOr tA tB'):=by
 intro wh pins s σ H Q I h
 refine isTrue_or (thn (ha pins s σ H _ I h) fun c s1 ⟨H1,I1,q1⟩=>?_)
 cases c with
 | true=>exact ⟨H1,I1,q1⟩
 | false=>exact hb wh pins s1 σ H1 Q I1 q1
theorem Qk (ha:PT X a tA):PT X (.UnaryOp .Not a pos) (AfI tA):=by
 intro pins s σ H Q I h
 exact isTrue_not (ha pins s σ H (fun c H1=>Q (!c) H1) I h)
def AcU (ta tb:TE):TE:=fun σ H Q=>ta σ H fun x H1=>∃ c,x = .bl c/\if c = true then tb σ H1 Q else Q (.bl false) H1
def Ach (ta:TE):TE:=fun σ H Q=>ta σ H fun x H1=>∃ c,x = .bl c/\Q (.bl (!c)) H1
theorem Qw {op} {t:TE} (h:PE X a t):PE X (.BoolOp op [a] pos) t:=fun pins s σ H Q I hw=>BoolOp_one (h pins s σ H Q I hw)
theorem Lu (ha:PE X a ta) (hb:PE X (.BoolOp .And (b :: rest) pos) tb):PE X (.BoolOp .And (a :: b :: rest) pos) (AcU ta tb):=by
 intro pins s σ H Q I h
 refine BoolOp_and (thn (ha pins s σ H _ I h) fun v s1 ⟨x,H1,I1,r1,q1⟩=>?_)
 obtain ⟨c,rfl,q1⟩:=q1
 cases r1
 refine wpAny_truthy_bool ?_
 cases c with
 | true=>exact hb pins s1 σ H1 Q I1 q1
 | false=>exact ⟨.bl false,H1,I1,rfl,q1⟩
theorem AeU (ha:PE X a ta):PE X (.UnaryOp .Not a pos) (Ach ta):=by
 intro pins s σ H Q I h
 refine UnaryOp_ (thn (ha pins s σ H _ I h) fun v s1 ⟨x,H1,I1,r1,q1⟩=>?_)
 obtain ⟨c,rfl,q1⟩:=q1
 cases r1
 exact not_of (wpAny_truthy_bool ⟨.bl (!c),H1,I1,rfl,q1⟩)
def tIf (t:TT) (ta tb:TE):TE:=fun σ H Q=>t σ H fun c H1=>if c = true then ta σ H1 Q else tb σ H1 Q
theorem Gi {c:Expr} (hc:PT X c tA) (ha:PE X a ta) (hb:PE X b tb):PE X (.IfExp c a b pos) (tIf tA ta tb):=by
 intro pins s σ H Q I h
 refine wpAny_IfExp (thn (hc pins s σ H _ I h) fun d s1 ⟨H1,I1,q1⟩=>?_)
 cases d with
 | true=>exact ha pins s1 σ H1 Q I1 q1
 | false=>exact hb pins s1 σ H1 Q I1 q1
end
end L2
namespace L2
open PySem PySem.Spec PyProof.Rows
def SqL (K:Frag) (H:Hp) (a:Addr) (xs:List V):Prop :=
 Rd H a (.lst xs) \/
  ∃ (o:Obj) (its:Array Value) (n:Nat),K.lookup a = some o/\o.cls = .type "list"/\o.dict = none/\o.data = .seq its n/\its.size <= sizeLine/\Vals xs its.toList
def SqT (K:Frag) (H:Hp) (a:Addr) (xs:List V):Prop :=
 Rd H a (.tup xs) \/
  ∃ (o:Obj) (its:Array Value) (n:Nat),K.lookup a = some o/\o.cls = .type "tuple"/\o.data = .seq its n/\its.size <= sizeLine/\Vals xs its.toList
def AnH:Value->Option V
 | .none=>some .non
 | .bool b=>some (.bl b)
 | .int i _=>some (.int i)
 | .str x _=>some (.str x)
 | .bytes b _=>some (.byt b)
 | .float b _=>some (.flt b)
 | .ref a=>some (.ref a)
 | .type n=>some (.ty n)
 | _=>none
theorem RelV.abs {x:V} {u:Value} (r:RelV x u):AnH u = some x:=by
 cases x with
 | non=>cases r; rfl
 | bl _=>cases r; rfl
 | int _=>obtain ⟨t,rfl⟩:=r; rfl
 | str _=>obtain ⟨t,rfl⟩:=r; rfl
 | byt _=>obtain ⟨t,rfl⟩:=r; rfl
 | flt _=>obtain ⟨t,rfl⟩:=r; rfl
 | ref _=>cases r; rfl
 | ty _=>cases r; rfl
theorem RelV.inj {x y:V} {u:Value} (r:RelV x u) (q:RelV y u):x = y:=Option.some.inj (r.abs.symm.trans q.abs)
theorem Vals.inj:∀ {xs ys:List V} {us:List Value},Vals xs us->Vals ys us->xs = ys
 | _,_,_,.nil,.nil=>rfl
 | _,_,_,.cons r t,.cons r' t'=>by rw [r.inj r',Vals.inj t t']
section
variable {X:Cx} {pins:List (Addr × Obj)} {σ:St} {H:Hp} {s:Shared} {a:Addr} {xs ys:List V}
theorem SqL.of {K:Frag} (h:H a = some (.lst xs)):SqL K H a xs:=.inl (.inl h)
theorem SqT.of {K:Frag} (h:H a = some (.tup xs)):SqT K H a xs:=.inl (.inl h)
theorem Inv.list (I:Inv X pins σ H s) (h:SqL X.K H a xs):∃ its:List Value,Vals xs its/\PlainL s.heap a its.toArray/\xs.length <= sizeLine:=by
 rcases h with h | ⟨o,its,n,hk,hc,hd,hs,hz,r⟩
 ·obtain ⟨z,its,n,r,e⟩:=h.ok I.hok
  exact ⟨its,r,⟨_,n,e,rfl,rfl,rfl⟩,z⟩
 ·refine ⟨its.toList,r,⟨o,n,I.kIn a o hk,hc,hd,by simpa using hs⟩,?_⟩
  have e:=r.length
  simp only [Array.length_toList] at e
  omega
theorem Inv.tuple (I:Inv X pins σ H s) (h:SqT X.K H a xs):∃ its:List Value,Vals xs its/\IsTup s.heap a its.toArray/\xs.length <= sizeLine:=by
 rcases h with h | ⟨o,its,n,hk,hc,hs,hz,r⟩
 ·obtain ⟨z,its,r,p⟩:=h.ok I.hok
  exact ⟨its,r,p,z⟩
 ·refine ⟨its.toList,r,⟨o,I.kIn a o hk,hc,n,by simpa using hs⟩,?_⟩
  have e:=r.length
  simp only [Array.length_toList] at e
  omega
theorem Inv.list_inj (I:Inv X pins σ H s) (h:SqL X.K H a xs) (h':SqL X.K H a ys):xs = ys:=by
 obtain ⟨its,r,⟨o,n,e,_,_,d⟩,_⟩:=I.list h
 obtain ⟨its',r',⟨o',n',e',_,_,d'⟩,_⟩:=I.list h'
 rw [e] at e'; cases e'
 rw [d] at d'
 injection d' with d1 _
 have:its = its':=by simpa using congrArg Array.toList d1
 subst this
 exact r.inj r'
end
abbrev Cx.wish (X:Cx) (E:Value->Shared->Prop):Cx:={ X with xe:=E }
abbrev Cx.nox (X:Cx):Cx:=X.wish fun _ _=>False
theorem Cx.Ok.wish {X:Cx} (ok:X.Ok) (E:Value->Shared->Prop):(X.wish E).Ok :=
 ⟨ok.mod,ok.kind,ok.glob,ok.blt,ok.above,ok.inj,ok.has,ok.cab,ok.hd,ok.frames,ok.stk,ok.exf,ok.bs,ok.bsz,ok.noex,ok.exfs,ok.funs,ok.frf⟩
theorem Cx.Ok.unwish {X:Cx} {E:Value->Shared->Prop} (ok:(X.wish E).Ok):X.Ok :=
 ⟨ok.mod,ok.kind,ok.glob,ok.blt,ok.above,ok.inj,ok.has,ok.cab,ok.hd,ok.frames,ok.stk,ok.exf,ok.bs,ok.bsz,ok.noex,ok.exfs,ok.funs,ok.frf⟩
section
variable {X:Cx} {pins:List (Addr × Obj)} {σ:St} {H:Hp} {s:Shared} {E:Value->Shared->Prop}
theorem Inv.wish (I:Inv X pins σ H s) (E:Value->Shared->Prop):Inv (X.wish E) pins σ H s:=⟨I.ok.wish E,I.os,I.bare,I.base,I.loc,I.cell,I.free,I.freeC,I.pin,I.hok,I.len⟩
theorem Inv.unwish (I:Inv (X.wish E) pins σ H s):Inv X pins σ H s:=⟨I.ok.unwish,I.os,I.bare,I.base,I.loc,I.cell,I.free,I.freeC,I.pin,I.hok,I.len⟩
theorem SP.unwish {D:Ends} {f:Flow} {s':Shared} (h:SP (X.wish E) pins D f s'):SP X pins D f s':=by
 cases f with
 | next=>obtain ⟨σ',H',I,q⟩:=h; exact ⟨σ',H',I.unwish,q⟩
 | brk=>obtain ⟨σ',H',I,q⟩:=h; exact ⟨σ',H',I.unwish,q⟩
 | cont=>obtain ⟨σ',H',I,q⟩:=h; exact ⟨σ',H',I.unwish,q⟩
 | ret u=>obtain ⟨v,σ',H',I,r,q⟩:=h; exact ⟨v,σ',H',I.unwish,r,q⟩
theorem PSs.nox {st:List Stmt} {t:TS} (h:PSs X.nox st t):PSs X st t:=fun pins s σ H D I hw =>
 wpAny_mono (h pins s σ H D (I.wish _) hw) (fun _ _ q=>q.unwish) fun _ _ z=>False.elim z
end
section
variable {X:Cx} {st:Stmt} {rest:List Stmt} {t u:TS} {e:Expr} {te:TE} {pos:Pos}
def Acc:TS:=fun D σ H=>D.nx σ H
def Xt (t u:TS):TS:=fun D σ H=>t { D with nx:=u D } σ H
theorem Cy:PSs X [] Acc:=fun _ _ σ H _ I h=>wpAny_execs_nil ⟨σ,H,I,h⟩
theorem Bf (h1:PS X st t) (h2:PSs X rest u):PSs X (st :: rest) (Xt t u):=by
 intro pins s σ H D I h
 refine wpAny_execs_cons (thn (h1 pins s σ H { D with nx:=u D } I h) fun f s1 q=>?_)
 cases f with
 | next =>
  obtain ⟨σ',H',I',q⟩:=q
  exact h2 pins s1 σ' H' D I' q
 | ret v=>exact q
 | brk=>exact q
 | cont=>exact q
theorem Bi (h1:PS X st t):PSs X [st] t:=by
 intro pins s σ H D I h
 refine wpAny_execs_cons (thn (h1 pins s σ H D I h) fun f s1 q=>?_)
 cases f with
 | next=>exact wpAny_execs_nil q
 | ret v=>exact q
 | brk=>exact q
 | cont=>exact q
theorem Inv.quiet {pins:List (Addr × Obj)} {σ:St} {H:Hp} {s:Shared} (I:Inv X pins σ H s):interactive X.env = false:=by simp [interactive,I.ok.kind]
def Wq (te:TE):TS:=fun D σ H=>te σ H fun _ H1=>D.nx σ H1
theorem Cs (he:PE X e te) (hs:swapsWith e none pos.line X.env = pure false:=by rfl):PS X (.Expr e pos) (Wq te):=by
 intro pins s σ H D I h
 exact wpAny_Expr_any (thn (he pins s σ H _ I h) fun v s1 ⟨x,H1,I1,r1,q1⟩=>⟨σ,H1,I1,q1⟩) I.quiet hs
def Xr (te:TE):TS:=fun D σ H=>te σ H D.rt
theorem Cd (he:PE X e te):PS X (.Return (some e) pos) (Xr te):=by
 intro pins s σ H D I h
 exact wpAny_Return_some (thn (he pins s σ H _ I h) fun v s1 ⟨x,H1,I1,r1,q1⟩=>⟨x,σ,H1,I1,r1,q1⟩)
def AfD (c:TT) (t u:TS):TS:=fun D σ H=>c σ H fun b H1=>if b = true then t D σ H1 else u D σ H1
theorem De {c:Expr} {a b:List Stmt} {tc:TT} (hc:PT X c tc) (ha:PSs X a t) (hb:PSs X b u):PS X (.If c a b pos) (AfD tc t u):=by
 intro pins s σ H D I h
 refine wpAny_If (thn (hc pins s σ H _ I h) fun d s1 ⟨H1,I1,q1⟩=>?_)
 cases d with
 | true=>exact ha pins s1 σ H1 D I1 q1
 | false=>exact hb pins s1 σ H1 D I1 q1
def Aef:TS:=fun _ _ _=>False
theorem Rj {sts:List Stmt}:PSs X sts Aef:=fun _ _ _ _ _ _ h=>h.elim
end
abbrev TG:=V->St->Hp->(St->Hp->Prop)->Prop
abbrev TGs:=List V->St->Hp->(St->Hp->Prop)->Prop
def PG (X:Cx) (target:Expr) (t:TG):Prop :=
 ∀ (pins:List (Addr × Obj)) (s:Shared) (σ:St) (H:Hp) (v:V) (u:Value) (Q:St->Hp->Prop),Inv X pins σ H s->RelV v u->t v σ H Q ->
  wpAny (model X.prog X.w) X.A (assign target X.env u) (fun _ s'=>∃ σ' H',Inv X pins σ' H' s'/\Q σ' H') X.xe s
def PGs (X:Cx) (ts:List Expr) (t:TGs):Prop :=
 ∀ (pins:List (Addr × Obj)) (s:Shared) (σ:St) (H:Hp) (vs:List V) (us:List Value) (Q:St->Hp->Prop),Inv X pins σ H s->Vals vs us->t vs σ H Q ->
  wpAny (model X.prog X.w) X.A (assignInOrder ((assignEach ts X.env).map (·.2)) us) (fun _ s'=>∃ σ' H',Inv X pins σ' H' s'/\Q σ' H') X.xe s
abbrev Afo:=V->V->V->Hp->(Hp->Prop)->Prop
def Afe (X:Cx) (t:Afo):Prop :=
 ∀ (pins:List (Addr × Obj)) (s:Shared) (σ:St) (H:Hp) (o i v:V) (ov iv u:Value) (Q:Hp->Prop),Inv X pins σ H s->RelV o ov->RelV i iv->RelV v u->t o i v H Q ->
  wpAny (model X.prog X.w) X.A (setItem ov iv u) (fun _ s'=>∃ H',Inv X pins σ H' s'/\Q H') X.xe s
abbrev TIp:=V->V->Hp->VK->Prop
def PIp (X:Cx) (op:Operator) (t:TIp):Prop :=
 ∀ (pins:List (Addr × Obj)) (s:Shared) (σ:St) (H:Hp) (x y:V) (v u:Value) (Q:VK),Inv X pins σ H s->RelV x v->RelV y u->t x y H Q ->
  wpAny (model X.prog X.w) X.A (inplaceOp op v u) (EP X pins σ Q) X.xe s
section
variable {X:Cx} {pos:Pos}
def Gf (i:Nat):TG:=fun v σ H Q=>Q (σ.set i (some v)) H
theorem By {i:Nat} {x:Str} (hN:X.N.Nodup) (hi:X.N[i]? = some x) (hx:Loc X.env.scope x) (hf:X.fn x = true\/X.env.scope.names.lookup x = some .local:=by first | exact .inl rfl | exact .inr rfl | assumption):PG X (.Name x pos) (Gf i):=by
 intro pins s σ H v u Q I r h
 exact wpAny_assign_Name (Wb I hN hi hx r (fun s' I'=>⟨_,H,I',h⟩) hf)
def Ab4:TGs:=fun vs σ H Q=>vs = []/\Q σ H
def Xe (t:TG) (u:TGs):TGs:=fun vs σ H Q=>∃ v r,vs = v :: r/\t v σ H fun σ' H'=>u r σ' H' Q
theorem Fh:PGs X [] Ab4:=by
 intro pins s σ H vs us Q I r h
 obtain ⟨e,h⟩:=h
 subst e
 cases r
 exact assignInOrder_nil ⟨σ,H,I,h⟩
theorem Cq {e:Expr} {es:List Expr} {t:TG} {u:TGs} (h1:PG X e t) (h2:PGs X es u)
  (hs:(assignEach (e :: es) X.env).map (·.2) = assign e X.env :: (assignEach es X.env).map (·.2):=by rfl):PGs X (e :: es) (Xe t u):=by
 intro pins s σ H vs us Q I r h
 obtain ⟨v,vr,e1,h⟩:=h
 subst e1
 cases r with
 | cons r rr =>
  rw [hs]
  refine assignInOrder_cons (thn (h1 pins s σ H _ _ _ I r h) fun _ s1 ⟨σ1,H1,I1,q1⟩=>?_)
  exact h2 pins s1 σ1 H1 _ _ Q I1 rr q1
def Xk (K:Frag) (n:Nat) (t:TGs):TG:=fun v σ H Q=>∃ a xs,v = .ref a/\SqT K H a xs/\xs.length = n/\t xs σ H Q
theorem Qp {es:List Expr} {k:Nat} {t:TGs} {n:Nat} (hc:X.calm = true) (h:PGs X es t)
  (hn:(assignEach es X.env).length = n:=by rfl) (hst:(assignEach es X.env).findIdx? (·.1) = none:=by rfl):PG X (.Tuple es k pos) (Xk X.K n t):=by
 intro pins s σ H v u Q I r hw
 obtain ⟨a,xs,e1,hq,hl,hw⟩:=hw
 subst e1
 cases r
 obtain ⟨its,rv,ht,hz⟩:=I.tuple hq
 refine assign_Tuple_tuple (I.ok.hd hc) ht (by simp [hn,<- hl,rv.length]) hst fun h' hx=>?_
 have I1:Inv X pins σ H { s with heap:=h' }:=I.kept (t':=s.toks) fun b o e=>hx b o (ne_of_lt (lt_size e)) e
 exact h pins _ σ H xs _ Q I1 (by simpa using rv) hw
def Ald (to ti:TE) (t:Afo):TG:=fun v σ H Q=>to σ H fun o H1=>ti σ H1 fun i H2=>t o i v H2 fun H3=>Q σ H3
theorem Ui {o i:Expr} {to ti:TE} {t:Afo} (ho:PE X o to) (hi:PE X i ti) (hs:Afe X t)
  (ha:∀ v,assign (.Subscript o i pos) X.env v = (do
   let ov <- holding [v] (eval o X.env)
   let iv <- holding [v,ov] (eval i X.env)
   standAt pos
   holding [v,ov,iv] (setItem ov iv v)
   release [v,ov,iv] []):=by intro _; rfl):PG X (.Subscript o i pos) (Ald to ti t):=by
 intro pins s σ H v u Q I r h
 rw [ha]
 refine wpAny_bind (wpAny_holding (thn (ho pins s σ H _ I h) fun ov s1 ⟨x,H1,I1,r1,q1⟩=>?_))
 refine wpAny_bind (wpAny_holding (thn (hi pins s1 σ H1 _ I1 q1) fun iv s2 ⟨y,H2,I2,r2,q2⟩=>?_))
 refine wpAny_bind (wpAny_standAt (wpAny_bind (wpAny_holding (thn (hs pins s2 σ H2 x y v ov iv u _ I2 r1 r2 r q2) fun _ s3 ⟨H3,I3,q3⟩=>?_))))
 exact wpAny_release ⟨σ,H3,I3,q3⟩
def Nc (te:TE) (g:TG):TS:=fun D σ H=>te σ H fun x H1=>g x σ H1 D.nx
theorem Uk {tg e:Expr} {te:TE} {g:TG} (he:PE X e te) (hg:PG X tg g) (hs:swapsWithSole [tg] e pos.line X.env = pure false:=by rfl) (hw:swappedStores [tg] e X.env = pure none:=by rfl)
  (h1:(assignEach [tg] X.env).map (·.2) = [assign tg X.env]:=by rfl):PS X (.Assign [tg] e pos) (Nc te g):=by
 intro pins s σ H D I h
 refine wpAny_Assign_stores (thn (he pins s σ H _ I h) fun v s1 ⟨x,H1,I1,r1,q1⟩=>?_) hs hw
 rw [h1]
 exact thn (hg pins s1 σ H1 x v _ I1 r1 q1) fun _ s2 q=>q
theorem Bu {i:Nat} {x:Str} {e:Expr} {te:TE} {pos':Pos} (hN:X.N.Nodup) (hi:X.N[i]? = some x) (hx:Loc X.env.scope x) (he:PE X e te) (hs:swapsWith e (some (.Name x pos')) pos.line X.env = pure false:=by rfl) (hf:X.fn x = true\/X.env.scope.names.lookup x = some .local:=by first | exact .inl rfl | exact .inr rfl | assumption) :
  PS X (.Assign [.Name x pos'] e pos) (Nc te (Gf i)):=by
 intro pins s σ H D I h
 refine wpAny_Assign_Name (thn (he pins s σ H _ I h) fun v s1 ⟨y,H1,I1,r1,q1⟩=>?_) hs
 exact Wb I1 hN hi hx r1 (fun s2 I2=>⟨_,H1,I2,q1⟩) hf
def AkH (i:Nat) (te:TE) (ti:TIp):TS:=fun D σ H=>∃ x,σ[i]? = some (some x)/\te σ H fun y H1=>ti x y H1 fun z H2=>D.nx (σ.set i (some z)) H2
theorem Aa1 {i:Nat} {x:Str} {e:Expr} {te:TE} {op:Operator} {ti:TIp} {pos':Pos} (hN:X.N.Nodup) (hi:X.N[i]? = some x) (hx:Loc X.env.scope x) (he:PE X e te) (ho:PIp X op ti) (hf:X.fn x = true\/X.env.scope.names.lookup x = some .local:=by first | exact .inl rfl | exact .inr rfl | assumption) :
  PS X (.AugAssign (.Name x pos') op e pos) (AkH i te ti):=by
 intro pins s σ H D I h
 obtain ⟨v,e1,h⟩:=h
 obtain ⟨m,hn,hl⟩:=I.loc
 have vis:Vis X.env.scope x:=by rcases hx with k | k; exact .inl k; exact .inr (.inl k)
 obtain ⟨u,r,l⟩:=hl i x v hi e1 vis
 refine wpAny_AugAssign_Name ?_
 have go:wpAny (model X.prog X.w) X.A (eval e X.env) (fun w s₂=>wpAny (model X.prog X.w) X.A (inplaceOp op u w) (fun r s₃=>wpAny (model X.prog X.w) X.A (storeName X.env x r) (fun _=>SP X pins D .next) X.xe s₃) X.xe s₂) X.xe s:=by
  refine thn (he pins s σ H _ I h) fun w s1 ⟨y,H1,I1,r1,q1⟩=>?_
  refine thn (ho pins s1 σ H1 v y u w _ I1 r r1 q1) fun z s2 ⟨zv,H2,I2,r2,q2⟩=>?_
  exact Wb I2 hN hi hx r2 (fun s3 I3=>⟨_,H2,I3,q2⟩) hf
 rcases l with ⟨hk,hm⟩ | ⟨hk,c,hc,hcell⟩
 ·exact wpAny_loadName_local I.ok.kind hk hn hm go
 ·rcases hk with hk | hk
  ·exact wpAny_loadName_cell I.ok.kind hk hc hcell go
  ·rcases hx with k | k
   ·have:X.env.scope.names.lookup x = some .free:=hk
    rw [k] at this; cases this
   ·have:X.env.scope.names.lookup x = some .free:=hk
    rw [k] at this; cases this
def ipI (f:Int->Int->Int):TIp:=fun x y H Q=>∃ i j,x = .int i/\y = .int j/\Q (.int (f i j)) H
theorem Adq:PIp X .Add (ipI fun i j=>i + j):=by
 intro pins s σ H x y v u Q I r1 r2 h
 obtain ⟨i,j,e1,e2,q⟩:=h
 subst e1; subst e2
 obtain ⟨t,rfl⟩:=r1
 obtain ⟨t',rfl⟩:=r2
 exact iadd_int ⟨.int _,H,I.tok _,⟨_,rfl⟩,q⟩
theorem Aj9:PIp X .Sub (ipI fun i j=>i - j):=by
 intro pins s σ H x y v u Q I r1 r2 h
 obtain ⟨i,j,e1,e2,q⟩:=h
 subst e1; subst e2
 obtain ⟨t,rfl⟩:=r1
 obtain ⟨t',rfl⟩:=r2
 exact isub_int ⟨.int _,H,I.tok _,⟨_,rfl⟩,q⟩
end
section
variable {X:Cx} {pos:Pos}
def Ads (c:TT) (tb:TS):TS:=fun D σ H=>∃ W:Nat->St->Hp->Prop,(∃ m,W m σ H)/\∀ m σ H,W m σ H ->
 c σ H fun b H1=>if b = true then ∃ N:St->Hp->Prop,(∀ σ' H',N σ' H'->∃ m',m' < m/\W m' σ' H')/\tb { D with nx:=N,ct:=N,bk:=D.nx } σ H1 else D.nx σ H1
theorem AaN {c:Expr} {body:List Stmt} {tc:TT} {tb:TS} (hp:PassesOwn (model X.prog X.w) X.A X.env X.xe) (hc:PT X c tc) (hb:PSs X body tb):PS X (.While c body [] pos) (Ads tc tb):=by
 intro pins s σ H D I h
 obtain ⟨W,⟨m0,w0⟩,turn⟩:=h
 refine wpAny_While (codeAny_whileLoop (fun n s'=>∃ σ' H',Inv X pins σ' H' s'/\W n σ' H') ?_ m0 ⟨σ,H,I,w0⟩)
 rintro n s1 ⟨σ1,H1,I1,w1⟩
 refine wpAny_passesOwn hp (thn (hc pins s1 σ1 H1 _ I1 (turn n σ1 H1 w1)) fun b s2 ⟨H2,I2,q2⟩=>?_)
 cases b with
 | true =>
  obtain ⟨N,hN,q2⟩:=q2
  rw [if_pos rfl]
  refine wpAny_passesOwn hp (thn (hb pins s2 σ1 H2 _ I2 q2) fun f s3 q3=>?_)
  cases f with
  | next =>
   obtain ⟨σ3,H3,I3,n3⟩:=q3
   obtain ⟨m',hm,w3⟩:=hN σ3 H3 n3
   exact ⟨m',hm,σ3,H3,I3,w3⟩
  | cont =>
   obtain ⟨σ3,H3,I3,n3⟩:=q3
   obtain ⟨m',hm,w3⟩:=hN σ3 H3 n3
   exact ⟨m',hm,σ3,H3,I3,w3⟩
  | brk=>exact q3
  | ret v=>exact q3
 | false =>
  rw [if_neg Bool.false_ne_true]
  exact wpAny_execs_nil ⟨σ1,H2,I2,q2⟩
end
structure It where
 go:Nat->Hp->Prop
 yld:Nat->Hp->V->Hp->Prop
 stop:Nat->Hp->Prop
def Ul (X:Cx) (pins:List (Addr × Obj)) (H:Hp) (b:Addr):Prop :=
 H b = none/\b ≠ X.env.locals/\b ∉ X.fs/\(b ∈ X.ex\/X.s₀.heap.objs.size <= b)/\(∀ x c,X.env.cells.lookup x = some c->c ≠ b)/\∀ p ∈ X.pn ++ pins,p.1 ≠ b
theorem Inv.fpOk {X:Cx} {pins:List (Addr × Obj)} {σ:St} {H H':Hp} {s:Shared} {b:Addr} (I:Inv X pins σ H s) (hb:s.heap.objs.size <= b) (hn:H' b = none):Ul X pins H' b:=by
 refine ⟨hn,Nat.ne_of_gt (Nat.lt_of_lt_of_le I.lt hb),I.nofs hb,.inr (Nat.le_trans I.sz hb),fun x c e z=>?_,fun p hp z=>?_⟩
 ·obtain ⟨v,q⟩:=I.cell x c e
  exact absurd (Nat.lt_of_lt_of_le q.lt (by rw [z]; exact hb)) (Nat.lt_irrefl _)
 ·exact absurd (Nat.lt_of_lt_of_le (lt_size (I.pin p hp).1) (by rw [z]; exact hb)) (Nat.lt_irrefl _)
structure Vu (P:Program) (w:World) (K:Frag) (tg:Expr) (J:It) (fp:List Addr) (it:Addr) (tn:Nat->Heap->Prop):Prop where
 mem:it ∈ fp
 obj:∀ i h,tn i h->∀ b ∈ fp,∃ o,h.get? b = some o/\∀ v,o.data ≠ .cell v
 keep:∀ i h h',tn i h->(∀ b ∈ fp,∀ o,h.get? b = some o->h'.get? b = some o)->tn i h'
 item:∀ (X:Cx),X.prog = P->X.w = w->X.K = K->X.calm = true->∀ (i:Nat) (pins:List (Addr × Obj)) (s:Shared) (σ:St) (H:Hp) (E:Value->Shared->Prop),Inv X pins σ H s->(∀ b ∈ fp,Ul X pins H b)->tn i s.heap->J.go i H ->
  wpAny (model P w) X.A (pyNext (.ref it)) (fun r s1=>∃ u,r = some u /\
   wpAny (model P w) X.A (letOwnedTupleGo tg (.ref it) u) (fun _ s2=>∃ x H',Inv X pins σ H' s2/\RelV x u/\J.yld i H x H'/\tn (i + 1) s2.heap/\∀ b ∈ fp,H' b = none) E s1) E s
 done:∀ (X:Cx),X.prog = P->X.w = w->X.K = K->X.calm = true->∀ (i:Nat) (pins:List (Addr × Obj)) (s:Shared) (σ:St) (H:Hp) (E:Value->Shared->Prop),Inv X pins σ H s->(∀ b ∈ fp,Ul X pins H b)->tn i s.heap->J.stop i H ->
  wpAny (model P w) X.A (pyNext (.ref it)) (fun r s1=>r = none/\Inv X pins σ H s1) E s
 self:∀ (A:Around) (i:Nat) (s:Shared) (Q:Value->Shared->Prop) (E:Value->Shared->Prop),tn i s.heap->Q (.ref it) s->wpAny (model P w) A (pyIter (.ref it)) Q E s
abbrev TI:=St->Hp->(It->Hp->Prop)->Prop
def PIE (X:Cx) (pins:List (Addr × Obj)) (σ:St) (tg:Expr) (R:It->Hp->Prop) (itv:Value) (s2:Shared):Prop :=
 ∃ (it:Addr) (fp:List Addr) (tn:Nat->Heap->Prop) (J:It) (H':Hp),itv = .ref it/\Inv X pins σ H' s2/\Vu X.prog X.w X.K tg J fp it tn/\tn 0 s2.heap/\(∀ b ∈ fp,Ul X pins H' b)/\R J H'
def PI (X:Cx) (tg iter:Expr) (wi:TI):Prop :=
 ∀ (pins:List (Addr × Obj)) (s:Shared) (σ:St) (H:Hp) (R:It->Hp->Prop),Inv X pins σ H s->wi σ H R ->
  wpAny (model X.prog X.w) X.A (eval iter X.env) (fun v s1=>wpAny (model X.prog X.w) X.A (pyIter v) (PIE X pins σ tg R) X.xe s1) X.xe s
theorem AcV {M:Model} {A:Around} {E:Value->Shared->Prop} {s:Shared} {tg:Expr} {it:Addr} {u:Value} {o:Obj} {n:String} {vs:Array Value} {Q:Unit->Shared->Prop} (ho:s.heap.get? it = some o) (hc:o.cls = .type n) (hd:o.data = .fields vs)
  (hn:["enumerate","zip","dict_itemiterator","dict_reverseitemiterator","odict_iterator","itertools.zip_longest","itertools.pairwise"].contains n = false) (hQ:Q () s):wpAny M A (letOwnedTupleGo tg (.ref it) u) Q E s:=by
 unfold letOwnedTupleGo
 cases tg <;> first
  | exact wpAny_pure hQ
  | (cases u <;> first
    | exact wpAny_pure hQ
    | (refine wpAny_bind (wpAny_load ho ?_); rw [hc,hd]; show wpAny M A (if (["enumerate","zip","dict_itemiterator","dict_reverseitemiterator","odict_iterator","itertools.zip_longest","itertools.pairwise"].contains n && vs[0]? == some (rawInt _)) = true then _ else _) Q E s; rw [if_neg (by intro h; rw [hn,Bool.false_and] at h; cases h)]; exact wpAny_pure hQ))
def Itl (K:Frag) (a:Addr):It :=
 ⟨fun i H=>∃ xs x,SqL K H a xs/\xs[i]? = some x,fun i H x H'=>H' = H/\∀ xs,SqL K H a xs->xs[i]? = some x,fun i H=>∃ xs,SqL K H a xs/\xs.length <= i⟩
def Itr (lo:Int) (n:Nat):It:=⟨fun i _=>i < n,fun i H x H'=>H' = H/\x = .int (lo + i),fun i _=>n <= i⟩
theorem Ad4 {P:Program} {w:World} {K:Frag} {tg:Expr} (a it:Addr):Vu P w K tg (Itl K a) [it] it (fun i h=>h.IsListIter it a i) where
 mem:=by simp
 obj:=fun i h st b hb=>by
  have e:b = it:=by simpa using hb
  subst e
  obtain ⟨o,e,c,d⟩:=st
  exact ⟨o,e,fun v z=>by rw [d] at z; cases z⟩
 keep:=fun i h h' st k=>st.at fun o e=>k it (by simp) o e
 item:=by
  intro X hP hw hK hc i pins s σ H E I hf st hg
  subst hP hw hK
  obtain ⟨xs,x,hq,hx⟩:=hg
  obtain ⟨its,rv,p,hz⟩:=I.list hq
  obtain ⟨u,hu,ru⟩:=rv.get hx
  obtain ⟨f0,f1,f2,f3,f4,f5⟩:=hf it (by simp)
  refine wpAny_pyNext_list_item st p.isList (x:=u) (by simpa using hu) fun h' st' sb=>?_
  have I1:Inv X pins σ H { s with heap:=h' }:=I.turned (t':=s.toks) (fun b o hb e=>(sb.2 b hb).trans e) f0 f1 f3 f4 f5
  obtain ⟨o,e,c,d⟩:=id st'
  exact ⟨u,rfl,AcV (s:={ s with heap:=h' }) e c d (by decide) ⟨x,H,I1,ru,⟨rfl,fun ys hy=>by rw [I.list_inj hy hq]; exact hx⟩,st',fun b hb=>(hf b hb).1⟩⟩
 done:=by
  intro X hP hw hK hc i pins s σ H E I hf st hg
  subst hP hw hK
  obtain ⟨xs,hq,hx⟩:=hg
  obtain ⟨its,rv,p,hz⟩:=I.list hq
  obtain ⟨f0,f1,f2,f3,f4,f5⟩:=hf it (by simp)
  have hl:=rv.length
  exact wpAny_pyNext_list_end (I.ok.hd hc) st p.isList (by simp; omega) fun h' eb=>⟨rfl,I.turned (t':=s.toks) (fun b o hb e=>eb b o hb e) f0 f1 f3 f4 f5⟩
 self:=fun _ _ _ _ _ st h=>wpAny_pyIter_listiter st h
theorem AcN {P:Program} {w:World} {K:Frag} {tg:Expr} (it:Addr) (lo:Int) (n:Nat):Vu P w K tg (Itr lo n) [it] it (fun i h=>IsRangeIter h it (lo + (i:Nat) * 1) ((n:Int) - (i:Nat)) 1) where
 mem:=by simp
 obj:=fun i h st b hb=>by
  have e:b = it:=by simpa using hb
  subst e
  exact ⟨_,st,fun v z=>by
   have z':Data.fields _ = Data.cell v:=z
   cases z'⟩
 keep:=fun i h h' st k=>k it (by simp) _ st
 item:=by
  intro X hP hw hK hc i pins s σ H E I hf st hg
  subst hP hw hK
  obtain ⟨f0,f1,f2,f3,f4,f5⟩:=hf it (by simp)
  have W:=Walks.range (prog:=X.prog) (w:=X.w) (I.ok.hd hc) it lo 1 n
  refine W.item i s _ _ hg st fun v h' tk hv st' kk=>?_
  obtain ⟨t,rfl⟩:=hv
  have I1:Inv X pins σ H { s with heap:=h',toks:=tk }:=I.turned (fun b o hb e=>kk b o (by simpa using hb) e) f0 f1 f3 f4 f5
  refine ⟨_,rfl,AcV (s:={ s with heap:=h',toks:=tk }) (n:="range_iterator") st' rfl rfl (by decide) ⟨.int (lo + i),H,I1,⟨t,?_⟩,⟨rfl,rfl⟩,st',fun b hb=>(hf b hb).1⟩⟩
  rw [Int.mul_one]
 done:=by
  intro X hP hw hK hc i pins s σ H E I hf st hg
  subst hP hw hK
  obtain ⟨f0,f1,f2,f3,f4,f5⟩:=hf it (by simp)
  exact wpAny_pyNext_range_end (I.ok.hd hc) st (by have:n <= i:=hg; omega) fun h' eb=>⟨rfl,I.turned (t':=s.toks) (fun b o hb e=>eb b o hb e) f0 f1 f3 f4 f5⟩
 self:=fun _ _ _ _ _ st h=>wpAny_pyIter_rangeiter st h
end L2
namespace L2
open PySem PySem.Spec PyProof.Rows
section
variable {X:Cx} {tg:Expr}
def Tb (K:Frag) (tl:TE):TI:=fun σ H R=>tl σ H fun x H1=>∃ a,x = .ref a/\(∃ xs,SqL K H1 a xs)/\R (Itl K a) H1
theorem Dd {l:Expr} {tl:TE} (hl:PE X l tl):PI X tg l (Tb X.K tl):=by
 intro pins s σ H R I h
 refine thn (hl pins s σ H _ I h) fun v s1 ⟨x,H1,I1,r1,q1⟩=>?_
 obtain ⟨a,e,⟨xs,hq⟩,q⟩:=q1
 subst e
 cases r1
 obtain ⟨its,rv,p,hz⟩:=I1.list hq
 refine wpAny_pyIter_list p.isList ?_
 refine ⟨s1.heap.objs.size,[s1.heap.objs.size],_,_,H1,rfl,I1.kept (t':=s1.toks) fun b o e=>get?_push_of_some _ e,Ad4 a _,⟨_,get?_push_size _ rfl,rfl,rfl⟩,fun b hb=>?_,q⟩
 have e:b = s1.heap.objs.size:=by simpa using hb
 subst e
 exact I1.fpOk (Nat.le_refl _) (I1.hok.fresh (Nat.le_refl _))
theorem Aa4 {pins:List (Addr × Obj)} {σ:St} {H:Hp} {s:Shared} {R:It->Hp->Prop} {E:Value->Shared->Prop} {lo hi:Int} {t u v:Tok} {tk:Nat} (I:Inv X pins σ H s) (h1:-(2 ^ 62) <= lo) (h2:lo < 2 ^ 62) (h3:-(2 ^ 62) <= hi) (h4:hi < 2 ^ 62)
  (q:R (Itr lo (hi - lo).toNat) H):wpAny (model X.prog X.w) X.A (pyIter (.ref s.heap.objs.size)) (PIE X pins σ tg R) E { s with heap:=s.heap.push { cls:=.type "range",data:=.fields #[.int lo t,.int hi u,.int 1 v] },toks:=tk }:=by
 refine wpAny_pyIter_range (IsRange.new ..) (small_one h1 h2 h3 h4) ?_
 have I1:Inv X pins σ H { s with heap:=s.heap.push { cls:=.type "range",data:=.fields #[.int lo t,.int hi u,.int 1 v] },toks:=tk }:=I.kept fun b o e=>get?_push_of_some _ e
 refine ⟨(s.heap.push { cls:=.type "range",data:=.fields #[.int lo t,.int hi u,.int 1 v] }).objs.size,[(s.heap.push { cls:=.type "range",data:=.fields #[.int lo t,.int hi u,.int 1 v] }).objs.size],_,_,H,rfl,
  I1.kept (t':=tk) fun b o e=>get?_push_of_some _ e,AcN _ lo (hi - lo).toNat,?_,fun b hb=>?_,q⟩
 ·have e1:lo + ((0:Nat):Int) * 1 = lo:=by simp
  have e2:(((hi - lo).toNat:Nat):Int) - ((0:Nat):Int) = Builtin.Range.rangeSize lo hi 1:=by rw [rangeSize_one]; split <;> omega
  show IsRangeIter _ _ (lo + ((0:Nat):Int) * 1) ((((hi - lo).toNat:Nat):Int) - ((0:Nat):Int)) 1
  rw [e1,e2]
  exact get?_push_size _ rfl
 ·have e:b = (s.heap.push { cls:=.type "range",data:=.fields #[.int lo t,.int hi u,.int 1 v] }).objs.size:=by simpa using hb
  subst e
  exact I1.fpOk (Nat.le_refl _) (I1.hok.fresh (Nat.le_refl _))
def AcC (ta:TA):TI:=fun σ H R=>ta σ H fun vs H1=>∃ j:Int,vs = [.int j]/\-(2 ^ 62) <= j/\j < 2 ^ 62/\R (Itr 0 j.toNat) H1
def Zq (ta:TA):TI:=fun σ H R=>ta σ H fun vs H1=>∃ i j:Int,vs = [.int i,.int j]/\(-(2 ^ 62) <= i/\i < 2 ^ 62/\-(2 ^ 62) <= j/\j < 2 ^ 62)/\R (Itr i (j - i).toNat) H1
theorem Uq {a:Expr} {ta:TA} {p pos:Pos} (hg:Gl X "range") (hm:X.mg "range" = none) (ha:PA X [a] ta) (hs:starEach [a] X.env = [(false,eval a X.env)]:=by rfl):PI X tg (.Call (.Name "range" p) [a] [] pos) (AcC ta):=by
 intro pins s σ H R I h
 refine Call_ (Gj I hg hm boot_range (PyProof.Rows.callWith_type1 (thn (ha pos pins s σ H _ I h) fun us s1 ⟨vs,H1,I1,r1,q1⟩=>?_) hs rfl))
 obtain ⟨j,e,q1,q2,q⟩:=q1
 subst e
 cases r1 with
 | cons r rr =>
  cases rr
  obtain ⟨t,rfl⟩:=r
  exact call_range_1 (Aa4 I1 (by omega) (by omega) q1 q2 (by simpa using q))
theorem Re {a b:Expr} {ta:TA} {p pos:Pos} (hg:Gl X "range") (hm:X.mg "range" = none) (ha:PA X [a,b] ta) (hs:starEach [a,b] X.env = [(false,eval a X.env),(false,eval b X.env)]:=by rfl) (hs2:starEach [b] X.env = [(false,eval b X.env)]:=by rfl) :
  PI X tg (.Call (.Name "range" p) [a,b] [] pos) (Zq ta):=by
 intro pins s σ H R I h
 refine Call_ (Gj I hg hm boot_range (PyProof.Rows.callWith_type1 (thn (ha pos pins s σ H _ I h) fun us s1 ⟨vs,H1,I1,r1,q1⟩=>?_) (by rw [hs,hs2]) (by rw [hs2]; rfl)))
 obtain ⟨i,j,e,⟨q1,q2,q3,q4⟩,q⟩:=q1
 subst e
 cases r1 with
 | cons r rr =>
  cases rr with
  | cons r' rr =>
   cases rr
   obtain ⟨t,rfl⟩:=r
   obtain ⟨t',rfl⟩:=r'
   exact call_range_2 (Aa4 I1 q1 q2 q3 q4 q)
def Lg (wi:TI) (g:TG) (tb:TS):TS:=fun D σ H=>wi σ H fun J H1=>∃ W:Nat->Nat->St->Hp->Prop,(∃ m,W 0 m σ H1)/\∀ i m σ H,W i m σ H ->
 (J.stop i H/\D.nx σ H)\/(J.go i H/\∃ N:St->Hp->Prop,(∀ σ' H',N σ' H'->∃ m',m' < m/\W (i + 1) m' σ' H')/\∀ x H',J.yld i H x H'->g x σ H' fun σ2 H2=>tb { D with nx:=N,ct:=N,bk:=D.nx } σ2 H2)
def Uv (fp:List Addr) (h:Heap):List (Addr × Obj):=fp.filterMap fun b=>(h.get? b).map fun o=>(b,o)
theorem Nm {fp:List Addr} {h:Heap} {b:Addr} {o:Obj} (hb:b ∈ fp) (e:h.get? b = some o):(b,o) ∈ Uv fp h:=mem_filterMap.mpr ⟨b,hb,by rw [e]; rfl⟩
theorem Ael {fp:List Addr} {h:Heap} {p:Addr × Obj} (hp:p ∈ Uv fp h):p.1 ∈ fp/\h.get? p.1 = some p.2:=by
 obtain ⟨b,hb,e⟩:=mem_filterMap.mp hp
 cases q:h.get? b with
 | none=>rw [q] at e; cases e
 | some o =>
  rw [q] at e
  have e':(b,o) = p:=Option.some.inj e
  subst e'
  exact ⟨hb,q⟩
theorem Inv.pinned {pins:List (Addr × Obj)} {σ:St} {H:Hp} {s:Shared} {fp:List Addr} (I:Inv X pins σ H s) (hf:∀ b ∈ fp,Ul X pins H b) (ho:∀ b ∈ fp,∃ o,s.heap.get? b = some o/\∀ v,o.data ≠ .cell v):Inv X (pins ++ Uv fp s.heap) σ H s :=
 I.pins_of fun p hp=>(mem_append.mp hp).elim (fun z=>I.pin p (mem_append_right _ z)) fun z=>by
  obtain ⟨hb,e⟩:=Ael z
  obtain ⟨f0,f1,f2,_⟩:=hf p.1 hb
  obtain ⟨o,e',d⟩:=ho p.1 hb
  rw [e] at e'; cases e'
  exact ⟨e,f0,f1,f2,d⟩
theorem Inv.unpinned {pins pl:List (Addr × Obj)} {σ:St} {H:Hp} {s:Shared} (I:Inv X (pins ++ pl) σ H s):Inv X pins σ H s:=I.pins_of fun p hp=>I.pin p (mem_append_right _ (mem_append_left _ hp))
theorem Dl {iter:Expr} {body:List Stmt} {wi:TI} {g:TG} {tb:TS} {pos:Pos} (hp:PassesOwn (model X.prog X.w) X.A X.env X.xe) (hc:X.calm = true) (hi:PI X tg iter wi) (hg:PG X tg g) (hb:PSs X body tb)
  (hs:∀ x,foldedSetIterable iter X.env x = pure x:=by intro _; rfl):PS X (.For tg iter body [] pos) (Lg wi g tb):=by
 intro pins s σ H D I h
 refine wpAny_For (thn (hi pins s σ H _ I h) fun v s1 h1=>thn h1 fun itv s2 h2=>?_) hs
 obtain ⟨it,fp,tn,J,H2,e,I2,T,st2,f2,W,⟨m0,w0⟩,turn⟩:=h2
 subst e
 -- what stays true of the iterator's objects through the loop
 have stat:∀ {H':Hp},(∀ b ∈ fp,H' b = none)->∀ b ∈ fp,Ul X pins H' b:=fun hn b hb=>⟨hn b hb,(f2 b hb).2⟩
 refine codeAny_forLoop_any (fun n s'=>∃ i σ' H',Inv X pins σ' H' s'/\tn i s'.heap/\(∀ b ∈ fp,H' b = none)/\W i n σ' H') ?_ m0 ⟨0,σ,H2,I2,st2,fun b hb=>(f2 b hb).1,w0⟩
 rintro n s3 ⟨i,σ3,H3,I3,st3,fr3,w3⟩
 rcases turn i n σ3 H3 w3 with ⟨stop,qn⟩ | ⟨go,N,hN,step⟩
 ·refine wpAny_passesOwn hp (thn (T.done X rfl rfl rfl hc i pins s3 σ3 H3 X.xe I3 (stat fr3) st3 stop) fun r s4 ⟨hr,I4⟩=>?_)
  subst hr
  exact wpAny_execs_nil ⟨σ3,H3,I4,qn⟩
 ·refine wpAny_passesOwn hp (thn (T.item X rfl rfl rfl hc i pins s3 σ3 H3 X.xe I3 (stat fr3) st3 go) fun r s4 ⟨u,hr,h4⟩=>?_)
  subst hr
  refine wpAny_passesOwn hp (thn h4 fun _ s5 ⟨x,H5,I5,r5,y5,st5,fr5⟩=>?_)
  have I5':=I5.pinned (stat fr5) (T.obj _ _ st5)
  refine wpAny_passesOwn hp (thn (hg _ s5 σ3 H5 x u _ I5' r5 (step x H5 y5)) fun _ s6 ⟨σ6,H6,I6,q6⟩=>?_)
  refine wpAny_passesOwn hp (thn (hb _ s6 σ6 H6 _ I6 q6) fun f s7 q7=>?_)
  have again:∀ {σ7:St} {H7:Hp},Inv X (pins ++ Uv fp s5.heap) σ7 H7 s7->N σ7 H7->∃ m,m < n/\∃ i σ' H',Inv X pins σ' H' s7/\tn i s7.heap/\(∀ b ∈ fp,H' b = none)/\W i m σ' H':=fun {σ7 H7} I7 n7=>by
   obtain ⟨m',hm,w7⟩:=hN σ7 H7 n7
   refine ⟨m',hm,i + 1,σ7,H7,I7.unpinned,T.keep _ _ _ st5 fun b hb o e=>(I7.pin (b,o) (mem_append_right _ (mem_append_right _ (Nm hb e)))).1,fun b hb=>?_,w7⟩
   obtain ⟨o,e,d⟩:=T.obj _ _ st5 b hb
   exact (I7.pin (b,o) (mem_append_right _ (mem_append_right _ (Nm hb e)))).2.1
  cases f with
  | next=>obtain ⟨σ7,H7,I7,n7⟩:=q7; exact again I7 n7
  | cont=>obtain ⟨σ7,H7,I7,n7⟩:=q7; exact again I7 n7
  | brk=>obtain ⟨σ7,H7,I7,q7⟩:=q7; exact ⟨σ7,H7,I7.unpinned,q7⟩
  | ret v=>obtain ⟨x7,σ7,H7,I7,r7,q7⟩:=q7; exact ⟨x7,σ7,H7,I7.unpinned,r7,q7⟩
end
theorem Wk {K:Frag} {a:Addr} {xs:List V} {g:TG} {tb:TS} {D:Ends} {σ:St} {H:Hp} (Pv:Nat->St->Hp->Prop) (h0:Pv 0 σ H) (hl:∀ i σ H,i <= xs.length->Pv i σ H->SqL K H a xs)
  (hs:∀ i x σ H,xs[i]? = some x->Pv i σ H->g x σ H fun σ2 H2=>tb { D with nx:=Pv (i + 1),ct:=Pv (i + 1),bk:=D.nx } σ2 H2) (hd:∀ σ H,Pv xs.length σ H->D.nx σ H) :
  ∃ W:Nat->Nat->St->Hp->Prop,(∃ m,W 0 m σ H)/\∀ i m σ H,W i m σ H ->
   ((Itl K a).stop i H/\D.nx σ H)\/((Itl K a).go i H/\∃ N:St->Hp->Prop,(∀ σ' H',N σ' H'->∃ m',m' < m/\W (i + 1) m' σ' H')/\∀ x H',(Itl K a).yld i H x H'->g x σ H' fun σ2 H2=>tb { D with nx:=N,ct:=N,bk:=D.nx } σ2 H2):=by
 refine ⟨fun i m σ H=>m = xs.length - i/\i <= xs.length/\Pv i σ H,⟨xs.length,by simp,zero_le _,h0⟩,?_⟩
 rintro i m σ H ⟨rfl,hi,p⟩
 have q:=hl i σ H hi p
 by_cases hlt:i < xs.length
 ·refine .inr ⟨⟨xs,xs[i],q,by simp [hlt]⟩,Pv (i + 1),fun σ' H' p'=>⟨xs.length - (i + 1),by omega,rfl,hlt,p'⟩,fun x H' y=>?_⟩
  obtain ⟨e,y⟩:=y
  subst e
  exact hs i x σ _ (y xs q) p
 ·have e:i = xs.length:=by omega
  subst e
  exact .inl ⟨⟨xs,q,Nat.le_refl _⟩,hd σ H p⟩
theorem Yp {lo:Int} {n:Nat} {g:TG} {tb:TS} {D:Ends} {σ:St} {H:Hp} (Pv:Nat->St->Hp->Prop) (h0:Pv 0 σ H)
  (hs:∀ i σ H,i < n->Pv i σ H->g (.int (lo + i)) σ H fun σ2 H2=>tb { D with nx:=Pv (i + 1),ct:=Pv (i + 1),bk:=D.nx } σ2 H2) (hd:∀ σ H,Pv n σ H->D.nx σ H) :
  ∃ W:Nat->Nat->St->Hp->Prop,(∃ m,W 0 m σ H)/\∀ i m σ H,W i m σ H ->
   ((Itr lo n).stop i H/\D.nx σ H)\/((Itr lo n).go i H/\∃ N:St->Hp->Prop,(∀ σ' H',N σ' H'->∃ m',m' < m/\W (i + 1) m' σ' H')/\∀ x H',(Itr lo n).yld i H x H'->g x σ H' fun σ2 H2=>tb { D with nx:=N,ct:=N,bk:=D.nx } σ2 H2):=by
 refine ⟨fun i m σ H=>m = n - i/\i <= n/\Pv i σ H,⟨n,by simp,zero_le _,h0⟩,?_⟩
 rintro i m σ H ⟨rfl,hi,p⟩
 by_cases hlt:i < n
 ·refine .inr ⟨hlt,Pv (i + 1),fun σ' H' p'=>⟨n - (i + 1),by omega,rfl,hlt,p'⟩,fun x H' y=>?_⟩
  obtain ⟨e,y⟩:=y
  subst e y
  exact hs i σ _ hlt p
 ·have e:i = n:=by omega
  subst e
  exact .inl ⟨Nat.le_refl _,hd σ H p⟩
end L2
namespace L2
open PySem PySem.Spec PyProof.Rows
abbrev R2:=V->V->Hp->VK->Prop
def OpR (X:Cx) (f:Value->Value->Sem Value) (r:R2):Prop :=
 ∀ (pins:List (Addr × Obj)) (s:Shared) (σ:St) (H:Hp) (x y:V) (v u:Value) (Q:VK),Inv X pins σ H s->RelV x v->RelV y u->r x y H Q ->
  wpAny (model X.prog X.w) X.A (f v u) (EP X pins σ Q) X.xe s
def UnR (X:Cx) (f:Value->Sem Value) (r:V->Hp->VK->Prop):Prop :=
 ∀ (pins:List (Addr × Obj)) (s:Shared) (σ:St) (H:Hp) (x:V) (v:Value) (Q:VK),Inv X pins σ H s->RelV x v->r x H Q ->
  wpAny (model X.prog X.w) X.A (f v) (EP X pins σ Q) X.xe s
def Lk (X:Cx) (f:Value) (r:List V->Hp->VK->Prop):Prop :=
 ∀ (pins:List (Addr × Obj)) (s:Shared) (σ:St) (H:Hp) (xs:List V) (us:List Value) (Q:VK),Inv X pins σ H s->Vals xs us->r xs H Q ->
  wpAny (model X.prog X.w) X.A (call f us) (EP X pins σ Q) X.xe s
def tOp (r:R2) (ta tb:TE):TE:=fun σ H Q=>ta σ H fun x H1=>tb σ H1 fun y H2=>r x y H2 Q
def tUn (r:V->Hp->VK->Prop) (ta:TE):TE:=fun σ H Q=>ta σ H fun x H1=>r x H1 Q
def rI (C:Int->Int->Prop) (g:Int->Int->V):R2:=fun x y H Q=>∃ i j,x = .int i/\y = .int j/\C i j/\Q (g i j) H
def rI0 (g:Int->Int->V):R2:=fun x y H Q=>∃ i j,x = .int i/\y = .int j/\Q (g i j) H
def rU (g:Int->V):V->Hp->VK->Prop:=fun x H Q=>∃ i,x = .int i/\Q (g i) H
section
variable {X:Cx} {a b c:Expr} {ta tb tc:TE} {pos:Pos}
theorem Afu (ha:PE X a ta) (hb:PE X b tb) {pins:List (Addr × Obj)} {s:Shared} {σ:St} {H:Hp} {R:V->V->Hp->Prop} (I:Inv X pins σ H s)
  (h:ta σ H fun x H1=>tb σ H1 fun y H2=>R x y H2) {Q:Value->Shared->Prop} {f:Value->Value->Sem Value}
  (hf:∀ v u s2 x y H2,Inv X pins σ H2 s2->RelV x v->RelV y u->R x y H2->wpAny (model X.prog X.w) X.A (f v u) Q X.xe s2) :
  wpAny (model X.prog X.w) X.A (eval a X.env) (fun v s₁=>wpAny (model X.prog X.w) X.A (eval b X.env) (fun u s₂=>wpAny (model X.prog X.w) X.A (f v u) Q X.xe s₂) X.xe s₁) X.xe s:=by
 refine thn (ha pins s σ H _ I h) fun v s1 ⟨x,H1,I1,r1,q1⟩=>?_
 refine thn (hb pins s1 σ H1 _ I1 q1) fun u s2 ⟨y,H2,I2,r2,q2⟩=>?_
 exact hf v u s2 x y H2 I2 r1 r2 q2
theorem Ca {op:Operator} {r:R2} (ho:OpR X (binaryOp op) r) (ha:PE X a ta) (hb:PE X b tb):PE X (.BinOp a op b pos) (tOp r ta tb):=by
 intro pins s σ H Q I h
 exact wpAny_BinOp (Afu ha hb I h fun v u s2 x y H2 I2 rx ry q=>ho pins s2 σ H2 x y v u Q I2 rx ry q)
theorem Ra {op:UnaryOp} {r:V->Hp->VK->Prop} (ho:UnR X (unaryOp op) r) (ha:PE X a ta):PE X (.UnaryOp op a pos) (tUn r ta):=by
 intro pins s σ H Q I h
 exact UnaryOp_ (thn (ha pins s σ H _ I h) fun v s1 ⟨x,H1,I1,r1,q1⟩=>ho pins s1 σ H1 x v Q I1 r1 q1)
theorem opI {f:Value->Value->Sem Value} {C:Int->Int->Prop} {g:Int->Int->Int}
  (rule:∀ (i j:Int) (t u:Tok) (s:Shared) (Q:Value->Shared->Prop) (E:Value->Shared->Prop),C i j->Q (.int (g i j) s.toks) { s with toks:=s.toks + 1 }->wpAny (model X.prog X.w) X.A (f (.int i t) (.int j u)) Q E s) :
  OpR X f (rI C fun i j=>.int (g i j)):=by
 intro pins s σ H x y v u Q I rx ry h
 obtain ⟨i,j,rfl,rfl,hc,q⟩:=h
 obtain ⟨t,rfl⟩:=rx
 obtain ⟨t',rfl⟩:=ry
 exact rule i j t t' s _ _ hc ⟨.int (g i j),H,I.tok _,⟨_,rfl⟩,q⟩
theorem Ak0 {f:Value->Value->Sem Value} {g:Int->Int->Int}
  (rule:∀ (i j:Int) (t u:Tok) (s:Shared) (Q:Value->Shared->Prop) (E:Value->Shared->Prop),Q (.int (g i j) s.toks) { s with toks:=s.toks + 1 }->wpAny (model X.prog X.w) X.A (f (.int i t) (.int j u)) Q E s) :
  OpR X f (rI0 fun i j=>.int (g i j)):=by
 intro pins s σ H x y v u Q I rx ry h
 obtain ⟨i,j,rfl,rfl,q⟩:=h
 obtain ⟨t,rfl⟩:=rx
 obtain ⟨t',rfl⟩:=ry
 exact rule i j t t' s _ _ ⟨.int (g i j),H,I.tok _,⟨_,rfl⟩,q⟩
theorem AcP {f:Value->Value->Sem Value} {g:Int->Int->Bool}
  (rule:∀ (i j:Int) (t u:Tok) (s:Shared) (Q:Value->Shared->Prop) (E:Value->Shared->Prop),Q (.bool (g i j)) s->wpAny (model X.prog X.w) X.A (f (.int i t) (.int j u)) Q E s) :
  OpR X f (rI0 fun i j=>.bl (g i j)):=by
 intro pins s σ H x y v u Q I rx ry h
 obtain ⟨i,j,rfl,rfl,q⟩:=h
 obtain ⟨t,rfl⟩:=rx
 obtain ⟨t',rfl⟩:=ry
 exact rule i j t t' s _ _ ⟨.bl (g i j),H,I,rfl,q⟩
def Acb (i j:Int):Prop:=0 < j/\j < 1073741824
def Acq (i j:Int):Prop:=0 <= j/\j <= 1000000/\i.natAbs < 2 ^ 64
def CMul (i j:Int):Prop:=(-(2 ^ 64) < i/\i < 2 ^ 64)\/(-(2 ^ 64) < j/\j < 2 ^ 64)
theorem CMul.ok {i j:Int} (h:CMul i j):IntMulOk i j:=by
 rcases h with ⟨h1,h2⟩ | ⟨h1,h2⟩
 ·exact .of_left (intBits_le_64 h1 h2)
 ·exact .of_right (intBits_le_64 h1 h2)
theorem Dz:OpR X (binaryOp .Add) (rI0 fun i j=>.int (i + j)):=Ak0 fun _ _ _ _ _ _ _ q=>add_int q
theorem Lz:OpR X (binaryOp .Sub) (rI0 fun i j=>.int (i - j)):=Ak0 fun _ _ _ _ _ _ _ q=>sub_int q
theorem Aa0:OpR X (binaryOp .Mult) (rI CMul fun i j=>.int (i * j)):=opI fun _ _ _ _ _ _ _ hc q=>mul_int q hc.ok
theorem Fs:OpR X (binaryOp .FloorDiv) (rI Acb fun i j=>.int (i / j)):=opI fun i j _ _ _ _ _ hc q=>by
 have h1:(0:Int) < j:=hc.1
 have h2:j < 1073741824:=hc.2
 exact floordiv_int (by omega) (by rw [Int.fdiv_eq_ediv_of_nonneg i (by omega)]; exact q) (.inl (PyProof.noPylong_small (by omega)))
theorem Dr:OpR X (binaryOp .Mod) (rI (fun _ j=>0 < j) fun i j=>.int (i % j)):=opI fun i j _ _ _ _ _ hc q=>by
 have h1:(0:Int) < j:=hc
 exact mod_int' (by omega) (by rw [Int.fmod_eq_emod_of_nonneg i (by omega)]; exact q)
theorem Ur:OpR X (binaryOp .Pow) (rI Acq fun i j=>.int (i ^ j.toNat)):=opI fun _ _ _ _ _ _ _ hc q=>pow_int_small hc.1 hc.2.1 hc.2.2 q
theorem unI {f:Value->Sem Value} {g:Int->Int}
  (rule:∀ (i:Int) (t:Tok) (s:Shared) (Q:Value->Shared->Prop) (E:Value->Shared->Prop),Q (.int (g i) s.toks) { s with toks:=s.toks + 1 }->wpAny (model X.prog X.w) X.A (f (.int i t)) Q E s) :
  UnR X f (rU fun i=>.int (g i)):=by
 intro pins s σ H x v Q I rx h
 obtain ⟨i,rfl,q⟩:=h
 obtain ⟨t,rfl⟩:=rx
 exact rule i t s _ _ ⟨.int (g i),H,I.tok _,⟨_,rfl⟩,q⟩
theorem Ls:UnR X (unaryOp .USub) (rU fun i=>.int (-i)):=unI fun _ _ _ _ _ q=>neg_int q
end
def Af0:V->V->Bool
 | .non,.non=>true | .non,.int _=>true | .int _,.non=>true | .non,.bl _=>true | .bl _,.non=>true | .non,.str _=>true | .str _,.non=>true
 | .int _,.int _=>true | .bl _,.bl _=>true | .str _,.str _=>true | .byt _,.byt _=>true
 | .int _,.str _=>true | .str _,.int _=>true | .bl _,.str _=>true | .str _,.bl _=>true
 | _,_=>false
def rEq:R2:=fun x y H Q=>Af0 x y = true/\Q (.bl (decide (x = y))) H
def rNe:R2:=fun x y H Q=>Af0 x y = true/\Q (.bl (!decide (x = y))) H
theorem AbS {i j:Int}:decide (V.int i = V.int j) = (i == j):=by
 rw [Bool.eq_iff_iff]
 simp
theorem AcW {i j:Bool}:decide (V.bl i = V.bl j) = (i == j):=by
 rw [Bool.eq_iff_iff]
 simp
theorem AbT {i j:Str}:decide (V.str i = V.str j) = (i == j):=by
 rw [Bool.eq_iff_iff]
 simp
theorem AbI {i j:Array UInt8}:decide (V.byt i = V.byt j) = (i.toList == j.toList):=by
 rw [Bool.eq_iff_iff]
 cases i
 cases j
 simp
section
variable {X:Cx} {a b c:Expr} {ta tb tc:TE} {pos:Pos}
theorem Dj {pins:List (Addr × Obj)} {σ:St} {H:Hp} {s:Shared} {Q:VK} {k k':Bool} (I:Inv X pins σ H s) (q:Q (.bl k) H) (e:k = k'):EP X pins σ Q (.bool k') s:=by
 subst e
 exact ⟨.bl k,H,I,rfl,q⟩
theorem Dq:OpR X (compareOp .Eq) rEq:=by
 intro pins s σ H x y v u Q I rx ry h
 obtain ⟨hs,q⟩:=h
 cases x with
 | non =>
  cases rx
  cases y with
  | non=>cases ry; exact PySem.EqNone.eq_none_none (Dj I q (by simp))
  | bl j=>cases ry; exact PySem.EqNone.eq_none_bool (Dj I q (by simp))
  | int j=>obtain ⟨t',rfl⟩:=ry; exact PySem.EqNone.eq_none_int (Dj I q (by simp))
  | str j=>obtain ⟨t',rfl⟩:=ry; exact PySem.EqNone.eq_none_str (Dj I q (by simp))
  | _=>exact absurd (show false = true from hs) Bool.false_ne_true
 | bl i =>
  cases rx
  cases y with
  | non=>cases ry; exact PySem.EqNone.eq_bool_none (Dj I q (by simp))
  | bl j=>cases ry; exact eq_bool (Dj I q AcW)
  | str j=>obtain ⟨t',rfl⟩:=ry; exact PySem.EqMixed.eq_bool_str (Dj I q (by simp))
  | _=>exact absurd (show false = true from hs) Bool.false_ne_true
 | int i =>
  obtain ⟨t,rfl⟩:=rx
  cases y with
  | non=>cases ry; exact PySem.EqNone.eq_int_none (Dj I q (by simp))
  | int j=>obtain ⟨t',rfl⟩:=ry; exact eq_int (Dj I q AbS)
  | str j=>obtain ⟨t',rfl⟩:=ry; exact PySem.EqMixed.eq_int_str (Dj I q (by simp))
  | _=>exact absurd (show false = true from hs) Bool.false_ne_true
 | str i =>
  obtain ⟨t,rfl⟩:=rx
  cases y with
  | non=>cases ry; exact PySem.EqNone.eq_str_none (Dj I q (by simp))
  | bl j=>cases ry; exact PySem.EqMixed.eq_str_bool (Dj I q (by simp))
  | int j=>obtain ⟨t',rfl⟩:=ry; exact PySem.EqMixed.eq_str_int (Dj I q (by simp))
  | str j=>obtain ⟨t',rfl⟩:=ry; exact eq_str (Dj I q AbT)
  | _=>exact absurd (show false = true from hs) Bool.false_ne_true
 | byt i =>
  obtain ⟨t,rfl⟩:=rx
  cases y with
  | byt j=>obtain ⟨t',rfl⟩:=ry; exact PySem.W.eq_bytes (Dj I q AbI)
  | _=>exact absurd (show false = true from hs) Bool.false_ne_true
 | _=>cases y <;> exact absurd (show false = true from hs) Bool.false_ne_true
theorem Vi:OpR X (compareOp .NotEq) rNe:=by
 intro pins s σ H x y v u Q I rx ry h
 obtain ⟨hs,q⟩:=h
 cases x with
 | non =>
  cases rx
  cases y with
  | non=>cases ry; exact PySem.EqNone.ne_none_none (Dj I q (by simp))
  | bl j=>cases ry; exact PySem.EqNone.ne_none_bool (Dj I q (by simp))
  | int j=>obtain ⟨t',rfl⟩:=ry; exact PySem.EqNone.ne_none_int (Dj I q (by simp))
  | str j=>obtain ⟨t',rfl⟩:=ry; exact PySem.EqNone.ne_none_str (Dj I q (by simp))
  | _=>exact absurd (show false = true from hs) Bool.false_ne_true
 | bl i =>
  cases rx
  cases y with
  | non=>cases ry; exact PySem.EqNone.ne_bool_none (Dj I q (by simp))
  | bl j=>cases ry; exact ne_bool (Dj I q (congrArg not AcW))
  | str j=>obtain ⟨t',rfl⟩:=ry; exact PySem.EqMixed.ne_bool_str (Dj I q (by simp))
  | _=>exact absurd (show false = true from hs) Bool.false_ne_true
 | int i =>
  obtain ⟨t,rfl⟩:=rx
  cases y with
  | non=>cases ry; exact PySem.EqNone.ne_int_none (Dj I q (by simp))
  | int j=>obtain ⟨t',rfl⟩:=ry; exact ne_int (Dj I q (congrArg not AbS))
  | str j=>obtain ⟨t',rfl⟩:=ry; exact PySem.EqMixed.ne_int_str (Dj I q (by simp))
  | _=>exact absurd (show false = true from hs) Bool.false_ne_true
 | str i =>
  obtain ⟨t,rfl⟩:=rx
  cases y with
  | non=>cases ry; exact PySem.EqNone.ne_str_none (Dj I q (by simp))
  | bl j=>cases ry; exact PySem.EqMixed.ne_str_bool (Dj I q (by simp))
  | int j=>obtain ⟨t',rfl⟩:=ry; exact PySem.EqMixed.ne_str_int (Dj I q (by simp))
  | str j=>obtain ⟨t',rfl⟩:=ry; exact ne_str (Dj I q (congrArg not AbT))
  | _=>exact absurd (show false = true from hs) Bool.false_ne_true
 | byt i =>
  obtain ⟨t,rfl⟩:=rx
  cases y with
  | byt j=>obtain ⟨t',rfl⟩:=ry; exact PySem.W.ne_bytes (Dj I q (congrArg not AbI))
  | _=>exact absurd (show false = true from hs) Bool.false_ne_true
 | _=>cases y <;> exact absurd (show false = true from hs) Bool.false_ne_true
theorem Ace:OpR X (compareOp .Lt) (rI0 fun i j=>.bl (decide (i < j))):=AcP fun _ _ _ _ _ _ _ q=>lt_int q
theorem AcG:OpR X (compareOp .LtE) (rI0 fun i j=>.bl (decide (i <= j))):=AcP fun _ _ _ _ _ _ _ q=>le_int q
theorem Zt:OpR X (compareOp .Gt) (rI0 fun i j=>.bl (decide (j < i))):=AcP fun _ _ _ _ _ _ _ q=>gt_int q
theorem AgK:OpR X (compareOp .GtE) (rI0 fun i j=>.bl (decide (j <= i))):=AcP fun _ _ _ _ _ _ _ q=>ge_int q
theorem Ck (b:Expr) {op:CmpOp} (h:op ≠ .In:=by decide) (h2:op ≠ .NotIn:=by decide):behindInMarks op b = false:=by
 have e1:(op == CmpOp.In) = false:=by cases op <;> first | rfl | exact absurd rfl h
 have e2:(op == CmpOp.NotIn) = false:=by cases op <;> first | rfl | exact absurd rfl h2
 cases b <;> simp [behindInMarks,e1,e2]
theorem Fx {op:CmpOp} {r:R2} (ho:OpR X (compareOp op) r) (ha:PE X a ta) (hb:PE X b tb) (hm:behindInMarks op b = false):PE X (.Compare a [op] [b] pos) (tOp r ta tb):=by
 intro pins s σ H Q I h
 exact wpAny_Compare1 (Afu ha hb I h fun v u s2 x y H2 I2 rx ry q=>ho pins s2 σ H2 x y v u Q I2 rx ry q) hm
def Ab8 (t:TE):TT:=fun σ H Q=>t σ H fun x H'=>∃ k,x = .bl k/\Q k H'
theorem Cf {op:CmpOp} {r:R2} (ho:OpR X (compareOp op) r) (ha:PE X a ta) (hb:PE X b tb) (hm:behindInMarks op b = false):PT X (.Compare a [op] [b] pos) (Ab8 (tOp r ta tb)):=by
 intro pins s σ H Q I h
 refine wpAny_isTrue_Compare1 (thn (ha pins s σ H _ I h) fun v s1 ⟨x,H1,I1,r1,q1⟩=>thn (hb pins s1 σ H1 _ I1 q1) fun u s2 ⟨y,H2,I2,r2,q2⟩ =>
  thn (ho pins s2 σ H2 x y v u _ I2 r1 r2 q2) fun c s3 ⟨z,H3,I3,r3,k,e,q3⟩=>?_) hm
 subst e
 cases r3
 exact wpAny_truthy_bool ⟨H3,I3,q3⟩
theorem Xg:(sizeLine:Nat) < 2 ^ 63:=by rw [sizeLine_eq]; decide
theorem Og {x:V} {us:List Value} (r:Vals [x] us):∃ u,us = [u]/\RelV x u:=by
 cases r with
 | cons r1 r2=>cases r2; exact ⟨_,rfl,r1⟩
theorem Agy {x y:V} {us:List Value} (r:Vals [x,y] us):∃ u w',us = [u,w']/\RelV x u/\RelV y w':=by
 cases r with
 | cons r1 r2 =>
  cases r2 with
  | cons r3 r4=>cases r4; exact ⟨_,_,rfl,r1,r3⟩
theorem AdN (hc:X.calm = true):Lk X (.builtin "max") (fun xs H Q=>∃ i j,xs = [.int i,.int j]/\Q (.int (if j > i then j else i)) H):=by
 intro pins s σ H xs us Q I r h
 obtain ⟨i,j,rfl,q⟩:=h
 obtain ⟨u,w',rfl,⟨t,rfl⟩,⟨t',rfl⟩⟩:=Agy r
 refine max_two_ints (I.ok.hd hc) fun h' tk k=>⟨_,H,I.kept k,?_,q⟩
 by_cases hj:j > i
 ·rw [if_pos hj,if_pos hj]; exact ⟨_,rfl⟩
 ·rw [if_neg hj,if_neg hj]; exact ⟨_,rfl⟩
theorem Uo:Lk X (.type "int") (fun xs H Q=>(∃ i,xs = [.int i]/\Q (.int i) H)\/∃ k,xs = [.bl k]/\Q (.int (if k then 1 else 0)) H):=by
 intro pins s σ H xs us Q I r h
 rcases h with ⟨i,rfl,q⟩ | ⟨k,rfl,q⟩
 ·obtain ⟨u,rfl,t,rfl⟩:=Og r
  exact call_int_int ⟨.int i,H,I,⟨_,rfl⟩,q⟩
 ·obtain ⟨u,rfl,r1⟩:=Og r
  cases r1
  exact call_int_bool ⟨.int (if k then 1 else 0),H,I.tok _,⟨_,rfl⟩,q⟩
end
end L2
namespace L2
open PySem PySem.Spec PyProof.Rows
structure ObjM (h:Heap) (x dx C:Addr) (mA:Str->Option Value):Prop where
 obj:h.get? x = some (instObj C dx)
 ns:h.Ns1 dx mA
 ne:dx ≠ x
theorem AdU {h:Heap} {dx:Addr} {mA:Str->Option Value} (n:h.Ns1 dx mA):∃ od,h.get? dx = some od/\∀ name,lookIn name od = some (mA name):=by
 obtain ⟨o,es,ep,ho,hd,hk,_,hm⟩:=n
 refine ⟨o,ho,fun name=>?_⟩
 have e:=hm name
 unfold nsFind findBy at e
 rw [<- Array.find?_toList] at e
 unfold lookIn
 rw [hd]
 dsimp only
 split
 ·rename_i y q
  rw [q] at e
  exact congrArg some e
 ·rename_i q
  rw [q] at e
  have a:es.toList.any (·.refKey) = false:=by
   rw [List.any_eq_false]
   intro y hy
   obtain ⟨z,t,hkey⟩:=hk y (Array.mem_toList_iff.mp hy)
   simp [DictEntry.refKey,hkey]
  have a':¬ es.toList.any (·.refKey) = true:=by rw [a]; exact Bool.false_ne_true
  rw [if_neg a']
  exact congrArg some e
theorem ObjM.look {h:Heap} {x dx C:Addr} {mA:Str->Option Value} (I:ObjM h x dx C mA):∃ od,PySem.W.InstAt h x (instObj C dx) C (some od)/\∀ name,lookIn name od = some (mA name) :=
 let ⟨od,ho,hl⟩:=AdU I.ns
 ⟨od,⟨I.obj,rfl,rfl,ho⟩,hl⟩
section
variable {prog:Program} {w:World} {A:Around} {E:Value->Shared->Prop} {s:Shared} {K:Frag} {x dx C f:Addr} {mA:Str->Option Value} {name:Str} {v:Value}
theorem Aia {expr:Bool} {Q:Value->Shared->Prop} (X:K.In s.heap) (I:ObjM s.heap x dx C mA) (hg:plainGet K C name = true) (hh:hasDictIn K C = true)
  (ha:findIn K (.ref C) name = some none) (hv:mA name = some v) (hv':handedIn v = true) (h:Q v { s with toks:=s.toks + 1 }) :
  wpAny (model prog w) A (getAttr (.ref x) name expr) Q E s:=by
 obtain ⟨od,J,hl⟩:=I.look
 exact PySem.W.get_value X J (plainGet_of hg).1 (PySem.W.findObj_own hh ha rfl (by rw [hl,hv])) hv' h
theorem Aff {pl:Sem Bool} {Q:Value × List Value->Shared->Prop} (X:K.In s.heap) (I:ObjM s.heap x dx C mA) (hg:plainGet K C name = true)
  (hf:findIn K (.ref C) name = some (some (.ref f))) (ht:isFn K (.ref f) = true) (hv:mA name = none) (h:Q (.ref f,[.ref x]) s) :
  wpAny (model prog w) A (getMethod (.ref x) name pl) Q E s:=by
 obtain ⟨od,J,hl⟩:=I.look
 exact PySem.W.method_fn X J (plainGet_of hg).1 (plainGet_of hg).2 hf (beq_iff_eq.mp ht) (by show (lookIn name od).map (·.isSome) = some false; rw [hl,hv]; rfl) h
theorem AiI {ns:List Str} {Q:Unit->Shared->Prop} (X:K.In s.heap) (I:ObjM s.heap x dx C mA)
  (hs:findIn K (.ref C) "__setattr__" = some (some (.builtin "object.__setattr__"))) (hp:plainOver K C = true) (ht:takerIn K C name = some none) (hh:hasDictIn K C = true)
  (hw:PySem.Within mA ns) (hsz:ns.length <= sizeLine)
  (h:∀ h',ObjM h' x dx C (fun y=>if y = name then some v else mA y)->SameBut dx s.heap h'->Q () { s with heap:=h',toks:=s.toks + 2 }) :
  wpAny (model prog w) A (setAttr (.ref x) name v) Q E s:=by
 obtain ⟨od,J,hl⟩:=I.look
 refine PySem.W.set_plain X J hs (PySem.W.osa_open (s:={ s with toks:=s.toks + 1 }) (r:=none) X J hp ht fun b=>?_)
 obtain ⟨cd,hc,hd'⟩:=PySem.W.any_some hh
 have hx:s.heap.get? x = some ⟨.ref C,some dx,.plain,#[]⟩:=I.obj
 refine wpAny_bind (wpAny_pure (wpAny_bind (wpAny_bind (wpAny_loadPart hx (wpAny_bind (Looks.here (s:={ s with toks:=s.toks + 1 }) (PySem.W.looks_clsIn X hc) ?_))))))
 rw [hd']
 refine wpAny_pure (a:=some dx) (wpAny_bind (wpAny_pure (wpAny_bind ?_)))
 refine wpAny_nsSet1 (s:={ s with toks:=s.toks + 1 }) I.ns fun h' hn2 hs2=>?_
 obtain ⟨oD,esD,epD,hoD,hdD,hcD⟩:=hn2.count (PySem.Within.cons name v hw)
 refine wpAny_bind (wpAny_lookBehind hoD (by rw [hdD]; exact pastItsLine_dict (Nat.le_trans hcD (by rw [length_cons]; omega))) ?_)
 exact wpAny_pure (h _ ⟨(hs2.2 _ (Ne.symm I.ne)).trans I.obj,hn2,I.ne⟩ hs2)
theorem Ae9 {R:Result->Shared->Prop} {vs:List Value} {kw:List (Str × Value)} (X:K.In s.heap) (hm:makesIn K C = true)
  (hi:findIn K (.ref C) "__init__" = some (some (.ref f))) (hf:typeIn K (.ref f) = some (.type "function"))
  (h:codeAny (model prog w) (A.under (.builtin "type.__call__" ⟨.ref C :: vs,kw⟩)) (.call (.ref f) ⟨.ref (s.heap.objs.size + 1) :: vs,kw⟩) (PySem.W.InitBack (s.heap.objs.size + 1) R)
   { s with heap:=(s.heap.push emptyDict).push (instObj C s.heap.objs.size) }) :
  codeAny (model prog w) A (.call (.ref C) ⟨vs,kw⟩) R s:=by
 obtain ⟨hh,g,d,t,os⟩:=s
 exact PySem.W.make_core (PySem.W.makes_of X hm) (PySem.W.looks_findIn X hi) (fun self=>PySem.W.bind_fn X self hf) (.inl rfl) h
end
def Ce (f:Str) (v:V):List (Str × V)->List (Str × V)
 | []=>[(f,v)]
 | (g,x) :: r=>if g = f then (g,v) :: r else (g,x) :: Ce f v r
theorem Da (f g:Str) (v:V):∀ fs:List (Str × V),(Ce f v fs).lookup g = if g = f then some v else fs.lookup g
 | []=>by
  show List.lookup g [(f,v)] = _
  by_cases h:g = f
  ·have hb:(g == f) = true:=beq_iff_eq.mpr h
   simp only [List.lookup,hb,if_pos h]
  ·have hb:(g == f) = false:=beq_eq_false_iff_ne.mpr h
   simp only [List.lookup,hb,if_neg h]
 | (k,x) :: r=>by
  have ih:=Da f g v r
  rw [show Ce f v ((k,x) :: r) = (if k = f then (k,v) :: r else (k,x) :: Ce f v r) from rfl]
  by_cases hk:k = f
  ·rw [if_pos hk]
   by_cases h:g = k
   ·have hb:(g == k) = true:=beq_iff_eq.mpr h
    simp only [List.lookup,hb,if_pos (h.trans hk)]
   ·have hb:(g == k) = false:=beq_eq_false_iff_ne.mpr h
    simp only [List.lookup,hb,if_neg (fun e:g = f=>h (e.trans hk.symm))]
  ·rw [if_neg hk]
   by_cases h:g = k
   ·have hb:(g == k) = true:=beq_iff_eq.mpr h
    simp only [List.lookup,hb,if_neg (fun e:g = f=>hk (h.symm.trans e))]
   ·have hb:(g == k) = false:=beq_eq_false_iff_ne.mpr h
    simp only [List.lookup,hb]
    exact ih
theorem Ty (f:Str) (v:V):∀ fs:List (Str × V),f ∈ (Ce f v fs).map (·.1)/\∀ g,g ∈ fs.map (·.1)->g ∈ (Ce f v fs).map (·.1)
 | []=>⟨by simp [Ce],fun g h=>by simp at h⟩
 | (k,x) :: r=>by
  obtain ⟨i1,i2⟩:=Ty f v r
  rw [show Ce f v ((k,x) :: r) = (if k = f then (k,v) :: r else (k,x) :: Ce f v r) from rfl]
  by_cases hk:k = f
  ·rw [if_pos hk]
   subst hk
   exact ⟨by simp,fun g h=>by simpa using h⟩
  ·rw [if_neg hk]
   refine ⟨?_,fun g h=>?_⟩
   ·rw [map_cons]
    exact mem_cons_of_mem _ i1
   ·rw [map_cons] at h ⊢
    rcases mem_cons.mp h with e | e
    ·exact mem_cons.mpr (.inl e)
    ·exact mem_cons_of_mem _ (i2 g e)
theorem Dx (f:Str) (v:V):∀ fs:List (Str × V),(Ce f v fs).length <= fs.length + 1
 | []=>by simp [Ce]
 | (k,x) :: r=>by
  have ih:=Dx f v r
  rw [show Ce f v ((k,x) :: r) = (if k = f then (k,v) :: r else (k,x) :: Ce f v r) from rfl]
  by_cases hk:k = f
  ·rw [if_pos hk,length_cons,length_cons]; omega
  ·rw [if_neg hk,length_cons,length_cons]; omega
theorem RelO.some_of {v:V} {o:Option Value} (r:RelO (some v) o):∃ u,o = some u/\RelV v u:=by
 cases o with
 | none=>exact (show False from r).elim
 | some u=>exact ⟨u,rfl,r⟩
theorem RelO.none_of {o:Option Value} (r:RelO none o):o = none:=by
 cases o with
 | none=>rfl
 | some u=>exact (show False from r).elim
theorem Ac3 {v:V} {u:Value} (r:RelV v u):handedIn u = true:=by
 cases v with
 | non=>cases (show u = Value.none from r); rfl
 | bl b=>cases (show u = Value.bool b from r); rfl
 | int i=>obtain ⟨t,e⟩:=(show ∃ t,u = Value.int i t from r); cases e; rfl
 | str x=>obtain ⟨t,e⟩:=(show ∃ t,u = Value.str x t from r); cases e; rfl
 | byt b=>obtain ⟨t,e⟩:=(show ∃ t,u = Value.bytes b t from r); cases e; rfl
 | flt b=>obtain ⟨t,e⟩:=(show ∃ t,u = Value.float b t from r); cases e; rfl
 | ref a=>cases (show u = Value.ref a from r); rfl
 | ty n=>cases (show u = Value.type n from r); rfl
section
variable {P:Program} {w:World} {H H':Hp} {h h':Heap} {a C dx:Addr} {fs fs':List (Str × V)}
theorem Uz (hok:HOk P w H h) (e:H a = some (.ins C dx fs)):∃ mA,ObjM h a dx C mA/\(∀ f,RelO (fs.lookup f) (mA f))/\PySem.Within mA (fs.map (·.1))/\fs.length <= 1000/\H dx = some (.own a):=by
 obtain ⟨d,z,ne,ob,mA,n,r,q⟩:=(show ObjOk P w H h a (.ins C dx fs) from hok a _ e)
 exact ⟨mA,⟨ob,n,ne⟩,r,q,z,d⟩
end
structure Cls (K:Frag) (C:Addr):Prop where
 pg:plainGet K C Str.empty = true
 hd:hasDictIn K C = true
 po:plainOver K C = true
 sa:findIn K (.ref C) "__setattr__" = some (some (.builtin "object.__setattr__"))
theorem Cls.get {K:Frag} {C:Addr} (c:Cls K C) (f:Str):plainGet K C f = true:=c.pg
def NoAttr (K:Frag) (C:Addr) (f:Str):Prop:=findIn K (.ref C) f = some none
theorem NoAttr.taker {K:Frag} {C:Addr} {f:Str} (n:NoAttr K C f):takerIn K C f = some none:=by
 unfold takerIn
 rw [show findIn K (.ref C) f = some none from n]
 rfl
structure AcR (K:Frag) (C:Addr) (m:Str) (f:Addr):Prop where
 at_:findIn K (.ref C) m = some (some (.ref f))
 fn:isFn K (.ref f) = true
 kp:keepIn K (.ref f) = true
section
variable {X:Cx} {pins:List (Addr × Obj)} {σ:St} {H:Hp} {s:Shared} {a C dx:Addr} {fs:List (Str × V)} {f:Str} {v:V} {A:Around} {E:Value->Shared->Prop}
theorem AcH {b:Bool} {Q:Value->Shared->Prop} (I:Inv X pins σ H s) (e:H a = some (.ins C dx fs)) (c:Cls X.K C) (n:NoAttr X.K C f) (l:fs.lookup f = some v)
  (h:∀ u s',Inv X pins σ H s'->RelV v u->Q u s'):wpAny (model X.prog X.w) A (getAttr (.ref a) f b) Q E s:=by
 obtain ⟨mA,O,r,_,_,_⟩:=Uz I.hok e
 obtain ⟨u,hu,ru⟩:=RelO.some_of (v:=v) (o:=mA f) (by rw [<- l]; exact r f)
 exact Aia I.kIn O (c.get f) c.hd n hu (Ac3 ru) (h u _ (I.tok _) ru)
theorem Ack {m:Str} {g:Addr} {pl:Sem Bool} {Q:Value × List Value->Shared->Prop} (I:Inv X pins σ H s) (e:H a = some (.ins C dx fs)) (c:Cls X.K C) (k:AcR X.K C m g) (l:fs.lookup m = none)
  (h:Q (.ref g,[.ref a]) s):wpAny (model X.prog X.w) A (getMethod (.ref a) m pl) Q E s:=by
 obtain ⟨mA,O,r,_,_,_⟩:=Uz I.hok e
 have hn:mA m = none:=RelO.none_of (by rw [<- l]; exact r m)
 exact Aff I.kIn O (c.get m) k.at_ k.fn hn h
theorem Acj {y:V} {u:Value} {Q:Unit->Shared->Prop} (I:Inv X pins σ H s) (e:H a = some (.ins C dx fs)) (c:Cls X.K C) (n:NoAttr X.K C f) (hl:fs.length < 1000) (ry:RelV y u)
  (h:∀ s',Inv X pins σ (upd H a (.ins C dx (Ce f y fs))) s'->Q () s'):wpAny (model X.prog X.w) A (setAttr (.ref a) f u) Q E s:=by
 obtain ⟨mA,O,r,wi,_,ho⟩:=Uz I.hok e
 have hz:(fs.map (·.1)).length <= sizeLine:=by rw [length_map,sizeLine_eq]; omega
 refine AiI I.kIn O c.sa c.po n.taker c.hd wi hz fun h' O' sb=>h _ ?_
 have hd:∃ o,h'.get? dx = some o:=let ⟨o,_,_,e',_⟩:=O'.ns; ⟨o,e'⟩
 refine I.write (x:=a) (e:=dx) (by rw [e]; exact True.intro) (.inr ho) (fun b q hb z=>(sb.2 b hb).trans z) hd ?_
 refine ⟨by rw [Bl O.ne]; exact ho,?_,O.ne,O'.obj,_,O'.ns,fun g=>?_,fun g hg=>?_⟩
 ·have:=Dx f y fs; omega
 ·show RelO ((Ce f y fs).lookup g) (if g = f then some u else mA g)
  rw [Da]
  by_cases q:g = f
  ·rw [if_pos q,if_pos q]; exact ry
  ·rw [if_neg q,if_neg q]; exact r g
 ·by_cases q:g = f
  ·rw [q]; exact (Ty f y fs).1
  ·refine (Ty f y fs).2 g (wi g fun z=>hg ?_)
   show (if g = f then some u else mA g) = none
   rw [if_neg q]; exact z
theorem Inv.made (I:Inv X pins σ H s):Inv X pins σ (upd (upd H s.heap.objs.size (.own (s.heap.objs.size + 1))) (s.heap.objs.size + 1) (.ins C s.heap.objs.size []))
  { s with heap:=(s.heap.push emptyDict).push (instObj C s.heap.objs.size) }:=by
 have e1:(s.heap.push emptyDict).get? s.heap.objs.size = some emptyDict:=get?_push_size s.heap rfl
 have e2:((s.heap.push emptyDict).push (instObj C s.heap.objs.size)).get? (s.heap.objs.size + 1) = some (instObj C s.heap.objs.size):=by
  have:=get?_push_size (s.heap.push emptyDict) (o:=instObj C s.heap.objs.size) rfl
  rwa [Heap.size_push] at this
 have e3:(s.heap.push emptyDict).Ns s.heap.objs.size (fun _=>none):=⟨emptyDict,#[],_,e1,rfl,(fun e he=>absurd he (by simp)),fun _=>rfl⟩
 have I1:=I.laid (a:=s.heap.objs.size) (o:=.own (s.heap.objs.size + 1)) (h':=s.heap.push emptyDict) (t':=s.toks) (fun b u q=>get?_push_of_some _ q) (Nat.le_refl _) ⟨_,e1⟩
 refine I1.laid (a:=s.heap.objs.size + 1) (o:=.ins C s.heap.objs.size []) (t':=s.toks) (fun b u q=>get?_push_of_some _ q) (Nat.le_of_eq (Heap.size_push _ _)) ?_
 have ne:s.heap.objs.size ≠ s.heap.objs.size + 1:=ne_of_lt (lt_succ_self _)
 refine ⟨by rw [Bl ne,Bt],zero_le _,ne,e2,fun _=>none,(Ns1.of_empty e3).at fun o q=>get?_push_of_some _ q,fun _=>True.intro,fun y hy=>absurd rfl hy⟩
theorem Ait {prog:Program} {w:World} {env:Env} {e:Expr} {f:Str} {pos:Pos} {s:Shared} {Q:Value->Shared->Prop} (hb:attributeBase e f env (eval e env) = eval e env)
  (h:wpAny (model prog w) A (eval e env) (fun o s₁=>wpAny (model prog w) A (getAttr o f true) Q E s₁) E s):wpAny (model prog w) A (eval (.Attribute e f pos) env) Q E s :=
 Attribute_any_ h (by rw [arm_eval_Attribute,hb])
end
def AjN (K:Frag) (ta:TE) (f:Str):TE:=fun σ H Q=>ta σ H fun x H1=>∃ a C dx fs v,x = .ref a/\H1 a = some (.ins C dx fs)/\Cls K C/\NoAttr K C f/\fs.lookup f = some v/\Q v H1
def Aky (K:Frag) (ta tv:TE) (f:Str):TS:=fun D σ H=>tv σ H fun y H1=>ta σ H1 fun x H2=>∃ a C dx fs,x = .ref a/\H2 a = some (.ins C dx fs)/\Cls K C/\NoAttr K C f/\fs.length < 1000 /\
 D.nx σ (upd H2 a (.ins C dx (Ce f y fs)))
section
variable {X:Cx} {o e value:Expr} {f:Str} {pos pos' tpos:Pos} {ta tv:TE}
theorem Wu (he:PE X e ta) (hb:attributeBase e f X.env (eval e X.env) = eval e X.env):PE X (.Attribute e f pos) (AjN X.K ta f):=by
 intro pins s σ H Q I h
 refine Ait hb (thn (he pins s σ H _ I h) fun u s1 ⟨x,H1,I1,rx,a,C,dx,fs,v,ex,ea,c,n,l,q⟩=>?_)
 subst ex
 obtain rfl:u = Value.ref a:=rx
 exact AcH I1 ea c n l fun u' s2 I2 ru=>⟨v,H1,I2,ru,q⟩
theorem Tz (ha:PE X o ta) (hv:PE X value tv) (hs:swapsWith value (some (.Attribute o f pos')) pos.line X.env = pure false):PS X (.Assign [.Attribute o f pos'] value pos) (Aky X.K ta tv f):=by
 intro pins s σ H D I h
 refine plainObj_wpAny_Assign_Attribute (thn (hv pins s σ H _ I h) fun u s1 ⟨y,H1,I1,ry,q⟩=>thn (ha pins s1 σ H1 _ I1 q) fun ov s2 ⟨x,H2,I2,rx,a,C,dx,fs,ex,ea,c,n,l,q2⟩=>?_) hs
 subst ex
 obtain rfl:ov = Value.ref a:=rx
 exact Acj I2 ea c n l ry fun s3 I3=>⟨σ,_,I3,q2⟩
end
section
variable {X:Cx} {pins:List (Addr × Obj)} {σ:St} {H:Hp} {s:Shared} {A:Around} {E:Value->Shared->Prop} {Q:Value->Shared->Prop} {c:Value} {b:Bool}
inductive Fw (K:Frag) (H:Hp):V->Value->Prop where
 | non:Fw K H .non (.type "NoneType")
 | bl (x:Bool):Fw K H (.bl x) (.type "bool")
 | int (i:Int):Fw K H (.int i) (.type "int")
 | str (x:Str):Fw K H (.str x) (.type "str")
 | flt (x:UInt64):Fw K H (.flt x) (.type "float")
 | lst {a:Addr} {xs:List V} (e:H a = some (.lst xs)):Fw K H (.ref a) (.type "list")
 | frz {a:Addr} {o:Obj} {xs:List V} (e:H a = some (.frz o (.lst xs))):Fw K H (.ref a) (.type "list")
 | tup {a:Addr} {xs:List V} (e:H a = some (.tup xs)):Fw K H (.ref a) (.type "tuple")
 | dK {a:Addr} {kvs:List (Key × V)} (e:H a = some (.dK kvs)):Fw K H (.ref a) (.type "dict")
 | dT {a:Addr} {kvs:List (List Key × V)} (e:H a = some (.dT kvs)):Fw K H (.ref a) (.type "dict")
 | ins {a C dx:Addr} {fs:List (Str × V)} (e:H a = some (.ins C dx fs)) (cl:Cls K C) (ha:findIn K (.ref C) "__class__" = some (some (.builtin "object.__class__")))
   (hn:PySem.W.specialIn K (.builtin "object.__class__") "__get__" = some (some (.builtin "getset_descriptor.__get__"))) (htk:PySem.W.takesIn K (.builtin "object.__class__") = some true)
   (hm:mroIn K C (.type "object") = some true):Fw K H (.ref a) (.ref C)
theorem AdL {x:V} {u t:Value} (I:Inv X pins σ H s) (rx:RelV x u) (ty:Fw X.K H x t) (e:kitOne X.K t c = some b) (h:∀ tk,Q (.bool b) { s with toks:=tk }) :
  wpAny (model X.prog X.w) A (call (.builtin "isinstance") [u,c]) Q E s:=by
 cases ty with
 | non=>cases (show u = Value.none from rx); exact kia_one PySem.W.kitx_none I.kIn True.intro e (fun z=>nomatch z) h
 | bl y=>cases (show u = Value.bool y from rx); exact kia_one PySem.W.kitx_bool I.kIn True.intro e (fun z=>nomatch z) h
 | int i=>obtain ⟨t,q⟩:=(show ∃ t,u = Value.int i t from rx); cases q; exact kia_one PySem.W.kitx_int I.kIn True.intro e (fun z=>nomatch z) h
 | str y=>obtain ⟨t,q⟩:=(show ∃ t,u = Value.str y t from rx); cases q; exact kia_one PySem.W.kitx_str I.kIn True.intro e (fun z=>nomatch z) h
 | flt y=>obtain ⟨t,q⟩:=(show ∃ t,u = Value.float y t from rx); cases q; exact kia_one PySem.W.kitx_float I.kIn True.intro e (fun z=>nomatch z) h
 | @lst a xs ea =>
  cases (show u = Value.ref a from rx)
  obtain ⟨_,_,n,_,h1⟩:=(show ObjOk X.prog X.w H s.heap a (.lst xs) from I.hok a _ ea)
  exact kia_one kitx_list I.kIn ⟨_,h1,rfl⟩ e (fun z=>nomatch z) h
 | @frz a ob xs ea =>
  cases (show u = Value.ref a from rx)
  obtain ⟨_,_,_,n,_,h1⟩:=(show ObjOk X.prog X.w H s.heap a (.frz ob (.lst xs)) from I.hok a _ ea)
  exact kia_one kitx_list I.kIn ⟨_,h1,rfl⟩ e (fun z=>nomatch z) h
 | @tup a xs ea =>
  cases (show u = Value.ref a from rx)
  obtain ⟨_,_,_,p⟩:=(show ObjOk X.prog X.w H s.heap a (.tup xs) from I.hok a _ ea)
  obtain ⟨o,h1,h2,_⟩:=p
  exact kia_one PySem.W.kitx_tuple I.kIn ⟨o,h1,h2⟩ e (fun z=>nomatch z) h
 | @dK a kvs ea =>
  cases (show u = Value.ref a from rx)
  obtain ⟨_,_,vs,_,p⟩:=(show ObjOk X.prog X.w H s.heap a (.dK kvs) from I.hok a _ ea)
  obtain ⟨o,es,ep,h1,h2,_⟩:=p
  exact kia_one kitx_dict I.kIn ⟨o,h1,h2.1⟩ e (fun z=>nomatch z) h
 | @dT a kvs ea =>
  cases (show u = Value.ref a from rx)
  obtain ⟨_,_,xs,_,o,es,ep,h1,h2,_⟩:=(show ObjOk X.prog X.w H s.heap a (.dT kvs) from I.hok a _ ea)
  exact kia_one kitx_dict I.kIn ⟨o,h1,h2.1⟩ e (fun z=>nomatch z) h
 | @ins a C dx fs ea cl ha hn htk hm =>
  cases (show u = Value.ref a from rx)
  obtain ⟨mA,O,_⟩:=Uz I.hok ea
  obtain ⟨od,J,_⟩:=O.look
  exact kia_one (PySem.W.kitx_own (cl.get _) cl.hd ha hn htk hm) I.kIn J e (fun z=>nomatch z) h
end
end L2
namespace L2
open PySem PySem.Spec PyProof.Rows
structure Room (k:Nat) (A:Around):Prop where
 hd:A.handled = none
 dp:A.depth + 3 * k + 5 < recursionLimit
 un:A.units + 16 * k + 200 < cLine
theorem Room.mono {j k:Nat} {A:Around} (r:Room k A) (h:j <= k):Room j A:=⟨r.hd,by have:=r.dp; omega,by have:=r.un; omega⟩
theorem Room.deeper {k:Nat} {A:Around} (r:Room (k + 1) A) (env:Env):Room k (A.deeper env) :=
 ⟨r.hd,by have:=r.dp; show A.depth + 1 + 3 * k + 5 < _; omega,by have:=r.un; show A.units + 3 + 16 * k + 200 < _; omega⟩
theorem AcA {A:Around} {C:Addr} {us:List Value} {kw:List (Str × Value)}:(A.under (.builtin "type.__call__" ⟨.ref C :: us,kw⟩)).depth = A.depth + 1:=by
 first | rfl | simp [Around.under,Code.weight,Code.isCreation,Code.isGuard,Code.isCaller,Code.frames,Code.isFrame,guardIds]
theorem Ab1 {A:Around} {C:Addr} {us:List Value} {kw:List (Str × Value)}:(A.under (.builtin "type.__call__" ⟨.ref C :: us,kw⟩)).units = A.units + 1:=by
 first | rfl | simp [Around.under,Code.cUnits,Code.frames,Code.isFrame]
theorem Room.make {k:Nat} {A:Around} (r:Room (k + 1) A) (C:Addr) (us:List Value) (kw:List (Str × Value)):Room k (A.under (.builtin "type.__call__" ⟨.ref C :: us,kw⟩)) :=
 ⟨r.hd,by have:=r.dp; rw [AcA]; omega,by have:=r.un; rw [Ab1]; omega⟩
theorem Room.depth {k:Nat} {A:Around} (r:Room k A):A.depth < recursionLimit:=by have:=r.dp; omega
theorem Room.units {k:Nat} {A:Around} (r:Room k A):A.units + 64 < cLine:=by have:=r.un; omega
def La:TA:=fun _ H Q=>Q [] H
def Fl (ta:TE) (tr:TA):TA:=fun σ H Q=>ta σ H fun x H1=>tr σ H1 fun xs H2=>Q (x :: xs) H2
section
variable {X:Cx} {e:Expr} {es:List Expr} {te:TE} {t:TA} {pos:Pos}
theorem Bd:PA X [] La:=fun _ _ _ _ H Q I h=>Calls.spliced_nil ⟨[],H,I,.nil,h⟩
theorem Ba (ha:PE X e te) (hr:PA X es t) (hs:starEach (e :: es) X.env = (false,eval e X.env) :: starEach es X.env:=by rfl):PA X (e :: es) (Fl te t):=by
 intro pos pins s σ H Q I h
 rw [hs]
 show wpAny _ _ (spliced ((false,eval e X.env) :: backTo pos (starEach es X.env))) _ _ s
 refine Calls.spliced_cons (thn (ha pins s σ H _ I h) fun u s1 ⟨x,H1,I1,r1,q1⟩=>?_)
 exact thn (hr pos pins s1 σ H1 _ I1 q1) fun us s2 ⟨xs,H2,I2,r2,q2⟩=>⟨x :: xs,H2,I2,.cons r1 r2,q2⟩
def Akg (t:TA):TE:=fun σ H Q=>t σ H fun xs H1=>xs.length <= sizeLine/\∀ p,H1 p = none->Q (.ref p) (upd H1 p (.tup xs))
theorem Alv {x1} (h:PA X es t):PE X (.Tuple es x1 pos) (Akg t):=by
 intro pins s σ H Q I hq
 refine wpAny_Tuple_spliced (thn (h pos pins s σ H _ I hq) fun us s1 ⟨xs,H1,I1,r,z,q⟩=>⟨by rw [<- r.length]; exact z,?_⟩)
 have hf:H1 s1.heap.objs.size = none:=I1.hok.fresh (Nat.le_refl _)
 refine ⟨.ref s1.heap.objs.size,upd H1 s1.heap.objs.size (.tup xs),I1.laid (t':=s1.toks) (fun b u e=>get?_push_of_some _ e) (Nat.le_refl _) ?_,rfl,q _ hf⟩
 exact ⟨z,us,r,⟨_,get?_push_size _ rfl,rfl,_,rfl⟩⟩
end
abbrev Sp:=List V->Hp->VK->XK->Prop
abbrev CXT:=List Env->Hp->Shared->XK->Value->Shared->Prop
structure Env0 (P:Program) (w:World) (K:Frag) (mg:Str->Option Value) (base:Heap) (A:Around) (outer:List Env) (s:Shared) (H:Hp):Prop where
 frames:A.frames = some outer
 mod:Mod K mg base
 bs:∀ b o,base.get? b = some o->s.heap.get? b = some o/\H b = none
 bsz:base.objs.size <= s.heap.objs.size
 funs:s.heap.FunFrames base outer
 frf:∀ b ∈ frs outer,H b = none
 hok:HOk P w H s.heap
 bare:AllBare s.gens
def CE (outer:List Env) (P:Program) (w:World) (H:Hp) (s:Shared) (Q:VK) (u:Value) (s':Shared):Prop :=
 ∃ v H',s'.os = s.os/\AllBare s'.gens/\Un (frs outer) [] H H' s.heap s'.heap/\HOk P w H' s'.heap/\RelV v u/\Q v H'
def CR (CX:CXT) (outer:List Env) (P:Program) (w:World) (H:Hp) (s:Shared) (Q:VK) (E:XK) (r:Result) (s':Shared):Prop :=
 match r with
 | .ok (.ret u)=>CE outer P w H s Q u s'
 | .ok _=>False
 | .error e=>CX outer H s E e s'
structure FnOk (P:Program) (w:World) (K:Frag) (mg:Str->Option Value) (base:Heap) (CX:CXT) (k:Nat) (f:Addr) (fd:FuncData) (ps:List Str) (sp:Sp):Prop where
 len:∀ vs H Q E,sp vs H Q E->vs.length = ps.length
 run:∀ (A:Around) (outer:List Env) (s:Shared) (H:Hp) (args:Args) (us:List Value) (vs:List V) (Q:VK) (E:XK),Room k A->Env0 P w K mg base A outer s H->BindsTo s fd args (ps.zip us)->Vals vs us->sp vs H Q E ->
  codeAny (model P w) A (.call (.ref f) args) (CR CX outer P w H s Q E) s
theorem FnOk.imp {P:Program} {w:World} {K:Frag} {mg:Str->Option Value} {base:Heap} {CX:CXT} {k:Nat} {f:Addr} {fd:FuncData} {ps:List Str} {sp sp':Sp} (F:FnOk P w K mg base CX k f fd ps sp)
  (h:∀ vs H Q E,sp' vs H Q E->sp vs H Q E):FnOk P w K mg base CX k f fd ps sp' :=
 ⟨fun vs H Q E q=>F.len vs H Q E (h _ _ _ _ q),fun A outer s H args us vs Q E hr he hb hv hs=>F.run A outer s H args us vs Q E hr he hb hv (h _ _ _ _ hs)⟩
theorem Env0.make {P:Program} {w:World} {K:Frag} {mg:Str->Option Value} {base:Heap} {A:Around} {outer:List Env} {s:Shared} {H:Hp} (e:Env0 P w K mg base A outer s H) (C:Addr) (us:List Value) (kw:List (Str × Value)) :
  Env0 P w K mg base (A.under (.builtin "type.__call__" ⟨.ref C :: us,kw⟩)) outer s H:=⟨by first | exact e.frames | (simpa [Around.under,Code.envs,Code.isFrame,pushEnvs] using e.frames),e.mod,e.bs,e.bsz,e.funs,e.frf,e.hok,e.bare⟩
section
variable {X:Cx} {pins:List (Addr × Obj)} {σ:St} {H:Hp} {s s':Shared}
theorem Inv.env0 (I:Inv X pins σ H s):Env0 X.prog X.w X.K X.mg X.base X.A X.stack s H :=
 ⟨I.ok.frames,I.ok.mod,I.bs,Nat.le_trans I.ok.bsz I.sz,I.stack,I.stkFree,I.hok,I.bare⟩
theorem Inv.after {Q:VK} {u:Value} (I:Inv X pins σ H s) (h:CE X.stack X.prog X.w H s Q u s'):EP X pins σ Q u s':=by
 obtain ⟨v,H',os,bare,un,hok,r,q⟩:=h
 obtain ⟨hh,g,d,t,os'⟩:=s'
 obtain rfl:os' = s.os:=os
 exact ⟨v,H',I.call (h':=hh) (g':=g) (d':=d) (t':=t) (ch:=[]) un hok bare (fun b z=>absurd z (by simp)),r,q⟩
end
def Ll (sp:Sp) (dvs:List V) (E:XK) (t:TA):TE:=fun σ H Q=>t σ H fun vs H1=>sp (vs ++ dvs) H1 Q E
def Wo (C:Addr) (m:Str) (sp:Sp) (dvs:List V) (E:XK) (ta:TE) (t:TA):TE:=fun σ H Q=>ta σ H fun x H1=>∃ a dx fs,x = .ref a/\H1 a = some (.ins C dx fs)/\fs.lookup m = none /\
 t σ H1 fun vs H2=>sp (x :: (vs ++ dvs)) H2 Q E
def AgA (C:Addr) (sp:Sp) (dvs:List V) (E:XK) (t:TA):TE:=fun σ H Q=>t σ H fun vs H1=>∀ x dx,H1 x = none->H1 dx = none->dx ≠ x ->
 sp (.ref x :: (vs ++ dvs)) (upd (upd H1 dx (.own x)) x (.ins C dx [])) (fun v H2=>v = .non/\Q (.ref x) H2) E
def Binds (K:Frag) (fd:FuncData) (ps:List Str) (ds:List Value):Prop :=
 ∀ (s:Shared) (us:List Value),K.In s.heap->(us ++ ds).length = ps.length->BindsTo s fd ⟨us,[]⟩ (ps.zip (us ++ ds))
theorem Binds.all {K:Frag} {fd:FuncData} {ps:List Str} (h:∀ us:List Value,us.length = ps.length->bindArgs fd ⟨us,[]⟩ = pure (ps.zip us)):Binds K fd ps []:=fun s us _ hl=>by
 rw [append_nil] at hl ⊢
 exact .of_eq (h us hl)
def Qh (CX:CXT) (X:Cx) (E:XK):Prop:=∀ (pins:List (Addr × Obj)) (σ:St) (H:Hp) (s:Shared) (e:Value) (s':Shared),Inv X pins σ H s->CX X.stack H s E e s'->X.xe e s'
section
variable {X:Cx} {CX:CXT} {k:Nat} {f C:Addr} {fd:FuncData} {ps:List Str} {sp:Sp} {dvs:List V} {ds:List Value} {E:XK} {x m:Str} {p pos apos:Pos} {e o:Expr} {es:List Expr} {ta:TE} {t:TA}
theorem Ac6 {pins:List (Addr × Obj)} {σ:St} {H:Hp} {s:Shared} {Q:VK} {us:List Value} {vs:List V} (F:FnOk X.prog X.w X.K X.mg X.base CX k f fd ps sp) (hr:Room k X.A) (hb:Binds X.K fd ps ds) (hd:Vals dvs ds) (hx:Qh CX X E)
  (I:Inv X pins σ H s) (r:Vals vs us) (h:sp (vs ++ dvs) H Q E):wpAny (model X.prog X.w) X.A (call (.ref f) us) (EP X pins σ Q) X.xe s:=by
 have r2:Vals (vs ++ dvs) (us ++ ds):=r.append hd
 have hl:(us ++ ds).length = ps.length:=by rw [<- r2.length]; exact F.len _ _ _ _ h
 refine wpAny_call (codeAny_mono (F.run X.A X.stack s H ⟨us,[]⟩ (us ++ ds) (vs ++ dvs) Q E hr I.env0 (hb s us I.kIn hl) r2 h) fun r s' hq=>?_)
 cases r with
 | error e=>exact hx pins σ H s e s' I hq
 | ok fl =>
  cases fl with
  | ret u=>exact I.after hq
  | next=>exact False.elim hq
  | brk=>exact False.elim hq
  | cont=>exact False.elim hq
theorem Bm (F:FnOk X.prog X.w X.K X.mg X.base CX k f fd ps sp) (hr:Room k X.A) (hg:Gl X x) (hm:X.mg x = some (.ref f)) (hk:keepIn X.K (.ref f) = true) (hb:Binds X.K fd ps ds) (hd:Vals dvs ds) (hx:Qh CX X E)
  (ha:PA X (e :: es) t) (hdb:(x == ("__debug__" : Str)) = false:=by decide) (he:starEach (e :: es) X.env = (false,eval e X.env) :: starEach es X.env:=by rfl) (hpl:(backTo pos (starEach es X.env)).any (·.1) = false:=by rfl) :
  PE X (.Call (.Name x p) (e :: es) [] pos) (Ll sp dvs E t):=by
 intro pins s σ H Q I h
 refine wpAny_Call_Name_kw (Xv I hg hm ?_ hdb)
 refine callWith_K (h₀:=X.base) I.ok.mod.kin hk (thn (ha pos pins s σ H _ I h) fun us s1 ⟨vs,H1,I1,r,q⟩=>⟨I1.kIn,?_⟩) he hpl
 exact Ac6 F hr hb hd hx I1 r q
theorem Xq {pl:Sem Bool} (he:PE X o ta) (c:Cls X.K C) (hm:AcR X.K C m f) (F:FnOk X.prog X.w X.K X.mg X.base CX k f fd ps sp) (hr:Room k X.A) (hb:Binds X.K fd ps ds) (hd:Vals dvs ds) (hx:Qh CX X E) (ha:PA X (e :: es) t)
  (hst:starEach (e :: es) X.env = (false,eval e X.env) :: starEach es X.env:=by rfl) (hpl:(backTo pos (starEach es X.env)).any (·.1) = false:=by rfl)
  (ht:eval (.Call (.Attribute o m apos) (e :: es) [] pos) X.env = (do
   let ov <- eval o X.env
   standAt apos.atName
   let (f,first) <- holding [ov] (getMethod ov m pl)
   callWith pos f first (backTo pos (starEach (e :: es) X.env)) (backToKw pos (keywordEach [] X.env))):=by rfl) :
  PE X (.Call (.Attribute o m apos) (e :: es) [] pos) (Wo C m sp dvs E ta t):=by
 intro pins s σ H Q I h
 refine PySem.W.methodCall_KW (pl:=pl) (thn (he pins s σ H _ I h) fun u s1 ⟨x,H1,I1,rx,a,dx,fs,ex,ea,l,q⟩=>?_) ht
 subst ex
 obtain rfl:u = Value.ref a:=rx
 refine Ack I1 ea c hm l ?_
 refine callWith_K (first:=[.ref a]) (h₀:=X.base) I.ok.mod.kin hm.kp (thn (ha pos pins s1 σ H1 _ I1 q) fun us s2 ⟨vs,H2,I2,r,q2⟩=>⟨I2.kIn,?_⟩) hst hpl
 exact Ac6 (us:=.ref a :: us) (vs:=.ref a :: vs) F hr hb hd hx I2 (.cons rfl r) q2
structure Mk (K:Frag) (C f:Addr):Prop where
 makes:makesIn K C = true
 init:findIn K (.ref C) "__init__" = some (some (.ref f))
 fn:isFn K (.ref f) = true
 kp:keepIn K (.ref C) = true
theorem Afj {pins:List (Addr × Obj)} {σ:St} {H:Hp} {s:Shared} {Q:VK} {us:List Value} {vs:List V} (M:Mk X.K C f) (F:FnOk X.prog X.w X.K X.mg X.base CX k f fd ps sp) (hr:Room (k + 1) X.A) (hb:Binds X.K fd ps ds) (hd:Vals dvs ds)
  (hx:Qh CX X E) (I:Inv X pins σ H s) (r:Vals vs us)
  (h:∀ x dx,H x = none->H dx = none->dx ≠ x->sp (.ref x :: (vs ++ dvs)) (upd (upd H dx (.own x)) x (.ins C dx [])) (fun v H2=>v = .non/\Q (.ref x) H2) E) :
  wpAny (model X.prog X.w) X.A (call (.ref C) us) (EP X pins σ Q) X.xe s:=by
 have hq:=h (s.heap.objs.size + 1) s.heap.objs.size (I.hok.fresh (le_succ _)) (I.hok.fresh (Nat.le_refl _)) (ne_of_lt (lt_succ_self _))
 have I2:=Inv.made (C:=C) I
 have r2:Vals (V.ref (s.heap.objs.size + 1) :: (vs ++ dvs)) (Value.ref (s.heap.objs.size + 1) :: (us ++ ds)):=.cons rfl (r.append hd)
 have hl:(Value.ref (s.heap.objs.size + 1) :: us ++ ds).length = ps.length:=by
  have e:=r2.length
  rw [F.len _ _ _ _ hq] at e
  exact e.symm
 refine wpAny_call (Ae9 (f:=f) I.kIn M.makes M.init (beq_iff_eq.mp M.fn) (codeAny_mono (F.run _ X.stack _ _ ⟨Value.ref (s.heap.objs.size + 1) :: us,[]⟩ (Value.ref (s.heap.objs.size + 1) :: (us ++ ds)) _ _ E (hr.make C us [])
  (I2.env0.make C us []) (hb _ (Value.ref (s.heap.objs.size + 1) :: us) I2.kIn hl) r2 hq) fun r s' hq'=>?_))
 cases r with
 | error e=>exact hx pins σ _ _ e s' I2 hq'
 | ok fl =>
  cases fl with
  | ret u =>
   obtain ⟨v,H',I3,rv,ev,q3⟩:=I2.after hq'
   subst ev
   exact ⟨rv,⟨V.ref (s.heap.objs.size + 1),H',I3,rfl,q3⟩⟩
  | next=>exact False.elim hq'
  | brk=>exact False.elim hq'
  | cont=>exact False.elim hq'
theorem AiA (M:Mk X.K C f) (F:FnOk X.prog X.w X.K X.mg X.base CX k f fd ps sp) (hr:Room (k + 1) X.A) (hg:Gl X x) (hm:X.mg x = some (.ref C)) (hb:Binds X.K fd ps ds) (hd:Vals dvs ds) (hx:Qh CX X E)
  (ha:PA X (e :: es) t) (hdb:(x == ("__debug__" : Str)) = false:=by decide) (he:starEach (e :: es) X.env = (false,eval e X.env) :: starEach es X.env:=by rfl) (hpl:(backTo pos (starEach es X.env)).any (·.1) = false:=by rfl) :
  PE X (.Call (.Name x p) (e :: es) [] pos) (AgA C sp dvs E t):=by
 intro pins s σ H Q I h
 refine wpAny_Call_Name_kw (Xv I hg hm ?_ hdb)
 refine callWith_K (h₀:=X.base) I.ok.mod.kin M.kp (thn (ha pos pins s σ H _ I h) fun us s1 ⟨vs,H1,I1,r,q⟩=>⟨I1.kIn,?_⟩) he hpl
 exact Afj M F hr hb hd hx I1 r q
end
def PK (X:Cx) (kws:List Keyword) (t:TA):Prop :=
 ∀ (pos:Pos) (pins:List (Addr × Obj)) (s:Shared) (σ:St) (H:Hp) (Q:List V->Hp->Prop),Inv X pins σ H s->t σ H Q->wpAny (model X.prog X.w) X.A (evalAll ((backToKw pos (keywordEach kws X.env)).map (·.2))) (AP X pins σ Q) X.xe s
section
variable {X:Cx} {CX:CXT} {k:Nat} {f C:Addr} {fd:FuncData} {ps ks:List Str} {sp:Sp} {E:XK} {x m:Str} {p pos apos kpos:Pos} {e o:Expr} {es:List Expr} {kws:List Keyword} {te ta:TE} {t tk:TA} {nm:Option Str}
theorem Alp:PK X [] La:=fun _ _ _ _ H Q I h=>wpAny_evalAll_nil ⟨[],H,I,.nil,h⟩
theorem Aik (ha:PE X e te) (hr:PK X kws t):PK X (⟨nm,e,kpos⟩ :: kws) (Fl te t):=by
 intro pos pins s σ H Q I h
 show wpAny _ _ (evalAll ((do let v <- eval e X.env; standAt pos; pure v) :: (backToKw pos (keywordEach kws X.env)).map (·.2))) _ _ s
 refine wpAny_evalAll_cons (wpAny_bind (thn (ha pins s σ H _ I h) fun u s1 ⟨x,H1,I1,r1,q1⟩=>wpAny_bind (wpAny_standAt (wpAny_pure ?_))))
 exact thn (hr pos pins s1 σ H1 _ I1 q1) fun us s2 ⟨xs,H2,I2,r2,q2⟩=>⟨x :: xs,H2,I2,.cons r1 r2,q2⟩
variable {g:List Value->List Value->List Value} {gV:List V->List V->List V}
end
structure Bz (N P:List Str) (sc:Scope):Prop where
 kind:sc.kind = .function
 co:sc.isCoroutine = false
 gen:sc.isGenerator = false
 nd:N.Nodup
 pre:N.take P.length = P
 par:∀ x ∈ P,sc.names.lookup x = some .local\/sc.names.lookup x = some .cell
 nofree:∀ y ∈ sc.names,y.2 ≠ .free
theorem Yw {kindOf:Str->Option NameKind} {x:Str}:∀ {binds:List (Str × Value)} {m:Str->Option Value},(∀ v,(x,v) ∉ binds)->bindL kindOf binds m x = m x
 | [],_,_=>rfl
 | (n,v) :: r,m,h=>by
  unfold bindL
  rw [Yw fun w hw=>h w (mem_cons_of_mem _ hw)]
  split
  ·have:x ≠ n:=by rintro rfl; exact h v mem_cons_self
   simp [this]
  ·rfl
theorem Ys {kindOf:Str->Option NameKind} {x:Str}:∀ {binds:List (Str × Value)} {m:Str->Option Value},(∀ v,(x,v) ∉ binds)->bindC kindOf binds m x = m x
 | [],_,_=>rfl
 | (n,v) :: r,m,h=>by
  unfold bindC
  rw [Ys fun w hw=>h w (mem_cons_of_mem _ hw)]
  split
  ·rfl
  ·have:x ≠ n:=by rintro rfl; exact h v mem_cons_self
   simp [this]
theorem Yt {kindOf:Str->Option NameKind} {x:Str} {v:Value}:∀ {P:List Str} {vs:List Value} {i:Nat} {m:Str->Option Value},P.Nodup->P[i]? = some x->vs[i]? = some v->kindOf x = some .local ->
  bindL kindOf (P.zip vs) m x = some v
 | [],_,_,_,_,h,_,_=>by simp at h
 | _ :: _,[],_,_,_,_,h,_=>by simp at h
 | p :: P,w :: vs,0,m,nd,h1,h2,hk=>by
  simp at h1 h2; subst h1; subst h2
  show bindL kindOf ((p,w) :: P.zip vs) m p = _
  unfold bindL
  rw [Yw fun v hv=>(nodup_cons.mp nd).1 (of_mem_zip hv).1,if_pos hk]
  simp
 | p :: P,w :: vs,i + 1,m,nd,h1,h2,hk=>by
  show bindL kindOf ((p,w) :: P.zip vs) m x = _
  unfold bindL
  exact Yt (i:=i) (nodup_cons.mp nd).2 (by simpa using h1) (by simpa using h2) hk
theorem Yo {kindOf:Str->Option NameKind} {x:Str} {v:Value}:∀ {P:List Str} {vs:List Value} {i:Nat} {m:Str->Option Value},P.Nodup->P[i]? = some x->vs[i]? = some v->kindOf x ≠ some .local ->
  bindC kindOf (P.zip vs) m x = some v
 | [],_,_,_,_,h,_,_=>by simp at h
 | _ :: _,[],_,_,_,_,h,_=>by simp at h
 | p :: P,w :: vs,0,m,nd,h1,h2,hk=>by
  simp at h1 h2; subst h1; subst h2
  show bindC kindOf ((p,w) :: P.zip vs) m p = _
  unfold bindC
  rw [Ys fun v hv=>(nodup_cons.mp nd).1 (of_mem_zip hv).1,if_neg hk]
  simp
 | p :: P,w :: vs,i + 1,m,nd,h1,h2,hk=>by
  show bindC kindOf ((p,w) :: P.zip vs) m x = _
  unfold bindC
  exact Yo (i:=i) (nodup_cons.mp nd).2 (by simpa using h1) (by simpa using h2) hk
def Nk (N:List Str) (vs:List V):St:=vs.map some ++ replicate (N.length - vs.length) none
def Uf (CX:CXT) (P:Program) (w:World) (K:Frag) (mg:Str->Option Value) (base:Heap) (N:List Str) (qual:Str) (scope:Scope) (f:Addr) (cd:Value) (A:Around) (outer:List Env) (s:Shared) (H:Hp) (E:XK):Cx where
 prog:=P
 w:=w
 K:=K
 mg:=mg
 base:=base
 A:=A.deeper (envOfC qual scope s.heap.objs.size f cd)
 N:=N
 s₀:=s
 H₀:=H
 env:=envOfC qual scope s.heap.objs.size f cd
 outer:=outer
 stack:=envOfC qual scope s.heap.objs.size f cd :: outer
 ex:=[]
 calm:=true
 fn:=fun _=>true
 pn:=[]
 xe:=fun e s'=>wpAny (model P w) (A.deeper (envOfC qual scope s.heap.objs.size f cd)) (leaving (envOfC qual scope s.heap.objs.size f cd) e) (fun _ s''=>CX outer H s E e s'') (fun e' s''=>CX outer H s E e' s'') s'
theorem AaI {sc:Scope} {n:Nat} {x:Str} (h:sc.names.lookup x = some .cell):∃ c,(cellsFrom n sc.names []).lookup x = some c:=by
 have q:=cellsFrom_some sc.names n [] (.inl h)
 exact Option.isSome_iff_exists.mp q
theorem AdA {CX:CXT} {P:Program} {w:World} {K:Frag} {mg:Str->Option Value} {base:Heap} {N ps:List Str} {qual:Str} {scope:Scope} {f:Addr} {cd:Value} {A:Around} {outer:List Env} {s s1:Shared} {H:Hp} {E:XK} {us:List Value} {vs:List V}
  (S:Bz N ps scope) (hd:A.handled = none) (e0:Env0 P w K mg base A outer s H) (hl:vs.length = ps.length) (r:Vals vs us)
  (x:InCallC s s.heap.objs.size (bindL (envOfC qual scope s.heap.objs.size f cd).kindOf (ps.zip us) fun _=>none) (cellsFrom (s.heap.objs.size + 1) scope.names []) (bindC (envOfC qual scope s.heap.objs.size f cd).kindOf (ps.zip us) fun _=>none) s1) :
  Inv (Uf CX P w K mg base N qual scope f cd A outer s H E) [] (Nk N vs) H s1:=by
 have hpl:ps.length <= N.length:=by have:=congrArg length S.pre; rw [length_take] at this; omega
 obtain ⟨h1,tk,rfl,hk⟩:=x.done
 have noA:∀ b:Addr,b ∉ (Uf CX P w K mg base N qual scope f cd A outer s H E).ex:=fun b z=>absurd (show b ∈ ([]:List Addr) from z) (by simp)
 refine ⟨⟨e0.mod,S.kind,rfl,rfl,Nat.le_refl _,fun y z c h1 h2=>?_,fun y hy=>?_,fun y c _ h=>?_,fun _=>hd,Around.frames_deeper e0.frames,.inr ⟨rfl,rfl⟩,fun b z=>absurd z (noA b),e0.bs,e0.bsz,fun b _ _=>noA b,fun b z=>absurd z (noA b),e0.funs,e0.frf⟩,
  rfl,e0.bare,Un.kept hk,⟨_,x.toInCall.ns,fun i y v h1 h2 h3=>?_⟩,fun y c h=>⟨_,x.cell y c h⟩,e0.hok.fresh (Nat.le_refl _),fun y c h=>?_,fun p hp=>absurd (show p ∈ ([]:List (Addr × Obj)) from hp) (by simp),e0.hok.kept hk,?_⟩
 ·exact name_of_addr x.apart (PySem.mem_of_lookup h1) (PySem.mem_of_lookup h2)
 ·have hy:scope.names.lookup y = some .cell\/scope.names.lookup y = some .free:=hy
  rcases hy with hy | hy
  ·exact AaI hy
  ·exact absurd rfl (S.nofree _ (PySem.mem_of_lookup hy))
 ·exact Nat.le_of_lt (x.above y c (PySem.mem_of_lookup h))
 ·have hi:i < vs.length:=by
   unfold Nk at h2
   by_cases hi:i < vs.length
   ·exact hi
   ·rw [getElem?_append_right (by simpa using hi)] at h2
    rw [getElem?_replicate] at h2
    split at h2 <;> cases h2
  have ha:vs[i]? = some v:=by
   unfold Nk at h2
   rw [getElem?_append_left (by simpa using hi),getElem?_map] at h2
   cases e:vs[i]? with
   | none=>rw [e] at h2; cases h2
   | some a=>rw [e] at h2; cases h2; rfl
  obtain ⟨u,hu,rv⟩:=r.get ha
  have hp:ps[i]? = some y:=by
   rw [<- S.pre,List.getElem?_take_of_lt (by omega)]; exact h1
  have ndP:ps.Nodup:=by rw [<- S.pre]; exact S.nd.sublist (List.take_sublist _ _)
  refine ⟨u,rv,?_⟩
  rcases S.par y (mem_of_getElem? hp) with k | k
  ·exact .inl ⟨k,Yt ndP hp hu k⟩
  ·obtain ⟨c,e⟩:=AaI (n:=s.heap.objs.size + 1) k
   refine .inr ⟨.inl k,c,e,?_⟩
   have q:=x.cell y c e
   rw [Yo ndP hp hu (by show scope.names.lookup y ≠ _; rw [k]; decide)] at q
   exact q
 ·exact e0.hok.fresh (Nat.le_of_lt (x.above y c (PySem.mem_of_lookup h)))
 ·unfold Nk
  show _ = N.length
  rw [length_append,length_map,length_replicate]
  omega
theorem Agg {CX:CXT} {P:Program} {w:World} {K:Frag} {mg:Str->Option Value} {base:Heap} {k:Nat} {f:Addr} {name qual:Str} {params:Arguments} {body:List Stmt} {scope:Scope} {dV kV doc pm cdv ct oc:Value} {an od:Option Addr}
  {osl:Array (Option Value)} {N ps:List Str} {sp:Sp} (lk:K.lookup f = some ⟨oc,od,.func (fnOf name qual params body scope dV kV doc pm an cdv ct),osl⟩) (hcd:codeIn K cdv qual = true) (S:Bz N ps scope)
  (len:∀ vs H Q E,sp vs H Q E->vs.length = ps.length)
  (hbody:∀ (A:Around) (outer:List Env) (s:Shared) (H:Hp) (vs:List V) (Q:VK) (E:XK),Room k (A.deeper (envOfC qual scope s.heap.objs.size f cdv))->sp vs H Q E ->
   ∃ t,PSs (Uf CX P w K mg base N qual scope f cdv A outer s H E) body t/\t { nx:=fun _ H'=>Q .non H',rt:=Q } (Nk N vs) H) :
  FnOk P w K mg base CX (k + 1) f (fnOf name qual params body scope dV kV doc pm an cdv ct) ps sp:=by
 refine ⟨len,fun A outer s H args us vs Q E hr e0 hb r hsp=>?_⟩
 have hl:=len _ _ _ _ hsp
 have KX:K.In s.heap:=e0.mod.kin.keeps fun b o e=>(e0.bs b o e).1
 have lim:s.heap.NoLimit:=e0.mod.nolimit.keeps fun b o e=>(e0.bs b o e).1
 have hkind:∀ y ∈ ps.zip us,scope.names.lookup y.1 = some .local\/(scope.names.lookup y.1 = some .cell/\((cellsFrom (s.heap.objs.size + 1) scope.names []).lookup y.1).isSome = true):=fun ⟨n,v⟩ hy=>by
  rcases S.par n (of_mem_zip hy).1 with q | q
  ·exact .inl q
  ·exact .inr ⟨q,cellsFrom_some _ _ _ (.inl q)⟩
 refine codeAny_call_function hr.depth (KX _ _ lk) rfl S.co S.gen rfl (PySem.W.codeRec_of KX hcd) (hb _ _ _ _ ?_)
 refine wpAny_newFunctionEnv_cells S.kind hkind fun env he s1 x=>?_
 subst he
 refine ⟨lim.keeps x.toInCall.keep,codeAny_func ?_⟩
 obtain ⟨t,ht,hq⟩:=hbody A outer s H vs Q E (hr.deeper _) hsp
 have I:Inv (Uf CX P w K mg base N qual scope f cdv A outer s H E) [] (Nk N vs) H s1:=AdA S hr.hd e0 hl r x
 refine wpAny_mono (ht [] s1 (Nk N vs) H _ I hq) (fun fl s' hs=>?_) fun e s' hs=>hs
 have fin:∀ {σ':St} {H':Hp} {v:V} {u:Value},Inv (Uf CX P w K mg base N qual scope f cdv A outer s H E) [] σ' H' s'->RelV v u->Q v H'->CE outer P w H s Q u s' :=
  fun {σ' H' v u} J rv q=>⟨v,H',J.os,J.bare,J.base,J.hok,rv,q⟩
 cases fl with
 | ret u =>
  obtain ⟨v,σ',H',J,rv,q⟩:=hs
  exact fin J rv q
 | next =>
  obtain ⟨σ',H',J,q⟩:=hs
  exact fin (v:=V.non) (u:=Value.none) J rfl q
 | brk =>
  obtain ⟨_,_,_,q⟩:=hs
  exact False.elim q
 | cont =>
  obtain ⟨_,_,_,q⟩:=hs
  exact False.elim q
end L2
namespace L2
open PySem PySem.Spec PyProof.Rows
section
variable {X:Cx} {x:Str} {p pos:Pos} {e:Expr} {es:List Expr} {t:TA} {id T:String} {r:List V->Hp->VK->Prop}
def tCB (r:List V->Hp->VK->Prop) (t:TA):TE:=fun σ H Q=>t σ H fun vs H1=>r vs H1 Q
theorem Ct (hc:Lk X (.builtin id) r) (hg:Gl X x) (hm:X.mg x = none) (hv:bootBuiltins x = some (.builtin id)) (ha:PA X (e :: es) t) (hn:x ≠ "__name__":=by decide) (hdb:(x == ("__debug__" : Str)) = false:=by decide)
  (he:starEach (e :: es) X.env = (false,eval e X.env) :: starEach es X.env:=by rfl) (hpl:(backTo pos (starEach es X.env)).any (·.1) = false:=by rfl):PE X (.Call (.Name x p) (e :: es) [] pos) (tCB r t):=by
 intro pins s σ H Q I h
 refine wpAny_Call_Name_kw (Gj I hg hm hv ?_ hn hdb)
 exact PyProof.Rows.callWith_builtin1 (thn (ha pos pins s σ H _ I h) fun us s1 ⟨vs,H1,I1,r1,q1⟩=>hc pins s1 σ H1 vs us Q I1 r1 q1) he hpl
theorem Lo (hc:Lk X (.type T) r) (hg:Gl X x) (hm:X.mg x = none) (hv:bootBuiltins x = some (.type T)) (ha:PA X (e :: es) t) (hn:x ≠ "__name__":=by decide) (hdb:(x == ("__debug__" : Str)) = false:=by decide)
  (he:starEach (e :: es) X.env = (false,eval e X.env) :: starEach es X.env:=by rfl) (hpl:(backTo pos (starEach es X.env)).any (·.1) = false:=by rfl):PE X (.Call (.Name x p) (e :: es) [] pos) (tCB r t):=by
 intro pins s σ H Q I h
 refine wpAny_Call_Name_kw (Gj I hg hm hv ?_ hn hdb)
 exact PyProof.Rows.callWith_type1 (thn (ha pos pins s σ H _ I h) fun us s1 ⟨vs,H1,I1,r1,q1⟩=>hc pins s1 σ H1 vs us Q I1 r1 q1) he hpl
end
end L2
namespace HT
open PySem PyProof.Rows
section
open PySem.SeqAt
open PySem.AutoSeq1 (wpAny_loadPart')
open PySem.MeetsSeq PySem.MeetsSeq2 PySem.MeetsSeq3
end
section
variable {prog:Program} {w:World} {A:Around} {E:Value->Shared->Prop} {s:Shared}
def sIx (n d:Nat):Option Int->Nat
 | none=>d
 | some v=>if v < 0 then (v + (n:Int)).toNat else min v.toNat n
theorem sIx_none (n d:Nat):sIx n d none = d:=rfl
theorem sIx_nat (n d k:Nat):sIx n d (some (k:Int)) = min k n:=by
 show (if (k:Int) < 0 then ((k:Int) + (n:Int)).toNat else min (k:Int).toNat n) = min k n
 rw [if_neg (by omega),toNat_natCast]
end
end HT
namespace L2
open PySem PySem.Spec PyProof.Rows
abbrev TO:=St->Hp->(Option Int->Hp->Prop)->Prop
def PO (X:Cx) (e:Option Expr) (t:TO):Prop :=
 ∀ (pins:List (Addr × Obj)) (s:Shared) (σ:St) (H:Hp) (Q:Option Int->Hp->Prop),Inv X pins σ H s->t σ H Q ->
  wpAny (model X.prog X.w) X.A (evalPart e X.env) (fun u s'=>∃ o H',Inv X pins σ H' s'/\IsPart u o/\Q o H') X.xe s
def AbK:TO:=fun _ H Q=>Q none H
def Ahh (t:TE):TO:=fun σ H Q=>t σ H fun x H1=>∃ i,x = .int i/\Q (some i) H1
section
variable {X:Cx} {e:Expr} {te:TE} {lo hi:Option Expr} {tl th:TO} {pos p2:Pos}
theorem Yk:PO X none AbK:=by
 intro pins s σ H Q I h
 rw [evalPart_none]
 exact wpAny_pure ⟨none,H,I,.none,h⟩
theorem Fm (h:PE X e te):PO X (some e) (Ahh te):=by
 intro pins s σ H Q I hw
 rw [evalPart_some]
 refine thn (h pins s σ H _ I hw) fun u s1 ⟨x,H1,I1,r1,q1⟩=>?_
 obtain ⟨i,rfl,q⟩:=q1
 obtain ⟨t,rfl⟩:=r1
 exact ⟨some i,H1,I1,.int i t,q⟩
def SlR (X:Cx) (r:V->Option Int->Option Int->Hp->VK->Prop):Prop :=
 ∀ (pins:List (Addr × Obj)) (s:Shared) (σ:St) (H:Hp) (x:V) (v vl vu:Value) (lo hi:Option Int) (sl:Addr) (Q:VK),Inv X pins σ H s->RelV x v->s.heap.IsSliceOf sl vl vu .none->IsPart vl lo->IsPart vu hi->r x lo hi H Q ->
  ∃ T id,typeLookup (.type T) "__getitem__" = pure (some (.builtin id))/\s.TypeIs v T/\wpAny (model X.prog X.w) X.A (getItem v (.ref sl)) (EP X pins σ Q) X.xe s
def tSl (r:V->Option Int->Option Int->Hp->VK->Prop) (te:TE) (tl th:TO):TE:=fun σ H Q=>te σ H fun x H1=>tl σ H1 fun l H2=>th σ H2 fun u H3=>r x l u H3 Q
theorem Gz {r:V->Option Int->Option Int->Hp->VK->Prop} (hr:SlR X r) (he:PE X e te) (hl:PO X lo tl) (hu:PO X hi th):PE X (.Subscript e (.Slice lo hi none p2) pos) (tSl r te tl th):=by
 intro pins s σ H Q I h
 refine Subscript_ (thn (he pins s σ H _ I h) fun v s1 ⟨x,H1,I1,r1,q1⟩=>?_)
 refine wpAny_Slice (thn (hl pins s1 σ H1 _ I1 q1) fun vl s2 ⟨l,H2,I2,pl,q2⟩=>thn (hu pins s2 σ H2 _ I2 q2) fun vu s3 ⟨u,H3,I3,pu,q3⟩=>?_)
 rw [evalPart_none]
 refine wpAny_pure ?_
 have I4:Inv X pins σ H3 { s3 with heap:=s3.heap.push { cls:=.type "slice",data:=.fields #[vl,vu,.none] } }:=I3.kept (t':=s3.toks) fun b ob q=>get?_push_of_some _ q
 obtain ⟨T,id,hT,ht,hg⟩:=hr pins { s3 with heap:=s3.heap.push { cls:=.type "slice",data:=.fields #[vl,vu,.none] } } σ H3 x v vl vu l u s3.heap.objs.size Q I4 r1 (Heap.IsSliceOf.new ..) pl pu q3
 show wpAny (model X.prog X.w) X.A (subscriptTail e (.Slice lo hi none p2) v (.ref s3.heap.objs.size)) (EP X pins σ Q) X.xe { s3 with heap:=s3.heap.push { cls:=.type "slice",data:=.fields #[vl,vu,.none] } }
 exact tail_any (ops:=[.ref s3.heap.objs.size,v]) ht hT hg (by with_unfolding_all rfl)
def Vo (xs:List V) (lo hi:Option Int):List V:=(xs.drop (HT.sIx xs.length 0 lo)).take (HT.sIx xs.length xs.length hi - HT.sIx xs.length 0 lo)
theorem Abe (xs:List V) (lo hi:Option Int):(Vo xs lo hi).length <= xs.length:=by
 unfold Vo
 rw [length_take,length_drop]
 omega
end
end L2
namespace L2
open PySem PySem.Spec PyProof.Rows
def ixN (n:Nat) (i:Int):Option Nat:=if 0 <= i then (if i < n then some i.toNat else none) else if -(n:Int) <= i then some (i + n).toNat else none
def atI {α:Type} (xs:List α) (i:Int):Option α:=(ixN xs.length i).bind fun j=>xs[j]?
theorem Abl {n:Nat} {i:Int} {j:Nat} (h:ixN n i = some j):seqIndex? i n = some j/\j < n/\-(n:Int) <= i/\i < n:=by
 unfold ixN at h
 by_cases h0:0 <= i
 ·rw [if_pos h0] at h
  by_cases h1:i < n
  ·rw [if_pos h1] at h
   have e:i.toNat = j:=Option.some.inj h
   exact ⟨by rw [seqIndex_of h0 h1,e],by omega,by omega,h1⟩
  ·rw [if_neg h1] at h; cases h
 ·rw [if_neg h0] at h
  by_cases h1:-(n:Int) <= i
  ·rw [if_pos h1] at h
   have e:(i + n).toNat = j:=Option.some.inj h
   exact ⟨by rw [seqIndex_neg (by omega) h1,e],by omega,h1,by omega⟩
  ·rw [if_neg h1] at h; cases h
theorem AbP {α:Type} {xs:List α} {i:Int} {v:α} (h:atI xs i = some v):∃ j,seqIndex? i xs.length = some j/\xs[j]? = some v/\j < xs.length/\-(xs.length:Int) <= i/\i < xs.length:=by
 unfold atI at h
 cases e:ixN xs.length i with
 | none=>rw [e] at h; cases h
 | some j =>
  rw [e] at h
  obtain ⟨h1,h2,h3,h4⟩:=Abl e
  exact ⟨j,h1,h,h2,h3,h4⟩
theorem Fo {α:Type} {xs:List α} {j:Nat} {v:α} (h:xs[j]? = some v):atI xs (j:Int) = some v:=by
 have hj:j < xs.length:=(List.getElem?_eq_some_iff.mp h).1
 have e:ixN xs.length (j:Int) = some j:=by
  unfold ixN
  rw [if_pos (by omega),if_pos (by omega)]; simp
 unfold atI; rw [e]; exact h
def Aig (b:Expr):Prop:=∀ o i,subscripted b false o i = operate [o,i] (getItem o i)
def IxR (X:Cx) (r:R2):Prop :=
 ∀ (value slice:Expr) (pins:List (Addr × Obj)) (s:Shared) (σ:St) (H:Hp) (x y:V) (v u:Value) (Q:VK),Inv X pins σ H s->RelV x v->RelV y u->r x y H Q ->
  subscripted slice false v u = operate [v,u] (getItem v u)->wpAny (model X.prog X.w) X.A (subscriptTail value slice v u) (EP X pins σ Q) X.xe s
def MtR (X:Cx) (id:String) (r:V->List V->Hp->VK->Prop):Prop :=
 ∀ (pins:List (Addr × Obj)) (s:Shared) (σ:St) (H:Hp) (x:V) (xs:List V) (v:Value) (us:List Value) (Q:VK),Inv X pins σ H s->RelV x v->Vals xs us->r x xs H Q ->
  wpAny (model X.prog X.w) X.A (call (.builtin id) (v :: us)) (EP X pins σ Q) X.xe s
section
variable {X:Cx} {a b:Expr} {ta tb:TE} {pos:Pos}
theorem Cl {r:R2} (hr:IxR X r) (ha:PE X a ta) (hb:PE X b tb) (hs:Aig b):PE X (.Subscript a b pos) (tOp r ta tb):=by
 intro pins s σ H Q I h
 exact Subscript_ (Afu ha hb I h fun v u s2 x y H2 I2 rx ry q=>hr a b pins s2 σ H2 x y v u Q I2 rx ry q (hs _ _))
def Aat (K:Frag):R2:=fun x y H Q=>∃ p xs i v,x = .ref p/\y = .int i/\SqL K H p xs/\atI xs i = some v/\Q v H
def Xo (K:Frag):R2:=fun x y H Q=>∃ p xs i v,x = .ref p/\y = .int i/\SqT K H p xs/\atI xs i = some v/\Q v H
theorem Ya:IxR X (Aat X.K):=by
 intro value slice pins s σ H x y v u Q I rx ry h hs
 obtain ⟨p,xs,i,z,rfl,rfl,hq,he,q⟩:=h
 cases rx
 obtain ⟨t,rfl⟩:=ry
 obtain ⟨its,r,pl,hz⟩:=I.list hq
 obtain ⟨j,h1,h2,h3,h4,h5⟩:=AbP he
 obtain ⟨w,ew,rw'⟩:=r.get h2
 have hl:=r.length
 have hn:=Xg
 have fin:EP X pins σ Q w s:=⟨z,H,I,rw',q⟩
 by_cases h0:0 <= i
 ·have hj:i.toNat = j:=by
   rw [seqIndex_of h0 h5] at h1
   exact Option.some.inj h1
  exact item_listR pl.isList h0 (by omega) (by rw [hj]; simpa using ew) fin hs
 ·have hj:(i + (its.toArray.size:Int)).toNat = j:=by
   rw [seqIndex_neg (by omega) h4] at h1
   rw [size_toArray,<- hl]
   exact Option.some.inj h1
  exact subscriptTail_builtinR (x:=w) pl.isList.typeIs slot_list_getitem.lookup
   (wpAny_getItem_list_neg (Q:=fun r s'=>r = w/\EP X pins σ Q r s') pl.isList (by omega) (by rw [size_toArray] <;> omega) (by omega) (by rw [hj]; simpa using ew) ⟨rfl,fin⟩) hs
theorem Aan:IxR X (Xo X.K):=by
 intro value slice pins s σ H x y v u Q I rx ry h hs
 obtain ⟨p,xs,i,z,rfl,rfl,hq,he,q⟩:=h
 cases rx
 obtain ⟨t,rfl⟩:=ry
 obtain ⟨its,r,pl,hz⟩:=I.tuple hq
 obtain ⟨j,h1,h2,h3,h4,h5⟩:=AbP he
 obtain ⟨w,ew,rw'⟩:=r.get h2
 have hl:=r.length
 have hn:=Xg
 have fin:EP X pins σ Q w s:=⟨z,H,I,rw',q⟩
 exact subscriptTail_builtinR (x:=w) pl.typeIs slot_tuple_getitem.lookup
  (getItem_tuple (j:=j) (Q:=fun r s'=>r = w/\EP X pins σ Q r s') pl (by omega) (by omega) (by rw [size_toArray,<- hl]; exact h1) (by simpa using ew) ⟨rfl,fin⟩) hs
theorem Ab3 (its:List Value) (n j:Nat) (u:Value):Obj.mapSeq (·.setIfInBounds j u) { cls:=.type "list",data:=.seq its.toArray n } = { cls:=.type "list",data:=.seq (its.set j u).toArray n }:=by
 simp [Obj.mapSeq]
theorem Inv.lst {pins:List (Addr × Obj)} {σ:St} {H:Hp} {s:Shared} {p:Addr} {xs:List V} (I:Inv X pins σ H s) (h:H p = some (.lst xs)) :
  ∃ (its:List Value) (n:Nat),Vals xs its/\s.heap.get? p = some { cls:=.type "list",data:=.seq its.toArray n }/\xs.length <= sizeLine:=by
 obtain ⟨z,its,n,r,e⟩:=I.hok p _ h
 exact ⟨its,n,r,e,z⟩
theorem Inv.lstUpd {pins:List (Addr × Obj)} {σ:St} {H:Hp} {s:Shared} {p:Addr} {xs ys:List V} {its its':List Value} {n n':Nat} {f:Obj->Obj} (I:Inv X pins σ H s) (h:H p = some (.lst xs))
  (ho:s.heap.get? p = some { cls:=.type "list",data:=.seq its.toArray n }) (hf:f { cls:=.type "list",data:=.seq its.toArray n } = { cls:=.type "list",data:=.seq its'.toArray n' }) (r:Vals ys its') (hz:ys.length <= sizeLine) (t:Nat) :
  Inv X pins σ (upd H p (.lst ys)) { s with heap:=s.heap.update p f,toks:=t }:=by
 have e:(s.heap.update p f).get? p = some { cls:=.type "list",data:=.seq its'.toArray n' }:=by
  rw [Heap.get?_update_self f ho (by rw [hf] <;> rfl),hf]
 refine I.write (x:=p) (e:=p) (by rw [h]; trivial) (.inl rfl) (fun b u hb q=>(Heap.get?_update_other _ _ (Ne.symm hb)).trans q) ⟨_,e⟩ ?_
 exact ⟨hz,its',n',r,e⟩
def AmM:V->V->V->Hp->(Hp->Prop)->Prop:=fun o i v H Q=>∃ p xs k j,o = .ref p/\i = .int k/\H p = some (.lst xs)/\ixN xs.length k = some j/\Q (upd H p (.lst (xs.set j v)))
theorem Ae6:Afe X AmM:=by
 intro pins s σ H o i v ov iv u Q I ro ri rv h
 obtain ⟨p,xs,k,j,rfl,rfl,hp,hj,q⟩:=h
 cases ro
 obtain ⟨t,rfl⟩:=ri
 obtain ⟨its,n,r,ho,hz⟩:=I.lst hp
 obtain ⟨h1,h2,h3,h4⟩:=Abl hj
 have hl:=r.length
 have hn:=Xg
 have I':Inv X pins σ (upd H p (.lst (xs.set j v))) { s with heap:=s.heap.update p (Obj.mapSeq (·.setIfInBounds j u)) } :=
  I.lstUpd hp ho (Ab3 its n j u) (r.set rv j) (by rw [length_set]; exact hz) s.toks
 by_cases h0:0 <= k
 ·have hk:k.toNat = j:=by
   rw [seqIndex_of h0 h4] at h1
   exact Option.some.inj h1
  exact PySem.W.ki_setAt ho h0 (by omega) (by rw [size_toArray,<- hl]; exact h4) (by rw [hk]; exact ⟨_,I',q⟩)
 ·have hk:(k + (its.toArray.size:Int)).toNat = j:=by
   rw [seqIndex_neg (by omega) h3] at h1
   rw [size_toArray,<- hl]
   exact Option.some.inj h1
  exact PySem.W.ki_setBack ho (by omega) (by rw [size_toArray,<- hl]; exact h3) (by omega) (by rw [hk]; exact ⟨_,I',q⟩)
theorem Aa2 (lo hi:Option Int) (n:Nat):(sliceBounds lo hi none n).1 = ((HT.sIx n 0 lo:Nat):Int)/\(sliceBounds lo hi none n).2.1 = ((HT.sIx n n hi:Nat):Int)/\(sliceBounds lo hi none n).2.2 = 1:=by
 refine ⟨?_,?_,rfl⟩
 ·cases lo with
  | none=>simp [sliceBounds,HT.sIx]
  | some i =>
   simp only [sliceBounds,HT.sIx,getD_none,show (1:Int) > 0 by decide,if_true]
   by_cases h:i < 0
   ·simp only [h,if_true] <;> omega
   ·simp only [h,if_false] <;> omega
 ·cases hi with
  | none=>simp [sliceBounds,HT.sIx]
  | some i =>
   simp only [sliceBounds,HT.sIx,getD_none,show (1:Int) > 0 by decide,if_true]
   by_cases h:i < 0
   ·simp only [h,if_true] <;> omega
   ·simp only [h,if_false] <;> omega
theorem Zf (its:List Value) (lo hi:Option Int):slicePick its.toArray lo hi none = ((its.drop (HT.sIx its.length 0 lo)).take (HT.sIx its.length its.length hi - HT.sIx its.length 0 lo)).toArray:=by
 obtain ⟨h1,h2,h3⟩:=Aa2 lo hi its.toArray.size
 unfold slicePick
 rw [h1,h2,h3]
 simp only [sliceRange_one,pick_run,size_toArray] <;> rfl
def AnF (K:Frag):V->Option Int->Option Int->Hp->VK->Prop:=fun x lo hi H Q=>∃ a xs,x = .ref a/\SqL K H a xs/\∀ p,H p = none->Q (.ref p) (upd H p (.lst (Vo xs lo hi)))
theorem Ain:SlR X (AnF X.K):=by
 intro pins s σ H x v vl vu lo hi sl Q I rx hs pl pu h
 obtain ⟨a,xs,rfl,hx,q⟩:=h
 cases rx
 obtain ⟨its,r,ht,hz⟩:=I.list hx
 have hlen:=r.length
 refine ⟨"list",_,slot_list_getitem.lookup,ht.isList.typeIs,?_⟩
 refine wpAny_getItem_list_slice ht.isList hs pl pu .none (by simp) ?_ (by rw [size_toArray] <;> omega)
 rw [Zf,<- hlen]
 refine ⟨.ref s.heap.objs.size,_,I.laid (t':=s.toks) (o:=.lst (Vo xs lo hi)) (fun b ob q=>get?_push_of_some _ q) (Nat.le_refl _) ?_,rfl,q _ (I.hok.fresh (Nat.le_refl _))⟩
 exact ⟨Nat.le_trans (Abe xs lo hi) hz,_,0,(r.drop (HT.sIx xs.length 0 lo)).take (HT.sIx xs.length xs.length hi - HT.sIx xs.length 0 lo),get?_push_size _ rfl⟩
def Js:V->Bool
 | .non=>true
 | .bl _=>true
 | .int _=>true
 | .str _=>true
 | _=>false
def eqV:V->V->Bool
 | .non,.non=>true
 | .bl a,.bl b=>a == b
 | .bl a,.int b=>(if a then 1 else 0) == b
 | .int a,.bl b=>a == (if b then 1 else 0)
 | .int a,.int b=>a == b
 | .str a,.str b=>a == b
 | _,_=>false
theorem Aeu {A:Around} {s:Shared} {y x:V} {u v:Value} (ry:RelV y u) (rx:RelV x v) (fy:Js y = true) (fx:Js x = true):SeqAt.EqAt A s u v (eqV y x):=by
 cases y with
 | non =>
  cases ry
  cases x with
  | non=>cases rx; exact SeqAt.EqAt.same _
  | bl b=>cases rx; exact SeqAt.EqAt.none_bool b
  | int b=>obtain ⟨t,rfl⟩:=rx; exact SeqAt.EqAt.none_int b t
  | str b=>obtain ⟨t,rfl⟩:=rx; exact SeqAt.EqAt.none_str b t
  | _=>exact absurd (show false = true from fx) Bool.false_ne_true
 | bl a =>
  cases ry
  cases x with
  | non=>cases rx; exact SeqAt.EqAt.bool_none a
  | bl b=>cases rx; exact SeqAt.EqAt.bool_bool a b
  | int b=>obtain ⟨t,rfl⟩:=rx; exact SeqAt.EqAt.bool_int a b t
  | str b=>obtain ⟨t,rfl⟩:=rx; exact SeqAt.EqAt.bool_str a b t
  | _=>exact absurd (show false = true from fx) Bool.false_ne_true
 | int a =>
  obtain ⟨t',rfl⟩:=ry
  cases x with
  | non=>cases rx; exact SeqAt.EqAt.int_none a t'
  | bl b=>cases rx; exact SeqAt.EqAt.int_bool a t' b
  | int b=>obtain ⟨t,rfl⟩:=rx; exact SeqAt.EqAt.int_int a t' b t
  | str b=>obtain ⟨t,rfl⟩:=rx; exact SeqAt.EqAt.int_str a t' b t
  | _=>exact absurd (show false = true from fx) Bool.false_ne_true
 | str a =>
  obtain ⟨t',rfl⟩:=ry
  cases x with
  | non=>cases rx; exact SeqAt.EqAt.str_none a t'
  | bl b=>cases rx; exact SeqAt.EqAt.str_bool a t' b
  | int b=>obtain ⟨t,rfl⟩:=rx; exact SeqAt.EqAt.str_int a t' b t
  | str b=>obtain ⟨t,rfl⟩:=rx; exact SeqAt.EqAt.str_str a t' b t
  | _=>exact absurd (show false = true from fx) Bool.false_ne_true
 | _=>exact absurd (show false = true from fy) Bool.false_ne_true
def eqU (x:V) (u:Value):Bool:=match u with
 | .none=>eqV .non x
 | .bool b=>eqV (.bl b) x
 | .int i _=>eqV (.int i) x
 | .str z _=>eqV (.str z) x
 | _=>false
theorem Adn {x y:V} {u:Value} (r:RelV y u) (f:Js y = true):eqU x u = eqV y x:=by
 cases y with
 | non=>cases r; rfl
 | bl b=>cases r; rfl
 | int i=>obtain ⟨t,rfl⟩:=r; rfl
 | str z=>obtain ⟨t,rfl⟩:=r; rfl
 | _=>exact absurd (show false = true from f) Bool.false_ne_true
theorem Sb {x:V}:∀ {xs:List V} {us:List Value},Vals xs us->xs.all Js = true->us.any (eqU x) = xs.any fun y=>eqV y x
 | _,_,.nil,_=>rfl
 | y :: xs,u :: us,.cons r t,f=>by
  rw [all_cons,and_eq_true] at f
  rw [any_cons,any_cons,Adn r f.1,Sb t f.2]
theorem Qy {A:Around} {s:Shared} {x:V} {v:Value} (rx:RelV x v) (fx:Js x = true):∀ {xs:List V} {us:List Value},Vals xs us->xs.all Js = true->∀ u ∈ us,SeqAt.EqAt A s u v (eqU x u)
 | _,_,.nil,_=>fun u hu=>by cases hu
 | y :: xs,u :: us,.cons r t,f=>fun u' hu=>by
  rw [all_cons,and_eq_true] at f
  rcases mem_cons.mp hu with rfl | hu
  ·rw [Adn r f.1]; exact Aeu r rx f.1 fx
  ·exact Qy rx fx t f.2 u' hu
def inV (x:V) (xs:List V):Bool:=xs.any fun y=>eqV y x
def rIn (K:Frag) (neg:Bool):R2:=fun x y H Q=>∃ p xs,y = .ref p/\(SqL K H p xs\/SqT K H p xs)/\Js x = true/\xs.all Js = true/\Q (.bl (if neg then !inV x xs else inV x xs)) H
theorem Up:OpR X (compareOp .In) (rIn X.K false):=by
 intro pins s σ H x y v u Q I rx ry h
 obtain ⟨p,xs,rfl,hq,fx,fs,q⟩:=h
 cases ry
 rcases hq with hq | hq
 ·obtain ⟨its,r,pl,hz⟩:=I.list hq
  refine SeqAt.in_listAt (eqU x) pl.isList (fun w hw=>Qy rx fx r fs w (by simpa using hw)) ⟨.bl _,H,I,rfl,?_⟩
  rw [show its.toArray.any (eqU x) = its.any (eqU x) by simp,Sb r fs]
  exact q
 ·obtain ⟨its,r,pl,hz⟩:=I.tuple hq
  refine SeqAt.in_tupleAt (eqU x) pl (fun w hw=>Qy rx fx r fs w (by simpa using hw)) ⟨.bl _,H,I,rfl,?_⟩
  rw [show its.toArray.any (eqU x) = its.any (eqU x) by simp,Sb r fs]
  exact q
theorem AaB:OpR X (compareOp .NotIn) (rIn X.K true):=by
 intro pins s σ H x y v u Q I rx ry h
 obtain ⟨p,xs,rfl,hq,fx,fs,q⟩:=h
 cases ry
 rcases hq with hq | hq
 ·obtain ⟨its,r,pl,hz⟩:=I.list hq
  refine SeqAt.notIn_listAt (eqU x) pl.isList (fun w hw=>Qy rx fx r fs w (by simpa using hw)) ⟨.bl _,H,I,rfl,?_⟩
  rw [show its.toArray.any (eqU x) = its.any (eqU x) by simp,Sb r fs]
  exact q
 ·obtain ⟨its,r,pl,hz⟩:=I.tuple hq
  refine SeqAt.notIn_tupleAt (eqU x) pl (fun w hw=>Qy rx fx r fs w (by simpa using hw)) ⟨.bl _,H,I,rfl,?_⟩
  rw [show its.toArray.any (eqU x) = its.any (eqU x) by simp,Sb r fs]
  exact q
theorem Qn:Lk X (.builtin "len") (fun xs H Q=>∃ p ys,xs = [.ref p]/\(SqL X.K H p ys\/SqT X.K H p ys)/\Q (.int ys.length) H):=by
 intro pins s σ H xs us Q I r h
 obtain ⟨p,ys,rfl,hq,q⟩:=h
 obtain ⟨u,rfl,rx⟩:=Og r
 cases rx
 have hn:=Xg
 rcases hq with hq | hq
 ·obtain ⟨its,r',pl,hz⟩:=I.list hq
  have hlen:=r'.length
  exact Calls.call_len_list pl.isList (by simp only [size_toArray] <;> omega) ⟨.int ys.length,H,I.tok _,⟨s.toks + 1,by rw [size_toArray,hlen]⟩,q⟩
 ·obtain ⟨its,r',pl,hz⟩:=I.tuple hq
  have hlen:=r'.length
  exact len_tuple pl (by simp only [size_toArray] <;> omega) ⟨.int ys.length,H,I.tok _,⟨s.toks + 1,by rw [size_toArray,hlen]⟩,q⟩
theorem Aam:Lk X (.type "list") (fun xs H Q=>∃ p ys,xs = [.ref p]/\(SqL X.K H p ys\/SqT X.K H p ys)/\∀ l,H l = none->Q (.ref l) (upd H l (.lst ys))):=by
 intro pins s σ H xs us Q I r h
 obtain ⟨p,ys,rfl,hq,q⟩:=h
 obtain ⟨u,rfl,rx⟩:=Og r
 cases rx
 have fin:∀ (its:List Value),Vals ys its->ys.length <= sizeLine->∀ (h':Heap) (c':Nat),(∀ b o',s.heap.get? b = some o'->h'.get? b = some o') ->
   h'.get? s.heap.objs.size = some { cls:=.type "list",dict:=none,data:=.seq its.toArray c',slots:=#[] }->EP X pins σ Q (.ref s.heap.objs.size) { s with heap:=h' }:=fun its r' hz h' c' kp e =>
  ⟨.ref s.heap.objs.size,_,I.laid (t':=s.toks) kp (Nat.le_refl _) (show ObjOk X.prog X.w _ h' _ (.lst ys) from ⟨hz,its,c',r',e⟩),rfl,q _ (I.hok.fresh (Nat.le_refl _))⟩
 rcases hq with hq | hq
 ·obtain ⟨its,r',pl,hz⟩:=I.list hq
  have hlen:=r'.length
  obtain ⟨o,ho,hc,n,hd⟩:=pl.isList
  exact call_list_seq p (.inl rfl) ho hc hd (fun h' c' kp e=>fin its r' hz h' c' kp e) (by simp only [size_toArray] <;> omega)
 ·obtain ⟨its,r',pl,hz⟩:=I.tuple hq
  have hlen:=r'.length
  obtain ⟨o,ho,hc,n,hd⟩:=pl
  exact call_list_seq p (.inr rfl) ho hc hd (fun h' c' kp e=>fin its r' hz h' c' kp e) (by simp only [size_toArray] <;> omega)
def tyV (K:Frag) (T:String) (x:V) (H:Hp):Prop:=match x with
 | .str _=>T = "str"
 | .int _=>T = "int"
 | .ref p=>(T = "list"/\∃ xs,SqL K H p xs)\/(T = "tuple"/\∃ o,K.lookup p = some o/\o.cls = .type "tuple"/\o.dict = none) \/
   (T = "dict"/\((∃ kvs,H p = some (.dK kvs))\/∃ kvs,H p = some (.dT kvs)))\/(T = "set"/\∃ S n,H p = some (.set S n))
 | _=>False
theorem Aez {pins:List (Addr × Obj)} {σ:St} {H:Hp} {s:Shared} {T:String} {x:V} {v:Value} (I:Inv X pins σ H s) (r:RelV x v) (ty:tyV X.K T x H) :
  s.TypeIs v T/\∀ a,v = .ref a->∃ ob,s.heap.get? a = some ob/\ob.dict = none:=by
 cases x with
 | str z =>
  obtain ⟨t,rfl⟩:=r
  cases (show T = "str" from ty)
  exact ⟨typeIs_str s z t,fun _ e=>nomatch e⟩
 | int i =>
  obtain ⟨t,rfl⟩:=r
  cases (show T = "int" from ty)
  exact ⟨typeIs_int s i t,fun _ e=>nomatch e⟩
 | ref p =>
  cases r
  rcases ty with ⟨rfl,xs,hq⟩ | ⟨rfl,o,hk,hc,hd⟩ | ⟨rfl,hk⟩ | ⟨rfl,S,n,hk⟩
  ·obtain ⟨its,_,pl,_⟩:=I.list hq
   refine ⟨pl.isList.typeIs,fun a e=>?_⟩
   cases e
   obtain ⟨o,n,e,c,hd,_⟩:=pl
   exact ⟨o,e,hd⟩
  ·refine ⟨⟨o,I.kIn p o hk,hc⟩,fun a e=>?_⟩
   cases e
   exact ⟨o,I.kIn _ o hk,hd⟩
  ·have z:∃ o,s.heap.get? p = some o/\o.ExactDict:=by
    rcases hk with ⟨kvs,hk⟩ | ⟨kvs,hk⟩
    ·obtain ⟨_,_,_,_,o,_,_,e,ex,_⟩:=I.hok p _ hk
     exact ⟨o,e,ex⟩
    ·obtain ⟨_,_,_,_,o,_,_,e,ex,_⟩:=I.hok p _ hk
     exact ⟨o,e,ex⟩
   obtain ⟨o,e,ex⟩:=z
   refine ⟨⟨o,e,ex.1⟩,fun a e2=>?_⟩
   cases e2
   exact ⟨o,e,ex.2.1⟩
  ·obtain ⟨o,_,_,_,e,ex,_⟩:=I.hok p _ hk
   refine ⟨⟨o,e,ex.1⟩,fun a e2=>?_⟩
   cases e2
   exact ⟨o,e,ex.2.1⟩
 | _=>exact False.elim ty
def AkA (K:Frag) (T:String) (r:V->List V->Hp->VK->Prop) (to:TE):TE:=fun σ H Q=>to σ H fun x H1=>tyV K T x H1/\r x [] H1 Q
def tBM (K:Frag) (T:String) (r:V->List V->Hp->VK->Prop) (to:TE) (t:TA):TE:=fun σ H Q=>to σ H fun x H1=>tyV K T x H1/\t σ H1 fun xs H2=>r x xs H2 Q
variable {o e:Expr} {es:List Expr} {to:TE} {t:TA} {name:Str} {apos cpos:Pos} {T id:String} {r:V->List V->Hp->VK->Prop}
theorem Ajh (pa:PlainAttrs T) (slot:Slot T name id) (hty:typeOf (.builtin id) = pure (.type "method_descriptor")) (hm:MtR X id r) (ho:PE X o to)
  (hbase:attributeBase o name X.env (eval o X.env) = eval o X.env:=by rfl) (hline:(apos.endLine == cpos.line) = true:=by rfl):PE X (.Call (.Attribute o name apos) [] [] cpos) (AkA X.K T r to):=by
 intro pins s σ H Q I h
 refine wpAny_Call_method0_late hbase hline (thn (ho pins s σ H _ I h) fun v s1 ⟨x,H1,I1,r1,ty,q1⟩=>?_)
 obtain ⟨h1,h2⟩:=Aez I1 r1 ty
 exact ⟨T,id,pa,slot,hty,h1,h2,Calls.callWith_builtin rfl (PySem.evalArgs_none (hm pins s1 σ H1 x [] v [] Q I1 r1 .nil q1))⟩
theorem Fv (pa:PlainAttrs T) (slot:Slot T name id) (hty:typeOf (.builtin id) = pure (.type "method_descriptor")) (hm:MtR X id r) (ho:PE X o to) (ha:PA X (e :: es) t)
  (hbase:attributeBase o name X.env (eval o X.env) = eval o X.env:=by rfl)
  (hfew:((backTo cpos (starEach (e :: es) X.env)).all (fun x=>!x.1) && (backToKw cpos (keywordEach [] X.env)).all (fun x=>x.1.isSome)
   && decide ((e :: es).length + ([]:List Keyword).length + (if ([]:List Keyword).isEmpty then 0 else 1) < 30)) = true:=by rfl)
  (hline:(apos.endLine == cpos.line) = true:=by rfl) (hs:starEach (e :: es) X.env = (false,eval e X.env) :: starEach es X.env:=by rfl) (hplain:(backTo cpos (starEach es X.env)).any (·.1) = false:=by rfl) :
  PE X (.Call (.Attribute o name apos) (e :: es) [] cpos) (tBM X.K T r to t):=by
 intro pins s σ H Q I h
 refine wpAny_Call_method_late hbase hfew hline rfl (thn (ho pins s σ H _ I h) fun v s1 ⟨x,H1,I1,r1,ty,q1⟩=>?_)
 obtain ⟨h1,h2⟩:=Aez I1 r1 ty
 refine ⟨T,id,pa,slot,hty,h1,h2,?_⟩
 have hA:=ha cpos pins s1 σ H1 _ I1 q1
 rw [hs] at hA ⊢
 refine Calls.callWith_builtin (by show (false || (backTo cpos (starEach es X.env)).any (·.1)) = false; rw [hplain] <;> rfl) (Calls.evalArgs_plain ?_)
 exact thn hA fun us s2 ⟨vs,H2,I2,r2,q2⟩=>hm pins s2 σ H2 x vs v us Q I2 r1 r2 q2
end
end L2
namespace L2
open PySem PySem.Spec PyProof.Rows
def MtM (X:Cx) (id:String) (r:V->List V->Hp->VK->Prop):Prop :=
 ∀ (pins:List (Addr × Obj)) (s:Shared) (σ:St) (H:Hp) (x:V) (xs:List V) (v:Value) (us:List Value) (Q:VK),Inv X pins σ H s->RelV x v->Vals xs us->r x xs H Q ->
  wpAny (model X.prog X.w) X.A (call (.builtin id) (v :: us)) (EP X pins σ Q) X.xe s
theorem Vals.one:∀ {x:V} {us:List Value},Vals [x] us->∃ u,us = [u]/\RelV x u
 | _,_,.cons r .nil=>⟨_,rfl,r⟩
theorem Vals.zero:∀ {us:List Value},Vals [] us->us = []
 | _,.nil=>rfl
theorem Vals.dropLast {xs:List V} {us:List Value} (h:Vals xs us):Vals xs.dropLast us.dropLast:=by
 induction h with
 | nil=>exact .nil
 | cons r t ih =>
  cases t with
  | nil=>exact .nil
  | cons q t'=>exact .cons r ih
theorem Vals.rep {xs:List V} {us:List Value} (h:Vals xs us):∀ k:Nat,Vals (replicate k xs).flatten (replicate k us).flatten
 | 0=>.nil
 | k + 1=>by
  rw [replicate_succ,replicate_succ,flatten_cons,flatten_cons]
  exact Vals.append h (Vals.rep h k)
theorem Acw {α:Type} (l:List α):l.eraseIdx (l.length - 1) = l.dropLast:=by
 induction l with
 | nil=>rfl
 | cons a r ih =>
  cases r with
  | nil=>rfl
  | cons b r =>
   have e:(a :: b :: r).length - 1 = ((b :: r).length - 1) + 1:=by
    have h1:(a :: b :: r).length = r.length + 2:=rfl
    have h2:(b :: r).length = r.length + 1:=rfl
    omega
   rw [e,List.eraseIdx_cons_succ,ih]
   all_goals rfl
theorem Zb (its:List Value):∀ (k:Nat) (acc:List Value),
  foldl (fun x1 x2=>x1 ++ x2) acc.toArray (replicate k its.toArray) = (acc ++ (replicate k its).flatten).toArray
 | 0,acc=>by simp
 | k + 1,acc=>by
  have e:acc.toArray ++ its.toArray = (acc ++ its).toArray:=by simp
  have e2:(acc ++ its) ++ (replicate k its).flatten = acc ++ (replicate (k + 1) its).flatten:=by
   rw [replicate_succ,flatten_cons,append_assoc]
  rw [<- e2,<- Zb its k (acc ++ its),<- e,replicate_succ,foldl_cons]
section
variable {X:Cx} {pins:List (Addr × Obj)} {σ:St} {H:Hp} {s:Shared} {l b:Addr} {xs ys zs:List V}
theorem Inv.lset {its its':List Value} {n:Nat} {f:Array Value->Array Value} {t':Nat} (I:Inv X pins σ H s) (hH:H l = some (.lst xs))
  (e:s.heap.get? l = some { cls:=.type "list",data:=.seq its.toArray n }) (hf:f its.toArray = its'.toArray) (hv:Vals ys its') (hz:ys.length <= sizeLine) :
  Inv X pins σ (upd H l (.lst ys)) { s with heap:=s.heap.update l (Obj.mapSeq f),toks:=t' }:=by
 have q:=PySem.IsL.update e f
 rw [hf] at q
 refine I.write (x:=l) (e:=l) (by rw [hH]; exact trivial) (.inl rfl) (fun b' u hb hu=>(Heap.get?_update_other s.heap (Obj.mapSeq f) (Ne.symm hb)).trans hu) ⟨_,q⟩ ?_
 exact ⟨hz,its',_,hv,q⟩
theorem Inv.lnew {its:List Value} {t':Nat} (I:Inv X pins σ H s) (hv:Vals ys its) (hz:ys.length <= sizeLine) :
  Inv X pins σ (upd H s.heap.objs.size (.lst ys)) { s with heap:=s.heap.push { cls:=.type "list",data:=.seq its.toArray },toks:=t' } :=
 I.laid (fun _ _ q=>get?_push_of_some _ q) (Nat.le_refl _) ⟨hz,its,0,hv,get?_push_size _ rfl⟩
theorem Inv.fresh (I:Inv X pins σ H s):H s.heap.objs.size = none:=I.hok.fresh (Nat.le_refl _)
theorem Inv.lstM (I:Inv X pins σ H s) (hH:H l = some (.lst xs)):xs.length <= sizeLine/\∃ (its:List Value) (n:Nat),Vals xs its/\xs.length = its.length/\s.heap.get? l = some { cls:=.type "list",data:=.seq its.toArray n }:=by
 obtain ⟨z,its,n,r,e⟩:=I.hok l _ hH
 exact ⟨z,its,n,r,r.length,e⟩
theorem Afb {n:Nat} (h:n <= sizeLine):Builtin.List.listTooLong n = false:=by
 unfold Builtin.List.listTooLong
 exact decide_eq_false (by omega)
end
section
variable {X:Cx}
def AiD:V->List V->Hp->VK->Prop:=fun x vs H Q=>∃ l xs y,x = .ref l/\vs = [y]/\H l = some (.lst xs)/\xs.length < sizeLine/\Q .non (upd H l (.lst (xs ++ [y])))
theorem Zd:MtM X "list.append" AiD:=by
 intro pins s σ H x vs v us Q I rx rv h
 obtain ⟨l,xs,y,rfl,rfl,hH,hz,q⟩:=h
 cases rx
 obtain ⟨u,rfl,ru⟩:=rv.one
 obtain ⟨z,its,n,r,hl,e⟩:=I.lstM hH
 refine call_meets F.slot_list_append ⟨_,e,rfl⟩ F.entry_list_append (F.args_list_append_2 _ _) (PySem.list_append l its.toArray n u (by rw [size_toArray]; omega)) ⟨e,?_⟩
 refine ⟨.non,_,I.lset (its':=its ++ [u]) hH e (by simp) (r.append (.cons ru .nil)) ?_,rfl,q⟩
 rw [length_append,length_singleton]
 omega
def Ans:V->List V->Hp->VK->Prop:=fun x vs H Q=>∃ l xs y,x = .ref l/\vs = []/\H l = some (.lst xs)/\xs[xs.length - 1]? = some y/\Q y (upd H l (.lst xs.dropLast))
theorem AjU:MtM X "list.pop" Ans:=by
 intro pins s σ H x vs v us Q I rx rv h
 obtain ⟨l,xs,y,rfl,rfl,hH,hy,q⟩:=h
 cases rx
 have hus:=rv.zero
 subst hus
 obtain ⟨z,its,n,r,hl,e⟩:=I.lstM hH
 obtain ⟨u,hu,ru⟩:=r.get hy
 have hy':its.toArray[its.toArray.size - 1]? = some u:=by
  show its.toArray[its.length - 1]? = some u
  rw [<- Array.getElem?_toList,<- hl]
  exact hu
 refine call_meets F.slot_list_pop ⟨_,e,rfl⟩ F.entry_list_pop (F.args_list_pop_1 _) (MeetsSeq.list_pop_last l its.toArray n u hy' (by rw [size_toArray]; omega)) ⟨e,?_⟩
 refine ⟨y,_,I.lset (its':=its.dropLast) hH e ?_ r.dropLast ?_,ru,q⟩
 ·show its.toArray.eraseIdxIfInBounds (its.toArray.size - 1) = its.dropLast.toArray
  rw [size_toArray,List.eraseIdxIfInBounds_toArray,Acw]
 ·rw [List.length_dropLast]
  omega
def AnJ:R2:=fun x y H Q=>∃ l b xs zs,x = .ref l/\y = .ref b/\H l = some (.lst xs)/\H b = some (.lst zs)/\xs.length + zs.length <= sizeLine/\∀ p,H p = none->Q (.ref p) (upd H p (.lst (xs ++ zs)))
theorem Ak1:OpR X (binaryOp .Add) AnJ:=by
 intro pins s σ H x y v u Q I rx ry h
 obtain ⟨l,b,xs,zs,rfl,rfl,hH,hB,hz,q⟩:=h
 cases rx
 cases ry
 obtain ⟨z,its,n,r,hl,e⟩:=I.lstM hH
 obtain ⟨z2,its2,n2,r2,hl2,e2⟩:=I.lstM hB
 refine PySem.P.add_list e e2 ?_ (by rw [size_toArray,size_toArray]; omega)
 have ea:its.toArray ++ its2.toArray = (its ++ its2).toArray:=by simp
 rw [ea]
 exact ⟨.ref _,_,I.lnew (t':=s.toks) (r.append r2) (by rw [length_append]; omega),rfl,q _ I.fresh⟩
def AnT:R2:=fun x y H Q=>∃ l k xs,x = .ref l/\y = .int k/\H l = some (.lst xs)/\-(2 ^ 63) <= k/\k < 2 ^ 63/\xs.length * k.toNat <= sizeLine /\
 ∀ p,H p = none->Q (.ref p) (upd H p (.lst (replicate k.toNat xs).flatten))
theorem AiJ {α:Type} (xs:List α) (k:Nat):(replicate k xs).flatten.length = k * xs.length:=by
 induction k with
 | zero=>simp
 | succ k ih=>rw [replicate_succ,flatten_cons,length_append,ih,Nat.succ_mul,Nat.add_comm]
theorem Ako:OpR X (binaryOp .Mult) AnT:=by
 intro pins s σ H x y v u Q I rx ry h
 obtain ⟨l,k,xs,rfl,rfl,hH,h1,h2,hz,q⟩:=h
 cases rx
 obtain ⟨t,rfl⟩:=ry
 obtain ⟨z,its,n,r,hl,e⟩:=I.lstM hH
 have hlen:its.toArray.size * k.toNat <= sizeLine:=by rw [size_toArray,<- hl]; exact hz
 have hcap:¬ its.toArray.size * k.toNat > (2 ^ 63 - 1) / 8:=by
  have:(sizeLine:Nat) <= (2 ^ 63 - 1) / 8:=by decide
  omega
 have hfit:¬ (!Builtin.List.listFitsIndex k) = true:=by
  rw [fitsIndex_both h1 h2]
  exact Bool.false_ne_true
 have hlong:¬ Builtin.List.listTooLong (its.toArray.size * k.toNat) = true:=by
  rw [Afb hlen]
  exact Bool.false_ne_true
 have hnew:foldl (fun x1 x2=>x1 ++ x2) #[] (replicate (if its.toArray.isEmpty = true then 0 else k.toNat) its.toArray) = (replicate k.toNat its).flatten.toArray:=by
  have f0:∀ m:Nat,foldl (fun x1 x2=>x1 ++ x2) #[] (replicate m its.toArray) = (replicate m its).flatten.toArray:=fun m=>by
   have:=Zb its m []
   rw [nil_append] at this
   exact this
  rw [f0]
  cases its with
  | nil=>simp
  | cons a r'=>rw [if_neg (by simp)]
 refine wpAny_binaryOp_repeat_ref (T:="list") (U:="int") (by decide) ⟨_,e,rfl⟩ (fun s'=>typeIs_int s' k t) noFill_list_mul F.fills_int_mul F.slot_int_rmul repeat_list F.slot_int_index.lookup
  (call_meets F.slot_int_rmul (typeIs_int s k t) F.entry_int_rmul (F.args_int_rmul_2 _ _) (int___rmul___int_list k t l its.toArray n)
   ⟨e,rfl,⟨_,e,rfl⟩,call_meets F.slot_list_mul ⟨_,e,rfl⟩ F.entry_list_mul (F.args_list_mul_2 _ _) (AutoListH.list___mul___list_int_3 l its.toArray n k t hfit hcap hlong) ⟨e,?_⟩⟩)
 rw [hnew]
 exact ⟨.ref _,_,I.lnew (t':=s.toks) (r.rep k.toNat) (by rw [AiJ,Nat.mul_comm]; exact hz),rfl,q _ I.fresh⟩
end
section
variable {prog:Program} {w:World} {A:Around} {E:Value->Shared->Prop} {s:Shared}
set_option maxRecDepth 100000 in
end
section
variable {X:Cx}
end
end L2
namespace L2
open PySem PySem.Spec PyProof.Rows
section
variable {κ:Type} [DecidableEq κ]
def Cv (kvs:List (κ × V)) (k:κ):Option V:=(kvs.find? fun kv=>decide (kv.1 = k)).map (·.2)
def Gs (kvs:List (κ × V)) (k:κ) (v:V):List (κ × V) :=
 if (kvs.any fun kv=>decide (kv.1 = k)) = true then kvs.map (fun kv=>if kv.1 = k then (kv.1,v) else kv) else kvs ++ [(k,v)]
theorem Qt {p:κ × V} {r:List (κ × V)} {k:κ} (e:p.1 = k):Cv (p :: r) k = some p.2:=by simp [Cv,find?_cons,e]
theorem Qm {p:κ × V} {r:List (κ × V)} {k:κ} (e:¬ p.1 = k):Cv (p :: r) k = Cv r k:=by simp [Cv,find?_cons,e]
theorem Sq (k:κ):∀ kvs:List (κ × V),(kvs.any fun kv=>decide (kv.1 = k)) = (Cv kvs k).isSome
 | []=>rfl
 | p :: r=>by
  rw [any_cons]
  by_cases e:p.1 = k
  ·simp only [Qt e,decide_eq_true e,Bool.true_or,Option.isSome_some]
  ·rw [Qm e,decide_eq_false e,Bool.false_or]; exact Sq k r
theorem Vl (kvs:List (κ × V)) (k:κ) (v:V):(Gs kvs k v).length <= kvs.length + 1:=by
 unfold Gs
 split
 ·rw [length_map]; omega
 ·rw [length_append,length_cons,length_nil]; omega
theorem Lc {kvs:List (κ × V)} {k:κ} (v:V) (h:Cv kvs k = none):Gs kvs k v = kvs ++ [(k,v)]:=by
 unfold Gs
 rw [Sq,h]
 exact if_neg (by decide)
theorem RelO.isSome_eq {o:Option V} {u:Option Value} (r:RelO o u):o.isSome = u.isSome:=by
 cases o with
 | none=>cases u with
  | none=>rfl
  | some _=>exact (show False from r).elim
 | some _=>cases u with
  | none=>exact (show False from r).elim
  | some _=>rfl
theorem RelO.getD {o:Option V} {u:Option Value} {d:V} {d':Value} (r:RelO o u) (rd:RelV d d'):RelV (o.getD d) (u.getD d'):=by
 cases o with
 | none=>cases u with
  | none=>exact rd
  | some _=>exact (show False from r).elim
 | some _=>cases u with
  | none=>exact (show False from r).elim
  | some _=>exact r
theorem KV.val {kvs:List (κ × V)} {vs:List (κ × Value)} (r:KV kvs vs) (k:κ):RelO (Cv kvs k) (valueAt vs k):=by
 unfold KV at r
 induction r with
 | nil=>exact True.intro
 | @cons p q ps qs h t ih =>
  obtain ⟨h1,h2⟩:=h
  by_cases e:p.1 = k
  ·have e':q.1 = k:=h1.symm.trans e
   have b:valueAt (q :: qs) k = some q.2:=by simp [valueAt,find?_cons,e']
   rw [Qt e,b]; exact h2
  ·have e':¬ q.1 = k:=fun z=>e (h1.trans z)
   have b:valueAt (q :: qs) k = valueAt qs k:=by simp [valueAt,find?_cons,e']
   rw [Qm e,b]; exact ih
theorem KV.any {kvs:List (κ × V)} {vs:List (κ × Value)} (r:KV kvs vs) (k:κ):(kvs.any fun kv=>decide (kv.1 = k)) = vs.any fun kv=>decide (kv.1 = k):=by
 unfold KV at r
 induction r with
 | nil=>rfl
 | cons h t ih=>rw [any_cons,any_cons,ih,h.1]
theorem KV.repl {kvs:List (κ × V)} {vs:List (κ × Value)} (r:KV kvs vs) (k:κ) {y:V} {u:Value} (ry:RelV y u) :
  KV (kvs.map fun kv=>if kv.1 = k then (kv.1,y) else kv) (vs.map fun kv=>if kv.1 = k then (kv.1,u) else kv):=by
 unfold KV at r ⊢
 induction r with
 | nil=>exact .nil
 | @cons p q ps qs h t ih =>
  rw [map_cons,map_cons]
  refine .cons ?_ ih
  obtain ⟨h1,h2⟩:=h
  by_cases e:p.1 = k
  ·rw [if_pos e,if_pos (h1.symm.trans e)]; exact ⟨h1,ry⟩
  ·rw [if_neg e,if_neg (fun z=>e (h1.trans z))]; exact ⟨h1,h2⟩
theorem KV.put {kvs:List (κ × V)} {vs:List (κ × Value)} (r:KV kvs vs) (k:κ) {y:V} {u:Value} (ry:RelV y u):KV (Gs kvs k y) (stored vs k u):=by
 unfold Gs stored
 rw [r.any k]
 by_cases e:(vs.any fun kv=>decide (kv.1 = k)) = true
 ·rw [if_pos e,if_pos e]; exact r.repl k ry
 ·rw [if_neg e,if_neg e]; exact Paired.snoc r ⟨rfl,ry⟩
theorem KV.keys {kvs:List (κ × V)} {vs:List (κ × Value)} (r:KV kvs vs):kvs.map (·.1) = vs.map (·.1):=by
 unfold KV at r
 induction r with
 | nil=>rfl
 | cons h t ih=>rw [map_cons,map_cons,ih,h.1]
theorem KV.length {kvs:List (κ × V)} {vs:List (κ × Value)} (r:KV kvs vs):kvs.length = vs.length:=Paired.length r
end
theorem Sk {P:Program} {w:World} {k:Key} {u:Value} (r:RelV (kV k) u):(Ds P w).is k u = true:=by
 cases k with
 | inl i=>obtain ⟨t,e⟩:=(show ∃ t,u = Value.int i t from r); subst e; exact Aba P w i t
 | inr x=>obtain ⟨t,e⟩:=(show ∃ t,u = Value.str x t from r); subst e; exact Aa7 P w x t
theorem Za {P:Program} {w:World}:∀ {ks:List Key} {us:List Value},Vals (ks.map kV) us->ItemsAre (Ds P w) ks us
 | [],_,r=>by rw [map_nil] at r; cases r; exact .nil
 | k :: ks,_,r=>by
  rw [map_cons] at r
  cases r with
  | cons h t=>exact .cons (Sk h) (Za t)
abbrev KT (H:Hp):List (List Key × V)->List (List Key × Addr × Value)->Prop:=Paired fun p q=>p.1 = q.1/\H q.2.1 = some (.tup (p.1.map kV))/\RelV p.2 q.2.2
theorem KT.val {H:Hp} {kvs:List (List Key × V)} {xs:List (List Key × Addr × Value)} (r:KT H kvs xs) (k:List Key):RelO (Cv kvs k) ((atKey xs k).map (·.2)):=by
 induction r with
 | nil=>exact True.intro
 | @cons p q ps qs h t ih =>
  obtain ⟨h1,_,h2⟩:=h
  by_cases e:p.1 = k
  ·have e':q.1 = k:=h1.symm.trans e
   have b:atKey (q :: qs) k = some q.2:=by simp [atKey,find?_cons,e']
   rw [Qt e,b]; exact h2
  ·have e':¬ q.1 = k:=fun z=>e (h1.trans z)
   have b:atKey (q :: qs) k = atKey qs k:=by simp [atKey,find?_cons,e']
   rw [Qm e,b]; exact ih
theorem KT.repl {H:Hp} {kvs:List (List Key × V)} {xs:List (List Key × Addr × Value)} (r:KT H kvs xs) (k:List Key) {y:V} {u:Value} (ry:RelV y u) :
  KT H (kvs.map fun kv=>if kv.1 = k then (kv.1,y) else kv) (xs.map (putAt k u)):=by
 induction r with
 | nil=>exact .nil
 | @cons p q ps qs h t ih =>
  rw [map_cons,map_cons]
  refine .cons ?_ ih
  obtain ⟨h1,h2,h3⟩:=h
  unfold putAt
  by_cases e:p.1 = k
  ·rw [if_pos e,if_pos (h1.symm.trans e)]; exact ⟨h1,h2,ry⟩
  ·rw [if_neg e,if_neg (fun z=>e (h1.trans z))]; exact ⟨h1,h2,h3⟩
theorem KT.put {H:Hp} {kvs:List (List Key × V)} {xs:List (List Key × Addr × Value)} (r:KT H kvs xs) (k:List Key) {b:Addr} {y:V} {u:Value} (hb:H b = some (.tup (k.map kV))) (ry:RelV y u) :
  KT H (Gs kvs k y) (storedH xs k b u):=by
 have e:(kvs.any fun kv=>decide (kv.1 = k)) = (atKey xs k).isSome:=by
  rw [Sq,(r.val k).isSome_eq,isSome_map]
 unfold Gs storedH
 rw [e]
 by_cases q:(atKey xs k).isSome = true
 ·rw [if_pos q,if_pos q]; exact r.repl k ry
 ·rw [if_neg q,if_neg q]; exact Paired.snoc r ⟨rfl,hb,ry⟩
theorem KT.keeps {H H':Hp} {kvs:List (List Key × V)} {xs:List (List Key × Addr × Value)} (r:KT H kvs xs) (ht:∀ b ys,H b = some (.tup ys)->H' b = some (.tup ys)):KT H' kvs xs :=
 Paired.mapP r fun _ _ z=>⟨z.1,ht _ _ z.2.1,z.2.2⟩
section
variable {P:Program} {w:World} {H:Hp} {h:Heap} {a:Addr}
theorem Agf {u:HO} (ok:HOk P w H h) (e:Rd H a u):ObjOk P w H h a u:=e.ok ok
theorem Rb {kvs:List (Key × V)} (ok:HOk P w H h) (e:Rd H a (.dK kvs)):kvs.length <= sizeLine/\(a == sysModules) = false/\∃ vs,KV kvs vs/\h.DictOf (Ds P w) a vs :=
 show ObjOk P w H h a (.dK kvs) from Agf ok e
theorem Amb {kvs:List (Key × V)} (ok:HOk P w H h) (e:H a = some (.dK kvs)):kvs.length <= sizeLine/\(a == sysModules) = false/\∃ vs,KV kvs vs/\h.DictOf (Ds P w) a vs:=Rb ok (.inl e)
theorem Qr {ks:List Key} (ok:HOk P w H h) (e:H a = some (.tup (ks.map kV))):(tupleKind (Ds P w)).is h ks a:=by
 obtain ⟨_,its,r,o,h1,h2,n,h3⟩:=(show ObjOk P w H h a (.tup (ks.map kV)) from ok a _ e)
 exact ⟨o,its.toArray,n,h1,h2,h3,by simpa using Za r⟩
theorem Rl {kvs:List (List Key × V)} (ok:HOk P w H h) (e:Rd H a (.dT kvs)):kvs.length <= sizeLine/\(a == sysModules) = false /\
  ∃ xs,KT H kvs xs/\h.DictOfH (tupleKind (Ds P w)) a xs:=by
 obtain ⟨z,y,xs,r,o,es,ep,h1,h2,h3,h4,h5⟩:=(show ObjOk P w H h a (.dT kvs) from Agf ok e)
 refine ⟨z,y,xs,r,o,es,ep,h1,h2,h3,h4,fun x hx=>?_,h5⟩
 have all:∀ {l:List (List Key × V)} {m:List (List Key × Addr × Value)},KT H l m->∀ x ∈ m,(tupleKind (Ds P w)).is h x.1 x.2.1:=by
  intro l m q
  induction q with
  | nil=>intro x hx; exact nomatch hx
  | @cons p q ps qs hq t ih =>
   intro x hx
   rcases mem_cons.mp hx with e | hx
   ·subst e
    exact Qr ok (by rw [<- hq.1]; exact hq.2.1)
   ·exact ih x hx
 exact all r x hx
theorem Al0 {kvs:List (List Key × V)} (ok:HOk P w H h) (e:H a = some (.dT kvs)):kvs.length <= sizeLine/\(a == sysModules) = false /\
  ∃ xs,KT H kvs xs/\h.DictOfH (tupleKind (Ds P w)) a xs:=Rl ok (.inl e)
end
def DGet (H:Hp) (a:Addr) (y:V) (r:Option V):Prop :=
 (∃ kvs k,Rd H a (.dK kvs)/\y = kV k/\r = Cv kvs k)\/∃ kvs k b,Rd H a (.dT kvs)/\y = .ref b/\H b = some (.tup (k.map kV))/\r = Cv kvs k
def DPut (H:Hp) (a:Addr) (y v:V) (H':Hp):Prop :=
 (∃ kvs k,H a = some (.dK kvs)/\y = kV k/\kvs.length < sizeLine/\H' = upd H a (.dK (Gs kvs k v))) \/
 ∃ kvs k b,H a = some (.dT kvs)/\y = .ref b/\H b = some (.tup (k.map kV))/\kvs.length < sizeLine/\H' = upd H a (.dT (Gs kvs k v))
theorem DGet.k {H:Hp} {a:Addr} {kvs:List (Key × V)} {k:Key} (e:H a = some (.dK kvs)):DGet H a (kV k) (Cv kvs k):=.inl ⟨kvs,k,.inl e,rfl,rfl⟩
theorem DGet.t {H:Hp} {a b:Addr} {kvs:List (List Key × V)} {k:List Key} (e:H a = some (.dT kvs)) (eb:H b = some (.tup (k.map kV))):DGet H a (.ref b) (Cv kvs k):=.inr ⟨kvs,k,b,.inl e,rfl,eb,rfl⟩
theorem DPut.k {H:Hp} {a:Addr} {kvs:List (Key × V)} {k:Key} {v:V} (e:H a = some (.dK kvs)) (hl:kvs.length < sizeLine):DPut H a (kV k) v (upd H a (.dK (Gs kvs k v))):=.inl ⟨kvs,k,e,rfl,hl,rfl⟩
theorem DPut.t {H:Hp} {a b:Addr} {kvs:List (List Key × V)} {k:List Key} {v:V} (e:H a = some (.dT kvs)) (eb:H b = some (.tup (k.map kV))) (hl:kvs.length < sizeLine) :
  DPut H a (.ref b) v (upd H a (.dT (Gs kvs k v))):=.inr ⟨kvs,k,b,e,rfl,eb,hl,rfl⟩
section
variable {X:Cx} {pins:List (Addr × Obj)} {σ:St} {H:Hp} {s:Shared} {a:Addr} {y v:V} {u r:Value} {o:Option V} {A:Around} {E:Value->Shared->Prop}
theorem Inv.big (I:Inv X pins σ H s):sysModules < s.heap.objs.size:=by
 have h:mainGlobals < s.heap.objs.size:=(I.mod.glob.keeps I.bk).lt
 exact Nat.lt_trans (by decide) h
theorem AdF {Q:Value->Shared->Prop} (hu:A.units + 1 < cLine) (I:Inv X pins σ H s) (g:DGet H a y (some v)) (ry:RelV y u) (h:∀ w' s',Inv X pins σ H s'->RelV v w'->Q w' s') :
  wpAny (model X.prog X.w) A (getItem (.ref a) u) Q E s:=by
 rcases g with ⟨kvs,k,e,ey,l⟩ | ⟨kvs,k,b,e,ey,eb,l⟩
 ·subst ey
  obtain ⟨z,hd,vs,rel,dd⟩:=Rb I.hok e
  obtain ⟨w',hw,rw'⟩:=RelO.some_of (v:=v) (o:=valueAt vs k) (by rw [l]; exact rel.val k)
  exact wpAny_getItem_of (Sk ry) dd.mapOf hw (h w' _ (I.tok _) rw')
 ·subst ey
  cases (show u = Value.ref b from ry)
  obtain ⟨z,hd,xs,rel,dd⟩:=Rl I.hok e
  obtain ⟨w',hw,rw'⟩:=RelO.some_of (v:=v) (o:=(atKey xs k).map (·.2)) (by rw [l]; exact rel.val k)
  obtain ⟨p,hp,hp2⟩:=map_eq_some_iff.mp hw
  refine wpAny_getItem_heap (tupleKind_room_in1 hu) (Qr I.hok eb) dd hp ?_
  rw [hp2]
  exact h w' _ (I.tok _) rw'
theorem AnM {Q:Value->Shared->Prop} (hu:A.units + 1 < cLine) (I:Inv X pins σ H s) (g:DGet H a y o) (ry:RelV y u) (h:∀ s',Inv X pins σ H s'->Q (.bool o.isSome) s') :
  wpAny (model X.prog X.w) A (compareOp .In u (.ref a)) Q E s:=by
 rcases g with ⟨kvs,k,e,ey,l⟩ | ⟨kvs,k,b,e,ey,eb,l⟩
 ·subst ey
  obtain ⟨z,hd,vs,rel,dd⟩:=Rb I.hok e
  refine wpAny_in_of (Sk ry) hd dd.mapOf ?_
  rw [<- (rel.val k).isSome_eq,<- l]
  exact h _ (I.tok _)
 ·subst ey
  cases (show u = Value.ref b from ry)
  obtain ⟨z,hd,xs,rel,dd⟩:=Rl I.hok e
  refine wpAny_in_heap (tupleKind_room_in1 hu) (Qr I.hok eb) hd dd ?_
  have q:=(rel.val k).isSome_eq
  rw [isSome_map] at q
  rw [<- q,<- l]
  exact h _ (I.tok _)
theorem AhY {Q:Value->Shared->Prop} (hu:A.units + 1 < cLine) (I:Inv X pins σ H s) (g:DGet H a y o) (ry:RelV y u) (h:∀ s',Inv X pins σ H s'->Q (.bool (!o.isSome)) s') :
  wpAny (model X.prog X.w) A (compareOp .NotIn u (.ref a)) Q E s:=by
 rcases g with ⟨kvs,k,e,ey,l⟩ | ⟨kvs,k,b,e,ey,eb,l⟩
 ·subst ey
  obtain ⟨z,hd,vs,rel,dd⟩:=Rb I.hok e
  refine wpAny_notIn_of (Sk ry) hd dd.mapOf ?_
  rw [<- (rel.val k).isSome_eq,<- l]
  exact h _ (I.tok _)
 ·subst ey
  cases (show u = Value.ref b from ry)
  obtain ⟨z,hd,xs,rel,dd⟩:=Rl I.hok e
  refine wpAny_notIn_heap (tupleKind_room_in1 hu) (Qr I.hok eb) hd dd ?_
  have q:=(rel.val k).isSome_eq
  rw [isSome_map] at q
  rw [<- q,<- l]
  exact h _ (I.tok _)
theorem AbO {h':Heap} {t':Nat} {ob:HO} (I:Inv X pins σ H s) (mu:Mut (H a)) (hs:SameBut a s.heap h') (he:∃ q,h'.get? a = some q) (new:ObjOk X.prog X.w (upd H a ob) h' a ob) :
  Inv X pins σ (upd H a ob) { s with heap:=h',toks:=t' } :=
 I.write (x:=a) (e:=a) mu (.inl rfl) (fun b q hb z=>(hs.2 b hb).trans z) he new
theorem AlG {P:Program} {w:World} {H':Hp} {h':Heap} {kvs:List (Key × V)} {vs:List (Key × Value)} (z:kvs.length <= sizeLine) (hd:(a == sysModules) = false) (rel:KV kvs vs) (dd:h'.DictOf (Ds P w) a vs) :
  ObjOk P w H' h' a (.dK kvs):=⟨z,hd,vs,rel,dd⟩
theorem Adg {H':Hp} {Q:Unit->Shared->Prop} (hu:A.units + 1 < cLine) (I:Inv X pins σ H s) (g:DPut H a y v H') (ry:RelV y u) (rv:RelV v r) (h:∀ s',Inv X pins σ H' s'->Q () s') :
  wpAny (model X.prog X.w) A (setItem (.ref a) u r) Q E s:=by
 rcases g with ⟨kvs,k,e,ey,l,eH⟩ | ⟨kvs,k,b,e,ey,eb,l,eH⟩
 ·subst ey eH
  obtain ⟨z,hd,vs,rel,dd⟩:=Amb I.hok e
  have hz:vs.length <= sizeLine:=by rw [<- rel.length]; exact z
  have hl:(Gs kvs k v).length <= sizeLine:=by have:=Vl kvs k v; omega
  refine wpAny_setItem_pairs (hsz:=hz) (Sk ry) dd fun h' dd' hs=>h _ ?_
  have he:∃ q,h'.get? a = some q:=let ⟨q,_,_,hq,_⟩:=dd'; ⟨q,hq⟩
  exact AbO I (by rw [e]; exact True.intro) hs he (AlG hl hd (rel.put k rv) dd')
 ·subst ey eH
  cases (show u = Value.ref b from ry)
  obtain ⟨z,hd,xs,rel,dd⟩:=Al0 I.hok e
  have hz:xs.length <= sizeLine:=by rw [<- Paired.length rel]; exact z
  have hl:(Gs kvs k v).length <= sizeLine:=by have:=Vl kvs k v; omega
  refine wpAny_setItem_heap (hsz:=hz) (tupleKind_room_in1 hu) (Qr I.hok eb) dd fun h' dd' hs=>h _ ?_
  obtain ⟨q,es,ep,hq,h2,h3,h4,_,h5⟩:=dd'
  refine AbO I (by rw [e]; exact True.intro) hs ⟨q,hq⟩ ⟨hl,hd,_,(rel.put k eb rv).keeps fun c ys ec=>?_,q,es,ep,hq,h2,h3,h4,h5⟩
  rw [Bl (Fe ec e (fun z=>nomatch z))]
  exact ec
end
section
variable {X:Cx} {pins:List (Addr × Obj)} {σ:St} {H:Hp} {s:Shared} {a:Addr} {kvs:List (Key × V)} {k:Key} {u:Value} {A:Around} {E:Value->Shared->Prop}
end
def AlN (i:Expr):Prop:=∀ ov iv,subscripted i false ov iv = operate [ov,iv] (getItem ov iv)
theorem AiK {prog:Program} {w:World} {A:Around} {E:Value->Shared->Prop} {s:Shared} {env:Env} {value slice:Expr} {pos:Pos} {T id:String} {Q:Value->Shared->Prop}
  (hl:typeLookup (.type T) "__getitem__" = pure (some (.builtin id))) (hs:AlN slice)
  (h:wpAny (model prog w) A (eval value env) (fun o s₁=>wpAny (model prog w) A (eval slice env) (fun i s₂=>s₂.TypeIs o T/\wpAny (model prog w) A (getItem o i) Q E s₂) E s₁) E s) :
  wpAny (model prog w) A (eval (.Subscript value slice pos) env) Q E s:=by
 refine Subscript_ (wpAny_mono h (fun o s₁ h₁=>wpAny_mono h₁ (fun i s₂ h₂=>?_) fun _ _ x=>x) fun _ _ x=>x)
 obtain ⟨hT,h₂⟩:=h₂
 unfold subscriptTail
 refine wpAny_bind ?_
 rw [getitemInPython_of_ne hT.not_modules]
 refine wpAny_bind (wpAny_specialOf hT hl ?_)
 have fin:wpAny (model prog w) A (subscripted slice false o i) (fun r s₃=>wpAny (model prog w) A (letTemporaryGo value o r >>= fun _=>pure r) Q E s₃) E s₂:=by
  rw [hs o i]
  exact wpAny_operating (wpAny_mono h₂ (fun r s₃ h₃=>wpAny_bind (wpAny_letTemporaryGo (wpAny_pure h₃))) fun _ _ x=>x)
 first
  | exact wpAny_pure (wpAny_bind fin)
  | exact wpAny_bind (wpAny_pure (wpAny_bind fin))
  | exact wpAny_bind fin
theorem Aa6 {X:Cx} {pins:List (Addr × Obj)} {σ:St} {H:Hp} {s:Shared} {a:Addr} {y:V} {o:Option V} (I:Inv X pins σ H s) (g:DGet H a y o):s.TypeIs (.ref a) "dict":=by
 rcases g with ⟨kvs,k,e,_,_⟩ | ⟨kvs,k,b,e,_,_,_⟩
 ·obtain ⟨_,_,vs,_,dd⟩:=Rb I.hok e
  exact dd.typeIs
 ·obtain ⟨_,_,xs,_,dd⟩:=Rl I.hok e
  exact dd.typeIs
def AcK (td ty:TE):TE:=fun σ H Q=>td σ H fun x H1=>ty σ H1 fun y H2=>∃ a v,x = .ref a/\DGet H2 a y (some v)/\Q v H2
def Aje (ty td:TE):TE:=fun σ H Q=>ty σ H fun y H1=>td σ H1 fun x H2=>∃ a o,x = .ref a/\DGet H2 a y o/\Q (.bl o.isSome) H2
def AbQ (ty td:TE):TE:=fun σ H Q=>ty σ H fun y H1=>td σ H1 fun x H2=>∃ a o,x = .ref a/\DGet H2 a y o/\Q (.bl (!o.isSome)) H2
def Acn (td ty tv:TE):TS:=fun D σ H=>tv σ H fun v H1=>td σ H1 fun x H2=>ty σ H2 fun y H3=>∃ a H4,x = .ref a/\DPut H3 a y v H4/\D.nx σ H4
section
variable {X:Cx} {o i e value:Expr} {pos pos' tpos:Pos} {td ty tv:TE}
theorem Va (hu:X.A.units + 1 < cLine) (ho:PE X o td) (hi:PE X i ty) (hs:AlN i):PE X (.Subscript o i pos) (AcK td ty):=by
 intro pins s σ H Q I h
 refine AiK PySem.F.slot_dict_getitem.lookup hs (thn (ho pins s σ H _ I h) fun u s1 ⟨x,H1,I1,rx,q1⟩=>thn (hi pins s1 σ H1 _ I1 q1) fun iv s2 ⟨y,H2,I2,ry,a,v,ex,g,q2⟩=>?_)
 subst ex
 obtain rfl:u = Value.ref a:=rx
 exact ⟨Aa6 I2 g,AdF hu I2 g ry fun w' s3 I3 rw'=>⟨v,H2,I3,rw',q2⟩⟩
theorem Akk (hu:X.A.units + 1 < cLine) (hi:PE X i ty) (ho:PE X o td):PC X .In i o (Aje ty td):=by
 intro pins s σ H Q I h
 refine thn (hi pins s σ H _ I h) fun iv s1 ⟨y,H1,I1,ry,q1⟩=>thn (ho pins s1 σ H1 _ I1 q1) fun u s2 ⟨x,H2,I2,rx,a,ov,ex,g,q2⟩=>?_
 subst ex
 obtain rfl:u = Value.ref a:=rx
 exact AnM hu I2 g ry fun s3 I3=>⟨.bl ov.isSome,H2,I3,rfl,q2⟩
theorem Rf (hu:X.A.units + 1 < cLine) (hi:PE X i ty) (ho:PE X o td):PC X .NotIn i o (AbQ ty td):=by
 intro pins s σ H Q I h
 refine thn (hi pins s σ H _ I h) fun iv s1 ⟨y,H1,I1,ry,q1⟩=>thn (ho pins s1 σ H1 _ I1 q1) fun u s2 ⟨x,H2,I2,rx,a,ov,ex,g,q2⟩=>?_
 subst ex
 obtain rfl:u = Value.ref a:=rx
 exact AhY hu I2 g ry fun s3 I3=>⟨.bl (!ov.isSome),H2,I3,rfl,q2⟩
theorem Lb (hu:X.A.units + 1 < cLine) (ho:PE X o td) (hi:PE X i ty) (hv:PE X value tv) (hs:swapsWith value (some (.Subscript o i pos')) pos.line X.env = pure false) :
  PS X (.Assign [.Subscript o i pos'] value pos) (Acn td ty tv):=by
 intro pins s σ H D I h
 refine wpAny_Assign_Subscript (thn (hv pins s σ H _ I h) fun r s1 ⟨v,H1,I1,rv,q1⟩=>thn (ho pins s1 σ H1 _ I1 q1) fun u s2 ⟨x,H2,I2,rx,q2⟩=>thn (hi pins s2 σ H2 _ I2 q2) fun iv s3 ⟨y,H3,I3,ry,a,H4,ex,g,q3⟩=>?_) hs
 subst ex
 obtain rfl:u = Value.ref a:=rx
 exact Adg hu I3 g ry rv fun s4 I4=>⟨σ,H4,I4,q3⟩
end
theorem Ae1 {P:Program} {w:World} {H:Hp} (h:Heap) (hb:sysModules < h.objs.size):ObjOk P w H (h.push { cls:=.type "dict",data:=.dict #[] }) h.objs.size (.dK []) :=
 ⟨zero_le _,beq_eq_false_iff_ne.mpr (Ne.symm (ne_of_lt hb)),[],.nil,Heap.DictOf.new h⟩
theorem AfA {P:Program} {w:World} {H:Hp} (h:Heap) (hb:sysModules < h.objs.size):ObjOk P w H (h.push { cls:=.type "dict",data:=.dict #[] }) h.objs.size (.dT []) :=
 ⟨zero_le _,beq_eq_false_iff_ne.mpr (Ne.symm (ne_of_lt hb)),[],.nil,_,#[],0,get?_push_size _ rfl,⟨rfl,rfl,rfl⟩,rfl,rfl,nodup_nil⟩
def AaT:TE:=fun _ H Q=>∀ p,H p = none->Q (.ref p) (upd H p (.dK []))
def AdE:TE:=fun _ H Q=>∀ p,H p = none->Q (.ref p) (upd H p (.dT []))
section
variable {X:Cx} {pos:Pos}
theorem Qs:PE X (.Dict [] [] pos) AaT:=fun pins s σ H Q I h =>
 wpAny_Dict_empty ⟨.ref s.heap.objs.size,_,I.laid (a:=s.heap.objs.size) (o:=.dK []) (t':=s.toks) (fun _ _ q=>get?_push_of_some _ q) (Nat.le_refl _) (Ae1 s.heap I.big),rfl,h _ (I.hok.fresh (Nat.le_refl _))⟩
theorem AfL:PE X (.Dict [] [] pos) AdE:=fun pins s σ H Q I h =>
 wpAny_Dict_empty ⟨.ref s.heap.objs.size,_,I.laid (a:=s.heap.objs.size) (o:=.dT []) (t':=s.toks) (fun _ _ q=>get?_push_of_some _ q) (Nat.le_refl _) (AfA s.heap I.big),rfl,h _ (I.hok.fresh (Nat.le_refl _))⟩
end
structure M1 (X:Cx) (o:Expr) (m:Str) (apos:Pos) (e:Expr) (cpos:Pos):Prop where
 base:attributeBase o m X.env (eval o X.env) = eval o X.env
 few:((backTo cpos (starEach [e] X.env)).all (fun x=>!x.1) && (backToKw cpos (keywordEach [] X.env)).all (fun x=>x.1.isSome)
  && decide (([e]:List Expr).length + ([]:List Keyword).length + (if ([]:List Keyword).isEmpty then 0 else 1) < 30)) = true
 line:(apos.endLine == cpos.line) = true
 trees:backTo cpos (starEach [e] X.env) = [(false,eval e X.env)]
structure M2 (X:Cx) (o:Expr) (m:Str) (apos:Pos) (e f:Expr) (cpos:Pos):Prop where
 base:attributeBase o m X.env (eval o X.env) = eval o X.env
 few:((backTo cpos (starEach [e,f] X.env)).all (fun x=>!x.1) && (backToKw cpos (keywordEach [] X.env)).all (fun x=>x.1.isSome)
  && decide (([e,f]:List Expr).length + ([]:List Keyword).length + (if ([]:List Keyword).isEmpty then 0 else 1) < 30)) = true
 line:(apos.endLine == cpos.line) = true
 trees:backTo cpos (starEach [e,f] X.env) = [(false,eval e X.env),(false,eval f X.env)]
def IsD (H:Hp) (a:Addr):Prop:=(∃ kvs,Rd H a (.dK kvs))\/∃ kvs,Rd H a (.dT kvs)
theorem AdR {X:Cx} {pins:List (Addr × Obj)} {σ:St} {H:Hp} {s:Shared} {a:Addr} (I:Inv X pins σ H s) (d:IsD H a) :
  s.TypeIs (.ref a) "dict"/\(∀ b,Value.ref a = .ref b->∃ ob,s.heap.get? b = some ob/\ob.dict = none)/\(a == sysModules) = false:=by
 rcases d with ⟨kvs,e⟩ | ⟨kvs,e⟩
 ·obtain ⟨_,hd,vs,_,dd⟩:=Rb I.hok e
  refine ⟨dd.typeIs,fun b q=>?_,hd⟩
  cases q
  obtain ⟨ob,_,_,h1,h2,_⟩:=dd
  exact ⟨ob,h1,h2.2.1⟩
 ·obtain ⟨_,hd,xs,_,dd⟩:=Rl I.hok e
  refine ⟨dd.typeIs,fun b q=>?_,hd⟩
  cases q
  obtain ⟨ob,_,_,h1,h2,_⟩:=dd
  exact ⟨ob,h1,h2.2.1⟩
section
variable {X:Cx} {pins:List (Addr × Obj)} {σ:St} {H:Hp} {s:Shared} {a:Addr} {y d:V} {u r:Value} {o:Option V} {A:Around} {E:Value->Shared->Prop}
theorem Akc {Q:Value->Shared->Prop} (hu:A.units + 1 < cLine) (I:Inv X pins σ H s) (g:DGet H a y o) (ry:RelV y u) (h:∀ w' s',Inv X pins σ H s'->RelV (o.getD .non) w'->Q w' s') :
  wpAny (model X.prog X.w) A (call (.builtin "dict.get") [.ref a,u]) Q E s:=by
 rcases g with ⟨kvs,k,e,ey,l⟩ | ⟨kvs,k,b,e,ey,eb,l⟩
 ·subst ey
  obtain ⟨z,hd,vs,rel,dd⟩:=Rb I.hok e
  refine call_meetsIn slot_dict_get dd.typeIs entry_dict_get (PySem.F.args_dict_get_2 _ _) (meets_dict_get (Ds X.prog X.w) a (Sk ry) hd) ⟨_,dd.mapOf,h _ _ (I.tok _) ?_⟩
  rw [l]
  exact (rel.val k).getD rfl
 ·subst ey
  cases (show u = Value.ref b from ry)
  obtain ⟨z,hd,xs,rel,dd⟩:=Rl I.hok e
  refine call_meetsIn slot_dict_get dd.typeIs entry_dict_get (PySem.F.args_dict_get_2 _ _) (meetsH_dict_get (tupleKind (Ds X.prog X.w)) a b hd) ⟨tupleKind_room_in1 hu,k,xs,Qr I.hok eb,dd,h _ _ (I.tok _) ?_⟩
  rw [l]
  exact (rel.val k).getD rfl
theorem Ajz {Q:Value->Shared->Prop} (hu:A.units + 1 < cLine) (I:Inv X pins σ H s) (g:DGet H a y o) (ry:RelV y u) (rd:RelV d r) (h:∀ w' s',Inv X pins σ H s'->RelV (o.getD d) w'->Q w' s') :
  wpAny (model X.prog X.w) A (call (.builtin "dict.get") [.ref a,u,r]) Q E s:=by
 rcases g with ⟨kvs,k,e,ey,l⟩ | ⟨kvs,k,b,e,ey,eb,l⟩
 ·subst ey
  obtain ⟨z,hd,vs,rel,dd⟩:=Rb I.hok e
  refine call_meetsIn slot_dict_get dd.typeIs entry_dict_get (PySem.F.args_dict_get_3 _ _ _) (meets_dict_get_default (Ds X.prog X.w) a (Sk ry) hd r) ⟨_,dd.mapOf,h _ _ (I.tok _) ?_⟩
  rw [l]
  exact (rel.val k).getD rd
 ·subst ey
  cases (show u = Value.ref b from ry)
  obtain ⟨z,hd,xs,rel,dd⟩:=Rl I.hok e
  refine call_meetsIn slot_dict_get dd.typeIs entry_dict_get (PySem.F.args_dict_get_3 _ _ _) (meetsH_dict_get_default (tupleKind (Ds X.prog X.w)) a b hd r) ⟨tupleKind_room_in1 hu,k,xs,Qr I.hok eb,dd,h _ _ (I.tok _) ?_⟩
  rw [l]
  exact (rel.val k).getD rd
end
def AcY (td ty:TE):TE:=fun σ H Q=>td σ H fun x H1=>∃ a,x = .ref a/\IsD H1 a/\ty σ H1 fun y H2=>∃ o,DGet H2 a y o/\Q (o.getD .non) H2
def AaD (td ty tx:TE):TE:=fun σ H Q=>td σ H fun x H1=>∃ a,x = .ref a/\IsD H1 a/\ty σ H1 fun y H2=>tx σ H2 fun z H3=>∃ o,DGet H3 a y o/\Q (o.getD z) H3
section
variable {X:Cx} {o e f:Expr} {apos cpos:Pos} {td ty tx:TE}
theorem Afp (hu:X.A.units + 1 < cLine) (ho:PE X o td) (he:PE X e ty) (m:M1 X o "get" apos e cpos):PE X (.Call (.Attribute o "get" apos) [e] [] cpos) (AcY td ty):=by
 intro pins s σ H Q I h
 refine wpAny_Call_method m.base m.few m.line plainAttrs_dict slot_dict_get type_dict_get (thn (ho pins s σ H _ I h) fun u s1 ⟨x,H1,I1,rx,a,ex,d,q1⟩=>?_)
 subst ex
 obtain rfl:u = Value.ref a:=rx
 obtain ⟨t1,t2,_⟩:=AdR I1 d
 refine ⟨t1,t2,?_⟩
 rw [m.trees]
 refine Calls.callWith_builtin rfl (Calls.evalArgs_plain (Calls.spliced_cons (thn (he pins s1 σ H1 _ I1 q1) fun iv s2 ⟨y,H2,I2,ry,ov,g,q2⟩=>Calls.spliced_nil ?_)))
 exact Akc hu I2 g ry fun w' s3 I3 rw'=>⟨_,H2,I3,rw',q2⟩
theorem Vq (hu:X.A.units + 1 < cLine) (ho:PE X o td) (he:PE X e ty) (hf:PE X f tx) (m:M2 X o "get" apos e f cpos):PE X (.Call (.Attribute o "get" apos) [e,f] [] cpos) (AaD td ty tx):=by
 intro pins s σ H Q I h
 refine wpAny_Call_method m.base m.few m.line plainAttrs_dict slot_dict_get type_dict_get (thn (ho pins s σ H _ I h) fun u s1 ⟨x,H1,I1,rx,a,ex,d,q1⟩=>?_)
 subst ex
 obtain rfl:u = Value.ref a:=rx
 obtain ⟨t1,t2,_⟩:=AdR I1 d
 refine ⟨t1,t2,?_⟩
 rw [m.trees]
 refine Calls.callWith_builtin rfl (Calls.evalArgs_plain (Calls.spliced_cons (thn (he pins s1 σ H1 _ I1 q1) fun iv s2 ⟨y,H2,I2,ry,q2⟩ =>
  Calls.spliced_cons (thn (hf pins s2 σ H2 _ I2 q2) fun fv s3 ⟨z,H3,I3,rz,ov,g,q3⟩=>Calls.spliced_nil ?_))))
 exact Ajz hu I3 g ry rz fun w' s4 I4 rw'=>⟨_,H3,I4,rw',q3⟩
end
section
variable {X:Cx} {pins:List (Addr × Obj)} {σ:St} {H:Hp} {s:Shared} {a:Addr} {kvs:List (Key × V)} {A:Around} {E:Value->Shared->Prop}
end
section
variable {X:Cx} {pins:List (Addr × Obj)} {σ:St} {H:Hp} {s:Shared} {a:Addr} {y:V} {u:Value} {A:Around} {E:Value->Shared->Prop}
end
end L2
namespace Att
open PySem PySem.W PySem.Calls PyProof.Rows
theorem Wn {P:Params} {h:Heap}:∀ (ns:List Int) (vs:List Value),WellAll P h vs (ns.map WData.int)->IntsAre vs ns:=by
 intro ns
 induction ns with
 | nil =>
  intro vs w
  rw [map_nil] at w
  cases w
  exact .nil
 | cons n ns ih =>
  intro vs w
  rw [map_cons] at w
  cases w with
  | cons a b =>
   cases a
   exact .cons _ _ (ih _ b)
theorem Aev {l:OpenLaw} {n:Nat} (hn:l.most = some n) {P:Params} {h:Heap} {args:List WData} {vals:List Value}
  (hpre:l.row.toRowW.claim.pre args = true) (hwl:WellAll P h vals args) :
  ∃ a vs ns,vals = [Value.ref a]/\args = [WData.list (ns.map WData.int)]/\h.get? a = some { cls:=.type "list",data:=.seq vs.toArray }/\IntsAre vs ns/\ns.length <= n:=by
 have hsh:WShape.hasAll [] args [.list .int] = true:=(pre_splitW hpre).1
 have hc:l.pre.holds [] { args:=args } = true:=(pre_splitW hpre).2
 obtain ⟨d,r,rfl,h1,h2⟩:=hasAllW_cons hsh
 obtain rfl:=hasAllW_nil h2
 obtain ⟨xs,rfl,h3⟩:=hasW_list h1
 obtain ⟨ns,rfl⟩:=items_int h3
 have hlen:ns.length <= n:=by
  unfold OpenLaw.pre at hc
  have h4:(WTm.not (.lt (.lit (.int (n:Int))) (.len (.arg 0)))).holds [] { args:=[.list (ns.map .int)] } = true:=by
   have h4:=(holds_andW hc).1
   rw [hn] at h4
   exact h4
  have h5:=condW_of h4 (w_not (w_lt w_lit (w_len_list (w_arg rfl))))
  rw [length_map] at h5
  refine Nat.le_of_not_lt fun q=>?_
  have q':(n:Int) < ((ns.length:Nat):Int):=by omega
  first
   | (rw [decide_eq_true q'] at h5; exact absurd h5 (by decide))
   | (simp at h5; omega)
 cases hwl with
 | cons w1 w2 =>
  cases w2
  cases w1 with
  | list ho hall=>exact ⟨_,_,ns,rfl,rfl,ho,Wn ns _ hall,hlen⟩
theorem Ac0 (l:OpenLaw) (args:List WData):l.row.toRowW.claim.post args (.bool true) args = true :=
 postW_of (r:=l.row.toRowW) (X:=(true == true))
  (show WShape.has [] (.bool true) .bool = true by first | rfl | decide | simp [WShape.has,WShape.arms,WShape.armsAll])
  (show (WTm.eq .res (.lit (.bool true))).value [] { args:=args,res:=some (.bool true),after:=args } = some (.bool (true == true)) from w_eq_bool (w_res rfl) w_lit) rfl
theorem attach_call {l:OpenLaw} {n:Nat} {q:Program} {loose:List Str} {XP:(Str->Option Value)->Heap->Prop} {YP:World->Heap->Prop} {d:DefRec}
  (hn:l.most = some n) (hdf:d.params.defaults = [])
  (call:∀ (w:World) (s₀ s₁:Shared) (mg mb:Str->Option Value) (fa:Addr) (o:Obj) (pm cd doc:Value) (a:Addr) (vs:List Value) (ns:List Int),
   Ground q loose [] XP w s₀ mg mb s₁.heap->YP w s₁.heap ->
   s₁.heap.get? fa = some o->o.data = .func (docDef d.name d.params d.body d.scope pm cd doc)->s₁.heap.CodeRec cd d.name->mg d.name = some (.ref fa) ->
   s₁.heap.get? a = some { cls:=.type "list",data:=.seq vs.toArray }->IntsAre vs ns->ns.length <= n->s₁.gens = #[] ->
   codeAny (model l.prog w) callerA (.call (.ref fa) ⟨[.ref a],[]⟩) (fun r s'=>r = .ok (.ret (.bool true))/\OldK s₁.heap s'.heap/\s'.os = s₁.os/\AllBare s'.gens) s₁) :
  WalkO q loose XP YP l.row.toRowW d [] (fun f vs=>PySem.call f vs):=by
 intro w s₀ s₁ mg mb G Y fa o pm cd doc dV kV ho hd hcd hD hmg hg args vals as hpre hlay hrd hwl hlo
 obtain rfl:dV = .none:=Dflts.none hD hdf
 obtain rfl:kV = .none:=Dflts.noKw hD
 obtain ⟨a,vs,ns,rfl,rfl,hobj,hints,hlen⟩:=Aev hn hpre hwl
 refine enter_call (codeAny_mono (call w s₀ s₁ mg mb fa o pm cd doc a vs ns G Y ho (fd_plain hd) hcd hmg hobj hints hlen hg) fun r s' hq=>?_)
 obtain ⟨rfl,h2,h3,h4⟩:=hq
 exact ⟨.inl ⟨.bool true,.bool true,[],rfl,fun _=>rfl,.bool true,Ac0 l _,fun _=>⟨Pairwise.nil,fun _ hm=>(nomatch hm)⟩⟩,h2,h3,h4⟩
section
variable {prog:Program} {w:World} {A:Around} {E:Value->Shared->Prop} {s:Shared} {K:Frag}
end
end Att
namespace L2
open PySem PySem.Spec PyProof.Rows
theorem Yv:∀ {vs:List Value} {ns:List Int},IntsAre vs ns->Vals (ns.map V.int) vs
 | _,_,.nil=>.nil
 | _,_,.cons n t h=>.cons ⟨t,rfl⟩ (Yv h)
def AfO (H:Hp):Prop:=∀ b,H b = none\/∃ o xs,H b = some (.frz o (.lst xs))
theorem AfM {P:Program} {w:World} {K:Frag} {mg mb:Str->Option Value} {CX:CXT} {k:Nat} {fa a:Addr} {fd:FuncData} {x:Str} {sp:Sp} {s₁:Shared} {vs:List Value} {ns:List Int}
  (KX:K.In s₁.heap) (hns:s₁.heap.Ns mainGlobals mg) (hb:s₁.heap.Ns builtinsNs mb) (hbb:∀ x:Str,x ≠ "__name__"->mb x = bootBuiltins x) (hlim:s₁.heap.NoLimit) (hg:s₁.gens = #[])
  (ha:s₁.heap.get? a = some { cls:=.type "list",data:=.seq vs.toArray }) (hi:IntsAre vs ns) (hl:ns.length <= sizeLine) (hr:Room k callerA)
  (F:∀ base:Heap,K.In base->base.Ns mainGlobals mg->FnOk P w K mg base CX k fa fd [x] sp) (hbind:∀ (s:Shared) (u:Value),BindsTo s fd ⟨[u],[]⟩ [(x,u)])
  (hsp:∀ H:Hp,AfO H->SqL K H a (ns.map V.int)->sp [.ref a] H (fun v _=>v = .bl true) fun _ _ _=>False)
  (hCX:∀ H e s',CX [] H s₁ (fun _ _ _=>False) e s'->False) :
  codeAny (model P w) callerA (.call (.ref fa) ⟨[.ref a],[]⟩) (fun r s'=>r = .ok (.ret (.bool true))/\OldK s₁.heap s'.heap/\s'.os = s₁.os/\AllBare s'.gens) s₁:=by
 have rv:=Yv hi
 have lenV:=hi.length
 -- from an abstract heap in which nothing but the script may be tracked
 have core:∀ H:Hp,AfO H->SqL K H a (ns.map V.int)->HOk P w H s₁.heap->(∀ b,H b ≠ none->b = a)->(H a ≠ none->K.lookup a = none) ->
   codeAny (model P w) callerA (.call (.ref fa) ⟨[.ref a],[]⟩) (fun r s'=>r = .ok (.ret (.bool true))/\OldK s₁.heap s'.heap/\s'.os = s₁.os/\AllBare s'.gens) s₁:=by
  intro H hO hS hok hA hK
  have base_of:∀ {b:Addr} {o:Obj},s₁.heap.get? b = some o->H b = none->(Sn s₁.heap H).get? b = some o:=fun e n=>Afc e n
  have noA:∀ {b:Addr} {o:Obj} {es:Array DictEntry} {ep:Nat},s₁.heap.get? b = some o->o.data = .dict es ep->H b = none:=fun {b o es ep} e d=>by
   cases q:H b with
   | none=>rfl
   | some u =>
    have e':b = a:=hA b (by rw [q]; simp)
    subst e'
    rw [ha] at e; cases e
    have d':Data.seq vs.toArray _ = Data.dict es ep:=d
    cases d'
  have nsK:∀ {b:Addr} {m:Str->Option Value},s₁.heap.Ns b m->(Sn s₁.heap H).Ns b m:=fun {b m} ⟨o,es,ep,e,d,r⟩=>⟨o,es,ep,base_of e (noA e d),d,r⟩
  have hKb:K.In (Sn s₁.heap H):=fun b o e=>base_of (KX b o e) (by
   cases q:H b with
   | none=>rfl
   | some u =>
    have e':b = a:=hA b (by rw [q]; simp)
    subst e'
    rw [hK (by rw [q]; simp)] at e; cases e)
  have hM:Mod K mg (Sn s₁.heap H):=⟨hKb,nsK hns,⟨mb,nsK hb,hbb⟩,let ⟨mc,h1,h2⟩:=hlim; ⟨mc,nsK h1,h2⟩⟩
  have e0:Env0 P w K mg (Sn s₁.heap H) callerA [] s₁ H:=⟨rfl,hM,fun b o e=>Aiv e,Nat.le_of_eq (Adm _ _),trivial,fun b hb=>absurd (show b ∈ ([]:List Addr) from hb) (by simp),hok,.of_eq hg⟩
  refine codeAny_mono ((F _ hKb (nsK hns)).run callerA [] s₁ H ⟨[.ref a],[]⟩ [.ref a] [.ref a] _ _ hr e0 (hbind s₁ (.ref a)) (.cons rfl .nil) (hsp H hO hS)) fun r s' h=>?_
  cases r with
  | error e=>exact (hCX H e s' h).elim
  | ok fl =>
   cases fl with
   | next=>exact False.elim h
   | brk=>exact False.elim h
   | cont=>exact False.elim h
   | ret u =>
    obtain ⟨v,H',os,bare,un,hok',r',q⟩:=h
    have q':v = .bl true:=q
    subst q'
    obtain rfl:u = Value.bool true:=r'
    refine ⟨rfl,OldK.of_keep fun b o e=>?_,os,bare⟩
    cases q:H b with
    | none=>exact un.keep b o e q (by intro z; exact absurd (show b ∈ ([]:List Addr) from z) (by simp)) (by simp)
    | some u =>
     rcases hO b with z | ⟨ob,xs,z⟩
     ·rw [q] at z; cases z
     ·have z2:=un.frzs b ob _ z
      obtain ⟨e1,_⟩:=hok b _ z
      obtain ⟨e2,_⟩:=hok' b _ z2
      rw [e] at e1; cases e1
      exact e2
 cases hk:K.lookup a with
 | some o =>
  -- the script is one of the module's own objects
  have e:=KX a o hk
  rw [ha] at e
  cases e
  refine core (fun _=>none) (fun _=>.inl rfl) (.inr ⟨_,vs.toArray,_,hk,rfl,rfl,rfl,by rw [size_toArray,lenV]; exact hl,by simpa using rv⟩) (fun b u z=>by have z':(none:Option HO) = some u:=z; cases z') (fun b z=>absurd rfl z) fun z=>absurd rfl z
 | none =>
  refine core (fun b=>if b = a then some (.frz { cls:=.type "list",data:=.seq vs.toArray } (.lst (ns.map V.int))) else none) (fun b=>?_) (.inl (.inr ⟨{ cls:=.type "list",data:=.seq vs.toArray },if_pos rfl⟩)) (fun b u z=>?_) (fun b z=>?_) fun _=>hk
  ·by_cases hb:b = a
   ·exact .inr ⟨_,_,if_pos hb⟩
   ·exact .inl (if_neg hb)
  ·by_cases hb:b = a
   ·have z':=(if_pos hb).symm.trans z
    cases z'
    subst hb
    exact ⟨ha,by rw [length_map]; exact hl,vs,_,rv,ha⟩
   ·have z':=(if_neg hb).symm.trans z
    cases z'
  ·by_cases hb:b = a
   ·exact hb
   ·exact absurd (if_neg hb) z
end L2
namespace L2
open PySem PySem.Spec PyProof.Rows
theorem AnY {l:PySem.W.OpenLaw} {n k:Nat} {q:Program} {loose:List Str} {XP:(Str->Option Value)->Heap->Prop} {YP:World->Heap->Prop} {d:DefRec} {K:Params->Frag} {CX:World->CXT} {sp:World->Sp} {x:Str}
  (hn:l.most = some n) (hn2:n <= sizeLine) (hdf:d.params.defaults = []) (hr:Room k callerA)
  (hY:∀ (w:World) (h:Heap),YP w h->(K w.params).In h)
  (F:∀ (w:World) (mg:Str->Option Value) (fa:Addr) (h:Heap),(K w.params).In h->h.Ns mainGlobals mg->mg d.name = some (.ref fa) ->
   ∃ fd:FuncData,(∀ (s:Shared) (u:Value),BindsTo s fd ⟨[u],[]⟩ [(x,u)]) /\
    ∀ base:Heap,(K w.params).In base->base.Ns mainGlobals mg->FnOk l.prog w (K w.params) mg base (CX w) k fa fd [x] (sp w))
  (hsp:∀ (w:World) (H:Hp) (a:Addr) (ns:List Int),ns.length <= n->AfO H->SqL (K w.params) H a (ns.map V.int)->sp w [.ref a] H (fun v _=>v = .bl true) fun _ _ _=>False)
  (hCX:∀ (w:World) (H:Hp) (s:Shared) (e:Value) (s':Shared),CX w [] H s (fun _ _ _=>False) e s'->False) :
  PySem.W.WalkO q loose XP YP l.row.toRowW d [] (fun f vs=>PySem.call f vs):=by
 refine Att.attach_call hn hdf fun w s₀ s₁ mg mb fa o pm cd doc a vs ns G Y ho hd hcd hmg hobj hints hlen hg=>?_
 have KX:=hY w _ Y
 obtain ⟨fd,hb,hF⟩:=F w mg fa _ KX G.T.g hmg
 exact AfM KX G.T.g G.T.b G.T.builtins G.T.nolimit hg hobj hints (Nat.le_trans hlen hn2) hr hF hb (fun H hO hS=>hsp w H a ns hlen hO hS) fun H e s'=>hCX w H s₁ e s'
end L2
namespace L2
open PySem PySem.Spec PyProof.Rows
def Xw (s:Stmt) (j:Nat):Stmt:=match s with
 | .ClassDef _ _ _ body _ _ _ _ _ _ _=>body.getD j (.Pass ⟨0,0,0,0⟩)
 | _=>.Pass ⟨0,0,0,0⟩
def Bk (s:Stmt):Arguments:=match s with
 | .FunctionDef _ a _ _ _ _ _ _ _ _=>a
 | _=>{ posonlyargs:=[],args:=[],vararg:=none,kwonlyargs:=[],kw_defaults:=[],kwarg:=none,defaults:=[] }
def Bj (s:Stmt):List Stmt:=match s with
 | .FunctionDef _ _ b _ _ _ _ _ _ _=>b
 | _=>[]
def Bc (s:Stmt):Scope:=match s with
 | .FunctionDef _ _ _ _ _ _ sc _ _ _=>sc
 | _=>{ kind:=.function,names:=[],isGenerator:=false,isCoroutine:=false }
abbrev CX0:CXT:=fun _ _ _ _ _ _=>False
abbrev E0:XK:=fun _ _ _=>False
theorem Bs {X:Cx}:Qh CX0 X E0:=fun _ _ _ _ _ _ _ h=>h.elim
structure Fun (K:Frag) (x qual:Str) (st:Stmt) (f:Addr) (fd:FuncData):Prop where
 ex:∃ (oc:Value) (od:Option Addr) (kV doc pm:Value) (an:Option Addr) (cdv ct:Value) (osl:Array (Option Value)),
  fd = fnOf x qual (Bk st) (Bj st) (Bc st) .none kV doc pm an cdv ct/\K.lookup f = some ⟨oc,od,.func fd,osl⟩/\codeIn K cdv qual = true
 kp:keepIn K (.ref f) = true
section
variable {P:Program} {w:World} {K:Frag} {mg:Str->Option Value} {base:Heap}
theorem Fun.ok {x qual:Str} {st:Stmt} {f:Addr} {fd:FuncData} {N ps:List Str} {k:Nat} {sp:Sp} (F:Fun K x qual st f fd) (S:Bz N ps (Bc st)) (len:∀ vs H Q E,sp vs H Q E->vs.length = ps.length)
  (hbody:∀ (cdv:Value) (A:Around) (outer:List Env) (s:Shared) (H:Hp) (vs:List V) (Q:VK) (E:XK),Room k (A.deeper (envOfC qual (Bc st) s.heap.objs.size f cdv))->sp vs H Q E ->
   ∃ t,PSs (Uf CX0 P w K mg base N qual (Bc st) f cdv A outer s H E).nox (Bj st) t/\t { nx:=fun _ H'=>Q .non H',rt:=Q } (Nk N vs) H):FnOk P w K mg base CX0 (k + 1) f fd ps sp:=by
 obtain ⟨oc,od,kV,doc,pm,an,cdv,ct,osl,rfl,lk,hcd⟩:=F.ex
 refine Agg lk hcd S len fun A outer s H vs Q E hr hsp=>?_
 obtain ⟨t,h,q⟩:=hbody cdv A outer s H vs Q E hr hsp
 exact ⟨t,h.nox,q⟩
theorem Fun.binds {x qual:Str} {st:Stmt} {f:Addr} {fd:FuncData} {ps:List Str} (F:Fun K x qual st f fd)
  (h:∀ (kV doc pm:Value) (an:Option Addr) (cdv ct:Value) (us:List Value),us.length = ps.length->bindArgs (fnOf x qual (Bk st) (Bj st) (Bc st) .none kV doc pm an cdv ct) ⟨us,[]⟩ = pure (ps.zip us)):Binds K fd ps []:=by
 obtain ⟨oc,od,kV,doc,pm,an,cdv,ct,osl,rfl,lk,hcd⟩:=F.ex
 exact .all (h kV doc pm an cdv ct)
theorem Cj {x qual:Str} {st:Stmt} {f:Addr} {oc:Value} {od an:Option Addr} {osl:Array (Option Value)} {kV doc pm cdv ct:Value} (l:K.lookup f = some ⟨oc,od,.func (fnOf x qual (Bk st) (Bj st) (Bc st) .none kV doc pm an cdv ct),osl⟩)
  (c:codeIn K cdv qual = true) (k:keepIn K (.ref f) = true):Fun K x qual st f (fnOf x qual (Bk st) (Bj st) (Bc st) .none kV doc pm an cdv ct):=⟨⟨oc,od,kV,doc,pm,an,cdv,ct,osl,rfl,l,c⟩,k⟩
end
theorem Co {A:Around} {k:Nat} (hr:Room k A):A.units + 1 < cLine:=Nat.lt_of_le_of_lt (Nat.add_le_add_left (by decide:1 <= 64) _) hr.units
theorem Lr {n:Nat} (h:n <= 1000):n < sizeLine:=Nat.lt_of_le_of_lt h (by decide)
section
variable {X:Cx}
theorem pv (i:Nat) {x:Str} {pos:Pos} (hN:X.N[i]? = some x:=by rfl) (hv:Vis X.env.scope x:=by first | exact Or.inl rfl | exact Or.inr (Or.inl rfl) | exact Or.inr (Or.inr rfl)) (hd:(x == ("__debug__" : Str)) = false:=by decide)
  (hcd:(x == ("__classdict__" : Str)) = false:=by decide):PE X (.Name x pos) (Fk i):=AkJ hN hv hd hcd
end
theorem Jo {A B:Prop} (h:B):if false = true then A else B:=by
 rw [if_neg Bool.false_ne_true]
 exact h
theorem Ji {A B:Prop} (h:A):if true = true then A else B:=by
 rw [if_pos rfl]
 exact h
theorem Yg {c A B:Prop} [Decidable c] (h1:c->A) (h2:¬ c->B):if c then A else B:=by
 by_cases h:c
 ·rw [if_pos h]
  exact h1 h
 ·rw [if_neg h]
  exact h2 h
def Same (H H':Hp):Prop:=∀ b o,H b = some o->H' b = some o
theorem Same.refl (H:Hp):Same H H:=fun _ _ h=>h
theorem Same.trans {H H1 H2:Hp} (a:Same H H1) (b:Same H1 H2):Same H H2:=fun c o h=>b c o (a c o h)
theorem Same.free {H H':Hp} (e:Same H H') {l:Addr} (h:H' l = Option.none):H l = Option.none:=by
 cases q:H l with
 | none=>rfl
 | some o =>
  rw [e l o q] at h
  cases h
theorem Same.seq {K:Frag} {H H':Hp} {a:Addr} {xs:List V} (e:Same H H') (h:SqL K H a xs):SqL K H' a xs:=by
 rcases h with (h | ⟨o,h⟩) | h
 ·exact .inl (.inl (e _ _ h))
 ·exact .inl (.inr ⟨o,e _ _ h⟩)
 ·exact .inr h
section
variable {κ:Type} [DecidableEq κ]
theorem AbB {kvs:List (κ × V)} {k:κ} {v:V} (h:Cv kvs k = some v):k ∈ kvs.map (·.1):=by
 have q:(kvs.any fun kv=>decide (kv.1 = k)) = true:=by
  rw [Sq,h]
  all_goals rfl
 obtain ⟨p,hp,e⟩:=any_eq_true.mp q
 exact mem_map.mpr ⟨p,hp,of_decide_eq_true e⟩
end
end L2
set_option Elab.async false
set_option linter.all false
set_option maxRecDepth 100000
set_option maxHeartbeats 4000000
namespace L2
open PySem PySem.Spec PyProof.Rows
section
variable {X:Cx}
theorem Go:Lk X (.builtin "isinstance") (fun vs H Q=>∃ x n t b,vs = [x,.ty n]/\Fw X.K H x t/\kitOne X.K t (.type n) = some b/\Q (.bl b) H):=by
 intro pins s σ H vs us Q I r h
 obtain ⟨x,n,t,b,rfl,ty,e,q⟩:=h
 obtain ⟨u,w',rfl,rx,ry⟩:=Agy r
 cases ry
 exact AdL I rx ty e fun tk=>⟨.bl b,H,I.tok tk,rfl,q⟩
end
theorem Ru {K:Frag} {T S:String} {b:Bool} (h:(if (Value.type T == Value.type S) = true then some true else if kitMeta S = true then (fastBuiltinMro T).map (·.contains (Value.type S)) else none) = some b):kitOne K (.type T) (.type S) = some b:=h
theorem Aa8 {K:Frag}:kitOne K (.type "int") (.type "int") = some true:=Ru (by decide +kernel)
theorem Aas {K:Frag}:kitOne K (.type "int") (.type "bool") = some false:=Ru (by decide +kernel)
theorem Abb {K:Frag}:kitOne K (.type "str") (.type "str") = some true:=Ru (by decide +kernel)
theorem Zh {K:Frag}:kitOne K (.type "list") (.type "list") = some true:=Ru (by decide +kernel)
theorem Abc {K:Frag}:kitOne K (.type "tuple") (.type "tuple") = some true:=Ru (by decide +kernel)
inductive EqD (K:Frag) (H:Hp):Nat->V->V->Bool->Prop where
 | flat {n:Nat} {x y:V} (hx:Js x = true) (hy:Js y = true):EqD K H n x y (eqV x y)
 | same {n:Nat} (a:Addr):EqD K H n (.ref a) (.ref a) true
 | lst {n:Nat} {a b:Addr} {xs ys:List V} (e:Nat->Bool) (ne:a ≠ b) (hx:SqL K H a xs) (hy:SqL K H b ys) (hl:xs.length = ys.length)
   (he:∀ (i:Nat) (x y:V),xs[i]? = some x->ys[i]? = some y->EqD K H n x y (e i)):EqD K H (n + 1) (.ref a) (.ref b) ((range xs.length).all e)
 | lstN {n:Nat} {a b:Addr} {xs ys:List V} (ne:a ≠ b) (hx:SqL K H a xs) (hy:SqL K H b ys) (hl:¬ xs.length = ys.length):EqD K H (n + 1) (.ref a) (.ref b) false
 | tup {n:Nat} {a b:Addr} {xs ys:List V} (e:Nat->Bool) (ne:a ≠ b) (hx:SqT K H a xs) (hy:SqT K H b ys)
   (he:∀ (i:Nat) (x y:V),xs[i]? = some x->ys[i]? = some y->EqD K H n x y (e i)):EqD K H (n + 1) (.ref a) (.ref b) ((range (min xs.length ys.length)).all e && xs.length == ys.length)
section
variable {X:Cx} {pins:List (Addr × Obj)} {σ:St} {H:Hp} {s:Shared}
theorem Lw (A:Around):A.in1.units = A.units + 1:=rfl
theorem Qg {xs ys:List V} {us vs:List Value} {R:Nat->Value->Value->Prop} (r1:Vals xs us) (r2:Vals ys vs)
  (h:∀ (i:Nat) (x y:V) (u v:Value),xs[i]? = some x->ys[i]? = some y->RelV x u->RelV y v->R i u v) :
  ∀ j (h1:j < us.toArray.size) (h2:j < vs.toArray.size),R j us.toArray[j] vs.toArray[j]:=by
 intro j h1 h2
 have h1':j < us.length:=by simpa using h1
 have h2':j < vs.length:=by simpa using h2
 have l1:j < xs.length:=by rw [r1.length]; exact h1'
 have l2:j < ys.length:=by rw [r2.length]; exact h2'
 obtain ⟨u,eu,ru⟩:=r1.get (i:=j) (x:=xs[j]) (by simp [l1])
 obtain ⟨v,ev,rv⟩:=r2.get (i:=j) (x:=ys[j]) (by simp [l2])
 have eu':us[j] = u:=by simpa [h1'] using eu
 have ev':vs[j] = v:=by simpa [h2'] using ev
 have q:=h j xs[j] ys[j] u v (by simp [l1]) (by simp [l2]) ru rv
 simpa [eu',ev'] using q
theorem EqD.at (I:Inv X pins σ H s):∀ {n:Nat} {x y:V} {b:Bool},EqD X.K H n x y b->∀ {A:Around} {u v:Value},A.units + n < cLine->RelV x u->RelV y v->SeqAt.EqAt A s u v b:=by
 intro n x y b h
 induction h with
 | flat hx hy=>intro A u v _ ru rv; exact Aeu ru rv hx hy
 | same a=>intro A u v _ ru rv; cases ru; cases rv; exact SeqAt.EqAt.same _
 | @lst n a b xs ys e ne hx hy hl he ih =>
  intro A u v hu ru rv
  cases ru; cases rv
  obtain ⟨us,r1,p1,_⟩:=I.list hx
  obtain ⟨vs,r2,p2,_⟩:=I.list hy
  have es:us.toArray.size = xs.length:=by rw [size_toArray]; exact r1.length.symm
  have es2:us.toArray.size = vs.toArray.size:=by rw [es,size_toArray,<- r2.length]; exact hl
  refine SeqAt.EqAt.of_refs ne ?_
  rw [<- es]
  exact SeqAt.RcAt.lists p1.isList p2.isList es2 (by omega) (Qg r1 r2 fun i x y u v hx hy ru rv=>ih i x y hx hy (by rw [Lw]; omega) ru rv)
 | @lstN n a b xs ys ne hx hy hl =>
  intro A u v hu ru rv
  cases ru; cases rv
  obtain ⟨us,r1,p1,_⟩:=I.list hx
  obtain ⟨vs,r2,p2,_⟩:=I.list hy
  refine SeqAt.EqAt.of_refs ne (SeqAt.RcAt.lists_lengths p1.isList p2.isList ?_ (by omega))
  rw [size_toArray,size_toArray,<- r1.length,<- r2.length]
  simpa using hl
 | @tup n a b xs ys e ne hx hy he ih =>
  intro A u v hu ru rv
  cases ru; cases rv
  obtain ⟨us,r1,p1,_⟩:=I.tuple hx
  obtain ⟨vs,r2,p2,_⟩:=I.tuple hy
  have es:us.toArray.size = xs.length:=by rw [size_toArray]; exact r1.length.symm
  have es2:vs.toArray.size = ys.length:=by rw [size_toArray]; exact r2.length.symm
  refine SeqAt.EqAt.of_refs ne ?_
  rw [<- es,<- es2]
  exact SeqAt.RcAt.tuples p1 p2 (by omega) (Qg r1 r2 fun i x y u v hx hy ru rv=>ih i x y hx hy (by rw [Lw]; omega) ru rv)
def LEq (K:Frag) (H:Hp) (xs ys:List V) (k:Bool):Prop :=
 (¬ xs.length = ys.length/\k = false)\/(xs.length = ys.length/\∃ e:Nat->Bool,(∀ (i:Nat) (x y:V),xs[i]? = some x->ys[i]? = some y->EqD K H 40 x y (e i))/\k = (range xs.length).all e)
def AaZ (K:Frag) (neg:Bool):R2:=fun x y H Q=>∃ a b xs ys k,x = .ref a/\y = .ref b/\SqL K H a xs/\SqL K H b ys/\LEq K H xs ys k/\Q (.bl (if neg then !k else k)) H
theorem Ado (hu:X.A.units + 64 < cLine):OpR X (compareOp .Eq) (AaZ X.K false):=by
 intro pins s σ H x y v u Q I rx ry h
 obtain ⟨a,b,xs,ys,k,rfl,rfl,hx,hy,hk,q⟩:=h
 cases rx; cases ry
 obtain ⟨us,r1,p1,_⟩:=I.list hx
 obtain ⟨vs,r2,p2,_⟩:=I.list hy
 have fin:EP X pins σ Q (.bool k) s:=⟨.bl k,H,I,rfl,q⟩
 rcases hk with ⟨hl,rfl⟩ | ⟨hl,e,he,rfl⟩
 ·refine SeqAt.eq_list_lengthsAt p1.isList p2.isList ?_ (by omega) fin
  rw [size_toArray,size_toArray,<- r1.length,<- r2.length]
  simpa using hl
 ·have es:us.toArray.size = xs.length:=by rw [size_toArray]; exact r1.length.symm
  have es2:us.toArray.size = vs.toArray.size:=by rw [es,size_toArray,<- r2.length]; exact hl
  rw [<- es] at fin
  exact SeqAt.eq_listAt p1.isList p2.isList es2 (by omega) (Qg r1 r2 fun i x y u v hx hy ru rv=>(he i x y hx hy).at I (by rw [Lw]; omega) ru rv) fin
theorem AkX (hu:X.A.units + 64 < cLine):OpR X (compareOp .NotEq) (AaZ X.K true):=by
 intro pins s σ H x y v u Q I rx ry h
 obtain ⟨a,b,xs,ys,k,rfl,rfl,hx,hy,hk,q⟩:=h
 cases rx; cases ry
 obtain ⟨us,r1,p1,_⟩:=I.list hx
 obtain ⟨vs,r2,p2,_⟩:=I.list hy
 have fin:EP X pins σ Q (.bool (!k)) s:=⟨.bl (!k),H,I,rfl,q⟩
 rcases hk with ⟨hl,rfl⟩ | ⟨hl,e,he,rfl⟩
 ·refine SeqAt.RcNeAt.lists_lengths p1.isList p2.isList ?_ (by omega) _ _ _ _ fin
  rw [size_toArray,size_toArray,<- r1.length,<- r2.length]
  simpa using hl
 ·have es:us.toArray.size = xs.length:=by rw [size_toArray]; exact r1.length.symm
  have es2:us.toArray.size = vs.toArray.size:=by rw [es,size_toArray,<- r2.length]; exact hl
  rw [<- es] at fin
  exact SeqAt.RcNeAt.lists p1.isList p2.isList es2 (by omega) (Qg r1 r2 fun i x y u v hx hy ru rv=>(he i x y hx hy).at I (by rw [Lw]; omega) ru rv) _ _ _ _ fin
def Afy (K:Frag) (neg:Bool):R2:=fun x y H Q=>∃ a b xs ys e,x = .ref a/\y = .ref b/\SqT K H a xs/\SqT K H b ys/\(∀ (i:Nat) (x y:V),xs[i]? = some x->ys[i]? = some y->EqD K H 40 x y (e i)) /\
 Q (.bl (if neg then !((range (min xs.length ys.length)).all e && xs.length == ys.length) else ((range (min xs.length ys.length)).all e && xs.length == ys.length))) H
theorem Ak7 (hu:X.A.units + 64 < cLine):OpR X (compareOp .Eq) (Afy X.K false):=by
 intro pins s σ H x y v u Q I rx ry h
 obtain ⟨a,b,xs,ys,e,rfl,rfl,hx,hy,he,q⟩:=h
 cases rx; cases ry
 obtain ⟨us,r1,p1,_⟩:=I.tuple hx
 obtain ⟨vs,r2,p2,_⟩:=I.tuple hy
 have es:us.toArray.size = xs.length:=by rw [size_toArray]; exact r1.length.symm
 have es2:vs.toArray.size = ys.length:=by rw [size_toArray]; exact r2.length.symm
 have fin:EP X pins σ Q (.bool ((range (min xs.length ys.length)).all e && xs.length == ys.length)) s:=⟨.bl _,H,I,rfl,q⟩
 rw [<- es,<- es2] at fin
 exact SeqAt.eq_tupleAt p1 p2 (by omega) (Qg r1 r2 fun i x y u v hx hy ru rv=>(he i x y hx hy).at I (by rw [Lw]; omega) ru rv) fin
end
section
variable {X:Cx} {pins:List (Addr × Obj)} {σ:St} {H:Hp} {s:Shared} {a:Addr}
def Frb:HO->Prop
 | .dK _=>True
 | .dT _=>True
 | _=>False
theorem Frb.notup {u:HO} (h:Frb u) (xs:List V):u ≠ .tup xs:=by intro e; subst e; exact h
theorem Frb.nofrz {u:HO} (h:Frb u) (o:Obj) (v:HO):u ≠ .frz o v:=by intro e; subst e; exact h
theorem Frb.noown {u:HO} (h:Frb u) (x:Addr):u ≠ .own x:=by intro e; subst e; exact h
theorem Frb.notbl {u:HO} (h:Frb u) (ps:Array Value):u ≠ .tbl ps:=by intro e; subst e; exact h
def AbX (X:Cx) (a:Addr):Prop:=(∀ xs,X.H₀ a ≠ some (.tup xs))/\(∀ o v,X.H₀ a ≠ some (.frz o v))/\∀ ps,X.H₀ a ≠ some (.tbl ps)
theorem Inv.free0 (I:Inv X pins σ H s) {u:HO} (hu:Frb u) (e:H a = some u):AbX X a:=by
 refine ⟨fun xs q=>?_,fun o v q=>?_,fun ps q=>?_⟩
 ·have:=I.base.tups a xs q; rw [e] at this; exact hu.notup xs (Option.some.inj this)
 ·have:=I.base.frzs a o v q; rw [e] at this; exact hu.nofrz o v (Option.some.inj this)
 ·obtain ⟨m,this⟩:=I.base.tbls a ps q; rw [e] at this; exact hu.notbl _ (Option.some.inj this)
theorem Inv.swap {u v:HO} (I:Inv X pins σ H s) (hu:∀ x,u ≠ .own x) (hu2:∀ xs,u ≠ .tup xs) (e:H a = some u) (f:AbX X a) (ok:ObjOk X.prog X.w (upd H a v) s.heap a v):Inv X pins σ (upd H a v) s:=by
 have nown:∀ b x,H b = some (.own x)->b ≠ a:=fun b x q z=>by subst z; rw [e] at q; exact hu x (Option.some.inj q)
 have ntup:∀ b xs,H b = some (.tup xs)->b ≠ a:=fun b xs q z=>by subst z; rw [e] at q; exact hu2 xs (Option.some.inj q)
 have nnone:∀ b,H b = none->b ≠ a:=fun b q z=>by subst z; rw [e] at q; cases q
 refine ⟨I.ok,I.os,I.bare,⟨I.base.keep,I.base.slot,fun b o h1 h2 h3=>?_,I.base.there,fun b xs q=>?_,fun b o w q=>?_,fun b ps q=>?_⟩,I.loc,I.cell,?_,fun x c q=>?_,fun p hp=>?_,fun b o q=>?_,I.len⟩
 ·have q:=I.base.free b o h1 h2 h3
  rw [Bl (nnone b q)]; exact q
 ·have h:b ≠ a:=fun z=>by subst z; exact f.1 xs q
  rw [Bl h]; exact I.base.tups b xs q
 ·have h:b ≠ a:=fun z=>by subst z; exact f.2.1 o w q
  rw [Bl h]; exact I.base.frzs b o w q
 ·have h:b ≠ a:=fun z=>by subst z; exact f.2.2 ps q
  rw [Bl h]; exact I.base.tbls b ps q
 ·rw [Bl (nnone _ I.free)]; exact I.free
 ·rw [Bl (nnone _ (I.freeC x c q))]; exact I.freeC x c q
 ·obtain ⟨h1,h2,h3⟩:=I.pin p hp
  exact ⟨h1,by rw [Bl (nnone _ h2)]; exact h2,h3⟩
 ·by_cases hb:b = a
  ·subst hb; rw [Bt] at q; cases q; exact ok
  ·rw [Bl hb] at q
   exact (I.hok b o q).stay (fun _ _ _ z=>z) (fun c z=>by rw [Bl (nown c b z)]; exact z) fun c xs z=>by rw [Bl (ntup c xs z)]; exact z
theorem ObjOk.heap {P:Program} {w:World} {h:Heap} {H':Hp} {u:HO} (x:ObjOk P w H h a u) (hd:∀ b xs,H b = some (.tup xs)->H' b = some (.tup xs)) (ho:∀ b,H b = some (.own a)->H' b = some (.own a)):ObjOk P w H' h a u :=
 x.stay (fun _ _ _ z=>z) ho hd
theorem Inv.freeze {u:HO} (I:Inv X pins σ H s) (hu:Frb u) (e:H a = some u):∃ o,Inv X pins σ (upd H a (.frz o u)) s:=by
 have ok:=I.hok a u e
 obtain ⟨o,ho⟩:∃ o,s.heap.get? a = some o:=by
  cases u with
  | dK kvs=>obtain ⟨_,_,_,_,o,_,_,h,_⟩:=ok; exact ⟨o,h⟩
  | dT kvs=>obtain ⟨_,_,_,_,o,_,_,h,_⟩:=ok; exact ⟨o,h⟩
  | _=>exact hu.elim
 refine ⟨o,I.swap (fun x=>hu.noown x) (fun xs=>hu.notup xs) e (I.free0 hu e) ⟨ho,ok.heap (fun b xs q=>?_) fun b q=>?_⟩⟩
 ·rw [Bl (fun z=>by subst z; rw [e] at q; exact hu.notup xs (Option.some.inj q))]; exact q
 ·rw [Bl (fun z=>by subst z; rw [e] at q; exact hu.noown _ (Option.some.inj q))]; exact q
theorem Inv.thaw {u:HO} {o:Obj} (I:Inv X pins σ H s) (f:AbX X a) (e:H a = some (.frz o u)):Inv X pins σ (upd H a u) s:=by
 obtain ⟨ho,ok⟩:=(show ObjOk X.prog X.w H s.heap a (.frz o u) from I.hok a _ e)
 refine I.swap (by intro x z; cases z) (by intro xs z; cases z) e f (ok.heap (fun b xs q=>?_) fun b q=>?_)
 ·rw [Bl (fun z=>by subst z; rw [e] at q; cases q)]; exact q
 ·rw [Bl (fun z=>by subst z; rw [e] at q; cases q)]; exact q
def Sc (a:Addr) (u:HO) (D:Ends):Ends where
 nx:=fun σ H=>∃ o,H a = some (.frz o u)/\D.nx σ (upd H a u)
 rt:=fun v H=>∃ o,H a = some (.frz o u)/\D.rt v (upd H a u)
 bk:=fun σ H=>∃ o,H a = some (.frz o u)/\D.bk σ (upd H a u)
 ct:=fun σ H=>∃ o,H a = some (.frz o u)/\D.ct σ (upd H a u)
def AcL (t:TS):TS:=fun D σ H=>∃ a u,Frb u/\H a = some u/\∀ o,t (Sc a u D) σ (upd H a (.frz o u))
theorem Aay {st:Stmt} {t:TS} (h:PS X st t):PS X st (AcL t):=by
 intro pins s σ H D I q
 obtain ⟨a,u,hu,e,q⟩:=q
 have f:=I.free0 hu e
 obtain ⟨o,I1⟩:=I.freeze hu e
 refine thn (h pins s σ _ _ I1 (q o)) fun fl s' hs=>?_
 cases fl with
 | next=>obtain ⟨σ',H',I',o',e',q'⟩:=hs; exact ⟨σ',_,I'.thaw f e',q'⟩
 | brk=>obtain ⟨σ',H',I',o',e',q'⟩:=hs; exact ⟨σ',_,I'.thaw f e',q'⟩
 | cont=>obtain ⟨σ',H',I',o',e',q'⟩:=hs; exact ⟨σ',_,I'.thaw f e',q'⟩
 | ret v=>obtain ⟨x,σ',H',I',r,o',e',q'⟩:=hs; exact ⟨x,σ',_,I'.thaw f e',r,q'⟩
end
def Itd (a:Addr) (o:Obj) (kvs:List (Key × V)):It :=
 ⟨fun i H=>H a = some (.frz o (.dK kvs))/\i < kvs.length,fun i H x H'=>H' = H/\∃ kv,kvs[i]? = some kv/\x = kV kv.1,fun i H=>H a = some (.frz o (.dK kvs))/\kvs.length <= i⟩
theorem Abv {P:Program} {w:World} {k:Key} {u:Value} (h:(Ds P w).is k u = true):RelV (kV k) u:=by
 rcases Fg h with ⟨i,t,rfl,rfl⟩ | ⟨x,t,rfl,rfl⟩
 ·exact ⟨t,rfl⟩
 ·exact ⟨t,rfl⟩
theorem Tv {P:Program} {w:World} {H:Hp} {h:Heap} {a:Addr} {o:Obj} {kvs:List (Key × V)} {es:Array DictEntry} {ep:Nat} (ok:HOk P w H h) (e:H a = some (.frz o (.dK kvs))) (hd:o.data = .dict es ep) :
  (a == sysModules) = false/\∃ vs,KV kvs vs/\h.DictAt (Ds P w) a vs ep:=by
 obtain ⟨ho,_,hm,vs,r,o',es',ep',h1,h2,h3,h4⟩:=(show ObjOk P w H h a (.frz o (.dK kvs)) from ok a _ e)
 rw [ho] at h1
 cases h1
 rw [hd] at h3
 cases h3
 exact ⟨hm,vs,r,o,es,ho,h2,hd,h4⟩
theorem Aej {P:Program} {w:World} {K:Frag} {tg:Expr} (a it:Addr) (o:Obj) (kvs:List (Key × V)) (es:Array DictEntry) (ep:Nat) (hd:o.data = .dict es ep) :
  Vu P w K tg (Itd a o kvs) [it] it (fun i h=>h.IsKeyIter it a i kvs.length ep) where
 mem:=by simp
 obj:=fun i h st b hb=>by
  have e:b = it:=by simpa using hb
  subst e
  obtain ⟨o,e,c,d⟩:=st
  exact ⟨o,e,fun v z=>by rw [d] at z; cases z⟩
 keep:=fun i h h' st k=>by
  obtain ⟨o,e,r⟩:=st
  exact ⟨o,k it (by simp) o e,r⟩
 item:=by
  intro X hP hw hK hc i pins s σ H E I hf st hg
  subst hP hw hK
  obtain ⟨hz,hi⟩:=hg
  obtain ⟨hm,vs,r,da⟩:=Tv I.hok hz hd
  have hl:kvs.length = vs.length:=Paired.length r
  obtain ⟨f0,f1,f2,f3,f4,f5⟩:=hf it (by simp)
  have hiv:i < vs.length:=by omega
  have ek:(kvs[i]).1 = (vs[i]).1:=by
   have q:=KV.keys r
   have q1:=congrArg (fun l=>l[i]?) q
   simp only [getElem?_map,getElem?_eq_getElem hi,getElem?_eq_getElem hiv,Option.map_some,Option.some.injEq] at q1
   exact q1
  refine wpAny_pyNext_dict_item (k:=(vs[i]).1) (v:=(vs[i]).2) (kvs:=vs) (by rw [<- hl]; exact st) da (by rw [getElem?_eq_getElem hiv]) fun key h' hkey st' sb=>?_
  have I1:Inv X pins σ H { s with heap:=h' }:=I.turned (t':=s.toks) (fun b o hb e=>(sb.2 b hb).trans e) f0 f1 f3 f4 f5
  rw [<- hl] at st'
  obtain ⟨o',e',c',d'⟩:=id st'
  exact ⟨key,rfl,AcV (s:={ s with heap:=h' }) e' c' d' (by decide) ⟨kV (kvs[i]).1,H,I1,by rw [ek]; exact Abv hkey,⟨rfl,kvs[i],getElem?_eq_getElem hi,rfl⟩,st',fun b hb=>(hf b hb).1⟩⟩
 done:=by
  intro X hP hw hK hc i pins s σ H E I hf st hg
  subst hP hw hK
  obtain ⟨hz,hi⟩:=hg
  obtain ⟨hm,vs,r,da⟩:=Tv I.hok hz hd
  have hl:kvs.length = vs.length:=Paired.length r
  obtain ⟨f0,f1,f2,f3,f4,f5⟩:=hf it (by simp)
  exact wpAny_pyNext_dict_end (kvs:=vs) (I.ok.hd hc) (by rw [<- hl]; exact st) da (getElem?_eq_none (by omega)) fun h' eb=>⟨rfl,I.turned (t':=s.toks) (fun b o hb e=>eb b o hb e) f0 f1 f3 f4 f5⟩
 self:=fun _ _ _ _ _ st h=>wpAny_pyIter_keyiter st h
section
variable {X:Cx} {tg:Expr}
def iDk (tl:TE):TI:=fun σ H R=>tl σ H fun x H1=>∃ a o kvs,x = .ref a/\H1 a = some (.frz o (.dK kvs))/\R (Itd a o kvs) H1
theorem Aak {l:Expr} {tl:TE} (hl:PE X l tl):PI X tg l (iDk tl):=by
 intro pins s σ H R I h
 refine thn (hl pins s σ H _ I h) fun v s1 ⟨x,H1,I1,r1,q1⟩=>?_
 obtain ⟨a,o,kvs,e,hz,q⟩:=q1
 subst e
 cases r1
 obtain ⟨ho,_,hm,vs,r,o',es,ep,h1,h2,h3,h4⟩:=(show ObjOk X.prog X.w H1 s1.heap a (.frz o (.dK kvs)) from I1.hok a _ hz)
 rw [ho] at h1
 cases h1
 have hl:kvs.length = vs.length:=Paired.length r
 refine wpAny_pyIter_dict (knd:=Ds X.prog X.w) (kvs:=vs) (ep:=ep) hm ⟨o,es,ho,h2,h3,h4⟩ ?_
 refine ⟨s1.heap.objs.size,[s1.heap.objs.size],_,_,H1,rfl,I1.kept (t':=s1.toks) fun b o e=>get?_push_of_some _ e,Aej a _ o kvs es ep h3,⟨_,get?_push_size _ rfl,rfl,by rw [hl]; rfl⟩,fun b hb=>?_,q⟩
 have e:b = s1.heap.objs.size:=by simpa using hb
 subst e
 exact I1.fpOk (Nat.le_refl _) (I1.hok.fresh (Nat.le_refl _))
theorem Yx {a:Addr} {o:Obj} {kvs:List (Key × V)} {g:TG} {tb:TS} {D:Ends} {σ:St} {H:Hp} (Pv:Nat->St->Hp->Prop) (h0:Pv 0 σ H) (hl:∀ i σ H,i <= kvs.length->Pv i σ H->H a = some (.frz o (.dK kvs)))
  (hs:∀ i kv σ H,kvs[i]? = some kv->Pv i σ H->g (kV kv.1) σ H fun σ2 H2=>tb { D with nx:=Pv (i + 1),ct:=Pv (i + 1),bk:=D.nx } σ2 H2) (hd:∀ σ H,Pv kvs.length σ H->D.nx σ H) :
  ∃ W:Nat->Nat->St->Hp->Prop,(∃ m,W 0 m σ H)/\∀ i m σ H,W i m σ H ->
   ((Itd a o kvs).stop i H/\D.nx σ H)\/((Itd a o kvs).go i H/\∃ N:St->Hp->Prop,(∀ σ' H',N σ' H'->∃ m',m' < m/\W (i + 1) m' σ' H')/\∀ x H',(Itd a o kvs).yld i H x H'->g x σ H' fun σ2 H2=>tb { D with nx:=N,ct:=N,bk:=D.nx } σ2 H2):=by
 refine ⟨fun i m σ H=>m = kvs.length - i/\i <= kvs.length/\Pv i σ H,⟨kvs.length,by simp,zero_le _,h0⟩,?_⟩
 rintro i m σ H ⟨rfl,hi,p⟩
 have q:=hl i σ H hi p
 by_cases hlt:i < kvs.length
 ·refine .inr ⟨⟨q,hlt⟩,Pv (i + 1),fun σ' H' p'=>⟨kvs.length - (i + 1),by omega,rfl,hlt,p'⟩,fun x H' y=>?_⟩
  obtain ⟨e,kv,y1,y2⟩:=y
  subst e y2
  exact hs i kv σ _ y1 p
 ·have e:i = kvs.length:=by omega
  subst e
  exact .inl ⟨⟨q,Nat.le_refl _⟩,hd σ H p⟩
end
def Iti (a:Addr) (o:Obj) (kvs:List (Key × V)):It :=
 ⟨fun i H=>H a = some (.frz o (.dK kvs))/\i < kvs.length,fun i H x H'=>∃ t kv,H t = none/\kvs[i]? = some kv/\x = .ref t/\H' = upd H t (.tup [kV kv.1,kv.2]),fun i H=>H a = some (.frz o (.dK kvs))/\kvs.length <= i⟩
theorem Ad9 {κ:Type}:∀ {kvs:List (κ × V)} {vs:List (κ × Value)} {i:Nat} {kv:κ × V},KV kvs vs->kvs[i]? = some kv->∃ v,vs[i]? = some (kv.1,v)/\RelV kv.2 v
 | _,_,_,_,.nil,e=>by simp at e
 | _,(k',v') :: _,0,_,.cons r _,e=>by
  simp at e; subst e
  obtain ⟨h1,h2⟩:=r
  exact ⟨v',by simp [h1],h2⟩
 | _,_,i + 1,kv,.cons _ t,e=>by
  obtain ⟨v,h1,h2⟩:=Ad9 (i:=i) (kv:=kv) t (by simpa using e)
  exact ⟨v,by simpa using h1,h2⟩
theorem Acl {P:Program} {w:World} {K:Frag} {elts:List Expr} {x1:Nat} {tp:Pos} (a it:Addr) (o:Obj) (kvs:List (Key × V)) (es:Array DictEntry) (ep:Nat) (hd:o.data = .dict es ep) :
  Vu P w K (.Tuple elts x1 tp) (Iti a o kvs) [it] it (fun i h=>∃ ok ov,IsItemIter h it a i kvs.length ep ok ov) where
 mem:=by simp
 obj:=fun i h st b hb=>by
  have e:b = it:=by simpa using hb
  subst e
  obtain ⟨ok,ov,e⟩:=st
  exact ⟨_,e,fun v z=>nomatch z⟩
 keep:=fun i h h' st k=>by
  obtain ⟨ok,ov,e⟩:=st
  exact ⟨ok,ov,k it (by simp) _ e⟩
 item:=by
  intro X hP hw hK hc i pins s σ H E I hf st hg
  subst hP hw hK
  obtain ⟨hz,hi⟩:=hg
  obtain ⟨ok,ov,st⟩:=st
  obtain ⟨hm,vs,r,da⟩:=Tv I.hok hz hd
  have hl:kvs.length = vs.length:=Paired.length r
  obtain ⟨f0,f1,f2,f3,f4,f5⟩:=hf it (by simp)
  obtain ⟨v,hv,rv⟩:=Ad9 (i:=i) (kv:=kvs[i]) r (getElem?_eq_getElem hi)
  have hit:it < s.heap.objs.size:=lt_size st
  have hne:s.heap.objs.size ≠ it:=Nat.ne_of_gt hit
  have hfr:H s.heap.objs.size = none:=I.hok.fresh (Nat.le_refl _)
  rw [hl] at st
  refine wpAny_pyNext_items_item st da hv fun key h' hkey ho hT hsz hk=>⟨_,rfl,?_⟩
  refine wpAny_letOwnedTupleGo_items (s:={ s with heap:=h' }) ho fun h2 he hs=>?_
  have hs2:∀ b,b ≠ it->h2.get? b = h'.get? b:=hs.2
  have kp:∀ b o,b ≠ it->s.heap.get? b = some o->h2.get? b = some o:=fun b o hb e=>(hs2 b hb).trans (hk b o hb e)
  have hT2:h2.get? s.heap.objs.size = some { cls:=.type "tuple",data:=.seq #[key,v] }:=(hs2 _ hne).trans hT
  have nt:∀ b u,H b = some u->b ≠ s.heap.objs.size:=fun b u e=>Cb e hfr
  rw [<- hl] at he
  refine ⟨.ref s.heap.objs.size,upd H s.heap.objs.size (.tup [kV (kvs[i]).1,(kvs[i]).2]),?_,rfl,⟨_,_,hfr,getElem?_eq_getElem hi,rfl,rfl⟩,⟨_,_,he⟩,fun b hb=>?_⟩
  ·refine Inv.step (s:=s) (h':=h2) I (g':=s.gens) (d':=s.drawn) (t':=s.toks) (ch:=[it]) (fun b hb=>?_) (fun b o _ _ hc e _=>kp b o (fun z=>hc (by simp [z])) e) (fun b o _ _ hc e _=>⟨o.slots,kp b o (fun z=>hc (by simp [z])) e⟩)
    (fun b o hc e n=>by rw [Bl (ne_of_lt (lt_size e))]; exact n) (fun b o hc e=>⟨o,kp b o (fun z=>hc (by simp [z])) e⟩) (fun b xs e=>by rw [Bl (nt b _ e)]; exact e) (fun b o u e=>by rw [Bl (nt b _ e)]; exact e)
    (fun b ps e=>⟨#[],by rw [Bl (nt b _ e),e]; simp⟩) (fun m hm=>?_) (fun b u e=>?_) I.bare
   ·have e:b = it:=by simpa using hb
    subst e
    exact ⟨f3,f1,f4,f5⟩
   ·obtain ⟨o,es,ep,ho,r⟩:=hm
    exact ⟨o,es,ep,kp _ o (Ne.symm f1) ho,r⟩
   ·by_cases hb:b = s.heap.objs.size
    ·subst hb
     rw [Bt] at e
     cases e
     exact ⟨by show 2 <= sizeLine; decide,[key,v],.cons (Abv hkey) (.cons rv .nil),_,hT2,rfl,_,rfl⟩
    ·rw [Bl hb] at e
     have nit:∀ c w,H c = some w->c ≠ it:=fun c w e z=>by rw [z,f0] at e; cases e
     refine (I.hok b u e).stay (fun c v hc q=>kp c v ?_ q) (fun c q=>by rw [Bl (nt c _ q)]; exact q) fun c xs q=>by rw [Bl (nt c _ q)]; exact q
     rcases hc with z | z
     ·rw [z]; exact nit b u e
     ·exact nit c _ z
  ·have e:b = it:=by simpa using hb
   rw [e,Bl (Ne.symm hne)]
   exact f0
 done:=by
  intro X hP hw hK hc i pins s σ H E I hf st hg
  subst hP hw hK
  obtain ⟨hz,hi⟩:=hg
  obtain ⟨ok,ov,st⟩:=st
  obtain ⟨hm,vs,r,da⟩:=Tv I.hok hz hd
  have hl:kvs.length = vs.length:=Paired.length r
  obtain ⟨f0,f1,f2,f3,f4,f5⟩:=hf it (by simp)
  rw [hl] at st
  exact wpAny_pyNext_items_end (I.ok.hd hc) st da (getElem?_eq_none (by omega)) fun h' eb=>⟨rfl,I.turned (t':=s.toks) (fun b o hb e=>eb b o hb e) f0 f1 f3 f4 f5⟩
 self:=fun A i s Q E st h=>by
  obtain ⟨ok,ov,e⟩:=st
  exact PySem.W.kcp_self e h
section
variable {X:Cx} {elts:List Expr} {x1:Nat} {tp apos cpos:Pos}
def iDi (tl:TE):TI:=fun σ H R=>tl σ H fun x H1=>∃ a o kvs,x = .ref a/\H1 a = some (.frz o (.dK kvs))/\R (Iti a o kvs) H1
theorem Adh {l:Expr} {tl:TE} (hl:PE X l tl) (hbase:attributeBase l "items" X.env (eval l X.env) = eval l X.env:=by rfl) (hline:(apos.endLine == cpos.line) = true:=by rfl) :
  PI X (.Tuple elts x1 tp) (.Call (.Attribute l "items" apos) [] [] cpos) (iDi tl):=by
 intro pins s σ H R I h
 refine wpAny_Call_method0_late hbase hline (thn (hl pins s σ H _ I h) fun v s1 ⟨x,H1,I1,r1,q1⟩=>?_)
 obtain ⟨a,o,kvs,e,hz,q⟩:=q1
 subst e
 cases r1
 obtain ⟨ho,_,hm,vs,r,o',es,ep,h1,h2,h3,h4⟩:=(show ObjOk X.prog X.w H1 s1.heap a (.frz o (.dK kvs)) from I1.hok a _ hz)
 rw [ho] at h1
 cases h1
 have hlen:kvs.length = vs.length:=Paired.length r
 have da:s1.heap.DictAt (Ds X.prog X.w) a vs ep:=⟨o,es,ho,h2,h3,h4⟩
 refine ⟨"dict","dict.items",plainAttrs_dict,PySem.F.slot_dict_items,PySem.F.type_dict_items,⟨o,ho,h2.1⟩,fun b eb=>?_,Calls.callWith_builtin rfl (PySem.evalArgs_none ?_)⟩
 ·cases eb
  exact ⟨o,ho,h2.2.1⟩
 refine call_meetsIn PySem.F.slot_dict_items da.dictOf.typeIs PySem.F.entry_dict_items (PySem.F.args_dict_items_1 _) (meets_dict_items (Ds X.prog X.w) a hm) ⟨⟨vs,da.dictOf⟩,?_⟩
 refine wpAny_pyIter_items (s:={ s1 with heap:=s1.heap.push { cls:=.type "dict_items",data:=.fields #[.ref a] } }) (knd:=Ds X.prog X.w) (kvs:=vs) (ep:=ep) ⟨_,get?_push_size _ rfl,rfl,rfl⟩ (da.push _) ?_
 have I2:Inv X pins σ H1 { s1 with heap:=s1.heap.push { cls:=.type "dict_items",data:=.fields #[.ref a] } }:=I1.kept (t':=s1.toks) fun b o e=>get?_push_of_some _ e
 refine ⟨_,[_],_,_,H1,rfl,I2.kept (t':=s1.toks) fun b o e=>get?_push_of_some _ e,Acl a _ o kvs es ep h3,⟨.none,.none,by rw [hlen]; exact get?_push_size _ rfl⟩,fun b hb=>?_,q⟩
 have e:=mem_singleton.mp hb
 subst e
 exact I2.fpOk (Nat.le_refl _) (I2.hok.fresh (Nat.le_refl _))
theorem AcE {a:Addr} {o:Obj} {kvs:List (Key × V)} {g:TG} {tb:TS} {D:Ends} {σ:St} {H:Hp} (Pv:Nat->St->Hp->Prop) (h0:Pv 0 σ H) (hl:∀ i σ H,i <= kvs.length->Pv i σ H->H a = some (.frz o (.dK kvs)))
  (hs:∀ i kv t σ H,kvs[i]? = some kv->H t = none->Pv i σ H->g (.ref t) σ (upd H t (.tup [kV kv.1,kv.2])) fun σ2 H2=>tb { D with nx:=Pv (i + 1),ct:=Pv (i + 1),bk:=D.nx } σ2 H2) (hd:∀ σ H,Pv kvs.length σ H->D.nx σ H) :
  ∃ W:Nat->Nat->St->Hp->Prop,(∃ m,W 0 m σ H)/\∀ i m σ H,W i m σ H ->
   ((Iti a o kvs).stop i H/\D.nx σ H)\/((Iti a o kvs).go i H/\∃ N:St->Hp->Prop,(∀ σ' H',N σ' H'->∃ m',m' < m/\W (i + 1) m' σ' H')/\∀ x H',(Iti a o kvs).yld i H x H'->g x σ H' fun σ2 H2=>tb { D with nx:=N,ct:=N,bk:=D.nx } σ2 H2):=by
 refine ⟨fun i m σ H=>m = kvs.length - i/\i <= kvs.length/\Pv i σ H,⟨kvs.length,by simp,zero_le _,h0⟩,?_⟩
 rintro i m σ H ⟨rfl,hi,p⟩
 have q:=hl i σ H hi p
 by_cases hlt:i < kvs.length
 ·refine .inr ⟨⟨q,hlt⟩,Pv (i + 1),fun σ' H' p'=>⟨kvs.length - (i + 1),by omega,rfl,hlt,p'⟩,fun x H' y=>?_⟩
  obtain ⟨t,kv,ht,y1,y2,y3⟩:=y
  subst y2 y3
  exact hs i kv t σ _ y1 ht p
 ·have e:i = kvs.length:=by omega
  subst e
  exact .inl ⟨⟨q,Nat.le_refl _⟩,hd σ H p⟩
end
end L2
set_option Elab.async false
set_option linter.all false
set_option maxRecDepth 100000
set_option maxHeartbeats 4000000
namespace L2
open PySem PySem.Spec PyProof.Rows
section
variable {σ:St} {H:Hp} {Q:VK} {B:Bool->Hp->Prop} {v x y:V} {ta tb tc:TE} {tA tB':TT} {D:Ends} {t u:TS} {K:Frag}
theorem Amn {i:Nat} (h:σ[i]? = some (some v)) (q:Q v H):Fk i σ H Q:=⟨v,h,q⟩
theorem i_c (q:Q v H):tC v σ H Q:=q
theorem AnC {r:R2} (q:ta σ H fun x H1=>tb σ H1 fun y H2=>r x y H2 Q):tOp r ta tb σ H Q:=q
theorem AnS {r:V->Hp->VK->Prop} (q:ta σ H fun x H1=>r x H1 Q):tUn r ta σ H Q:=q
theorem Ano {g:Int->V} {i:Int} (q:Q (g i) H):rU g (.int i) H Q:=⟨i,rfl,q⟩
theorem Amc {g:Int->Int->V} {i j:Int} (q:Q (g i j) H):rI0 g (.int i) (.int j) H Q:=⟨i,j,rfl,rfl,q⟩
theorem Age {i j:Int}:decide (V.int i = V.int j) = decide (i = j):=by
 by_cases h:i = j
 ·subst h; simp
 ·rw [decide_eq_false h,decide_eq_false fun e=>h (V.int.inj e)]
theorem Ago {i j:Str}:decide (V.str i = V.str j) = decide (i = j):=by
 by_cases h:i = j
 ·subst h; simp
 ·rw [decide_eq_false h,decide_eq_false fun e=>h (V.str.inj e)]
theorem Ahb {i j:Int} (q:Q (.bl (decide (i = j))) H):rEq (.int i) (.int j) H Q:=⟨rfl,by rw [Age]; exact q⟩
theorem Ag4 {i j:Str} (q:Q (.bl (decide (i = j))) H):rEq (.str i) (.str j) H Q:=⟨rfl,by rw [Ago]; exact q⟩
theorem Agz {i j:Int} (q:Q (.bl (!decide (i = j))) H):rNe (.int i) (.int j) H Q:=⟨rfl,by rw [Age]; exact q⟩
theorem Ahp {i j:Str} (q:Q (.bl (!decide (i = j))) H):rNe (.str i) (.str j) H Q:=⟨rfl,by rw [Ago]; exact q⟩
theorem Anw {t:TE} (q:t σ H fun x H1=>∃ c,x = .bl c/\B c H1):tB t σ H B:=q
theorem AkS {t:TE} (q:t σ H fun x H1=>∃ c,x = .bl c/\B c H1):Ab8 t σ H B:=q
theorem Amr {b:Bool} {P:Bool->Prop} (q:P b):∃ c,V.bl b = V.bl c/\P c:=⟨b,rfl,q⟩
theorem Anr (q:tA σ H fun c H1=>if c = true then B true H1 else tB' σ H1 B):tOr tA tB' σ H B:=q
theorem AmL (q:tA σ H fun c H1=>B (!c) H1):AfI tA σ H B:=q
theorem Ak8 (q:ta σ H fun x H1=>∃ c,x = .bl c/\if c = true then tb σ H1 Q else Q (.bl false) H1):AcU ta tb σ H Q:=q
theorem Alz (q:ta σ H fun x H1=>∃ c,x = .bl c/\Q (.bl (!c)) H1):Ach ta σ H Q:=q
theorem Ab9 (q:t { D with nx:=u D } σ H):Xt t u D σ H:=q
theorem Anu (q:D.nx σ H):Acc D σ H:=q
theorem Ajm (q:ta σ H fun _ H1=>D.nx σ H1):Wq ta D σ H:=q
theorem Al9 (q:ta σ H D.rt):Xr ta D σ H:=q
theorem Ant (q:tA σ H fun b H1=>if b = true then t D σ H1 else u D σ H1):AfD tA t u D σ H:=q
theorem Amw {g:TG} (q:ta σ H fun x H1=>g x σ H1 D.nx):Nc ta g D σ H:=q
theorem Aim {i:Nat} {R:St->Hp->Prop} (q:R (σ.set i (some v)) H):Gf i v σ H R:=q
theorem AlH {n:Nat} {a:Addr} {xs:List V} {g:TGs} {R:St->Hp->Prop} (h:SqT K H a xs) (hl:xs.length = n) (q:g xs σ H R):Xk K n g (.ref a) σ H R:=⟨a,xs,rfl,h,hl,q⟩
theorem Aiu {g:TG} {gs:TGs} {vs:List V} {R:St->Hp->Prop} (q:g v σ H fun σ' H'=>gs vs σ' H' R):Xe g gs (v :: vs) σ H R:=⟨v,vs,rfl,q⟩
theorem Ak6 {R:St->Hp->Prop} (q:R σ H):Ab4 [] σ H R:=⟨rfl,q⟩
theorem Ak3 {sp:Sp} {dvs:List V} {E:XK} {t:TA} (q:t σ H fun vs H1=>sp (vs ++ dvs) H1 Q E):Ll sp dvs E t σ H Q:=q
theorem Ake {C:Addr} {m:Str} {sp:Sp} {dvs:List V} {E:XK} {t:TA} (q:ta σ H fun x H1=>∃ a dx fs,x = .ref a/\H1 a = some (.ins C dx fs)/\fs.lookup m = none/\t σ H1 fun vs H2=>sp (x :: (vs ++ dvs)) H2 Q E):Wo C m sp dvs E ta t σ H Q:=q
theorem AmR {R:List V->Hp->Prop} (q:R [] H):La σ H R:=q
theorem Aly {tr:TA} {R:List V->Hp->Prop} (q:ta σ H fun x H1=>tr σ H1 fun xs H2=>R (x :: xs) H2):Fl ta tr σ H R:=q
theorem AmH {t:TA} (q:t σ H fun xs H1=>xs.length <= sizeLine/\∀ p,H1 p = none->Q (.ref p) (upd H1 p (.tup xs))):Akg t σ H Q:=q
theorem AmC {f:Str} (q:ta σ H fun x H1=>∃ a C dx fs v,x = .ref a/\H1 a = some (.ins C dx fs)/\Cls K C/\NoAttr K C f/\fs.lookup f = some v/\Q v H1):AjN K ta f σ H Q:=q
theorem AnR {r:List V->Hp->VK->Prop} {t:TA} (q:t σ H fun vs H1=>r vs H1 Q):tCB r t σ H Q:=q
theorem AmZ (q:ta σ H fun y H1=>tb σ H1 fun x H2=>∃ a o,x = .ref a/\DGet H2 a y o/\Q (.bl o.isSome) H2):Aje ta tb σ H Q:=q
theorem Ae0 (q:ta σ H fun y H1=>tb σ H1 fun x H2=>∃ a o,x = .ref a/\DGet H2 a y o/\Q (.bl (!o.isSome)) H2):AbQ ta tb σ H Q:=q
theorem AkV (q:ta σ H fun x H1=>tb σ H1 fun y H2=>∃ a v,x = .ref a/\DGet H2 a y (some v)/\Q v H2):AcK ta tb σ H Q:=q
theorem AhN (q:ta σ H fun x H1=>∃ a,x = .ref a/\IsD H1 a/\tb σ H1 fun y H2=>∃ o,DGet H2 a y o/\Q (o.getD .non) H2):AcY ta tb σ H Q:=q
theorem AiL (q:ta σ H fun x H1=>∃ a,x = .ref a/\IsD H1 a/\tb σ H1 fun y H2=>tc σ H2 fun z H3=>∃ o,DGet H3 a y o/\Q (o.getD z) H3):AaD ta tb tc σ H Q:=q
theorem AlP (q:tc σ H fun v H1=>ta σ H1 fun x H2=>tb σ H2 fun y H3=>∃ a H4,x = .ref a/\DPut H3 a y v H4/\D.nx σ H4):Acn ta tb tc D σ H:=q
theorem Als {f:Str} (q:tb σ H fun y H1=>ta σ H1 fun x H2=>∃ a C dx fs,x = .ref a/\H2 a = some (.ins C dx fs)/\Cls K C/\NoAttr K C f/\fs.length < 1000/\D.nx σ (upd H2 a (.ins C dx (Ce f y fs)))):Aky K ta tb f D σ H:=q
theorem AnO {T:String} {r:V->List V->Hp->VK->Prop} {t:TA} (q:ta σ H fun x H1=>tyV K T x H1/\t σ H1 fun xs H2=>r x xs H2 Q):tBM K T r ta t σ H Q:=q
theorem AlO (q:∀ p,H p = none->Q (.ref p) (upd H p (.dK []))):AaT σ H Q:=q
theorem Aj7 (q:∀ p,H p = none->Q (.ref p) (upd H p (.dT []))):AdE σ H Q:=q
theorem Ly {i:Nat} {a:Addr} {xs:List V} {g:TG} (hv:σ[i]? = some (some (.ref a))) (hS:SqL K H a xs) (Pv:Nat->St->Hp->Prop) (h0:Pv 0 σ H) (hl:∀ i σ H,i <= xs.length->Pv i σ H->SqL K H a xs)
  (hs:∀ i x σ H,xs[i]? = some x->Pv i σ H->g x σ H fun σ2 H2=>t { D with nx:=Pv (i + 1),ct:=Pv (i + 1),bk:=D.nx } σ2 H2) (hd:∀ σ H,Pv xs.length σ H->D.nx σ H):Lg (Tb K (Fk i)) g t D σ H :=
 ⟨_,hv,a,rfl,⟨_,hS⟩,Wk Pv h0 hl hs hd⟩
theorem Anq {R:It->Hp->Prop} (q:ta σ H fun x H1=>∃ a,x = .ref a/\(∃ xs,SqL K H1 a xs)/\R (Itl K a) H1):Tb K ta σ H R:=q
theorem AlE {i:Nat} {a:Addr} {kvs:List (Key × V)} {g:TG} (hv:σ[i]? = some (some (.ref a))) (hS:H a = some (.dK kvs)) (Pv:Nat->St->Hp->Prop) (h0:Pv 0 σ H)
  (hl:∀ i σ H,i <= kvs.length->Pv i σ H->H a = some (.dK kvs))
  (hs:∀ o i kv σ H,kvs[i]? = some kv->Pv i σ H->g (kV kv.1) σ (upd H a (.frz o (.dK kvs))) fun σ2 H2=>t (Ends.mk (fun σ H=>H a = some (.frz o (.dK kvs))/\Pv (i + 1) σ (upd H a (.dK kvs))) (Sc a (.dK kvs) D).rt (Sc a (.dK kvs) D).nx (fun σ H=>H a = some (.frz o (.dK kvs))/\Pv (i + 1) σ (upd H a (.dK kvs)))) σ2 H2)
  (hd:∀ σ H,Pv kvs.length σ H->D.nx σ H):AcL (Lg (iDk (Fk i)) g t) D σ H:=by
 refine ⟨a,.dK kvs,trivial,hS,fun o=>⟨_,hv,a,o,kvs,rfl,Bt,Yx (fun i σ H=>H a = some (.frz o (.dK kvs))/\Pv i σ (upd H a (.dK kvs))) ⟨Bt,?_⟩ (fun i σ H _ p=>p.1) (fun i kv σ H e p=>?_) fun σ H p=>⟨o,p.1,hd σ _ p.2⟩⟩⟩
 ·have e:upd (upd H a (.frz o (.dK kvs))) a (.dK kvs) = H:=by
   rw [Fy]; funext b; unfold upd; split
   ·rename_i h; rw [h,hS]
   ·rfl
  rw [e]; exact h0
 ·have e2:upd (upd H a (.dK kvs)) a (.frz o (.dK kvs)) = H:=by
   rw [Fy]; funext b; unfold upd; split
   ·rename_i h; rw [h,p.1]
   ·rfl
  have q:=hs o i kv σ _ e p.2
  rw [e2] at q
  exact q
theorem AlQ {i:Nat} {a:Addr} {kvs:List (Key × V)} {g:TG} (hv:σ[i]? = some (some (.ref a))) (hS:H a = some (.dK kvs)) (Pv:Nat->St->Hp->Prop) (h0:Pv 0 σ H)
  (hs:∀ o i kv p σ H,kvs[i]? = some kv->H p = none->p ≠ a->Pv i σ H->g (.ref p) σ (upd (upd H a (.frz o (.dK kvs))) p (.tup [kV kv.1,kv.2])) fun σ2 H2=>t (Ends.mk (fun σ H=>H a = some (.frz o (.dK kvs))/\Pv (i + 1) σ (upd H a (.dK kvs))) (Sc a (.dK kvs) D).rt (Sc a (.dK kvs) D).nx (fun σ H=>H a = some (.frz o (.dK kvs))/\Pv (i + 1) σ (upd H a (.dK kvs)))) σ2 H2)
  (hd:∀ σ H,Pv kvs.length σ H->D.nx σ H):AcL (Lg (iDi (Fk i)) g t) D σ H:=by
 refine ⟨a,.dK kvs,trivial,hS,fun o=>⟨_,hv,a,o,kvs,rfl,Bt,AcE (fun i σ H=>H a = some (.frz o (.dK kvs))/\Pv i σ (upd H a (.dK kvs))) ⟨Bt,?_⟩ (fun i σ H _ p=>p.1) (fun i kv p σ H e hp w=>?_) fun σ H p=>⟨o,p.1,hd σ _ p.2⟩⟩⟩
 ·have e:upd (upd H a (.frz o (.dK kvs))) a (.dK kvs) = H:=by
   rw [Fy]; funext b; unfold upd; split
   ·rename_i h; rw [h,hS]
   ·rfl
  rw [e]; exact h0
 ·have e2:upd (upd H a (.dK kvs)) a (.frz o (.dK kvs)) = H:=by
   rw [Fy]; funext b; unfold upd; split
   ·rename_i h; rw [h,w.1]
   ·rfl
  have ne:p ≠ a:=fun z=>by rw [z,w.1] at hp; cases hp
  have q:=hs o i kv p σ (upd H a (.dK kvs)) e (by rw [Bl ne]; exact hp) ne w.2
  rw [e2] at q
  exact q
theorem Aip {ta:TA} {g:TG} {hi:Int} {n:Nat} (hargs:∀ R:List V->Hp->Prop,R [.int hi] H->ta σ H R) (hb:-(2 ^ 62) <= hi/\hi < 2 ^ 62) (hn:hi.toNat = n) (Pv:Nat->St->Hp->Prop) (h0:Pv 0 σ H)
  (hs:∀ i σ H,i < n->Pv i σ H->g (.int (0 + i)) σ H fun σ2 H2=>t { D with nx:=Pv (i + 1),ct:=Pv (i + 1),bk:=D.nx } σ2 H2) (hd:∀ σ H,Pv n σ H->D.nx σ H):Lg (AcC ta) g t D σ H :=
 hargs _ ⟨hi,rfl,hb.1,hb.2,by rw [hn]; exact Yp Pv h0 hs hd⟩
end
end L2
set_option Elab.async false
set_option linter.all false
set_option maxRecDepth 100000
set_option maxHeartbeats 4000000
namespace L2
open PySem PySem.Spec PyProof.Rows
def Fa (fn:List Str) (env:Env):List (Str × Addr):=fn.map fun x=>(x,(env.cells.lookup x).getD 0)
theorem Vk {env:Env}:∀ {fn:List Str} {x:Str} {c:Addr},(Fa fn env).lookup x = some c->x ∈ fn/\c = (env.cells.lookup x).getD 0
 | [],_,_,h=>by cases h
 | y :: r,x,c,h=>by
  unfold Fa at h
  rw [map_cons,lookup_cons] at h
  cases e:x == y with
  | true =>
   rw [e] at h
   have:x = y:=eq_of_beq e
   subst this
   cases h
   exact ⟨mem_cons_self,rfl⟩
  | false =>
   rw [e] at h
   obtain ⟨h1,h2⟩:=Vk (fn:=r) (x:=x) (c:=c) h
   exact ⟨mem_cons_of_mem _ h1,h2⟩
theorem Wi {env:Env}:∀ {fn:List Str} {x:Str},x ∈ fn->(Fa fn env).lookup x = some ((env.cells.lookup x).getD 0)
 | [],_,h=>by cases h
 | y :: r,x,h=>by
  unfold Fa
  rw [map_cons,lookup_cons]
  cases e:x == y with
  | true =>
   have:x = y:=eq_of_beq e
   subst this
   rfl
  | false =>
   rcases mem_cons.mp h with z | z
   ·subst z; rw [beq_self_eq_true] at e; cases e
   ·exact Wi z
def Dw (X:Cx) (scope:Scope) (N' fn:List Str) (C:Addr) (fp:List Addr) (s:Shared) (H:Hp):Cx :=
 { X with N:=N',s₀:=s,H₀:=H,env:=compEnvC scope (Fa fn X.env) C X.env,outer:=X.stack,stack:=X.stack,ex:=fp,fn:=fun _=>false,pn:=[],xe:=fun _ _=>False }
def compσ (k:Nat) (fr:List Nat) (σ:St):St:=replicate k none ++ fr.map fun i=>(σ[i]?).join
def Jg (wi:TI) (g:TG) (tc:TT) (te:TE) (k:Nat) (fr:List Nat):TE:=fun σ H Q=>wi σ H fun J H1=>∀ D,H1 D = none ->
 ∃ W:Nat->Nat->Hp->Prop,(∃ m,W 0 m (upd H1 D (.lst [])))/\∀ i m H,W i m H->(J.stop i H/\Q (.ref D) H)\/(J.go i H/\∀ x H',J.yld i H x H'->g x (compσ k fr σ) H' fun σ2 H2 =>
  σ2.drop k = (compσ k fr σ).drop k/\tc σ2 H2 fun b H3=>if b = true then te σ2 H3 (fun y H4=>∃ ys,H4 D = some (.lst ys)/\ys.length < sizeLine/\∃ m',m' < m/\W (i + 1) m' (upd H4 D (.lst (ys ++ [y])))) else ∃ m',m' < m/\W (i + 1) m' H3)
def Rp (X:Cx) (ifs:List Expr) (t:TT):Prop :=
 ∀ (pins:List (Addr × Obj)) (s:Shared) (σ:St) (H:Hp) (Q:Bool->Hp->Prop),Inv X pins σ H s->t σ H Q ->
  wpAny (model X.prog X.w) X.A (forIn ifs true fun c r=>if r = true then do let ok <- isTrue c X.env (eval c X.env); pure (ForInStep.yield ok) else pure (ForInStep.yield r)) (TP X pins σ Q) X.xe s
def Acv:TT:=fun _ H Q=>Q true H
theorem Gr {X:Cx}:Rp X [] Acv:=fun _ _ _ H _ I h=>wpAny_tests_nil ⟨H,I,h⟩
theorem Le {X:Cx} {c:Expr} {t:TT} (h:PT X c t):Rp X [c] t:=fun pins s σ H Q I q=>wpAny_tests_one (h pins s σ H Q I q)
theorem Aen {prog:Program} {w:World} {A:Around} {R:Result->Shared->Prop} {s:Shared} {elt target iter:Expr} {ifs:List Expr} {scope:Scope} {pos:Pos} {it acc:Value} {env:Env} (I:Nat->Shared->Prop)
  (turn:∀ n s,I n s->wpAny (model prog w) A (pyNext it) (fun r s₁=>match r with
   | none=>R (.ok .next) s₁
   | some v=>wpAny (model prog w) A (letOwnedTupleGo target it v) (fun _ s₁'=>wpAny (model prog w) A (assign target env v) (fun _ s₂ =>
     wpAny (model prog w) A (forIn ifs true fun c r=>if r = true then do let ok <- isTrue c env (eval c env); pure (ForInStep.yield ok) else pure (ForInStep.yield r)) (fun ok s₃ =>
      if ok = true then wpAny (model prog w) A (eval elt env) (fun x s₄ =>
       wpAny (model prog w) A (call (.builtin "list.append") [acc,x]) (fun _ s₅=>∃ m,m < n/\I m s₅) (fun _ _=>False) s₄) (fun _ _=>False) s₃
      else ∃ m,m < n/\I m s₃) (fun _ _=>False) s₂) (fun _ _=>False) s₁') (fun _ _=>False) s₁) (fun _ _=>False) s)
  (n:Nat) (h:I n s) :
  codeAny (model prog w) A (.compLoop (.ListComp elt [⟨target,iter,ifs,0⟩] scope pos) 0 it acc env) R s:=by
 refine codeAny_loop rfl I (fun n s hI=>?_) n h
 show wpAny _ A ((compTurn (.ListComp elt [⟨target,iter,ifs,0⟩] scope pos) 0 it acc env).onRaise (fun x=>do noteFrame x env; theTreesLotGoes x)) _ _ s
 refine wpAny_noted ?_
 rw [compTurn_list]
 refine wpAny_bind (wpAny_standAt (wpAny_bind (wpAny_mono (turn n s hI) (fun r s₁ h₁=>?_) fun _ _ h'=>h'.elim)))
 cases r with
 | none=>exact wpAny_pure h₁
 | some v =>
  refine wpAny_bind (wpAny_mono h₁ (fun _ s₁' h₁'=>?_) fun _ _ h'=>h'.elim)
  refine wpAny_bind (wpAny_mono h₁' (fun _ s₂ h₂=>wpAny_bind (wpAny_mono h₂ (fun ok s₃ h₃=>?_) fun _ _ h'=>h'.elim)) fun _ _ h'=>h'.elim)
  cases ok with
  | false=>exact wpAny_pure ⟨rfl,h₃⟩
  | true =>
   exact wpAny_bind (wpAny_bind (wpAny_mono h₃ (fun x s₄ h₄=>wpAny_bind (wpAny_mono h₄ (fun _ s₅ h₅=>wpAny_pure (wpAny_pure ⟨rfl,h₅⟩)) fun _ _ h'=>h'.elim)) fun _ _ h'=>h'.elim))
theorem compσ_len (k:Nat) (fr:List Nat) (σ:St):(compσ k fr σ).length = k + fr.length:=by
 unfold compσ; rw [length_append,length_replicate,length_map]
theorem compσ_weak {k:Nat} {fr:List Nat} {σ σ2:St} (hd:σ2.drop k = (compσ k fr σ).drop k):∀ (i:Nat) v,(compσ k fr σ)[i]? = some (some v)->σ2[i]? = some (some v):=by
 intro i v h
 by_cases hi:i < k
 ·unfold compσ at h
  rw [getElem?_append_left (by rw [length_replicate]; exact hi),getElem?_replicate] at h
  rw [if_pos hi] at h; cases h
 ·have e:∀ l:St,l[i]? = (l.drop k)[i - k]?:=fun l=>by rw [List.getElem?_drop]; congr 1; omega
  rw [e] at h ⊢
  rw [hd]; exact h
theorem Inv.nsch {X:Cx} {pins:List (Addr × Obj)} {σ:St} {H:Hp} {s:Shared} {C:Addr} {h':Heap} (I:Inv X pins σ H s) (sb:SameBut C s.heap h') (hC:H C = none) (h1:X.s₀.heap.objs.size <= C) (h2:C ≠ X.env.locals)
  (h3:∀ x c,X.env.cells.lookup x = some c->c ≠ C) (h4:∀ p ∈ X.pn ++ pins,p.1 ≠ C):Inv X pins σ H { s with heap:=h' }:=by
 have nc:∀ b:Addr,b ∉ [C]->b ≠ C:=fun b z w=>z (by rw [w]; exact mem_cons_self)
 refine Inv.call (s:=s) I (h':=h') (g':=s.gens) (d':=s.drawn) (t':=s.toks) (ch:=[C]) ⟨fun b o e n _ hx=>(sb.2 b (nc b hx)).trans e,fun b o e n _ hx=>⟨o.slots,(sb.2 b (nc b hx)).trans e⟩,fun _ _ _ n _=>n,fun b o e hx=>⟨o,(sb.2 b (nc b hx)).trans e⟩,fun _ _ e=>e,fun _ _ _ e=>e,fun b ps e=>⟨#[],by rw [Array.append_empty]; exact e⟩⟩ (fun b u e=>?_) I.bare (fun b hb=>?_)
 ·refine (I.hok b u e).stay (fun c v hc' q'=>(sb.2 c ?_).trans q') (fun _ q'=>q') fun _ _ q'=>q'
  rcases hc' with w | w
  ·rw [w]; exact Cb e hC
  ·exact Cb w hC
 ·rw [mem_singleton.mp hb]
  exact ⟨.inr h1,h2,h3,h4⟩
theorem Yr {X:Cx} {elt tg iter:Expr} {ifs:List Expr} {scope:Scope} {pos:Pos} {wi:TI} {g:TG} {tc:TT} {te:TE} {k:Nat} {fr:List Nat} {N' fn:List Str} (hc:X.calm = true)
  (hi:PI X tg iter wi) (hN:N'.length = k + fr.length)
  (hfr:∀ j y,N'[k + j]? = some y->∀ i,fr[j]? = some i->X.N[i]? = some y/\X.env.kindOf y = some .cell/\(compEnvC scope (Fa fn X.env) 0 X.env).kindOf y = some .cell/\y ∈ fn)
  (hfn:∀ y ∈ fn,X.env.kindOf y = some .cell)
  (hkd:∀ y,((compEnvC scope (Fa fn X.env) 0 X.env).kindOf y = some .cell\/(compEnvC scope (Fa fn X.env) 0 X.env).kindOf y = some .free)->y ∈ fn)
  (hg:∀ C fp s H,PG (Dw X scope N' fn C fp s H) tg g) (ht:∀ C fp s H,Rp (Dw X scope N' fn C fp s H) ifs tc) (he:∀ C fp s H,PE (Dw X scope N' fn C fp s H) elt te)
  (hclos:closureFor scope X.env = pure (Fa fn X.env)) (hcell:∀ y ∈ scope.names,y.2 ≠ .cell) (hkind:scope.kind = .function) (hnames:∀ y ∈ scope.names,y.2 = .local->scope.names.lookup y.1 = some .local)
  (hs:∀ x,foldedSetIterable iter X.env x = pure x:=by intro _; rfl) {pins:List (Addr × Obj)} {s:Shared} {σ:St} {H:Hp} {Q:VK} {use:Option (Value->Sem Unit)} {Qc:Value->Shared->Prop} {cpos:Pos} (I:Inv X pins σ H s) (h:Jg wi g tc te k fr σ H Q)
  (fin:∀ (H3:Hp) (s4:Shared) (D C:Addr) (m:Str->Option Value),s4.heap.Ns C m->Inv X pins σ H3 s4->H3 C = none->X.s₀.heap.objs.size <= C->C ≠ X.env.locals->(∀ x c,X.env.cells.lookup x = some c->c ≠ C)->(∀ p ∈ X.pn ++ pins,p.1 ≠ C)->Q (.ref D) H3 ->
   compPost (model X.prog X.w) X.A X.xe use Qc (.ref D) C (.ok .next) s4) :
  wpAny (model X.prog X.w) X.A (comprehension (.ListComp elt [⟨tg,iter,ifs,0⟩] scope pos) scope X.env cpos (newList []) false (eval iter X.env) use) Qc X.xe s:=by
 refine wpAny_comprehension_free (use:=use) rfl hs hclos hkind hnames (thn (hi pins s σ H _ I h) fun v s1 h1=>thn h1 fun itv s2 h2=>?_)
 obtain ⟨it,fp,tn,J,H2,e,I2,T,st2,f2,q⟩:=h2
 subst e
 have hfr2:H2 s2.heap.objs.size = none:=I2.hok.fresh (Nat.le_refl _)
 obtain ⟨W,⟨m0,w0⟩,turn⟩:=q s2.heap.objs.size hfr2
 refine wpAny_newObj_type (wpAny_newFunctionEnv hcell (by intro y hy; simp at hy) (fun h₁ hns₁ hsb₁=>?_) hkind)
 dsimp only at hns₁ hsb₁ ⊢
 generalize hHH:s2.heap.push { cls:=.type "list",dict:=none,data:=.seq ([]:List Value).toArray } = HH at hns₁ hsb₁ ⊢
 have hC:HH.objs.size = s2.heap.objs.size + 1:=by rw [<- hHH,Heap.size_push]
 have hDC:s2.heap.objs.size ≠ HH.objs.size:=by rw [hC]; exact ne_of_lt (lt_succ_self _)
 have hCle:s2.heap.objs.size <= HH.objs.size:=by rw [hC]; exact le_succ _
 have below:∀ b,b < s2.heap.objs.size->b ≠ HH.objs.size:=fun b hb=>by rw [hC]; exact ne_of_lt (lt_succ_of_lt hb)
 have old:∀ b o,s2.heap.get? b = some o->h₁.get? b = some o:=fun b o e=>hsb₁.extBut b o (below b (lt_size e)) (get?_push_of_some _ (hHH ▸ get?_push_of_some _ e))
 have hacc:h₁.get? s2.heap.objs.size = some { cls:=.type "list",dict:=none,data:=.seq ([]:List Value).toArray }:=hsb₁.extBut _ _ hDC (get?_push_of_some _ (hHH ▸ get?_push_size _ rfl))
 have hst₁:tn 0 h₁:=T.keep _ _ _ st2 fun b _ o e=>old b o e
 -- the cells from around
 have hcl:∀ x c,(Fa fn X.env).lookup x = some c->X.env.cells.lookup x = some c:=fun x c e=>by
  obtain ⟨h1,h2⟩:=Vk e
  obtain ⟨c',e'⟩:=I2.ok.has x (.inl (hfn x h1))
  rw [h2,e']; rfl
 have kd0:∀ C y,(compEnvC scope (Fa fn X.env) C X.env).kindOf y = (compEnvC scope (Fa fn X.env) 0 X.env).kindOf y:=fun _ _=>rfl
 have fpLt:∀ b ∈ fp,b < s2.heap.objs.size:=fun b hb=>by obtain ⟨o,e,_⟩:=T.obj _ _ st2 b hb; exact lt_size e
 have cLt:∀ x c,(Fa fn X.env).lookup x = some c->c < s2.heap.objs.size:=fun x c e=>by obtain ⟨v,z⟩:=I2.cell x c (hcl x c e); exact z.lt
 -- the block's context
 generalize hX:Dw X scope N' fn HH.objs.size fp s2 H2 = X'
 have ok:X'.Ok:=by
  subst hX
  exact {
   mod:=I2.ok.mod
   kind:=hkind
   glob:=I2.ok.glob
   blt:=I2.ok.blt
   above:=hCle
   inj:=fun x y c h1 h2=>I2.ok.inj x y c (hcl x c h1) (hcl y c h2)
   has:=fun x hx=>⟨_,Wi (hkd x hx)⟩
   cab:=fun x c z=>by cases z
   hd:=fun _=>I2.ok.hd hc
   frames:=I2.ok.frames
   stk:=.inl rfl
   exf:=fun b hb=>⟨ne_of_lt (Nat.lt_of_lt_of_le (fpLt b hb) hCle),fun x c e z=>by
    obtain ⟨_,_,_,_,f4,_⟩:=f2 b hb
    exact f4 x c (hcl x c e) z⟩
   bs:=I2.bs
   bsz:=Nat.le_trans I2.ok.bsz I2.sz
   noex:=fun b o e z=>by
    obtain ⟨_,_,_,f3,_,_⟩:=f2 b z
    rcases f3 with w | w
    ·exact I2.ok.noex b o e w
    ·have h1:=(I2.ok.bs b o e).1
     exact absurd (Nat.lt_of_lt_of_le (lt_size h1) w) (Nat.lt_irrefl _)
   exfs:=fun b z hb=>by
    obtain ⟨_,f1,f2',_⟩:=f2 b z
    rcases mem_cons.mp (I2.stkSub b hb) with w | w
    ·exact f1 w
    ·exact f2' w
   funs:=I2.stack
   frf:=I2.stkFree }
 have un1:Un X'.fs X'.ex H2 (upd H2 s2.heap.objs.size (.lst [])) s2.heap h₁:=Un.laid old (Nat.le_refl _) hfr2
 have hok1:HOk X.prog X.w (upd H2 s2.heap.objs.size (.lst [])) h₁:=I2.hok.laid old (Nat.le_refl _) ⟨zero_le _,[],0,.nil,hacc⟩
 have nC:H2 HH.objs.size = none:=I2.hok.fresh hCle
 have I0:∀ tk,Inv X' [] (compσ k fr σ) (upd H2 s2.heap.objs.size (.lst [])) { s2 with heap:=h₁,toks:=tk }:=fun tk=>by
  have ex:X'.env = compEnvC scope (Fa fn X.env) HH.objs.size X.env:=by subst hX; rfl
  refine ⟨ok,by subst hX; rfl,I2.bare,by subst hX; exact un1,?_,?_,?_,?_,?_,by subst hX; exact hok1,?_⟩
  ·obtain ⟨m,hn,hl⟩:=I2.loc
   refine ⟨_,by rw [ex]; exact hns₁,fun i x v e1 e2 e3=>?_⟩
   have e1':N'[i]? = some x:=by subst hX; exact e1
   have hik:k <= i:=by
    rcases Nat.lt_or_ge i k with z | z
    ·unfold compσ at e2
     rw [getElem?_append_left (by rw [length_replicate]; exact z),getElem?_replicate,if_pos z] at e2
     cases e2
    ·exact z
   obtain ⟨j,rfl⟩:=Nat.exists_eq_add_of_le hik
   have e2':(fr.map fun i=>(σ[i]?).join)[j]? = some (some v):=by
    unfold compσ at e2
    rw [getElem?_append_right (by rw [length_replicate]; omega),length_replicate] at e2
    simpa using e2
   rw [getElem?_map] at e2'
   cases ef:fr[j]? with
   | none=>rw [ef] at e2'; cases e2'
   | some i0 =>
    rw [ef] at e2'
    have e4:(σ[i0]?).join = some v:=Option.some.inj e2'
    obtain ⟨a1,a2,a3,a4⟩:=hfr j x e1' i0 ef
    have e5:σ[i0]? = some (some v):=by
     cases z:σ[i0]? with
     | none=>rw [z] at e4; cases e4
     | some o=>rw [z] at e4; have:o = some v:=e4; rw [this]
    obtain ⟨u,ru,l⟩:=hl i0 x v a1 e5 (.inr (.inl a2))
    refine ⟨u,ru,.inr ⟨.inl (by rw [ex,kd0]; exact a3),?_⟩⟩
    rcases l with ⟨lk,_⟩ | ⟨_,c,lc,lcell⟩
    ·rw [a2] at lk; cases lk
    ·refine ⟨c,by rw [ex]; show (Fa fn X.env).lookup x = some c; rw [Wi a4,lc]; rfl,?_⟩
     obtain ⟨o,ho,hd⟩:=lcell
     exact ⟨o,old c o ho,hd⟩
  ·intro x c e
   rw [ex] at e
   obtain ⟨v,o,ho,hd⟩:=I2.cell x c (hcl x c e)
   exact ⟨v,o,old c o ho,hd⟩
  ·rw [ex]
   show (upd H2 s2.heap.objs.size (.lst [])) HH.objs.size = none
   rw [Bl hDC.symm]; exact nC
  ·intro x c e
   rw [ex] at e
   rw [Bl (ne_of_lt (cLt x c e))]
   exact I2.freeC x c (hcl x c e)
  ·intro p hp
   subst hX
   exact absurd (show p ∈ ([]:List (Addr × Obj)) from hp) (by simp)
  ·rw [compσ_len]; subst hX; exact hN.symm
 have fpOk:∀ {H':Hp} {pins':List (Addr × Obj)},(∀ b ∈ fp,H' b = none)->pins' = []->∀ b ∈ fp,Ul X' pins' H' b:=fun {H' pins'} hn e b hb=>by
  subst e
  obtain ⟨_,f1,f2',f3,f4,f5⟩:=f2 b hb
  subst hX
  refine ⟨hn b hb,ne_of_lt (Nat.lt_of_lt_of_le (fpLt b hb) hCle),fun z=>?_,.inl hb,fun x c e=>f4 x c (hcl x c e),fun p hp=>absurd (show p ∈ ([]:List (Addr × Obj)) from hp) (by simp)⟩
  rcases mem_cons.mp (I2.stkSub b z) with w | w
  ·exact f1 w
  ·exact f2' w
 have eqP:X'.prog = X.prog/\X'.w = X.w/\X'.K = X.K/\X'.calm = true/\X'.A = X.A/\X'.env = compEnvC scope (Fa fn X.env) HH.objs.size X.env/\X'.N = N':=by subst hX; exact ⟨rfl,rfl,rfl,hc,rfl,rfl,rfl⟩
 obtain ⟨eP,eW,eK,eC,eA,eE,eN⟩:=eqP
 have hg':PG X' tg g:=by subst hX; exact hg _ _ _ _
 have ht':Rp X' ifs tc:=by subst hX; exact ht _ _ _ _
 have he':PE X' elt te:=by subst hX; exact he _ _ _ _
 have eX:X'.xe = fun _ _=>False:=by subst hX; rfl
 have loop:∀ s₃:Shared,s₃ = { s2 with heap:=h₁,toks:=s2.toks + ([]:List (Str × Value)).length } ->
   codeAny (model X.prog X.w) X.A (.compLoop (.ListComp elt [⟨tg,iter,ifs,0⟩] scope pos) 0 (.ref it) (.ref s2.heap.objs.size) (compEnvC scope (Fa fn X.env) HH.objs.size X.env))
    (compPost (model X.prog X.w) X.A X.xe use Qc (.ref s2.heap.objs.size) HH.objs.size) s₃:=by
  rintro s₃ rfl
  refine Aen (fun n s'=>∃ i H',Inv X' [] (compσ k fr σ) H' s'/\tn i s'.heap/\(∀ b ∈ fp,H' b = none)/\W i n H') ?_ m0 ⟨0,_,I0 _,hst₁,fun b hb=>by rw [Bl (ne_of_lt (fpLt b hb))]; exact (f2 b hb).1,w0⟩
  rintro n s3 ⟨i,H3,I3,st3,fr3,w3⟩
  rcases turn i n H3 w3 with ⟨stop,qn⟩ | ⟨go,step⟩
  ·have d:=T.done X' eP eW eK eC i [] s3 (compσ k fr σ) H3 (fun _ _=>False) I3 (fpOk fr3 rfl) st3 stop
   rw [eA] at d
   refine thn d fun r s4 ⟨hr,I4⟩=>?_
   subst hr
   obtain ⟨m,hn,_⟩:=I4.loc
   rw [eE] at hn
   have u4:Un (frs X.stack) fp H2 H3 s2.heap s4.heap:=by have:=I4.base; subst hX; exact this
   have nC3:H3 HH.objs.size = none:=by have:=I4.free; rw [eE] at this; exact this
   have hok5:HOk X.prog X.w H3 s4.heap:=fun b u e=>by
    have z:=I4.hok b u e
    rw [eP,eW] at z
    exact z
   have os4:s4.os = s2.os:=by have:=I4.os; subst hX; exact this
   obtain ⟨hh,gg,dd,tt,oo⟩:=s4
   obtain rfl:oo = s2.os:=os4
   have Ix:Inv X pins σ H3 ⟨hh,gg,dd,tt,s2.os⟩:=Inv.call (s:=s2) I2 (h':=hh) (g':=gg) (d':=dd) (t':=tt) (ch:=fp) u4 hok5 I4.bare fun b hb=>by
    obtain ⟨_,f1,_,f3,f4,f5⟩:=f2 b hb
    exact ⟨f3,f1,f4,f5⟩
   refine fin H3 _ _ _ m hn Ix nC3 (Nat.le_trans I2.sz hCle) ?_ (fun x c e=>?_) (fun p hp=>?_) qn
   ·obtain ⟨_,⟨o,_,_,ho,_⟩,_⟩:=I2.loc
    exact (below _ (lt_size ho)).symm
   ·obtain ⟨v,z⟩:=I2.cell x c e
    exact below _ z.lt
   ·exact below _ (lt_size (I2.pin p hp).1)
  ·have d:=T.item X' eP eW eK eC i [] s3 (compσ k fr σ) H3 (fun _ _=>False) I3 (fpOk fr3 rfl) st3 go
   rw [eA] at d
   refine thn d fun r s4 ⟨u,hr,h4⟩=>?_
   subst hr
   refine thn h4 fun _ s5 ⟨x,H5,I5,r5,y5,st5,fr5⟩=>?_
   have I5':=I5.pinned (fpOk fr5 rfl) (T.obj _ _ st5)
   have a1:=hg' _ s5 (compσ k fr σ) H5 x u _ I5' r5 (step x H5 y5)
   rw [eP,eW,eA,eE,eX] at a1
   refine thn a1 fun _ s6 ⟨σ6,H6,I6,q6a,q6⟩=>?_
   have a2:=ht' _ s6 σ6 H6 _ I6 q6
   rw [eP,eW,eA,eE,eX] at a2
   refine thn a2 fun b s7 ⟨H7,I7,q7⟩=>?_
   have again:∀ {H8:Hp} {s8:Shared},Inv X' ([] ++ Uv fp s5.heap) σ6 H8 s8->(∃ m',m' < n/\W (i + 1) m' H8)->∃ m,m < n/\∃ i H',Inv X' [] (compσ k fr σ) H' s8/\tn i s8.heap/\(∀ b ∈ fp,H' b = none)/\W i m H':=fun {H8 s8} I8 ⟨m',hm,w8⟩=>by
    refine ⟨m',hm,i + 1,H8,I8.unpinned.weak ?_ (compσ_weak q6a),T.keep _ _ _ st5 fun b hb o e=>(I8.pin (b,o) (mem_append_right _ (mem_append_right _ (Nm hb e)))).1,fun b hb=>?_,w8⟩
    ·rw [compσ_len,I8.len,eN,hN]
    ·obtain ⟨o,e,_⟩:=T.obj _ _ st5 b hb
     exact (I8.pin (b,o) (mem_append_right _ (mem_append_right _ (Nm hb e)))).2.1
   cases b with
   | false =>
    rw [if_neg Bool.false_ne_true] at q7 ⊢
    exact again I7 q7
   | true =>
    rw [if_pos rfl] at q7 ⊢
    have a3:=he' _ s7 σ6 H7 _ I7 q7
    rw [eP,eW,eA,eE,eX] at a3
    refine thn a3 fun yv s8 ⟨y,H8,I8,r8,ys,hD,hz,q8⟩=>?_
    have a4:=Zd (X:=X') _ s8 σ6 H8 (.ref s2.heap.objs.size) [y] (.ref s2.heap.objs.size) [yv] (fun _ H9=>∃ m',m' < n/\W (i + 1) m' H9) I8 rfl (.cons r8 .nil) ⟨_,ys,y,rfl,rfl,hD,hz,q8⟩
    rw [eP,eW,eA,eX] at a4
    exact thn a4 fun _ s9 ⟨_,H9,I9,_,q9⟩=>again I9 q9
 exact codeAny_compStart_list (loop _ rfl) (T.self _ 0 _ _ _ hst₁ (loop _ rfl))
theorem Abf {X:Cx} {elt tg iter:Expr} {ifs:List Expr} {scope:Scope} {pos:Pos} {wi:TI} {g:TG} {tc:TT} {te:TE} {k:Nat} {fr:List Nat} {N' fn:List Str} (hc:X.calm = true)
  (hi:PI X tg iter wi) (hN:N'.length = k + fr.length)
  (hfr:∀ j y,N'[k + j]? = some y->∀ i,fr[j]? = some i->X.N[i]? = some y/\X.env.kindOf y = some .cell/\(compEnvC scope (Fa fn X.env) 0 X.env).kindOf y = some .cell/\y ∈ fn)
  (hfn:∀ y ∈ fn,X.env.kindOf y = some .cell)
  (hkd:∀ y,((compEnvC scope (Fa fn X.env) 0 X.env).kindOf y = some .cell\/(compEnvC scope (Fa fn X.env) 0 X.env).kindOf y = some .free)->y ∈ fn)
  (hg:∀ C fp s H,PG (Dw X scope N' fn C fp s H) tg g) (ht:∀ C fp s H,Rp (Dw X scope N' fn C fp s H) ifs tc) (he:∀ C fp s H,PE (Dw X scope N' fn C fp s H) elt te)
  (hclos:closureFor scope X.env = pure (Fa fn X.env)) (hcell:∀ y ∈ scope.names,y.2 ≠ .cell) (hkind:scope.kind = .function) (hnames:∀ y ∈ scope.names,y.2 = .local->scope.names.lookup y.1 = some .local)
  (hs:∀ x,foldedSetIterable iter X.env x = pure x:=by intro _; rfl):PE X (.ListComp elt [⟨tg,iter,ifs,0⟩] scope pos) (Jg wi g tc te k fr):=by
 intro pins s σ H Q I h
 rw [eval_ListComp]
 refine Yr hc hi hN hfr hfn hkd hg ht he hclos hcell hkind hnames hs I h fun H3 s4 D C m hn Ix hC h1 h2 h3 h4 q=>?_
 exact ⟨m,hn,fun h' sb=>⟨.ref D,H3,Inv.nsch Ix sb hC h1 h2 h3 h4,rfl,q⟩⟩
theorem Abk {X:Cx} {elt tg iter:Expr} {ifs:List Expr} {scope:Scope} {pos px spos:Pos} {i:Nat} {x:Str} {wi:TI} {g:TG} {tc:TT} {te:TE} {k:Nat} {fr:List Nat} {N' fn:List Str} (hc:X.calm = true)
  (hi:PI X tg iter wi) (hN:N'.length = k + fr.length)
  (hfr:∀ j y,N'[k + j]? = some y->∀ i,fr[j]? = some i->X.N[i]? = some y/\X.env.kindOf y = some .cell/\(compEnvC scope (Fa fn X.env) 0 X.env).kindOf y = some .cell/\y ∈ fn)
  (hfn:∀ y ∈ fn,X.env.kindOf y = some .cell)
  (hkd:∀ y,((compEnvC scope (Fa fn X.env) 0 X.env).kindOf y = some .cell\/(compEnvC scope (Fa fn X.env) 0 X.env).kindOf y = some .free)->y ∈ fn)
  (hg:∀ C fp s H,PG (Dw X scope N' fn C fp s H) tg g) (ht:∀ C fp s H,Rp (Dw X scope N' fn C fp s H) ifs tc) (he:∀ C fp s H,PE (Dw X scope N' fn C fp s H) elt te)
  (hclos:closureFor scope X.env = pure (Fa fn X.env)) (hcell:∀ y ∈ scope.names,y.2 ≠ .cell) (hkind:scope.kind = .function) (hnames:∀ y ∈ scope.names,y.2 = .local->scope.names.lookup y.1 = some .local)
  (hs:∀ x,foldedSetIterable iter X.env x = pure x:=by intro _; rfl) (hNd:X.N.Nodup) (hix:X.N[i]? = some x) (hx:Loc X.env.scope x) (hsw:swapsWith (.ListComp elt [⟨tg,iter,ifs,0⟩] scope pos) (some (.Name x px)) spos.line X.env = pure true)
  (hf:X.fn x = true\/X.env.scope.names.lookup x = some .local:=by first | exact .inl rfl | exact .inr rfl | assumption):PS X (.Assign [.Name x px] (.ListComp elt [⟨tg,iter,ifs,0⟩] scope pos) spos) (Nc (Jg wi g tc te k fr) (Gf i)):=by
 intro pins s σ H D I h
 rw [exec_Assign_Name_used _ _ _ _ hsw]
 refine wpAny_bind (wpAny_standAt (wpAny_bind ?_))
 show wpAny _ X.A (do let _ <- comprehension (.ListComp elt [⟨tg,iter,ifs,0⟩] scope pos) scope X.env _ (newList []) false (eval iter X.env) (some (assign (.Name x px) X.env))) _ _ s
 refine wpAny_bind (wpAny_mono (Yr (use:=some (assign (.Name x px) X.env)) (Qc:=fun _ s'=>SP X pins D .next s') hc hi hN hfr hfn hkd hg ht he hclos hcell hkind hnames hs I h fun H3 s4 D' C m hn Ix hC h1 h2 h3 h4 q=>?_) (fun _ s' hq=>wpAny_pure (wpAny_pure hq)) fun _ _ e=>e)
 show wpAny _ X.A (assign (.Name x px) X.env (.ref D')) _ _ _
 refine wpAny_assign_Name (Yu Ix hNd hix hx (v:=.ref D') rfl (fun s' I' ⟨a,sb,ha⟩=>?_) hf)
 have nCa:C ≠ a:=by
  rcases ha with w | w
  ·rw [w]; exact h2
  ·exact (h3 _ _ w).symm
 exact ⟨m,hn.sameBut sb nCa,fun h' sb'=>⟨_,H3,Inv.nsch I' sb' hC h1 h2 h3 h4,q⟩⟩
theorem Bw {X:Cx} {scope:Scope} {N' fn:List Str} {C:Addr} {fp:List Addr} {s:Shared} {H:Hp}:(Dw X scope N' fn C fp s H).K = X.K:=rfl
theorem Gp {X:Cx} {pos:Pos} {K':Frag} (hK:X.K = K') {es:List Expr} {k:Nat} {t:TGs} {n:Nat} (hc:X.calm = true) (h:PGs X es t)
  (hn:(assignEach es X.env).length = n:=by rfl) (hst:(assignEach es X.env).findIdx? (·.1) = none:=by rfl):PG X (.Tuple es k pos) (Xk K' n t):=by
 subst hK
 exact Qp hc h hn hst
theorem Jk:∀ {l:List (Str × NameKind)} {y:Str} {k:NameKind},l.lookup y = some k->(y,k) ∈ l
 | [],_,_,h=>by cases h
 | (x,j) :: r,y,k,h=>by
  rw [lookup_cons] at h
  cases e:y == x with
  | true =>
   rw [e] at h
   cases h
   rw [eq_of_beq e]; exact mem_cons_self
  | false =>
   rw [e] at h
   exact mem_cons_of_mem _ (Jk h)
theorem Vr {X:Cx} {elt tg iter:Expr} {ifs:List Expr} {scope:Scope} {pos:Pos} {wi:TI} {g:TG} {tc:TT} {te:TE} (k:Nat) (N':List Str) (hN:N'.length = k) (hc:X.calm = true)
  (hi:PI X tg iter wi)
  (hg:∀ C fp s H,PG (Dw X scope N' [] C fp s H) tg g) (ht:∀ C fp s H,Rp (Dw X scope N' [] C fp s H) ifs tc) (he:∀ C fp s H,PE (Dw X scope N' [] C fp s H) elt te)
  (hfree:∀ y ∈ scope.names,y.2 ≠ .free) (hcell:∀ y ∈ scope.names,y.2 ≠ .cell) (hkind:scope.kind = .function) (hnames:∀ y ∈ scope.names,y.2 = .local->scope.names.lookup y.1 = some .local)
  (hs:∀ x,foldedSetIterable iter X.env x = pure x:=by intro _; rfl):PE X (.ListComp elt [⟨tg,iter,ifs,0⟩] scope pos) (Jg wi g tc te k []):=by
 refine Abf (fn:=[]) (fr:=[]) (k:=k) hc hi hN (fun j y _ i e=>by simp at e) (fun y hy=>by cases hy) (fun y h=>?_) hg ht he (PySem.closureFor_none hfree) hcell hkind hnames hs
 have e:∀ k,(compEnvC scope (Fa [] X.env) 0 X.env).kindOf y = some k->∃ p ∈ scope.names,p.2 = .free\/p.2 = k:=by
  intro k h
  have m:=Jk (show (relabel scope X.env).names.lookup y = some k from h)
  obtain ⟨p,hp,ep⟩:=mem_map.mp (show (y,k) ∈ scope.names.map _ from m)
  obtain ⟨n,kd⟩:=p
  refine ⟨(n,kd),hp,?_⟩
  dsimp only at ep
  split at ep
  ·rename_i c
   simp only [and_eq_true,beq_iff_eq] at c
   exact .inl c.1.1
  ·exact .inr (Prod.mk.inj ep).2
 rcases h with h | h
 ·obtain ⟨p,hp,z⟩:=e _ h
  rcases z with z | z
  ·exact (hfree p hp z).elim
  ·exact (hcell p hp z).elim
 ·obtain ⟨p,hp,z⟩:=e _ h
  rcases z with z | z
  ·exact (hfree p hp z).elim
  ·exact (hfree p hp z).elim
theorem Se {X:Cx} {elt tg iter:Expr} {ifs:List Expr} {scope:Scope} {pos px spos:Pos} {i:Nat} {x:Str} {wi:TI} {g:TG} {tc:TT} {te:TE} (k:Nat) (N':List Str) (hN:N'.length = k) (hc:X.calm = true)
  (hi:PI X tg iter wi)
  (hg:∀ C fp s H,PG (Dw X scope N' [] C fp s H) tg g) (ht:∀ C fp s H,Rp (Dw X scope N' [] C fp s H) ifs tc) (he:∀ C fp s H,PE (Dw X scope N' [] C fp s H) elt te)
  (hfree:∀ y ∈ scope.names,y.2 ≠ .free) (hcell:∀ y ∈ scope.names,y.2 ≠ .cell) (hkind:scope.kind = .function) (hnames:∀ y ∈ scope.names,y.2 = .local->scope.names.lookup y.1 = some .local)
  (hs:∀ x,foldedSetIterable iter X.env x = pure x:=by intro _; rfl) (hNd:X.N.Nodup) (hix:X.N[i]? = some x) (hx:Loc X.env.scope x) (hsw:swapsWith (.ListComp elt [⟨tg,iter,ifs,0⟩] scope pos) (some (.Name x px)) spos.line X.env = pure true)
  (hf:X.fn x = true\/X.env.scope.names.lookup x = some .local:=by first | exact .inl rfl | exact .inr rfl | assumption):PS X (.Assign [.Name x px] (.ListComp elt [⟨tg,iter,ifs,0⟩] scope pos) spos) (Nc (Jg wi g tc te k []) (Gf i)):=by
 refine Abk (fn:=[]) (fr:=[]) (k:=k) hc hi hN (fun j y _ i e=>by simp at e) (fun y hy=>by cases hy) (fun y h=>?_) hg ht he (PySem.closureFor_none hfree) hcell hkind hnames hs hNd hix hx hsw hf
 have e:∀ k,(compEnvC scope (Fa [] X.env) 0 X.env).kindOf y = some k->∃ p ∈ scope.names,p.2 = .free\/p.2 = k:=by
  intro k h
  have m:=Jk (show (relabel scope X.env).names.lookup y = some k from h)
  obtain ⟨p,hp,ep⟩:=mem_map.mp (show (y,k) ∈ scope.names.map _ from m)
  obtain ⟨n,kd⟩:=p
  refine ⟨(n,kd),hp,?_⟩
  dsimp only at ep
  split at ep
  ·rename_i c
   simp only [and_eq_true,beq_iff_eq] at c
   exact .inl c.1.1
  ·exact .inr (Prod.mk.inj ep).2
 rcases h with h | h
 ·obtain ⟨p,hp,z⟩:=e _ h
  rcases z with z | z
  ·exact (hfree p hp z).elim
  ·exact (hcell p hp z).elim
 ·obtain ⟨p,hp,z⟩:=e _ h
  rcases z with z | z
  ·exact (hfree p hp z).elim
  ·exact (hfree p hp z).elim
theorem Jp {X:Cx} {elt tg iter:Expr} {ifs:List Expr} {scope:Scope} {pos:Pos} {wi:TI} {g:TG} {tc:TT} {te:TE} (k:Nat) (fr:List Nat) (N' fn:List Str) (hc:X.calm = true)
  (hi:PI X tg iter wi) (hN:N'.length = k + fr.length)
  (hfr:∀ j y,N'[k + j]? = some y->∀ i,fr[j]? = some i->X.N[i]? = some y/\X.env.kindOf y = some .cell/\(compEnvC scope (Fa fn X.env) 0 X.env).kindOf y = some .cell/\y ∈ fn)
  (hfn:∀ y ∈ fn,X.env.kindOf y = some .cell) (hkd:∀ p ∈ scope.names,(p.2 = .cell\/p.2 = .free)->p.1 ∈ fn)
  (hg:∀ C fp s H,PG (Dw X scope N' fn C fp s H) tg g) (ht:∀ C fp s H,Rp (Dw X scope N' fn C fp s H) ifs tc) (he:∀ C fp s H,PE (Dw X scope N' fn C fp s H) elt te)
  (hclos:closureFor scope X.env = pure (Fa fn X.env)) (hcell:∀ y ∈ scope.names,y.2 ≠ .cell) (hkind:scope.kind = .function) (hnames:∀ y ∈ scope.names,y.2 = .local->scope.names.lookup y.1 = some .local)
  (hs:∀ x,foldedSetIterable iter X.env x = pure x:=by intro _; rfl):PE X (.ListComp elt [⟨tg,iter,ifs,0⟩] scope pos) (Jg wi g tc te k fr):=by
 refine Abf hc hi hN hfr hfn (fun y h=>?_) hg ht he hclos hcell hkind hnames hs
 have e:∀ k,(compEnvC scope (Fa fn X.env) 0 X.env).kindOf y = some k->∃ p ∈ scope.names,p.1 = y/\(p.2 = .free\/p.2 = k):=by
  intro k h
  have m:=Jk (show (relabel scope X.env).names.lookup y = some k from h)
  obtain ⟨p,hp,ep⟩:=mem_map.mp (show (y,k) ∈ scope.names.map _ from m)
  obtain ⟨n,kd⟩:=p
  refine ⟨(n,kd),hp,?_⟩
  dsimp only at ep
  split at ep
  ·rename_i c
   simp only [and_eq_true,beq_iff_eq] at c
   exact ⟨(Prod.mk.inj ep).1,.inl c.1.1⟩
  ·exact ⟨(Prod.mk.inj ep).1,.inr (Prod.mk.inj ep).2⟩
 rcases h with h | h
 ·obtain ⟨p,hp,z1,z⟩:=e _ h
  rw [<- z1]; exact hkd p hp (z.elim .inr .inl)
 ·obtain ⟨p,hp,z1,z⟩:=e _ h
  rw [<- z1]; exact hkd p hp (.inr (z.elim id id))
theorem Wc {X:Cx} {elt tg iter:Expr} {ifs:List Expr} {scope:Scope} {pos px spos:Pos} {i:Nat} {x:Str} {wi:TI} {g:TG} {tc:TT} {te:TE} (k:Nat) (fr:List Nat) (N' fn:List Str) (hc:X.calm = true)
  (hi:PI X tg iter wi) (hN:N'.length = k + fr.length)
  (hfr:∀ j y,N'[k + j]? = some y->∀ i,fr[j]? = some i->X.N[i]? = some y/\X.env.kindOf y = some .cell/\(compEnvC scope (Fa fn X.env) 0 X.env).kindOf y = some .cell/\y ∈ fn)
  (hfn:∀ y ∈ fn,X.env.kindOf y = some .cell) (hkd:∀ p ∈ scope.names,(p.2 = .cell\/p.2 = .free)->p.1 ∈ fn)
  (hg:∀ C fp s H,PG (Dw X scope N' fn C fp s H) tg g) (ht:∀ C fp s H,Rp (Dw X scope N' fn C fp s H) ifs tc) (he:∀ C fp s H,PE (Dw X scope N' fn C fp s H) elt te)
  (hclos:closureFor scope X.env = pure (Fa fn X.env)) (hcell:∀ y ∈ scope.names,y.2 ≠ .cell) (hkind:scope.kind = .function) (hnames:∀ y ∈ scope.names,y.2 = .local->scope.names.lookup y.1 = some .local)
  (hs:∀ x,foldedSetIterable iter X.env x = pure x:=by intro _; rfl) (hNd:X.N.Nodup) (hix:X.N[i]? = some x) (hx:Loc X.env.scope x) (hsw:swapsWith (.ListComp elt [⟨tg,iter,ifs,0⟩] scope pos) (some (.Name x px)) spos.line X.env = pure true)
  (hf:X.fn x = true\/X.env.scope.names.lookup x = some .local:=by first | exact .inl rfl | exact .inr rfl | assumption):PS X (.Assign [.Name x px] (.ListComp elt [⟨tg,iter,ifs,0⟩] scope pos) spos) (Nc (Jg wi g tc te k fr) (Gf i)):=by
 refine Abk hc hi hN hfr hfn (fun y h=>?_) hg ht he hclos hcell hkind hnames hs hNd hix hx hsw hf
 have e:∀ k,(compEnvC scope (Fa fn X.env) 0 X.env).kindOf y = some k->∃ p ∈ scope.names,p.1 = y/\(p.2 = .free\/p.2 = k):=by
  intro k h
  have m:=Jk (show (relabel scope X.env).names.lookup y = some k from h)
  obtain ⟨p,hp,ep⟩:=mem_map.mp (show (y,k) ∈ scope.names.map _ from m)
  obtain ⟨n,kd⟩:=p
  refine ⟨(n,kd),hp,?_⟩
  dsimp only at ep
  split at ep
  ·rename_i c
   simp only [and_eq_true,beq_iff_eq] at c
   exact ⟨(Prod.mk.inj ep).1,.inl c.1.1⟩
  ·exact ⟨(Prod.mk.inj ep).1,.inr (Prod.mk.inj ep).2⟩
 rcases h with h | h
 ·obtain ⟨p,hp,z1,z⟩:=e _ h
  rw [<- z1]; exact hkd p hp (z.elim .inr .inl)
 ·obtain ⟨p,hp,z1,z⟩:=e _ h
  rw [<- z1]; exact hkd p hp (.inr (z.elim id id))
theorem AeH {K:Frag} {σ:St} {H:Hp} {Q:VK} {D a:Addr} {xs:List V} {g:TG} {tc:TT} {te:TE} {k:Nat} {fr:List Nat} (Pv:Nat->Hp->Prop)
  (h0:Pv 0 H) (hl:∀ i H',i <= xs.length->Pv i H'->SqL K H' a xs)
  (hs:∀ i x H' (N:Hp->Prop),xs[i]? = some x->Pv i H'->(∀ H'',Pv (i + 1) H''->N H'')->g x (compσ k fr σ) H' fun σ2 H2=>σ2.drop k = (compσ k fr σ).drop k/\tc σ2 H2 fun b H3 =>
   if b = true then te σ2 H3 (fun y H4=>∃ ys,H4 D = some (.lst ys)/\ys.length < sizeLine/\N (upd H4 D (.lst (ys ++ [y])))) else N H3)
  (hd:∀ H',Pv xs.length H'->Q (.ref D) H') :
  ∃ W:Nat->Nat->Hp->Prop,(∃ m,W 0 m H)/\∀ i m H,W i m H->((Itl K a).stop i H/\Q (.ref D) H)\/((Itl K a).go i H/\∀ x H',(Itl K a).yld i H x H'->g x (compσ k fr σ) H' fun σ2 H2 =>
  σ2.drop k = (compσ k fr σ).drop k/\tc σ2 H2 fun b H3=>if b = true then te σ2 H3 (fun y H4=>∃ ys,H4 D = some (.lst ys)/\ys.length < sizeLine/\∃ m',m' < m/\W (i + 1) m' (upd H4 D (.lst (ys ++ [y])))) else ∃ m',m' < m/\W (i + 1) m' H3):=by
 refine ⟨fun i m H=>m = xs.length - i/\i <= xs.length/\Pv i H,⟨xs.length,by simp,zero_le _,h0⟩,?_⟩
 rintro i m H' ⟨rfl,hi,p⟩
 have q:=hl i H' hi p
 by_cases hlt:i < xs.length
 ·refine .inr ⟨⟨xs,xs[i],q,by simp [hlt]⟩,fun x H'' y=>?_⟩
  obtain ⟨e,y⟩:=y
  subst e
  exact hs i x _ (fun H''=>∃ m',m' < xs.length - i/\m' = xs.length - (i + 1)/\i + 1 <= xs.length/\Pv (i + 1) H'') (y xs q) p fun H'' p'=>⟨_,by omega,rfl,hlt,p'⟩
 ·have e:i = xs.length:=by omega
  subst e
  exact .inl ⟨⟨xs,q,Nat.le_refl _⟩,hd H' p⟩
theorem Acg {σ:St} {H:Hp} {Q:VK} {D:Addr} {lo:Int} {n:Nat} {g:TG} {tc:TT} {te:TE} {k:Nat} {fr:List Nat} (Pv:Nat->Hp->Prop) (h0:Pv 0 H)
  (hs:∀ i H' (N:Hp->Prop),i < n->Pv i H'->(∀ H'',Pv (i + 1) H''->N H'')->g (.int (lo + i)) (compσ k fr σ) H' fun σ2 H2=>σ2.drop k = (compσ k fr σ).drop k/\tc σ2 H2 fun b H3 =>
   if b = true then te σ2 H3 (fun y H4=>∃ ys,H4 D = some (.lst ys)/\ys.length < sizeLine/\N (upd H4 D (.lst (ys ++ [y])))) else N H3)
  (hd:∀ H',Pv n H'->Q (.ref D) H') :
  ∃ W:Nat->Nat->Hp->Prop,(∃ m,W 0 m H)/\∀ i m H,W i m H->((Itr lo n).stop i H/\Q (.ref D) H)\/((Itr lo n).go i H/\∀ x H',(Itr lo n).yld i H x H'->g x (compσ k fr σ) H' fun σ2 H2 =>
  σ2.drop k = (compσ k fr σ).drop k/\tc σ2 H2 fun b H3=>if b = true then te σ2 H3 (fun y H4=>∃ ys,H4 D = some (.lst ys)/\ys.length < sizeLine/\∃ m',m' < m/\W (i + 1) m' (upd H4 D (.lst (ys ++ [y])))) else ∃ m',m' < m/\W (i + 1) m' H3):=by
 refine ⟨fun i m H=>m = n - i/\i <= n/\Pv i H,⟨n,by simp,zero_le _,h0⟩,?_⟩
 rintro i m H' ⟨rfl,hi,p⟩
 by_cases hlt:i < n
 ·refine .inr ⟨hlt,fun x H'' y=>?_⟩
  obtain ⟨e,y⟩:=y
  subst e
  subst y
  exact hs i _ (fun H''=>∃ m',m' < n - i/\m' = n - (i + 1)/\i + 1 <= n/\Pv (i + 1) H'') hlt p fun H'' p'=>⟨_,by omega,rfl,hlt,p'⟩
 ·have e:i = n:=by omega
  subst e
  exact .inl ⟨Nat.le_refl _,hd H' p⟩
section
variable {X:Cx} {K':Frag}
theorem Cz (K':Frag) (h:X.K = K':=by rfl):IxR X (Xo K'):=by subst h; exact Aan
theorem Cu (K':Frag) (h:X.K = K':=by rfl):IxR X (Aat K'):=by subst h; exact Ya
theorem Nx (K':Frag) (h:X.K = K':=by rfl):OpR X (compareOp .In) (rIn K' false):=by subst h; exact Up
theorem Zk (K':Frag) (h:X.K = K':=by rfl):OpR X (compareOp .NotIn) (rIn K' true):=by subst h; exact AaB
theorem AhT (K':Frag) (hu:X.A.units + 64 < cLine) (h:X.K = K':=by rfl):OpR X (compareOp .Eq) (AaZ K' false):=by subst h; exact Ado hu
theorem AbH (K':Frag) (hu:X.A.units + 64 < cLine) (h:X.K = K':=by rfl):OpR X (compareOp .NotEq) (AaZ K' true):=by subst h; exact AkX hu
theorem Jv (K':Frag) (h:X.K = K':=by rfl):Lk X (.builtin "isinstance") (fun vs H Q=>∃ x n t b,vs = [x,.ty n]/\Fw K' H x t/\kitOne K' t (.type n) = some b/\Q (.bl b) H):=by subst h; exact Go
theorem Cp (K':Frag) (h:X.K = K':=by rfl):Lk X (.builtin "len") (fun xs H Q=>∃ p ys,xs = [.ref p]/\(SqL K' H p ys\/SqT K' H p ys)/\Q (.int ys.length) H):=by subst h; exact Qn
end
end L2
set_option Elab.async false
set_option linter.all false
set_option maxRecDepth 100000
set_option maxHeartbeats 4000000
namespace L2
open PySem PySem.Spec PyProof.Rows
theorem Same.laid {H:Hp} {p:Addr} {o:HO} (h:H p = none):Same H (upd H p o):=fun q u e=>by rw [Bl (by intro z; subst z; rw [h] at e; cases e)]; exact e
def Chg (a:Addr) (H H':Hp):Prop:=∀ q o,H q = some o->q ≠ a->H' q = some o
theorem Chg.put {H:Hp} {a:Addr} {o:HO}:Chg a H (upd H a o):=fun q u e n=>by rw [Bl n]; exact e
theorem Same.chg {a:Addr} {H H1 H2:Hp} (x:Same H H1) (y:Chg a H1 H2) (f:H a = none):Same H H2:=fun q o h=>y q o (x q o h) (by intro z; subst z; rw [f] at h; cases h)
section
variable {X:Cx} {es:List Expr} {t:TA} {pos:Pos}
def Zr (t:TA):TE:=fun σ H Q=>t σ H fun xs H1=>xs.length <= sizeLine/\∀ p H2,H1 p = none->Same H1 H2->H2 p = some (.tup xs)->Q (.ref p) H2
def Zv (t:TA):TE:=fun σ H Q=>t σ H fun xs H1=>xs.length <= sizeLine/\∀ p H2,H1 p = none->Same H1 H2->H2 p = some (.lst xs)->Q (.ref p) H2
theorem Dt {x1} (h:PA X es t):PE X (.Tuple es x1 pos) (Zr t):=by
 intro pins s σ H Q I hq
 refine wpAny_Tuple_spliced (thn (h pos pins s σ H _ I hq) fun us s1 ⟨xs,H1,I1,r,z,q⟩=>⟨by rw [<- r.length]; exact z,?_⟩)
 have hf:H1 s1.heap.objs.size = none:=I1.hok.fresh (Nat.le_refl _)
 refine ⟨.ref s1.heap.objs.size,upd H1 s1.heap.objs.size (.tup xs),I1.laid (t':=s1.toks) (fun b u e=>get?_push_of_some _ e) (Nat.le_refl _) ?_,rfl,q _ _ hf (Same.laid hf) Bt⟩
 exact ⟨z,us,r,⟨_,get?_push_size _ rfl,rfl,_,rfl⟩⟩
theorem Cr (h:PA X es t):PE X (.List es pos) (Zv t):=by
 intro pins s σ H Q I hq
 refine wpAny_List_spliced (thn (h pos pins s σ H _ I hq) fun us s1 ⟨xs,H1,I1,r,z,q⟩=>⟨by rw [<- r.length]; exact z,?_⟩)
 have hf:H1 s1.heap.objs.size = none:=I1.hok.fresh (Nat.le_refl _)
 refine ⟨.ref s1.heap.objs.size,upd H1 s1.heap.objs.size (.lst xs),I1.laid (t':=s1.toks) (fun b u e=>get?_push_of_some _ e) (Nat.le_refl _) ?_,rfl,q _ _ hf (Same.laid hf) Bt⟩
 exact ⟨z,us,0,r,get?_push_size _ rfl⟩
def AgC:R2:=fun x y H Q=>∃ l b xs zs,x = .ref l/\y = .ref b/\H l = some (.lst xs)/\H b = some (.lst zs)/\xs.length + zs.length <= sizeLine/\∀ p H',H p = none->Same H H'->H' p = some (.lst (xs ++ zs))->Q (.ref p) H'
theorem Jx:OpR X (binaryOp .Add) AgC:=fun pins s σ H x y v u Q I r1 r2 ⟨l,b,xs,zs,e1,e2,h1,h2,hz,q⟩=>Ak1 pins s σ H x y v u Q I r1 r2 ⟨l,b,xs,zs,e1,e2,h1,h2,hz,fun p hp=>q p _ hp (Same.laid hp) Bt⟩
def Sx:V->List V->Hp->VK->Prop:=fun x vs H Q=>∃ l xs y,x = .ref l/\vs = [y]/\H l = some (.lst xs)/\xs.length < sizeLine/\∀ H',Chg l H H'->H' l = some (.lst (xs ++ [y]))->Q .non H'
theorem Dn:MtR X "list.append" Sx:=fun pins s σ H x vs v us Q I rx rv ⟨l,xs,y,e1,e2,h1,hz,q⟩=>Zd pins s σ H x vs v us Q I rx rv ⟨l,xs,y,e1,e2,h1,hz,q _ Chg.put Bt⟩
variable {K':Frag}
def AgT (K:Frag):V->Option Int->Option Int->Hp->VK->Prop:=fun x lo hi H Q=>∃ a xs,x = .ref a/\SqL K H a xs/\∀ p H',H p = none->Same H H'->H' p = some (.lst (Vo xs lo hi))->Q (.ref p) H'
theorem Gx (K':Frag) (h:X.K = K':=by rfl):SlR X (AgT K'):=by
 subst h
 exact fun pins s σ H x v vl vu lo hi sl Q I rx hs pl pu ⟨a,xs,e,hx,q⟩=>Ain pins s σ H x v vl vu lo hi sl Q I rx hs pl pu ⟨a,xs,e,hx,fun p hp=>q p _ hp (Same.laid hp) Bt⟩
theorem Tw (K':Frag) (h:X.K = K':=by rfl):Lk X (.type "list") (fun xs H Q=>∃ p ys,xs = [.ref p]/\(SqL K' H p ys\/SqT K' H p ys)/\∀ l H',H l = none->Same H H'->H' l = some (.lst ys)->Q (.ref l) H'):=by
 subst h
 exact fun pins s σ H xs us Q I r ⟨p,ys,e,hx,q⟩=>Aam pins s σ H xs us Q I r ⟨p,ys,e,hx,fun l hl=>q l _ hl (Same.laid hl) Bt⟩
end
section
variable {σ:St} {H:Hp} {Q:VK} {K:Frag}
theorem Ajl {t:TA} (q:t σ H fun xs H1=>xs.length <= sizeLine/\∀ p H2,H1 p = none->Same H1 H2->H2 p = some (.lst xs)->Q (.ref p) H2):Zv t σ H Q:=q
theorem Alc {t:TA} (q:t σ H fun xs H1=>xs.length <= sizeLine/\∀ p H2,H1 p = none->Same H1 H2->H2 p = some (.tup xs)->Q (.ref p) H2):Zr t σ H Q:=q
theorem Gd {a:Addr} {xs:List V} {y:V} (h:H a = some (.lst xs)) (hl:xs.length < sizeLine) (q:∀ H',Chg a H H'->H' a = some (.lst (xs ++ [y]))->Q .non H'):Sx (.ref a) [y] H Q:=⟨a,xs,y,rfl,rfl,h,hl,q⟩
end
def CP (J:It) (D:Addr) (g:TG) (tc:TT) (te:TE) (k:Nat) (fr:List Nat) (σ:St) (H1:Hp) (Q:VK):Prop :=
 ∃ W:Nat->Nat->Hp->Prop,(∃ m,W 0 m H1)/\∀ i m H,W i m H->(J.stop i H/\Q (.ref D) H)\/(J.go i H/\∀ x H',J.yld i H x H'->g x (compσ k fr σ) H' fun σ2 H2 =>
  σ2.drop k = (compσ k fr σ).drop k/\tc σ2 H2 fun b H3=>if b = true then te σ2 H3 (fun y H4=>∃ ys,H4 D = some (.lst ys)/\ys.length < sizeLine/\∃ m',m' < m/\W (i + 1) m' (upd H4 D (.lst (ys ++ [y])))) else ∃ m',m' < m/\W (i + 1) m' H3)
theorem Sa {σ:St} {H:Hp} {Q:VK} {wi:TI} {g:TG} {tc:TT} {te:TE} {k:Nat} {fr:List Nat} (q:wi σ H fun J H1=>∀ D,H1 D = none->CP J D g tc te k fr σ (upd H1 D (.lst [])) Q):Jg wi g tc te k fr σ H Q:=q
theorem CP.list {K:Frag} {σ:St} {H:Hp} {Q:VK} {D a:Addr} {g:TG} {tc:TT} {te:TE} {k:Nat} {fr:List Nat} (xs:List V) (Pv:Nat->Hp->Prop)
  (h0:Pv 0 H) (hl:∀ i H',i <= xs.length->Pv i H'->SqL K H' a xs)
  (hs:∀ i x H' (N:Hp->Prop),xs[i]? = some x->Pv i H'->(∀ H'',Pv (i + 1) H''->N H'')->g x (compσ k fr σ) H' fun σ2 H2=>σ2.drop k = (compσ k fr σ).drop k/\tc σ2 H2 fun b H3 =>
   if b = true then te σ2 H3 (fun y H4=>∃ ys,H4 D = some (.lst ys)/\ys.length < sizeLine/\N (upd H4 D (.lst (ys ++ [y])))) else N H3)
  (hd:∀ H',Pv xs.length H'->Q (.ref D) H'):CP (Itl K a) D g tc te k fr σ H Q:=AeH Pv h0 hl hs hd
theorem CP.range {σ:St} {H:Hp} {Q:VK} {D:Addr} {lo:Int} {n:Nat} {g:TG} {tc:TT} {te:TE} {k:Nat} {fr:List Nat} (Pv:Nat->Hp->Prop) (h0:Pv 0 H)
  (hs:∀ i H' (N:Hp->Prop),i < n->Pv i H'->(∀ H'',Pv (i + 1) H''->N H'')->g (.int (lo + i)) (compσ k fr σ) H' fun σ2 H2=>σ2.drop k = (compσ k fr σ).drop k/\tc σ2 H2 fun b H3 =>
   if b = true then te σ2 H3 (fun y H4=>∃ ys,H4 D = some (.lst ys)/\ys.length < sizeLine/\N (upd H4 D (.lst (ys ++ [y])))) else N H3)
  (hd:∀ H',Pv n H'->Q (.ref D) H'):CP (Itr lo n) D g tc te k fr σ H Q:=Acg Pv h0 hs hd
end L2
set_option Elab.async false
set_option linter.all false
set_option maxRecDepth 100000
set_option maxHeartbeats 4000000
namespace L2
open PySem PySem.Spec PyProof.Rows
theorem Uh:∀ {ns:List Int} {us:List Value},Vals (ns.map V.int) us->IntsAre us ns
 | [],_,.nil=>.nil
 | n :: ns,_,.cons r t=>by
  obtain ⟨k,rfl⟩:=(show ∃ t,_ = Value.int n t from r)
  exact .cons n k (Uh t)
section
variable {X:Cx}
end
section
variable {X:Cx}
end
end L2
set_option Elab.async false
set_option linter.all false
set_option maxRecDepth 100000
set_option maxHeartbeats 4000000
namespace L2
open PySem PySem.Spec PyProof.Rows
section
variable {M:Model} {A:Around} {E:Value->Shared->Prop} {s:Shared} {base:Heap} {env:Env} {outer:List Env} {L e:Addr} {Q:Unit->Shared->Prop}
end
section
variable {P:Program} {w:World} {H:Hp} {h h':Heap} {a:Addr} {o:HO}
end
section
variable {P:Program} {w:World} {K:Frag} {mg:Str->Option Value} {base:Heap} {N:List Str} {qual:Str} {scope:Scope} {f:Addr} {cd:Value} {A:Around} {outer:List Env} {s0:Shared} {H0:Hp} {E:XK}
end
section
variable {P:Program} {w:World} {K:Frag} {mg:Str->Option Value} {base:Heap} {N:List Str} {qual:Str} {scope:Scope} {f:Addr} {cd:Value} {A:Around} {outer:List Env} {s0:Shared} {H0:Hp} {E:XK}
end
section
variable {X:Cx} {pins:List (Addr × Obj)} {σ:St} {H:Hp} {s:Shared}
end
def AnI (x C:Addr):Heap->Prop:=fun h=>∃ o vs,h.get? x = some o/\o.cls = .ref C/\o.dict = none/\o.data = .fields vs
section
variable {X:Cx} {pins:List (Addr × Obj)} {σ:St} {H:Hp} {s:Shared}
end
section
variable {X:Cx} {k:Nat} {f C:Addr} {fd:FuncData} {ps:List Str} {sp:Sp} {dvs:List V} {ds:List Value} {x m:Str} {p pos apos:Pos} {e o:Expr} {es:List Expr} {ta:TE} {t:TA}
end
section
variable {σ:St} {H:Hp} {Q:VK} {D:Ends} {Ex:Addr->Hp->Prop}
end
end L2
set_option Elab.async false
set_option linter.all false
set_option maxRecDepth 100000
set_option maxHeartbeats 4000000
namespace L2
open PySem PySem.Spec PyProof.Rows
section
variable {X:Cx} {pos:Pos} {a b:Expr} {op op' op2:CmpOp} {ops:List CmpOp} {es:List Expr} {e2:Expr} {ta tb:TE} {r:R2} {u:V->TE}
end
end L2
set_option Elab.async false
set_option linter.all false
set_option maxRecDepth 100000
set_option maxHeartbeats 4000000
namespace L2
open PySem PySem.Spec PyProof.Rows
section
variable {a:Array Keyed}
end
section
variable {prog:Program} {w:World} {A:Around} {E:Value->Shared->Prop} {s:Shared} {z:Array Keyed}
end
end L2
namespace L2
open PySem PySem.Spec PyProof.Rows
section
variable {X:Cx} {pins:List (Addr × Obj)} {σ:St} {H:Hp} {s:Shared}
end
section
variable {X:Cx} {CX:CXT} {pins:List (Addr × Obj)} {σ:St} {H:Hp} {s:Shared} {k:Nat} {f:Addr} {fd:FuncData} {ps:List Str} {sp:Sp}
end
end L2
namespace L2
open PySem PySem.Spec PyProof.Rows
section
variable {X:Cx} {CX:CXT} {pins:List (Addr × Obj)} {σ:St} {H:Hp} {s:Shared} {k:Nat} {f C a dx:Addr} {fd:FuncData} {ps:List Str} {sp:Sp} {fs:List (Str × V)} {m x:Str} {A:Around} {E:Value->Shared->Prop} {o e ke:Expr} {to te:TE} {t tk:TA} {pos p kpos:Pos}
end
end L2
namespace L2
open PySem PySem.Spec PyProof.Rows
end L2
namespace L2
open PySem PySem.Spec PyProof.Rows
def Itn (K:Frag) (a:Addr):It :=
 ⟨fun i H=>∃ xs x,SqL K H a xs/\xs[i]? = some x,fun i H x H'=>∃ t y,H t = none/\(∀ xs,SqL K H a xs->xs[i]? = some y)/\x = .ref t/\H' = upd H t (.tup [.int (i:Int),y]),fun i H=>∃ xs,SqL K H a xs/\xs.length <= i⟩
theorem Aek {P:Program} {w:World} {K:Frag} {elts:List Expr} {x1:Nat} {tp:Pos} (a e it:Addr) (hne:e ≠ it) :
  Vu P w K (.Tuple elts x1 tp) (Itn K a) [e,it] e (fun i h=>(∃ old,IsEnum h e it i old)/\h.IsListIter it a i) where
 mem:=by simp
 obj:=fun i h st b hb=>by
  obtain ⟨⟨old,e1⟩,ob,e2,c2,d2⟩:=st
  rcases mem_cons.mp hb with z | z
  ·subst z; exact ⟨_,e1,fun v z=>nomatch z⟩
  ·have z':=mem_singleton.mp z
   subst z'
   exact ⟨ob,e2,fun v z=>by rw [d2] at z; cases z⟩
 keep:=fun i h h' st k=>by
  obtain ⟨⟨old,e1⟩,li⟩:=st
  exact ⟨⟨old,k e (by simp) _ e1⟩,li.at fun o q=>k it (by simp) o q⟩
 item:=by
  intro X hP hw hK hc i pins s σ H E I hf st hg
  subst hP hw hK
  obtain ⟨xs,x,hq,hx⟩:=hg
  obtain ⟨⟨old,he⟩,li⟩:=st
  obtain ⟨its,rv,p,hz⟩:=I.list hq
  obtain ⟨u,hu,ru⟩:=rv.get hx
  obtain ⟨f0,f1,f2,f3,f4,f5⟩:=hf e (by simp)
  obtain ⟨g0,g1,g2,g3,g4,g5⟩:=hf it (by simp)
  have hfr:H s.heap.objs.size = none:=I.hok.fresh (Nat.le_refl _)
  have hne1:s.heap.objs.size ≠ e:=Nat.ne_of_gt (lt_size he)
  have hne2:s.heap.objs.size ≠ it:=by obtain ⟨_,q,_⟩:=li; exact Nat.ne_of_gt (lt_size q)
  refine wpAny_pyNext_enum_item he li p.isList (x:=u) (by simpa using hu) hne fun h' ho li' hT hsz hk=>⟨_,rfl,?_⟩
  refine wpAny_letOwnedTupleGo_enum (s:={ s with heap:=h',toks:=s.toks + 1 }) ho fun h2 he2 hs=>?_
  have kp:∀ b o,b ≠ e->b ≠ it->s.heap.get? b = some o->h2.get? b = some o:=fun b o n1 n2 q=>(hs.2 b n1).trans (hk b o n1 n2 q)
  have hT2:h2.get? s.heap.objs.size = some { cls:=.type "tuple",data:=.seq #[.int i s.toks,u] }:=(hs.2 _ hne1).trans hT
  have nt:∀ b v,H b = some v->b ≠ s.heap.objs.size:=fun b v q=>Cb q hfr
  have nc:∀ b,b ∉ [e,it]->b ≠ e/\b ≠ it:=fun b z=>⟨fun w=>z (by simp [w]),fun w=>z (by simp [w])⟩
  refine ⟨.ref s.heap.objs.size,upd H s.heap.objs.size (.tup [.int (i:Int),x]),?_,rfl,⟨_,x,hfr,(fun ys hy=>by rw [I.list_inj hy hq]; exact hx),rfl,rfl⟩,⟨⟨u,by simpa using he2⟩,li'.at fun o q=>(hs.2 it hne.symm).trans q⟩,fun b hb=>?_⟩
  ·refine Inv.step (s:=s) (h':=h2) I (g':=s.gens) (d':=s.drawn) (t':=s.toks + 1) (ch:=[e,it]) (fun b hb=>?_) (fun b o _ _ hc q _=>kp b o (nc b hc).1 (nc b hc).2 q) (fun b o _ _ hc q _=>⟨o.slots,kp b o (nc b hc).1 (nc b hc).2 q⟩)
    (fun b o hc q n=>by rw [Bl (ne_of_lt (lt_size q))]; exact n) (fun b o hc q=>⟨o,kp b o (nc b hc).1 (nc b hc).2 q⟩) (fun b xs q=>by rw [Bl (nt b _ q)]; exact q) (fun b o v q=>by rw [Bl (nt b _ q)]; exact q)
    (fun b ps q=>⟨#[],by rw [Bl (nt b _ q),q]; simp⟩) (fun m hm=>?_) (fun b v q=>?_) I.bare
   ·rcases mem_cons.mp hb with z | z
    ·subst z; exact ⟨f3,f1,f4,f5⟩
    ·have z':=mem_singleton.mp z
     subst z'; exact ⟨g3,g1,g4,g5⟩
   ·obtain ⟨o,es,ep,ho,r⟩:=hm
    exact ⟨o,es,ep,kp _ o (Ne.symm f1) (Ne.symm g1) ho,r⟩
   ·by_cases hb:b = s.heap.objs.size
    ·subst hb
     rw [Bt] at q
     cases q
     exact ⟨by show 2 <= sizeLine; decide,[.int i s.toks,u],.cons (show RelV (.int (i:Int)) (.int i s.toks) from ⟨_,rfl⟩) (.cons ru .nil),_,hT2,rfl,_,rfl⟩
    ·rw [Bl hb] at q
     have n1:∀ c w,H c = some w->c ≠ e:=fun c w q z=>by rw [z,f0] at q; cases q
     have n2:∀ c w,H c = some w->c ≠ it:=fun c w q z=>by rw [z,g0] at q; cases q
     refine (I.hok b v q).stay (fun c v' hc q'=>?_) (fun c q'=>by rw [Bl (nt c _ q')]; exact q') fun c xs q'=>by rw [Bl (nt c _ q')]; exact q'
     rcases hc with z | z
     ·rw [z] at q' ⊢; exact kp b v' (n1 b _ q) (n2 b _ q) q'
     ·exact kp c v' (n1 c _ z) (n2 c _ z) q'
  ·rcases mem_cons.mp hb with z | z
   ·rw [z,Bl (Ne.symm hne1)]; exact f0
   ·rw [mem_singleton.mp z,Bl (Ne.symm hne2)]; exact g0
 done:=by
  intro X hP hw hK hc i pins s σ H E I hf st hg
  subst hP hw hK
  obtain ⟨xs,hq,hx⟩:=hg
  obtain ⟨⟨old,he⟩,li⟩:=st
  obtain ⟨its,rv,p,hz⟩:=I.list hq
  obtain ⟨g0,g1,g2,g3,g4,g5⟩:=hf it (by simp)
  have hl:=rv.length
  exact wpAny_pyNext_enum_end (I.ok.hd hc) he li p.isList (by simp; omega) fun h' eb=>⟨rfl,I.turned (t':=s.toks) (fun b o hb q=>eb b o hb q) g0 g1 g3 g4 g5⟩
 self:=fun A i s Q E st h=>by
  obtain ⟨⟨old,he⟩,_⟩:=st
  exact wpAny_pyIter_enum he h
section
variable {X:Cx} {elts:List Expr} {x1:Nat} {tp p pos:Pos}
def Zo (K:Frag) (tl:TE):TI:=fun σ H R=>tl σ H fun x H1=>∃ a,x = .ref a/\(∃ xs,SqL K H1 a xs)/\R (Itn K a) H1
theorem Rq {l:Expr} {tl:TE} (hl:PE X l tl) (hg:Gl X "enumerate") (hm:X.mg "enumerate" = none) (hs:starEach [l] X.env = [(false,eval l X.env)]:=by rfl):PI X (.Tuple elts x1 tp) (.Call (.Name "enumerate" p) [l] [] pos) (Zo X.K tl):=by
 intro pins s σ H R I h
 have pa:PA X [l] (Fl tl La):=Ba hl Bd hs
 refine Call_ (Gj I hg hm PyProof.Rows.boot_enumerate (PyProof.Rows.callWith_type1 (thn (pa pos pins s σ H (fun vs H1=>match vs with
  | [x]=>∃ a,x = .ref a/\(∃ xs,SqL X.K H1 a xs)/\R (Itn X.K a) H1
  | _=>False) I h) fun us s1 ⟨vs,H1,I1,r1,q1⟩=>?_) hs rfl))
 match vs,q1 with
 | [x],⟨a,e,⟨xs,hq⟩,q⟩ =>
  subst e
  obtain ⟨u,rfl,ru⟩:=Og r1
  cases ru
  obtain ⟨its,rv,pl,hz⟩:=I1.list hq
  refine call_enumerate_list pl.isList fun h' he li hsz hk=>?_
  have I2:Inv X pins σ H1 { s1 with heap:=h' }:=I1.kept (t':=s1.toks) hk
  refine wpAny_pyIter_enum (s:={ s1 with heap:=h' }) he ⟨s1.heap.objs.size + 1,[s1.heap.objs.size + 1,s1.heap.objs.size],_,_,H1,rfl,I2,Aek a _ _ (Nat.succ_ne_self _),⟨⟨_,he⟩,li⟩,fun b hb=>?_,q⟩
  have hge:s1.heap.objs.size <= b:=by
   rcases mem_cons.mp hb with z | z
   ·rw [z]; exact le_succ _
   ·rw [mem_singleton.mp z]; exact Nat.le_refl _
  exact I1.fpOk hge (I1.hok.fresh hge)
theorem Aap {K:Frag} {a:Addr} {xs:List V} {g:TG} {tb:TS} {D:Ends} {σ:St} {H:Hp} (Pv:Nat->St->Hp->Prop) (h0:Pv 0 σ H) (hl:∀ i σ H,i <= xs.length->Pv i σ H->SqL K H a xs)
  (hs:∀ i x t σ H,xs[i]? = some x->H t = none->Pv i σ H->g (.ref t) σ (upd H t (.tup [.int (i:Int),x])) fun σ2 H2=>tb { D with nx:=Pv (i + 1),ct:=Pv (i + 1),bk:=D.nx } σ2 H2) (hd:∀ σ H,Pv xs.length σ H->D.nx σ H) :
  ∃ W:Nat->Nat->St->Hp->Prop,(∃ m,W 0 m σ H)/\∀ i m σ H,W i m σ H ->
   ((Itn K a).stop i H/\D.nx σ H)\/((Itn K a).go i H/\∃ N:St->Hp->Prop,(∀ σ' H',N σ' H'->∃ m',m' < m/\W (i + 1) m' σ' H')/\∀ x H',(Itn K a).yld i H x H'->g x σ H' fun σ2 H2=>tb { D with nx:=N,ct:=N,bk:=D.nx } σ2 H2):=by
 refine ⟨fun i m σ H=>m = xs.length - i/\i <= xs.length/\Pv i σ H,⟨xs.length,by simp,zero_le _,h0⟩,?_⟩
 rintro i m σ H ⟨rfl,hi,p⟩
 have q:=hl i σ H hi p
 by_cases hlt:i < xs.length
 ·refine .inr ⟨⟨xs,xs[i],q,by simp [hlt]⟩,Pv (i + 1),fun σ' H' p'=>⟨xs.length - (i + 1),by omega,rfl,hlt,p'⟩,fun x H' y=>?_⟩
  obtain ⟨t,y,ht,hy,rfl,rfl⟩:=y
  have e:=hy xs q
  exact hs i y t σ _ e ht p
 ·have e:i = xs.length:=by omega
  subst e
  exact .inl ⟨⟨xs,q,Nat.le_refl _⟩,hd σ H p⟩
theorem CP.enum {K:Frag} {σ:St} {H:Hp} {Q:VK} {D a:Addr} {g:TG} {tc:TT} {te:TE} {k:Nat} {fr:List Nat} (xs:List V) (Pv:Nat->Hp->Prop)
  (h0:Pv 0 H) (hl:∀ i H',i <= xs.length->Pv i H'->SqL K H' a xs)
  (hs:∀ i x t H' (N:Hp->Prop),xs[i]? = some x->H' t = none->Pv i H'->(∀ H'',Pv (i + 1) H''->N H'')->g (.ref t) (compσ k fr σ) (upd H' t (.tup [.int (i:Int),x])) fun σ2 H2=>σ2.drop k = (compσ k fr σ).drop k/\tc σ2 H2 fun b H3 =>
   if b = true then te σ2 H3 (fun y H4=>∃ ys,H4 D = some (.lst ys)/\ys.length < sizeLine/\N (upd H4 D (.lst (ys ++ [y])))) else N H3)
  (hd:∀ H',Pv xs.length H'->Q (.ref D) H'):CP (Itn K a) D g tc te k fr σ H Q:=by
 refine ⟨fun i m H=>m = xs.length - i/\i <= xs.length/\Pv i H,⟨xs.length,by simp,zero_le _,h0⟩,?_⟩
 rintro i m H ⟨rfl,hi,p⟩
 have q:=hl i H hi p
 by_cases hlt:i < xs.length
 ·refine .inr ⟨⟨xs,xs[i],q,by simp [hlt]⟩,fun x H' y=>?_⟩
  obtain ⟨t,y,ht,hy,rfl,rfl⟩:=y
  have e:=hy xs q
  exact hs i y t H (fun H''=>∃ m',m' < xs.length - i/\m' = xs.length - (i + 1)/\i + 1 <= xs.length/\Pv (i + 1) H'') e ht p fun H'' p''=>⟨xs.length - (i + 1),by omega,rfl,hlt,p''⟩
 ·have e:i = xs.length:=by omega
  subst e
  exact .inl ⟨⟨xs,q,Nat.le_refl _⟩,hd H p⟩
end
end L2
namespace L2
open PySem PySem.Spec PyProof.Rows
theorem AjH {prog:Program} {w:World} {A:Around} {R:Result->Shared->Prop} {it:Addr} {fp wr:List Addr} {n:Nat} {P:Nat->Value->Prop} {St:Nat->Heap->Prop} {kw:List (Str × Value)} (W:Walks prog w A.in1 it fp wr n P St) (bt:Nat->Nat->Bool) (cmp:CmpOf prog w A.in1 .Gt P bt) (B:Addr) (nB:B ∉ fp):∀ (k j:Nat) (s:Shared) (x:Value) (c:Nat),n - (j + 1) = k->j + 1 <= n->St (j + 1) s.heap->P (argBest bt j) x ->
  s.heap.get? B = some { cls:=.type "list",dict:=none,data:=.seq #[x,x] c,slots:=#[] }->(∀ v h' tk,P (argBest bt (n - 1)) v->(∀ b o,b ∉ wr->b ≠ B->s.heap.get? b = some o->h'.get? b = some o)->R (.ok (.ret v)) { s with heap:=h',toks:=tk })->codeAny (model prog w) A (.builtin "max.loop" ⟨[.ref it,.none,.ref B],kw⟩) R s:=by
 have wB:B ∉ wr:=fun z=>nB (W.sub _ z)
 have nm:(toString "max" ++ toString ".loop" : String) = "max.loop":=by decide
 intro k; induction k with
 | zero =>
  intro j s x c e1 e2 st px eB fin
  have en:j + 1 = n:=by omega
  refine codeAny_builtin PySem.F.entry_max_loop ?_; rw [Around.under_plainId PySem.F.plain_max_loop _]
  show wpAny _ A.in1 (seqItems? (.ref B) >>= _) _ _ s; refine wpAny_bind (wpAny_seqItems eB rfl ?_)
  show wpAny _ A.in1 (tryCatch (pyNext (.ref it)) _ >>= _) _ _ s; refine wpAny_bind (wpAny_tryCatch (W.done s _ _ (en ▸ st) fun h' tk kp=>?_))
  have eB':=kp B _ wB eB
  cases kw <;> (show wpAny _ A.in1 (updateSeq B (fun _=>#[]) >>= _) _ _ _; exact wpAny_bind (wpAny_updateSeq eB' rfl (wpAny_bind (wpAny_letGo (wpAny_pure (fin x _ tk (by rw [<- en]; exact px) fun b o n1 n2 q=>(Heap.get?_update_other _ _ (Ne.symm n2)).trans (kp b o n1 q)))))))
 | succ k ih =>
  intro j s x c e1 e2 st px eB fin
  refine codeAny_builtin PySem.F.entry_max_loop ?_; rw [Around.under_plainId PySem.F.plain_max_loop _]
  show wpAny _ A.in1 (seqItems? (.ref B) >>= _) _ _ s; refine wpAny_bind (wpAny_seqItems eB rfl ?_)
  show wpAny _ A.in1 (tryCatch (pyNext (.ref it)) _ >>= _) _ _ s; refine wpAny_bind (wpAny_tryCatch (W.item (j + 1) s _ _ (by omega) st fun v h' tk pv st' kp=>?_))
  have eB':=kp B _ wB eB
  show wpAny _ A.in1 (tryCatch (holding [v,v] (richCompare .Gt v x >>= _)) _ >>= _) _ _ _; refine wpAny_bind (wpAny_tryCatch (wpAny_holding (wpAny_bind (cmp (j + 1) (argBest bt j) v x _ _ _ pv px (wpAny_bind (wpAny_holding (wpAny_truthy_bool (wpAny_bind (wpAny_letGo (wpAny_pure ?_))))))))))
  cases g:bt (j + 1) (argBest bt j) with
  | true =>
   simp only [if_true]; refine wpAny_bind (wpAny_updateSeq eB' rfl (wpAny_bind (wpAny_letGo ?_))); rw [nm]
   exact wpAny_pure ⟨plainId_quiet PySem.F.plain_max_loop _,ih (j + 1) _ v _ (by omega) (by omega) (W.frame _ _ _ st' fun b hb o q=>(Heap.get?_update_other _ _ (fun z:B = b=>nB (by rw [z]; exact hb))).trans q) (by simp only [argBest,g,if_true]; exact pv) (Heap.get?_update_self _ eB' rfl) fun v' h'' tk' pv' kp'=>fin v' h'' tk' pv' fun b o n1 n2 q=>kp' b o n1 n2 ((Heap.get?_update_other _ _ (Ne.symm n2)).trans (kp b o n1 q))⟩
  | false =>
   simp only [false_eq_true,if_false]; refine wpAny_bind (wpAny_letGo ?_); rw [nm]
   exact wpAny_pure ⟨plainId_quiet PySem.F.plain_max_loop _,ih (j + 1) _ x c (by omega) (by omega) st' (by simp only [argBest,g,false_eq_true,if_false]; exact px) eB' fun v' h'' tk' pv' kp'=>fin v' h'' tk' pv' fun b o n1 n2 q=>kp' b o n1 n2 (kp b o n1 q)⟩
def AgS (K:Frag) (xs ks:List V) (H:Hp) (Q:VK):Prop:=∃ (p:Addr) (ns:List Int) (d:Int),xs = [.ref p]/\ks = [.int d]/\SqL K H p (ns.map V.int)/\(ns = []->Q (.int d) H)/\∀ m ∈ ns,(∀ x ∈ ns,x <= m)->Q (.int m) H
theorem Ad6 {X:Cx} {pins:List (Addr × Obj)} {σ:St} {H:Hp} {s:Shared} {xs ks:List V} {us ws:List Value} {Q:VK} (hh:X.A.handled = none) (I:Inv X pins σ H s) (rx:Vals xs us) (rk:Vals ks ws) (h:AgS X.K xs ks H Q) :
  wpAny (model X.prog X.w) X.A (call (.builtin "max") us ([Str.ofString "default"].zip ws)) (EP X pins σ Q) X.xe s:=by
 obtain ⟨p,ns,d,rfl,rfl,sq,q0,q1⟩:=h
 obtain ⟨u,rfl,ru⟩:=Og rx
 obtain ⟨w',rfl,rw'⟩:=Og rk
 cases ru
 obtain ⟨t,rfl⟩:=(show ∃ t,w' = Value.int d t from rw')
 obtain ⟨its,r',pl,hz⟩:=I.list sq
 have hv:IntsAre its ns:=Uh r'
 have l2:=hv.length
 have nm:(toString "max" ++ toString ".loop" : String) = "max.loop":=by decide
 refine PyProof.Rows.kmk_tree PySem.F.kind_max PySem.F.plain_max PySem.F.entry_max (by unfold argsOk; kernel_rfl) ?_
 show wpAny _ X.A.in1 (Builtin.Builtins.bindParams "max" ["key","default"] 0 ⟨[],[(Str.ofString "default",.int d t)]⟩ >>= _) _ _ s; refine wpAny_bind (wpAny_of_eq (show Builtin.Builtins.bindParams "max" ["key","default"] 0 ⟨[],[(Str.ofString "default",.int d t)]⟩ = pure [none,some (.int d t)] from rfl) ?_)
 refine wpAny_bind (wpAny_pure (wpAny_bind (wpAny_pyIter_list pl.isList (wpAny_bind (wpAny_newList ?_ (zero_le _)))))); rw [nm]
 have hp:p < s.heap.objs.size:=by obtain ⟨o,ho,_⟩:=pl.isList; exact lt_size ho
 have W:=Walks.list (prog:=X.prog) (w:=X.w) (A:=X.A.in1) hh s.heap.objs.size p (ne_of_lt hp) its.toArray
 generalize e1:s.heap.push { cls:=.type "list_iterator",data:=.fields #[.ref p,.int 0 0] } = h1
 have sz1:h1.objs.size = s.heap.objs.size + 1:=by rw [<- e1,Heap.size_push]
 have old1:∀ b o,s.heap.get? b = some o->h1.get? b = some o:=fun b o q=>by rw [<- e1]; exact get?_push_of_some _ q
 have li:h1.IsListIter s.heap.objs.size p 0:=by rw [<- e1]; exact ⟨_,get?_push_size _ rfl,rfl,rfl⟩
 have st0:(h1.push { cls:=.type "list",data:=.seq ([]:List Value).toArray }).IsListIter s.heap.objs.size p 0/\(h1.push { cls:=.type "list",data:=.seq ([]:List Value).toArray }).IsList p its.toArray:=⟨li.at fun o q=>get?_push_of_some _ q,pl.isList.at fun o q=>get?_push_of_some _ (old1 _ _ q)⟩
 have eB:(h1.push { cls:=.type "list",data:=.seq ([]:List Value).toArray }).get? h1.objs.size = some { cls:=.type "list",dict:=none,data:=.seq #[] 0,slots:=#[] }:=get?_push_size _ rfl
 have nB:h1.objs.size ∉ [s.heap.objs.size,p]:=fun z=>by
  rw [sz1] at z
  rcases mem_cons.mp z with e | e
  ·exact Nat.succ_ne_self _ e
  ·exact absurd (mem_singleton.mp e) (Nat.ne_of_gt (lt_succ_of_lt hp))
 have old:∀ (h':Heap) (tk:Nat),(∀ b o,b ∉ [s.heap.objs.size]->b ≠ h1.objs.size->(h1.push { cls:=.type "list",data:=.seq ([]:List Value).toArray }).get? b = some o->h'.get? b = some o)->Inv X pins σ H { s with heap:=h',toks:=tk }:=fun h' tk kp=>I.kept fun b o q=>kp b o (fun z=>absurd (mem_singleton.mp z) (ne_of_lt (lt_size q))) (by rw [sz1]; exact ne_of_lt (lt_succ_of_lt (lt_size q))) (get?_push_of_some _ (old1 b o q))
 refine wpAny_pure ⟨plainId_quiet PySem.F.plain_max_loop _,?_⟩
 have one:codeAny (model X.prog X.w) X.A (.builtin "max.loop" ⟨[.ref s.heap.objs.size,.none,.ref h1.objs.size],[(Str.ofString "default",.int d t)]⟩) (fun r s'=>match r with | .ok (.ret v)=>EP X pins σ Q v s' | .ok _=>False | .error e=>X.xe e s') { s with heap:=h1.push { cls:=.type "list",data:=.seq ([]:List Value).toArray } }:=by
  refine codeAny_builtin PySem.F.entry_max_loop ?_; rw [Around.under_plainId PySem.F.plain_max_loop _]
  show wpAny _ X.A.in1 (seqItems? (.ref h1.objs.size) >>= _) _ _ _; refine wpAny_bind (wpAny_seqItems eB rfl ?_)
  show wpAny _ X.A.in1 (tryCatch (pyNext (.ref s.heap.objs.size)) _ >>= _) _ _ _
  by_cases em:its = []
  ·refine wpAny_bind (wpAny_tryCatch (W.done _ _ _ (by rw [em] at st0 ⊢; exact st0) fun h' tk kp=>?_))
   refine wpAny_bind (wpAny_rule (wpAny_pure ⟨.int d,H,old h' tk fun b o n1 n2 q=>kp b o n1 q,⟨t,rfl⟩,q0 ?_⟩))
   rw [em] at l2; exact List.eq_nil_of_length_eq_zero l2.symm
  ·have n0:0 < its.length:=List.length_pos_iff.mpr em
   have key:∀ i v,its.toArray[i]? = some v->∃ t',v = Value.int (ns.getD i 0) t':=fun i v e=>by
    have hi:i < its.length:=by have:=(Array.getElem?_eq_some_iff.mp e).1; simpa using this
    have e2:ns[i]? = some (ns.getD i 0):=by rw [getElem?_eq_getElem (by omega)]; simp [show i < ns.length by omega]
    obtain ⟨t',ht⟩:=hv.get i _ e2
    have e3:its[i]? = some v:=by simpa using e
    rw [ht] at e3; cases e3; exact ⟨t',rfl⟩
   have cmp:CmpOf X.prog X.w X.A.in1 .Gt (fun i v=>its.toArray[i]? = some v) (fun i j=>decide (ns.getD i 0 > ns.getD j 0)):=fun i j vi vj s' Q' E' hi hj hq=>by
    obtain ⟨t1,rfl⟩:=key i vi hi
    obtain ⟨t2,rfl⟩:=key j vj hj
    exact (PyProof.Rows.gt_int hq:wpAny (model X.prog X.w) X.A.in1 (compareOp .Gt _ _) _ _ _)
   have best:∀ k,argBest (fun i j=>decide (ns.getD i 0 > ns.getD j 0)) k <= k/\∀ i,i <= k->ns.getD i 0 <= ns.getD (argBest (fun i j=>decide (ns.getD i 0 > ns.getD j 0)) k) 0:=by
    intro k
    induction k with
    | zero=>exact ⟨Nat.le_refl _,fun i hi=>by rw [show i = 0 by omega]; exact Int.le_refl _⟩
    | succ k ih =>
     unfold argBest
     by_cases c:ns.getD (k + 1) 0 > ns.getD (argBest (fun i j=>decide (ns.getD i 0 > ns.getD j 0)) k) 0
     ·rw [if_pos (decide_eq_true c)]
      refine ⟨Nat.le_refl _,fun i hi=>?_⟩
      by_cases z:i = k + 1
      ·rw [z]; exact Int.le_refl _
      ·have:=ih.2 i (by omega); omega
     ·rw [if_neg (fun z=>c (of_decide_eq_true z))]
      refine ⟨by have:=ih.1; omega,fun i hi=>?_⟩
      by_cases z:i = k + 1
      ·rw [z]; omega
      ·exact ih.2 i (by omega)
   refine wpAny_bind (wpAny_tryCatch (W.item 0 _ _ _ (by simpa using n0) st0 fun v h' tk pv st' kp=>?_))
   have eB':=kp h1.objs.size _ (by rw [sz1]; simp) eB
   show wpAny _ X.A.in1 (updateSeq h1.objs.size (fun _=>#[v,v]) >>= _) _ _ _
   refine wpAny_bind (wpAny_updateSeq eB' rfl ?_); rw [nm]
   refine wpAny_pure ⟨plainId_quiet PySem.F.plain_max_loop _,AjH W _ cmp h1.objs.size nB _ 0 _ v _ rfl (by show 0 + 1 <= its.toArray.size; rw [size_toArray]; omega) (W.frame _ _ _ st' fun b hb o q=>(Heap.get?_update_other _ _ (fun z:h1.objs.size = b=>nB (by rw [z]; exact hb))).trans q) pv (Heap.get?_update_self _ eB' rfl) fun v' h'' tk' pv' kp'=>?_⟩
   obtain ⟨t',rfl⟩:=key _ v' pv'
   have bk:=best (its.toArray.size - 1)
   have zs:its.toArray.size = ns.length:=by simp; omega
   refine ⟨.int _,H,old h'' tk' fun b o n1 n2 q=>kp' b o n1 n2 ((Heap.get?_update_other _ _ (Ne.symm n2)).trans (kp b o n1 q)),⟨t',rfl⟩,q1 _ ?_ fun x hx=>?_⟩
   ·have hlt:argBest (fun i j=>decide (ns.getD i 0 > ns.getD j 0)) (its.toArray.size - 1) < ns.length:=by have:=bk.1; omega
    exact (fun j (hj:j < ns.length)=>by rw [List.getD_eq_getElem?_getD,getElem?_eq_getElem hj]; exact getElem_mem hj:∀ j,j < ns.length->ns.getD j 0 ∈ ns) _ hlt
   ·obtain ⟨i,hi,e⟩:=List.mem_iff_getElem.mp hx
    have:=bk.2 i (by omega)
    rw [List.getD_eq_getElem?_getD (i:=i),getElem?_eq_getElem hi] at this
    rw [<- e]
    exact this
 exact one
end L2
namespace L2
open PySem PySem.Spec PyProof.Rows
section
variable {X:Cx} {e de:Expr} {t tk:TA} {pos p kpos:Pos}
def Ag8 (K:Frag) (t tk:TA):TE:=fun σ H Q=>t σ H fun xs H1=>tk σ H1 fun ks H2=>AgS K xs ks H2 Q
theorem AhG (hh:X.A.handled = none) (hg:Gl X "max") (hm:X.mg "max" = none) (ha:PA X [e] t) (hk:PK X [⟨some "default",de,kpos⟩] tk) (he:backTo pos (starEach [e] X.env) = (false,eval e X.env) :: backTo pos (starEach [] X.env):=by rfl) (hp:(backTo pos (starEach [e] X.env)).any (·.1) = false:=by rfl) :
  PE X (.Call (.Name "max" p) [e] [⟨some "default",de,kpos⟩] pos) (Ag8 X.K t tk):=by
 intro pins s σ H Q I h
 refine wpAny_Call_Name_kw (Gj I hg hm boot_max (PyProof.Rows.callWith_kw (thn (ha pos pins s σ H _ I h) fun us s1 ⟨vs,H1,I1,r1,q1⟩=>thn (hk pos pins s1 σ H1 _ I1 q1) fun ws s2 ⟨zs,H2,I2,r2,q2⟩=>Ad6 hh I2 r1 r2 q2) he hp rfl rfl) (by decide) (by decide))
end
end L2
set_option Elab.async false
set_option linter.all false
set_option maxRecDepth 100000
set_option maxHeartbeats 4000000
namespace L2
open PySem PySem.Spec PyProof.Rows
theorem AdT:typeLookup (.type "list_reverseiterator") "__len__" = pure none:=by rw [typeLookup_type,builtinLookup_eq_fast]; kernel_rfl
theorem Afl:typeLookup (.type "list_reverseiterator") "__length_hint__" = pure (some (.builtin "list_reverseiterator.__length_hint__")):=by rw [typeLookup_type,builtinLookup_eq_fast]; kernel_rfl
section
variable {prog:Program} {w:World} {A:Around} {E:Value->Shared->Prop} {s:Shared} {R:Result->Shared->Prop} {I:Addr} {fp wr:List Addr} {G:Array GenState->Array GenState->Prop} {n:Nat} {P:Nat->Value->Prop} {St:Nat->Shared->Prop}
theorem AcQ (W:WalksS prog w A.in1 I fp wr G n P St) (hT:∀ i s,St i s->s.TypeIs (.ref I) "list_reverseiterator") (S:Addr) (res:Value) (c₀:Nat) (hst:St 0 s) (hSf:S ∉ fp) (hI:I ∈ fp)
  (hS:s.heap.get? S = some { cls:=.type "list",data:=.seq #[] c₀ })
  (hR:∀ s' acc' c',Moved (S :: wr) G s s'->s'.heap.get? S = some { cls:=.type "list",dict:=none,data:=.seq acc' c',slots:=#[] }->ItemsOf P acc' n->R (.ok (.ret res)) s') (hn:n <= sizeLine) :
  wpAny (model prog w) A.in1 (Builtin.List.listExtendWith (.ref S) (.ref I) res)
   (fun fin s'=>match fin with | .done f=>R (.ok f) s' | .again c'=>c'.quiet = true/\codeAny (model prog w) A c' R s') (fun e s'=>R (.error e) s') s:=by
 have hSI:S ≠ I:=fun e=>hSf (e ▸ hI)
 unfold Builtin.List.listExtendWith
 refine wpAny_bind (wpAny_typeOf (hT 0 _ hst) ?_)
 have h1:Builtin.List.listSameRef (.ref S) (.ref I) = false:=by simp [Builtin.List.listSameRef,hSI]
 rw [if_neg (by rw [h1]; decide)]
 refine wpAny_bind (W.self 0 _ _ _ hst ?_)
 refine wpAny_bind (wpAny_holding ?_)
 unfold Builtin.List.listLengthHint
 refine wpAny_bind (wpAny_specialOf (hT 0 _ hst) AdT ?_)
 show wpAny _ A.in1 (specialOf (Value.ref I) (Str.ofString "__length_hint__") >>= _) _ _ _
 refine wpAny_bind (wpAny_specialOf (hT 0 _ hst) Afl ?_)
 (generalize hid:("list_reverseiterator.__length_hint__" : String) = id0; (fail_if_success (clear hid id0)); wp_delta; rw [show splitId id0 = some ("list_reverseiterator","__length_hint__") from by subst hid; decide +kernel]; subst hid)
 refine wpAny_bind (wpAny_isInstance (b:=true) (hT 0 _ hst) (by rw [isSubtype_type]; kernel_rfl) ?_)
 refine wpAny_pure ?_
 rw [if_neg (by decide)]
 exact wpAny_pure ⟨plainId_quiet F.plain_extend_loop _,codeAny_extend_loopS W hn _ hSf _ n 0 _ _ _ rfl (zero_le _) hst hS (ItemsOf.nil P) fun s' acc' c' hm hS' hacc=>hR s' acc' c' hm hS' hacc⟩
theorem AfB (W:WalksS prog w A.in1 I fp wr G n P St) (hT:∀ i s,St i s->s.TypeIs (.ref I) "list_reverseiterator") (S:Addr) (hst:St 0 s) (hSf:S ∉ fp) (hI:I ∈ fp)
  (hS:s.heap.get? S = some { cls:=.type "list",data:=.seq #[] })
  (hR:∀ s' acc' c',Moved (S :: wr) G s s'->s'.heap.get? S = some { cls:=.type "list",dict:=none,data:=.seq acc' c',slots:=#[] }->ItemsOf P acc' n->R (.ok (.ret .none)) s') (hn:n <= sizeLine) :
  wpAny (model prog w) A.in1 (Builtin.«list.__init__» ⟨[.ref S,.ref I],[]⟩)
   (fun fin s'=>match fin with | .done f=>R (.ok f) s' | .again c'=>c'.quiet = true/\codeAny (model prog w) A c' R s') (fun e s'=>R (.error e) s') s:=by
 show wpAny _ A.in1 (do let old <- Builtin.List.listItems (.ref S); Builtin.List.listUpdate (.ref S) (fun _=>#[]); letGo old.toList.reverse; Builtin.List.listExtendWith (.ref S) (.ref I) .none) _ _ s
 refine wpAny_bind ?_
 unfold Builtin.List.listItems
 refine wpAny_bind (wpAny_seqItems hS rfl (wpAny_pure ?_))
 show wpAny _ A.in1 (updateSeq S (fun _=>#[]) >>= fun _=>letGo (#[]:Array Value).toList.reverse >>= fun _=>Builtin.List.listExtendWith (.ref S) (.ref I) .none) _ _ s
 refine wpAny_bind (wpAny_updateSeq hS rfl ?_)
 have hS₂:=Heap.get?_update_self (Obj.mapSeq (fun _=>(#[]:Array Value))) hS rfl
 have oth:∀ b o,b ≠ S->s.heap.get? b = some o->(s.heap.update S (Obj.mapSeq (fun _=>(#[]:Array Value)))).get? b = some o :=
  fun b o hb e=>(Heap.get?_update_other _ _ (Ne.symm hb)).trans e
 refine wpAny_bind (wpAny_letGo ?_)
 refine AcQ W hT S .none _ (W.frame 0 s _ s.toks hst (Nat.le_refl _) fun b hb o e=>oth b o (fun h=>hSf (h ▸ hb)) e) hSf hI hS₂ (fun s' acc' c' hm hS' hacc=>?_) hn
 exact hR s' acc' c' (Moved.trans W.gtrans ((Moved.refl W.grefl).then_heap (Nat.le_refl _) fun b o hb e=>oth b o (fun h=>hb (h ▸ mem_cons_self)) e) hm) hS' hacc
theorem Zg {Q:Value->Shared->Prop} (W:WalksS prog w A.in1.in1 I fp wr G n P St) (hT:∀ i s,St i s->s.TypeIs (.ref I) "list_reverseiterator") (hst:St 0 s) (hfp:∀ b ∈ fp,b < s.heap.objs.size) (hI:I ∈ fp)
  (hQ:∀ s' acc' c',Moved (s.heap.objs.size :: wr) G { s with heap:=s.heap.push { cls:=.type "list",data:=.seq #[] } } s' ->
   s'.heap.get? s.heap.objs.size = some { cls:=.type "list",dict:=none,data:=.seq acc' c',slots:=#[] }->ItemsOf P acc' n->Q (.ref s.heap.objs.size) s') (hn:n <= sizeLine) :
  wpAny (model prog w) A (call (.type "list") [.ref I]) Q E s:=by
 have hSf:s.heap.objs.size ∉ fp:=fun hm=>Nat.lt_irrefl _ (hfp _ hm)
 refine callType_codes (Q₁:=fun obj s₁=>obj = .ref s.heap.objs.size/\s₁ = { s with heap:=s.heap.push { cls:=.type "list",data:=.seq #[] } }) F.called_list (F.typeCall_list_1 _) F.entry_list_init
  (code_list_new _ ⟨rfl,rfl⟩) fun obj s₁ h₁=>?_
 obtain ⟨rfl,rfl⟩:=h₁
 have hS:(s.heap.push { cls:=.type "list",data:=.seq #[] }).get? s.heap.objs.size = some { cls:=.type "list",data:=.seq #[] }:=get?_push_size _ rfl
 refine ⟨⟨_,hS,rfl⟩,F.args_list_init_2 _ _,AfB W hT _ (W.frame 0 s _ s.toks hst (Nat.le_refl _) fun b _ o e=>get?_push_of_some _ e) hSf hI hS (fun s' acc' c' hm hS' hacc=>?_) hn⟩
 exact ⟨rfl,hQ s' acc' c' hm hS' hacc⟩
end
theorem Zl:bootBuiltins "reversed" = some (.type "reversed"):=by kernel_rfl
def Akd (K:Frag) (tl:TE):TE:=fun σ H Q=>tl σ H fun x H1=>∃ a xs,x = .ref a/\SqL K H1 a xs/\∀ l H',H1 l = none->Same H1 H'->H' l = some (.lst xs.reverse)->Q (.ref l) H'
def on1 (R:V->Hp->Prop):List V->Hp->Prop
 | [x],H=>R x H
 | _,_=>False
section
variable {X:Cx} {p p2 pos pos2:Pos} {tg:Expr}
theorem AeX {xs:List V} {its:List Value} (h:Vals xs its):Vals xs.reverse its.reverse:=by
 induction h with
 | nil=>exact .nil
 | cons r t ih =>
  rw [List.reverse_cons,List.reverse_cons]
  exact ih.append (.cons r .nil)
theorem AdP {l:Expr} {tl:TE} (hl:PE X l tl) (hc:X.calm = true) (hgl:Gl X "list") (hml:X.mg "list" = none) (hg:Gl X "reversed") (hm:X.mg "reversed" = none) (hs:starEach [l] X.env = [(false,eval l X.env)]:=by rfl)
  (hs2:starEach [.Call (.Name "reversed" p) [l] [] pos] X.env = [(false,eval (.Call (.Name "reversed" p) [l] [] pos) X.env)]:=by rfl) :
  PE X (.Call (.Name "list" p2) [.Call (.Name "reversed" p) [l] [] pos] [] pos2) (Akd X.K tl):=by
 intro pins s σ H Q I h
 refine wpAny_Call_Name_kw (Gj I hgl hml boot_list ?_)
 refine callWith_type1 ?_ hs2 rfl
 rw [hs2]
 refine Calls.spliced_cons ?_
 refine wpAny_Call_Name_kw (Gj I hg hm Zl (callWith_type1 (thn ((Ba hl Bd hs) pos pins s σ H (on1 fun x H1=>∃ a xs,x = .ref a/\SqL X.K H1 a xs/\∀ l H',H1 l = none->Same H1 H'->H' l = some (.lst xs.reverse)->Q (.ref l) H') I h) fun us s1 ⟨vs,H1,I1,r1,q1⟩=>?_) hs rfl))
 cases vs with
 | nil=>exact False.elim q1
 | cons x vs =>
  cases vs with
  | cons y vs=>exact False.elim q1
  | nil =>
    obtain ⟨a,xs,e0,hq,q⟩:=q1
    subst e0
    obtain ⟨u,rfl,ru⟩:=Og r1
    cases ru
    obtain ⟨its,rv,pl,hz⟩:=I1.list hq
    have hlen:=rv.length
    have psz:∀ (h:Heap) (o:Obj),(h.push o).objs.size = h.objs.size + 1:=fun h o=>by simp [Heap.push]
    refine call_reversed_list pl.isList ?_
    refine Calls.spliced_nil ?_
    have hlt:a < s1.heap.objs.size:=by obtain ⟨_,e,_⟩:=pl.isList; exact lt_size e
    have W:=(Walks.listRev (prog:=X.prog) (w:=X.w) (A:=X.A.in1.in1) (I.ok.hd hc) s1.heap.objs.size a (ne_of_lt hlt) its.toArray).toS
    refine Zg W (fun i s st=>st.2.1.typeIs) ⟨zero_le _,?_,pl.isList.push _⟩ (fun b hb=>?_) (by simp) (fun s' acc' c' hm hS hacc=>?_) (by simpa [<- hlen] using hz)
    ·exact ⟨_,get?_push_size _ rfl,rfl,by simp [revObj]⟩
    ·have hb':b = s1.heap.objs.size\/b = a:=by simpa using hb
     rcases hb' with e | e
     ·rw [e]; show _ < (s1.heap.push _).objs.size; rw [psz]; exact lt_succ_self _
     ·rw [e]; show _ < (s1.heap.push _).objs.size; rw [psz]; exact lt_succ_of_lt hlt
    ·rw [Moved.eq_with hm]
     have es:acc' = its.reverse.toArray:=by
      apply Array.ext_getElem?
      intro i
      obtain ⟨h1,h2⟩:=hacc
      by_cases hi:i < acc'.size
      ·have e1:acc'[i]? = some acc'[i]:=Array.getElem?_eq_getElem hi
       have e2:=h2 i _ e1
       rw [e1,<- e2]
       simp only [size_toArray] at h1 ⊢
       rw [List.getElem?_toArray,List.getElem?_toArray,List.getElem?_reverse (by omega)]
      ·rw [Array.getElem?_eq_none (by omega),Array.getElem?_eq_none (by simp only [size_toArray] at h1; simp; omega)]
     subst es
     refine ⟨.ref _,upd H1 _ (.lst xs.reverse),I1.laid (s:=s1) (h':=s'.heap) (fun b o e=>?_) ?_ ?_,rfl,q _ _ (I1.hok.fresh ?_) (Same.laid (I1.hok.fresh ?_)) Bt⟩
     ·have hb:b < s1.heap.objs.size:=lt_size e
      refine hm.heap b o (fun z=>?_) (get?_push_of_some _ (get?_push_of_some _ e))
      have z':b = (s1.heap.push (revObj a ((its.toArray.size:Int) - 1))).objs.size\/b = s1.heap.objs.size:=by simpa using z
      rw [psz] at z'
      rcases z' with z' | z'
      ·rw [z'] at hb; exact absurd hb (Nat.not_lt.mpr (le_succ _))
      ·rw [z'] at hb; exact Nat.lt_irrefl _ hb
     ·show _ <= (s1.heap.push _).objs.size; rw [psz]; exact le_succ _
     ·exact ⟨by simpa using hz,its.reverse,c',AeX rv,hS⟩
     ·show _ <= (s1.heap.push _).objs.size; rw [psz]; exact le_succ _
     ·show _ <= (s1.heap.push _).objs.size; rw [psz]; exact le_succ _
def AjM (ta:TA):TE:=fun σ H Q=>ta σ H fun vs H1=>∃ j:Int,vs = [.int j]/\-(2 ^ 62) <= j/\j < 16000000/\∀ l H',H1 l = none->Same H1 H'->H' l = some (.lst ((range j.toNat).map fun (i:Nat)=>V.int (i:Int)))->Q (.ref l) H'
theorem Aet:∀ {xs:List V} {ys:List Value},xs.length = ys.length->(∀ (i:Nat) x y,xs[i]? = some x->ys[i]? = some y->RelV x y)->Vals xs ys
 | [],[],_,_=>.nil
 | x :: xs,y :: ys,l,h=>.cons (h 0 x y rfl rfl) (Aet (by simpa using l) fun i u v h1 h2=>h (i + 1) u v (by simpa using h1) (by simpa using h2))
 | [],_ :: _,l,_=>by simp at l
 | _ :: _,[],l,_=>by simp at l
theorem size_push (h:Heap) (o:Obj):(h.push o).objs.size = h.objs.size + 1:=by simp [Heap.push]
theorem Zj {pins:List (Addr × Obj)} {σ:St} {H:Hp} {s:Shared} {lo hi:Int} {t u v:Tok} {tk:Nat} {Q:VK} (hc:X.calm = true) (I:Inv X pins σ H s) (h1:-(2 ^ 62) <= lo) (h2:lo < 2 ^ 62) (h3:-(2 ^ 62) <= hi) (h4:hi < 2 ^ 62) (h5:hi - lo < 16000000)
  (q:∀ l H',H l = none->Same H H'->H' l = some (.lst ((range (hi - lo).toNat).map fun (k:Nat)=>V.int (lo + (k:Int))))->Q (.ref l) H') :
  wpAny (model X.prog X.w) X.A (call (.type "list") [.ref s.heap.objs.size]) (EP X pins σ Q) X.xe { s with heap:=s.heap.push { cls:=.type "range",data:=.fields #[.int lo t,.int hi u,.int 1 v] },toks:=tk }:=by
 have en:Builtin.Range.rangeSize lo hi 1 = (((hi - lo).toNat:Nat):Int):=by rw [rangeSize_one]; split <;> omega
 refine call_list_range (n:=(hi - lo).toNat) (I.ok.hd hc) (IsRange.new ..) (small_one h1 h2 h3 h4) en (by omega) fun h' tk' acc' c' hk hS hacc=>?_
 obtain ⟨k1,k2⟩:=hacc
 have hge:s.heap.objs.size <= (s.heap.push { cls:=.type "range",data:=.fields #[.int lo t,.int hi u,.int 1 v] }).objs.size:=by rw [size_push]; exact le_succ _
 refine ⟨.ref _,upd H _ (.lst ((range (hi - lo).toNat).map fun (k:Nat)=>V.int (lo + (k:Int)))),I.laid (s:=s) (h':=h') (fun b o e=>hk b o (get?_push_of_some _ e)) hge ⟨?_,acc'.toList,c',?_,by simpa using hS⟩,rfl,q _ _ (I.hok.fresh hge) (Same.laid (I.hok.fresh hge)) Bt⟩
 ·rw [length_map,length_range,sizeLine_eq]; omega
 ·refine Aet (by simp [k1]) fun i x y hx hy=>?_
  have hy':acc'[i]? = some y:=by simpa using hy
  obtain ⟨t',e⟩:=k2 i y hy'
  rw [getElem?_map] at hx
  have hi':i < (hi - lo).toNat:=by
   rw [<- k1]; exact (Array.getElem?_eq_some_iff.mp hy').1
  rw [getElem?_range hi'] at hx
  cases hx
  exact ⟨t',by rw [e]; simp⟩
theorem Ada {a:Expr} {ta:TA} (hc:X.calm = true) (hgl:Gl X "list") (hml:X.mg "list" = none) (hg:Gl X "range") (hm:X.mg "range" = none) (ha:PA X [a] ta) (hs:starEach [a] X.env = [(false,eval a X.env)]:=by rfl)
  (hs2:starEach [.Call (.Name "range" p) [a] [] pos] X.env = [(false,eval (.Call (.Name "range" p) [a] [] pos) X.env)]:=by rfl) :
  PE X (.Call (.Name "list" p2) [.Call (.Name "range" p) [a] [] pos] [] pos2) (AjM ta):=by
 intro pins s σ H Q I h
 refine wpAny_Call_Name_kw (Gj I hgl hml boot_list ?_)
 refine callWith_type1 ?_ hs2 rfl
 rw [hs2]
 refine Calls.spliced_cons ?_
 refine wpAny_Call_Name_kw (Gj I hg hm boot_range (callWith_type1 (thn (ha pos pins s σ H _ I h) fun us s1 ⟨vs,H1,I1,r1,q1⟩=>?_) hs rfl))
 obtain ⟨j,rfl,h1,h2,q⟩:=q1
 obtain ⟨w,rfl,t,rfl⟩:=Og r1
 exact call_range_1 (Calls.spliced_nil (Zj hc I1 (by omega) (by omega) h1 (by omega) (by omega) (by simpa using q)))
def Adi:V->V->V->Hp->(Hp->Prop)->Prop:=fun o i v H Q=>∃ p xs k j,o = .ref p/\i = .int k/\H p = some (.lst xs)/\ixN xs.length k = some j/\∀ H',Chg p H H'->H' p = some (.lst (xs.set j v))->Q H'
theorem Lq:Afe X Adi:=fun pins s σ H o i v ov iv u Q I ro ri rv ⟨p,xs,k,j,e1,e2,h1,h2,q⟩=>Ae6 pins s σ H o i v ov iv u Q I ro ri rv ⟨p,xs,k,j,e1,e2,h1,h2,q _ Chg.put Bt⟩
def Af7:R2:=fun x y H Q=>∃ l k xs,x = .ref l/\y = .int k/\H l = some (.lst xs)/\-(2 ^ 63) <= k/\k < 2 ^ 63/\xs.length * k.toNat <= sizeLine /\
 ∀ p H',H p = none->Same H H'->H' p = some (.lst (replicate k.toNat xs).flatten)->Q (.ref p) H'
theorem Vb:OpR X (binaryOp .Mult) Af7:=fun pins s σ H x y v u Q I r1 r2 ⟨l,k,xs,e1,e2,h1,h2,h3,hz,q⟩=>Ako pins s σ H x y v u Q I r1 r2 ⟨l,k,xs,e1,e2,h1,h2,h3,hz,fun p hp=>q p _ hp (Same.laid hp) Bt⟩
def AjK (K:Frag) (neg:Bool):R2:=fun x y H Q=>Afy K neg x y H Q\/(Af0 x y = true/\Q (.bl (if neg then !decide (x = y) else decide (x = y))) H)\/∃ a xs,SqT K H a xs/\((x = .ref a/\(y = .non\/∃ z,y = .str z))\/(x = .non/\y = .ref a))/\Q (.bl neg) H
theorem AlV (K':Frag) (hu:X.A.units + 64 < cLine) (hK:X.K = K':=by rfl):OpR X (compareOp .Eq) (AjK K' false):=by
 subst hK
 intro pins s σ H x y v u Q I rx ry h
 rcases h with h | h | ⟨a,xs,hq,h,q⟩
 ·exact Ak7 hu pins s σ H x y v u Q I rx ry h
 ·exact Dq pins s σ H x y v u Q I rx ry h
 ·obtain ⟨us,r1,p1,_⟩:=I.tuple hq
  have fin:EP X pins σ Q (.bool false) s:=⟨.bl _,H,I,rfl,q⟩
  rcases h with ⟨rfl,rfl | ⟨z,rfl⟩⟩ | ⟨rfl,rfl⟩
  ·cases rx; cases ry
   exact SeqAt.RcAt.tuple_none p1 (by omega) _ _ _ _ fin
  ·cases rx
   obtain ⟨t,rfl⟩:=ry
   exact SeqAt.RcAt.tuple_str z t p1 (by omega) _ _ _ _ fin
  ·cases rx; cases ry
   exact SeqAt.RcAt.none_tuple p1 (by omega) _ _ _ _ fin
end
end L2
set_option Elab.async false
set_option linter.all false
set_option maxRecDepth 100000
set_option maxHeartbeats 4000000
namespace L2
open PySem PySem.Spec PyProof.Rows
theorem AdZ:bootBuiltins "zip" = some (.type "zip"):=by kernel_rfl
theorem Inv.turnedL {X:Cx} {pins:List (Addr × Obj)} {σ:St} {H:Hp} {s:Shared} {h':Heap} {t':Nat} {ch:List Addr} (I:Inv X pins σ H s) (k:∀ b o,b ∉ ch->s.heap.get? b = some o->h'.get? b = some o) (hf:∀ b ∈ ch,Ul X pins H b):Inv X pins σ H { s with heap:=h',toks:=t' }:=by
 have nit:∀ b u,H b = some u->b ∉ ch:=fun b u e z=>by rw [(hf b z).1] at e; cases e
 refine I.step (g':=s.gens) (d':=s.drawn) (ch:=ch) (fun b hb=>?_) (fun b o _ _ hc e _=>k b o hc e) (fun b o _ _ hc e _=>⟨o.slots,k b o hc e⟩) (fun _ _ _ _ n=>n)
  (fun b o hc e=>⟨o,k b o hc e⟩) (fun _ _ e=>e) (fun _ _ _ e=>e) (fun b ps e=>⟨#[],by rw [e]; simp⟩) (fun m hm=>?_) (fun b u e=>?_) I.bare
 ·obtain ⟨f0,f1,f2,f3,f4,f5⟩:=hf b hb
  exact ⟨f3,f1,f4,f5⟩
 ·obtain ⟨o,es,ep,ho,r⟩:=hm
  exact ⟨o,es,ep,k _ o (fun z=>(hf _ z).2.1 rfl) ho,r⟩
 ·refine (I.hok b u e).stay (fun c v hc q=>k c v ?_ q) (fun _ q=>q) fun _ _ q=>q
  rcases hc with z | z
  ·rw [z]; exact nit b u e
  ·exact nit c _ z
def Itz (K:Frag) (a b:Addr):It :=
 ⟨fun i H=>∃ xs x ys y,SqL K H a xs/\xs[i]? = some x/\SqL K H b ys/\ys[i]? = some y,
  fun i H v H'=>∃ t x y,H t = none/\(∀ xs,SqL K H a xs->xs[i]? = some x)/\(∀ ys,SqL K H b ys->ys[i]? = some y)/\v = .ref t/\H' = upd H t (.tup [x,y]),
  fun i H=>∃ xs ys,SqL K H a xs/\SqL K H b ys/\(xs.length <= i\/ys.length <= i)⟩
theorem AfZ {P:Program} {w:World} {K:Frag} {elts:List Expr} {x1:Nat} {tp:Pos} (a b z TI TO i1 i2:Addr) (D:ZipApart z TI TO i1 i2 a b) :
  Vu P w K (.Tuple elts x1 tp) (Itz K a b) [z,TI,TO,i1,i2] z (fun i h=>IsZip h z TI TO .none/\IsPair h TI (.ref i1) (.ref i2)/\(∃ x y,IsPair h TO x y)/\h.IsListIter i1 a i/\h.IsListIter i2 b i) where
 mem:=by simp
 obj:=fun i h st c hc=>by
  obtain ⟨hz,hTI,⟨x,y,hTO⟩,⟨o1,e1,c1,d1⟩,⟨o2,e2,c2,d2⟩⟩:=st
  simp only [mem_cons,not_mem_nil,or_false] at hc
  rcases hc with rfl | rfl | rfl | rfl | rfl
  ·exact ⟨_,hz,fun v z=>nomatch z⟩
  ·exact ⟨_,hTI,fun v z=>nomatch z⟩
  ·exact ⟨_,hTO,fun v z=>nomatch z⟩
  ·exact ⟨o1,e1,fun v z=>by rw [d1] at z; cases z⟩
  ·exact ⟨o2,e2,fun v z=>by rw [d2] at z; cases z⟩
 keep:=fun i h h' st k=>by
  obtain ⟨hz,hTI,⟨x,y,hTO⟩,h1,h2⟩:=st
  exact ⟨k z (by simp) _ hz,k TI (by simp) _ hTI,⟨x,y,k TO (by simp) _ hTO⟩,h1.at fun o e=>k i1 (by simp) o e,h2.at fun o e=>k i2 (by simp) o e⟩
 item:=by
  intro X hP hw hK hc i pins s σ H E I hf st hg
  subst hP hw hK
  obtain ⟨xs,x,ys,y,hq,hx,hq2,hy⟩:=hg
  obtain ⟨hz,hTI,⟨oa,ob,hTO⟩,h1,h2⟩:=st
  obtain ⟨its,rv,p,hzz⟩:=I.list hq
  obtain ⟨its2,rv2,p2,hzz2⟩:=I.list hq2
  obtain ⟨u,hu,ru⟩:=rv.get hx
  obtain ⟨u2,hu2,ru2⟩:=rv2.get hy
  have hfr:H s.heap.objs.size = none:=I.hok.fresh (Nat.le_refl _)
  have lt:∀ c ∈ [z,TI,TO,i1,i2],s.heap.objs.size ≠ c:=fun c hc=>by
   simp only [mem_cons,not_mem_nil,or_false] at hc
   rcases hc with rfl | rfl | rfl | rfl | rfl
   ·exact Nat.ne_of_gt (lt_size hz)
   ·exact Nat.ne_of_gt (lt_size hTI)
   ·exact Nat.ne_of_gt (lt_size hTO)
   ·obtain ⟨_,e,_⟩:=h1; exact Nat.ne_of_gt (lt_size e)
   ·obtain ⟨_,e,_⟩:=h2; exact Nat.ne_of_gt (lt_size e)
  refine wpAny_pyNext_zip_item D hz hTI hTO h1 h2 p.isList p2.isList (x:=u) (y:=u2) (by simpa using hu) (by simpa using hu2) fun h' a1 a2 a3 a4 a5 a6 hk=>⟨_,rfl,?_⟩
  refine wpAny_letOwnedTupleGo_zip (s:={ s with heap:=h' }) a1 fun h2' hz2 hs=>?_
  have kp:∀ c o,c ∉ [z,TI,TO,i1,i2]->s.heap.get? c = some o->h2'.get? c = some o:=fun c o hc q=>by
   simp only [mem_cons,not_mem_nil,or_false,not_or] at hc
   exact (hs.2 c hc.1).trans (hk c o hc.1 hc.2.2.1 hc.2.2.2.1 hc.2.2.2.2 q)
  have hT2:h2'.get? s.heap.objs.size = some { cls:=.type "tuple",data:=.seq #[u,u2] }:=(hs.2 _ (lt z (by simp))).trans a5
  have nt:∀ b v,H b = some v->b ≠ s.heap.objs.size:=fun b v q=>Cb q hfr
  have nit:∀ b v,H b = some v->b ∉ [z,TI,TO,i1,i2]:=fun b v q hb=>by rw [(hf b hb).1] at q; cases q
  refine ⟨.ref s.heap.objs.size,upd H s.heap.objs.size (.tup [x,y]),?_,rfl,⟨_,x,y,hfr,(fun zs hy=>by rw [I.list_inj hy hq]; exact hx),(fun zs hz=>by rw [I.list_inj hz hq2]; exact hy),rfl,rfl⟩,
   ⟨hz2,(hs.2 TI D.TIz).trans (hk TI _ D.TIz D.TITO D.TIi1 D.TIi2 hTI),⟨_,_,(hs.2 TO D.TOz).trans a2⟩,a3.at fun o q=>(hs.2 i1 D.i1z).trans q,a4.at fun o q=>(hs.2 i2 D.i2z).trans q⟩,fun c hc=>?_⟩
  ·refine Inv.step (s:=s) (h':=h2') I (g':=s.gens) (d':=s.drawn) (t':=s.toks) (ch:=[z,TI,TO,i1,i2]) (fun b hb=>?_) (fun b o _ _ hc q _=>kp b o hc q) (fun b o _ _ hc q _=>⟨o.slots,kp b o hc q⟩)
    (fun b o hc q n=>by rw [Bl (ne_of_lt (lt_size q))]; exact n) (fun b o hc q=>⟨o,kp b o hc q⟩) (fun b xs q=>by rw [Bl (nt b _ q)]; exact q) (fun b o v q=>by rw [Bl (nt b _ q)]; exact q)
    (fun b ps q=>⟨#[],by rw [Bl (nt b _ q),q]; simp⟩) (fun m hm=>?_) (fun b v q=>?_) I.bare
   ·obtain ⟨f0,f1,f2,f3,f4,f5⟩:=hf b hb
    exact ⟨f3,f1,f4,f5⟩
   ·obtain ⟨o,es,ep,ho,r⟩:=hm
    exact ⟨o,es,ep,kp _ o (fun z=>(hf _ z).2.1 rfl) ho,r⟩
   ·by_cases hb:b = s.heap.objs.size
    ·subst hb
     rw [Bt] at q
     cases q
     exact ⟨by show 2 <= sizeLine; decide,[u,u2],.cons ru (.cons ru2 .nil),_,hT2,rfl,_,rfl⟩
    ·rw [Bl hb] at q
     refine (I.hok b v q).stay (fun c v' hc q'=>?_) (fun c q'=>by rw [Bl (nt c _ q')]; exact q') fun c xs q'=>by rw [Bl (nt c _ q')]; exact q'
     rcases hc with z | z
     ·rw [z] at q' ⊢; exact kp b v' (nit b _ q) q'
     ·exact kp c v' (nit c _ z) q'
  ·rw [Bl (Ne.symm (lt c hc))]; exact (hf c hc).1
 done:=by
  intro X hP hw hK hc i pins s σ H E I hf st hg
  subst hP hw hK
  obtain ⟨xs,ys,hq,hq2,he⟩:=hg
  obtain ⟨hz,hTI,⟨oa,ob,hTO⟩,h1,h2⟩:=st
  obtain ⟨its,rv,p,hzz⟩:=I.list hq
  obtain ⟨its2,rv2,p2,hzz2⟩:=I.list hq2
  have hl:=rv.length
  have hl2:=rv2.length
  refine wpAny_pyNext_zip_end (I.ok.hd hc) D hz hTI hTO h1 h2 p.isList p2.isList (he.imp (fun h=>by simp; omega) (fun h=>by simp; omega)) fun h' hk=>⟨rfl,I.turnedL (t':=s.toks) (ch:=[z,TI,TO,i1,i2]) (fun c o hc q=>?_) hf⟩
  simp only [mem_cons,not_mem_nil,or_false,not_or] at hc
  exact hk c o hc.1 hc.2.2.1 hc.2.2.2.1 hc.2.2.2.2 q
 self:=fun A i s Q E st h=>wpAny_pyIter_zip st.1 h
theorem Aa9 {n a b:Nat} (la:a < n) (lb:b < n):ZipApart (n + 4) (n + 2) (n + 3) n (n + 1) a b:=by
 constructor <;> (intro h; have h':@Eq Nat _ _:=h; omega)
section
variable {X:Cx} {elts:List Expr} {x1:Nat} {tp p pos:Pos}
def AcD (K:Frag) (ta tb:TE):TI:=fun σ H R=>ta σ H fun x H1=>tb σ H1 fun y H2=>∃ a b,x = .ref a/\y = .ref b/\(∃ xs,SqL K H2 a xs)/\(∃ ys,SqL K H2 b ys)/\R (Itz K a b) H2
theorem Akw {l m:Expr} {tl tm:TE} (hl:PE X l tl) (hm':PE X m tm) (hg:Gl X "zip") (hm:X.mg "zip" = none) (hs:starEach [l,m] X.env = [(false,eval l X.env),(false,eval m X.env)]:=by rfl) (hs2:starEach [m] X.env = [(false,eval m X.env)]:=by rfl):PI X (.Tuple elts x1 tp) (.Call (.Name "zip" p) [l,m] [] pos) (AcD X.K tl tm):=by
 intro pins s σ H R I h
 have pa:PA X [l,m] (Fl tl (Fl tm La)):=Ba hl (Ba hm' Bd hs2) (by rw [hs,hs2])
 refine Call_ (Gj I hg hm AdZ (PyProof.Rows.callWith_type1 (thn (pa pos pins s σ H (fun vs H1=>match vs with
  | [x,y]=>∃ a b,x = .ref a/\y = .ref b/\(∃ xs,SqL X.K H1 a xs)/\(∃ ys,SqL X.K H1 b ys)/\R (Itz X.K a b) H1
  | _=>False) I h) fun us s1 ⟨vs,H1,I1,r1,q1⟩=>?_) (by rw [hs,hs2]) (by rw [hs2]; rfl)))
 match vs,q1 with
 | [x,y],⟨a,b,e1,e2,⟨xs,hq⟩,⟨ys,hq2⟩,q⟩ =>
  subst e1 e2
  cases r1 with
  | cons r rr =>
   cases rr with
   | cons r' rr =>
    cases rr
    cases r
    cases r'
    obtain ⟨its,rv,pl,hz⟩:=I1.list hq
    obtain ⟨its2,rv2,pl2,hz2⟩:=I1.list hq2
    have la:a < s1.heap.objs.size:=by obtain ⟨o,e,_⟩:=pl.isList; exact lt_size e
    have lb:b < s1.heap.objs.size:=by obtain ⟨o,e,_⟩:=pl2.isList; exact lt_size e
    have D:=Aa9 la lb
    refine call_zip_2 pl.isList pl2.isList fun h' z1 z2 z3 z4 z5 z6 hk=>?_
    have I2:Inv X pins σ H1 { s1 with heap:=h' }:=I1.kept (t':=s1.toks) hk
    refine wpAny_pyIter_zip (s:={ s1 with heap:=h' }) z1 ⟨_,[s1.heap.objs.size + 4,s1.heap.objs.size + 2,s1.heap.objs.size + 3,s1.heap.objs.size,s1.heap.objs.size + 1],_,_,H1,rfl,I2,AfZ a b _ _ _ _ _ D,⟨z1,z2,⟨_,_,z3⟩,z4,z5⟩,fun c hc=>?_,q⟩
    have hge:s1.heap.objs.size <= c:=by
     simp only [mem_cons,not_mem_nil,or_false] at hc
     rcases hc with rfl | rfl | rfl | rfl | rfl
     ·exact le_add_right _ _
     ·exact le_add_right _ _
     ·exact le_add_right _ _
     ·exact Nat.le_refl _
     ·exact le_add_right _ _
    exact I1.fpOk hge (I1.hok.fresh hge)
theorem Yh (K':Frag) {l m:Expr} {tl tm:TE} (hl:PE X l tl) (hm':PE X m tm) (hg:Gl X "zip") (hm:X.mg "zip" = none) (hK:X.K = K':=by rfl) (hs:starEach [l,m] X.env = [(false,eval l X.env),(false,eval m X.env)]:=by rfl) (hs2:starEach [m] X.env = [(false,eval m X.env)]:=by rfl):PI X (.Tuple elts x1 tp) (.Call (.Name "zip" p) [l,m] [] pos) (AcD K' tl tm):=by
 subst hK
 exact Akw hl hm' hg hm hs hs2
theorem AiQ {K:Frag} {a b:Addr} {xs ys:List V} {g:TG} {tb:TS} {D:Ends} {σ:St} {H:Hp} (Pv:Nat->St->Hp->Prop) (h0:Pv 0 σ H) (hl:∀ i σ H,Pv i σ H->SqL K H a xs/\SqL K H b ys)
  (hs:∀ i x y t σ H,xs[i]? = some x->ys[i]? = some y->H t = none->Pv i σ H->g (.ref t) σ (upd H t (.tup [x,y])) fun σ2 H2=>tb { D with nx:=Pv (i + 1),ct:=Pv (i + 1),bk:=D.nx } σ2 H2) (hd:∀ σ H,Pv (min xs.length ys.length) σ H->D.nx σ H) :
  ∃ W:Nat->Nat->St->Hp->Prop,(∃ m,W 0 m σ H)/\∀ i m σ H,W i m σ H ->
   ((Itz K a b).stop i H/\D.nx σ H)\/((Itz K a b).go i H/\∃ N:St->Hp->Prop,(∀ σ' H',N σ' H'->∃ m',m' < m/\W (i + 1) m' σ' H')/\∀ x H',(Itz K a b).yld i H x H'->g x σ H' fun σ2 H2=>tb { D with nx:=N,ct:=N,bk:=D.nx } σ2 H2):=by
 refine ⟨fun i m σ H=>m = min xs.length ys.length - i/\i <= min xs.length ys.length/\Pv i σ H,⟨min xs.length ys.length,by simp,zero_le _,h0⟩,?_⟩
 rintro i m σ H ⟨rfl,hi,p⟩
 obtain ⟨q,q2⟩:=hl i σ H p
 by_cases hlt:i < min xs.length ys.length
 ·have h1:i < xs.length:=by omega
  have h2:i < ys.length:=by omega
  refine .inr ⟨⟨xs,xs[i],ys,ys[i],q,by simp [h1],q2,by simp [h2]⟩,Pv (i + 1),fun σ' H' p'=>⟨min xs.length ys.length - (i + 1),by omega,rfl,hlt,p'⟩,fun x H' y=>?_⟩
  obtain ⟨t,y,z,ht,hy,hz,rfl,rfl⟩:=y
  exact hs i y z t σ _ (hy xs q) (hz ys q2) ht p
 ·have e:i = min xs.length ys.length:=by omega
  subst e
  exact .inl ⟨⟨xs,ys,q,q2,by omega⟩,hd σ H p⟩
theorem CP.zip {K:Frag} {σ:St} {H:Hp} {Q:VK} {D a b:Addr} {g:TG} {tc:TT} {te:TE} {k:Nat} {fr:List Nat} (xs ys:List V) (Pv:Nat->Hp->Prop)
  (h0:Pv 0 H) (hl:∀ i H',Pv i H'->SqL K H' a xs/\SqL K H' b ys)
  (hs:∀ i x y t H' (N:Hp->Prop),xs[i]? = some x->ys[i]? = some y->H' t = none->Pv i H'->(∀ H'',Pv (i + 1) H''->N H'')->g (.ref t) (compσ k fr σ) (upd H' t (.tup [x,y])) fun σ2 H2=>σ2.drop k = (compσ k fr σ).drop k/\tc σ2 H2 fun b H3 =>
   if b = true then te σ2 H3 (fun y H4=>∃ ys,H4 D = some (.lst ys)/\ys.length < sizeLine/\N (upd H4 D (.lst (ys ++ [y])))) else N H3)
  (hd:∀ H',Pv (min xs.length ys.length) H'->Q (.ref D) H'):CP (Itz K a b) D g tc te k fr σ H Q:=by
 refine ⟨fun i m H=>m = min xs.length ys.length - i/\i <= min xs.length ys.length/\Pv i H,⟨min xs.length ys.length,by simp,zero_le _,h0⟩,?_⟩
 rintro i m H ⟨rfl,hi,p⟩
 obtain ⟨q,q2⟩:=hl i H p
 by_cases hlt:i < min xs.length ys.length
 ·have h1:i < xs.length:=by omega
  have h2:i < ys.length:=by omega
  refine .inr ⟨⟨xs,xs[i],ys,ys[i],q,by simp [h1],q2,by simp [h2]⟩,fun x H' y=>?_⟩
  obtain ⟨t,y,z,ht,hy,hz,rfl,rfl⟩:=y
  exact hs i y z t H (fun H''=>∃ m',m' < min xs.length ys.length - i/\m' = min xs.length ys.length - (i + 1)/\i + 1 <= min xs.length ys.length/\Pv (i + 1) H'') (hy xs q) (hz ys q2) ht p fun H'' p''=>⟨min xs.length ys.length - (i + 1),by omega,rfl,hlt,p''⟩
 ·have e:i = min xs.length ys.length:=by omega
  subst e
  exact .inl ⟨⟨xs,ys,q,q2,by omega⟩,hd H p⟩
end
theorem Jz {X:Cx} {es':List Expr} {n:Nat} {pos:Pos} {es:List Expr} {te:TE} {t:TA} (h:PE X (.Tuple es' n pos) te) (h2:PA X es t):PA X (.Tuple es' n pos :: es) (Fl te t):=Ba h h2 rfl
theorem AaE {X:Cx} {es':List Expr} {pos:Pos} {es:List Expr} {te:TE} {t:TA} (h:PE X (.List es' pos) te) (h2:PA X es t):PA X (.List es' pos :: es) (Fl te t):=Ba h h2 rfl
theorem Bq {X:Cx} {c:Const} {n:Nat} {pos:Pos} {es:List Expr} {te:TE} {t:TA} (h:PE X (.Constant c n pos) te) (h2:PA X es t):PA X (.Constant c n pos :: es) (Fl te t):=Ba h h2 rfl
section
variable {X:Cx}
end
structure FunD (K:Frag) (x qual:Str) (st:Stmt) (f:Addr) (fd:FuncData) (D:Addr) (ds:List Value):Prop where
 ex:∃ (oc:Value) (od:Option Addr) (kV doc pm:Value) (an:Option Addr) (cdv ct:Value) (osl:Array (Option Value)),
  fd = fnOf x qual (Bk st) (Bj st) (Bc st) (.ref D) kV doc pm an cdv ct/\K.lookup f = some ⟨oc,od,.func fd,osl⟩/\codeIn K cdv qual = true
 kp:keepIn K (.ref f) = true
 dl:∃ (od:Option Addr) (n:Nat) (sl:Array (Option Value)),K.lookup D = some ⟨.type "tuple",od,.seq ds.toArray n,sl⟩
section
variable {P:Program} {w:World} {K:Frag} {mg:Str->Option Value} {base:Heap}
theorem FunD.ok {x qual:Str} {st:Stmt} {f D:Addr} {dl:List Value} {fd:FuncData} {N ps:List Str} {k:Nat} {sp:Sp} (F:FunD K x qual st f fd D dl) (S:Bz N ps (Bc st)) (len:∀ vs H Q E,sp vs H Q E->vs.length = ps.length)
  (hbody:∀ (cdv:Value) (A:Around) (outer:List Env) (s:Shared) (H:Hp) (vs:List V) (Q:VK) (E:XK),Room k (A.deeper (envOfC qual (Bc st) s.heap.objs.size f cdv))->sp vs H Q E ->
   ∃ t,PSs (Uf CX0 P w K mg base N qual (Bc st) f cdv A outer s H E).nox (Bj st) t/\t { nx:=fun _ H'=>Q .non H',rt:=Q } (Nk N vs) H):FnOk P w K mg base CX0 (k + 1) f fd ps sp:=by
 obtain ⟨oc,od,kV,doc,pm,an,cdv,ct,osl,rfl,lk,hcd⟩:=F.ex
 refine Agg lk hcd S len fun A outer s H vs Q E hr hsp=>?_
 obtain ⟨t,h,q⟩:=hbody cdv A outer s H vs Q E hr hsp
 exact ⟨t,h.nox,q⟩
theorem FunD.binds {x qual:Str} {st:Stmt} {f D:Addr} {dl ds:List Value} {fd:FuncData} {ps:List Str} (g:Nat) (F:FunD K x qual st f fd D dl) (hg:ps.length = g + ds.length)
  (h:∀ (kV doc pm:Value) (an:Option Addr) (cdv ct:Value) (us:List Value),us.length = g->∃ k:Option (Array Value)->Sem (List (Str × Value)),bindArgs (fnOf x qual (Bk st) (Bj st) (Bc st) (.ref D) kV doc pm an cdv ct) ⟨us,[]⟩ = seqItems? (.ref D) >>= k/\k (some dl.toArray) = pure (ps.zip (us ++ ds))):Binds K fd ps ds:=by
 obtain ⟨oc,od,kV,doc,pm,an,cdv,ct,osl,rfl,lk,hcd⟩:=F.ex
 obtain ⟨od2,n,sl,ld⟩:=F.dl
 intro s us X hl
 obtain ⟨k,h1,h2⟩:=h kV doc pm an cdv ct us (by rw [length_append,hg] at hl; omega)
 exact PySem.W.binds_K X rfl ld rfl h1 h2
theorem Yj {x qual:Str} {st:Stmt} {f D:Addr} {dl:List Value} {oc:Value} {od an od2:Option Addr} {n:Nat} {osl sl:Array (Option Value)} {kV doc pm cdv ct:Value} (l:K.lookup f = some ⟨oc,od,.func (fnOf x qual (Bk st) (Bj st) (Bc st) (.ref D) kV doc pm an cdv ct),osl⟩)
  (c:codeIn K cdv qual = true) (k:keepIn K (.ref f) = true) (d:K.lookup D = some ⟨.type "tuple",od2,.seq dl.toArray n,sl⟩):FunD K x qual st f (fnOf x qual (Bk st) (Bj st) (Bc st) (.ref D) kV doc pm an cdv ct) D dl:=⟨⟨oc,od,kV,doc,pm,an,cdv,ct,osl,rfl,l,c⟩,k,od2,n,sl,d⟩
end
def Zx (dvs:List V) (t:TA):TA:=fun σ H Q=>t σ H fun vs H1=>Q (vs ++ dvs) H1
theorem Aaz {X:Cx} {CX:CXT} {k:Nat} {f:Addr} {fd:FuncData} {ps:List Str} {sp:Sp} {dvs:List V} {ds:List Value} {E:XK} {x:Str} {p pos:Pos} {e:Expr} {es:List Expr} {t:TA} (F:FnOk X.prog X.w X.K X.mg X.base CX k f fd ps sp) (hr:Room k X.A) (hg:Gl X x) (hm:X.mg x = some (.ref f)) (hk:keepIn X.K (.ref f) = true) (hb:Binds X.K fd ps ds) (hd:Vals dvs ds) (hx:Qh CX X E)
  (ha:PA X (e :: es) t) (hdb:(x == ("__debug__" : Str)) = false:=by decide) (he:starEach (e :: es) X.env = (false,eval e X.env) :: starEach es X.env:=by rfl) (hpl:(backTo pos (starEach es X.env)).any (·.1) = false:=by rfl) :
  PE X (.Call (.Name x p) (e :: es) [] pos) (Ll sp [] E (Zx dvs t)):=fun pins s σ H Q I h=>Bm F hr hg hm hk hb hd hx ha hdb he hpl pins s σ H Q I (by
 unfold Ll Zx at h
 simp only [append_nil] at h
 exact h)
def Agt:V->List V->Hp->VK->Prop:=fun x vs H Q=>∃ l xs y,x = .ref l/\vs = []/\H l = some (.lst xs)/\xs[xs.length - 1]? = some y/\∀ H',Chg l H H'->H' l = some (.lst xs.dropLast)->Q y H'
theorem AiN {X:Cx}:MtR X "list.pop" Agt:=fun pins s σ H x vs v us Q I rx rv ⟨l,xs,y,e1,e2,h1,hy,q⟩=>AjU pins s σ H x vs v us Q I rx rv ⟨l,xs,y,e1,e2,h1,hy,q _ Chg.put Bt⟩
end L2
set_option Elab.async false
set_option linter.all false
set_option maxRecDepth 100000
set_option maxHeartbeats 4000000
namespace My
open PySem L2
def top (i:Nat):Stmt:=PySem.Challenge.pw_bothhands_k45_levels_of_rows.main.body.getD i (.Pass ⟨0,0,0,0⟩)
abbrev Sd:Stmt:=top 62
theorem Amh:Bz ["_law_script","_law_k"] ["_law_script","_law_k"] (Bc Sd):=⟨rfl,rfl,rfl,by decide +kernel,rfl,by decide +kernel,by decide +kernel⟩
abbrev Nd:Stmt:=top 63
theorem sc_qca:Bz ["_law_script","_law_k","_law_low","_law_step"] ["_law_script","_law_k"] (Bc Nd):=⟨rfl,rfl,rfl,by decide +kernel,rfl,by decide +kernel,by decide +kernel⟩
abbrev Nr:Stmt:=top 64
theorem sc_qcc:Bz ["_law_script","_law_cell","_law_ranks","_law_some","_law_k","_law_more","_law_told_here","_law_marks","_law_rank"] ["_law_script"] (Bc Nr):=⟨rfl,rfl,rfl,by decide +kernel,rfl,by decide +kernel,by decide +kernel⟩
abbrev Tm:Stmt:=top 47
theorem Al8:Bz ["held","words"] ["held","words"] (Bc Tm):=⟨rfl,rfl,rfl,by decide +kernel,rfl,by decide +kernel,by decide +kernel⟩
abbrev Tf:Stmt:=top 48
theorem sc_qh:Bz ["rows","length","row"] ["rows","length"] (Bc Tf):=⟨rfl,rfl,rfl,by decide +kernel,rfl,by decide +kernel,by decide +kernel⟩
abbrev Ta:Stmt:=top 7
theorem AmA:Bz ["thing"] ["thing"] (Bc Ta):=⟨rfl,rfl,rfl,by decide +kernel,rfl,by decide +kernel,by decide +kernel⟩
abbrev Oo:Stmt:=top 8
theorem AlS:Bz ["thing"] ["thing"] (Bc Oo):=⟨rfl,rfl,rfl,by decide +kernel,rfl,by decide +kernel,by decide +kernel⟩
abbrev Nf:Stmt:=top 52
theorem AjJ:Bz ["kinds","sign","kind"] ["kinds","sign","kind"] (Bc Nf):=⟨rfl,rfl,rfl,by decide +kernel,rfl,by decide +kernel,by decide +kernel⟩
abbrev Tp:Stmt:=top 49
theorem Am5:Bz ["thing"] ["thing"] (Bc Tp):=⟨rfl,rfl,rfl,by decide +kernel,rfl,by decide +kernel,by decide +kernel⟩
abbrev Nq:Stmt:=top 50
theorem Aji:Bz ["kind","thing"] ["kind","thing"] (Bc Nq):=⟨rfl,rfl,rfl,by decide +kernel,rfl,by decide +kernel,by decide +kernel⟩
abbrev Oh:Stmt:=top 53
theorem sc_qbd:Bz ["signs","mates","kinds","sign","kind","rank","first","second"] ["signs","mates"] (Bc Oh):=⟨rfl,rfl,rfl,by decide +kernel,rfl,by decide +kernel,by decide +kernel⟩
abbrev Oi:Stmt:=top 54
theorem sc_qbg:Bz ["signs","ranks","sign","kind","rank"] ["signs"] (Bc Oi):=⟨rfl,rfl,rfl,by decide +kernel,rfl,by decide +kernel,by decide +kernel⟩
abbrev Nu:Stmt:=top 55
theorem sc_qbm:Bz ["mates","found","first","second"] ["mates"] (Bc Nu):=⟨rfl,rfl,rfl,by decide +kernel,rfl,by decide +kernel,by decide +kernel⟩
abbrev Nw:Stmt:=top 51
theorem AlK:Bz ["kinds","sign"] ["kinds","sign"] (Bc Nw):=⟨rfl,rfl,rfl,by decide +kernel,rfl,by decide +kernel,by decide +kernel⟩
abbrev Tj:Stmt:=top 56
theorem sc_qz:Bz ["kinds","whole","base","mark","kind"] ["kinds","whole","base","mark"] (Bc Tj):=⟨rfl,rfl,rfl,by decide +kernel,rfl,by decide +kernel,by decide +kernel⟩
abbrev So:Stmt:=top 57
theorem sc_qi:Bz ["pairs","whole","sign","going"] ["pairs","whole"] (Bc So):=⟨rfl,rfl,rfl,by decide +kernel,rfl,by decide +kernel,by decide +kernel⟩
abbrev Nh:Stmt:=top 58
theorem sc_qbf:Bz ["kinds","joins","pairs","whole","base","mark"] ["kinds","joins"] (Bc Nh):=⟨rfl,rfl,rfl,by decide +kernel,rfl,by decide +kernel,by decide +kernel⟩
abbrev Ts:Stmt:=top 59
theorem sc_qx:Bz ["pairs","wholes","whole","pair"] ["pairs"] (Bc Ts):=⟨rfl,rfl,rfl,by decide +kernel,rfl,by decide +kernel,by decide +kernel⟩
abbrev Nn:Stmt:=Xw (top 60) 0
theorem Ai3:Bz ["self","signs","mates","joins"] ["self","signs","mates","joins"] (Bc Nn):=⟨rfl,rfl,rfl,by decide +kernel,rfl,by decide +kernel,by decide +kernel⟩
abbrev Nt:Stmt:=top 65
theorem AjV:Bz ["_law_script"] ["_law_script"] (Bc Nt):=⟨rfl,rfl,rfl,by decide +kernel,rfl,by decide +kernel,by decide +kernel⟩
abbrev Nl:Stmt:=top 66
theorem sc_qbq:Bz ["_law_script","_law_some"] ["_law_script"] (Bc Nl):=⟨rfl,rfl,rfl,by decide +kernel,rfl,by decide +kernel,by decide +kernel⟩
abbrev Nv:Stmt:=top 67
theorem sc_qbz:Bz ["_law_script","_law_told_here","_law_signs","_law_sign_here"] ["_law_script"] (Bc Nv):=⟨rfl,rfl,rfl,by decide +kernel,rfl,by decide +kernel,by decide +kernel⟩
abbrev Nj:Stmt:=top 68
theorem sc_qcb:Bz ["_law_script","_law_start","_law_most","_law_menus","_law_some","_law_deep","_law_ahead"] ["_law_script","_law_start","_law_most"] (Bc Nj):=⟨rfl,rfl,rfl,by decide +kernel,rfl,by decide +kernel,by decide +kernel⟩
abbrev Ni:Stmt:=top 69
theorem sc_qbe:Bz ["_law_told_here","_law_text_here","_law_found_here","_law_sign_here"] ["_law_told_here","_law_text_here"] (Bc Ni):=⟨rfl,rfl,rfl,by decide +kernel,rfl,by decide +kernel,by decide +kernel⟩
abbrev Oc:Stmt:=top 70
theorem sc_qbr:Bz ["_law_told_here","_law_text_here","_law_found_here","_law_whole_here","_law_kind"] ["_law_told_here","_law_text_here"] (Bc Oc):=⟨rfl,rfl,rfl,by decide +kernel,rfl,by decide +kernel,by decide +kernel⟩
abbrev Ny:Stmt:=Xw (top 60) 1
theorem Ajx:Bz ["self","sign"] ["self","sign"] (Bc Ny):=⟨rfl,rfl,rfl,by decide +kernel,rfl,by decide +kernel,by decide +kernel⟩
abbrev Tl:Stmt:=top 13
theorem sc_qe:Bz ["book","whole","kind"] ["book","whole"] (Bc Tl):=⟨rfl,rfl,rfl,by decide +kernel,rfl,by decide +kernel,by decide +kernel⟩
abbrev Oa:Stmt:=top 12
theorem sc_qbv:Bz ["book","text","wholes","sign"] ["book","text"] (Bc Oa):=⟨rfl,rfl,rfl,by decide +kernel,rfl,by decide +kernel,by decide +kernel⟩
abbrev Np:Stmt:=top 14
theorem Alk:Bz ["book","text"] ["book","text"] (Bc Np):=⟨rfl,rfl,rfl,by decide +kernel,rfl,by decide +kernel,by decide +kernel⟩
abbrev Nz:Stmt:=top 17
theorem sc_qce:Bz ["book","text","depth","kind"] ["book","text"] (Bc Nz):=⟨rfl,rfl,rfl,by decide +kernel,rfl,by decide +kernel,by decide +kernel⟩
abbrev Ti:Stmt:=top 36
theorem Am1:Bz ["width"] ["width"] (Bc Ti):=⟨rfl,rfl,rfl,by decide +kernel,rfl,by decide +kernel,by decide +kernel⟩
abbrev Op:Stmt:=top 38
theorem sc_qci:Bz ["kinds","start","width","blanks"] ["kinds","start","width"] (Bc Op):=⟨rfl,rfl,rfl,by decide +kernel,rfl,by decide +kernel,by decide +kernel⟩
abbrev Of:Stmt:=top 39
theorem sc_qbx:Bz ["book","text","width","kinds","rows","start"] ["book","text","width"] (Bc Of):=⟨rfl,rfl,rfl,by decide +kernel,rfl,by decide +kernel,by decide +kernel⟩
abbrev Sj:Stmt:=top 9
theorem Am9:Bz ["thing","greatest"] ["thing","greatest"] (Bc Sj):=⟨rfl,rfl,rfl,by decide +kernel,rfl,by decide +kernel,by decide +kernel⟩
abbrev Oj:Stmt:=top 10
theorem AkG:Bz ["start","end","number"] ["start","end","number"] (Bc Oj):=⟨rfl,rfl,rfl,by decide +kernel,rfl,by decide +kernel,by decide +kernel⟩
abbrev On:Stmt:=top 37
theorem AkM:Bz ["row","number"] ["row","number"] (Bc On):=⟨rfl,rfl,rfl,by decide +kernel,rfl,by decide +kernel,by decide +kernel⟩
abbrev Td:Stmt:=top 18
theorem AlY:Bz ["book","text","base"] ["book","text","base"] (Bc Td):=⟨rfl,rfl,rfl,by decide +kernel,rfl,by decide +kernel,by decide +kernel⟩
abbrev Sv:Stmt:=top 19
theorem sc_qn:Bz ["kind","level","most","remainder","least"] ["kind","level","most"] (Bc Sv):=⟨rfl,rfl,rfl,by decide +kernel,rfl,by decide +kernel,by decide +kernel⟩
abbrev Ou:Stmt:=top 20
theorem sc_qcd:Bz ["book","text","base","most","kinds","nests","waiting","level","at","kind","inner","ended","nest"] ["book","text","base","most"] (Bc Ou):=⟨rfl,rfl,rfl,by decide +kernel,rfl,by decide +kernel,by decide +kernel⟩
abbrev Sw:Stmt:=top 24
theorem sc_qo:Bz ["nests","number","base","stretches","homes","home","stretch","k","rows"] ["nests","number","base"] (Bc Sw):=⟨rfl,rfl,rfl,by decide +kernel,rfl,by decide +kernel,by decide +kernel⟩
abbrev Sz:Stmt:=top 25
theorem sc_ql:Bz ["kinds","own","ways","last","kind"] ["kinds","own"] (Bc Sz):=⟨rfl,rfl,rfl,by decide +kernel,rfl,by decide +kernel,by decide +kernel⟩
abbrev Ol:Stmt:=Xw (top 60) 3
theorem AlL:Bz ["self","sign"] ["self","sign"] (Bc Ol):=⟨rfl,rfl,rfl,by decide +kernel,rfl,by decide +kernel,by decide +kernel⟩
abbrev Ot:Stmt:=top 26
theorem sc_qcf:Bz ["book","kinds","bases","pairs","waiting","k","kind","fitting"] ["book","kinds","bases"] (Bc Ot):=⟨rfl,rfl,rfl,by decide +kernel,rfl,by decide +kernel,by decide +kernel⟩
abbrev Ow:Stmt:=top 29
theorem sc_qbo:Bz ["ways","own","found","last","way"] ["ways","own"] (Bc Ow):=⟨rfl,rfl,rfl,by decide +kernel,rfl,by decide +kernel,by decide +kernel⟩
abbrev Sh:Stmt:=top 30
theorem sc_qv:Bz ["ways","own","ahead","behind"] ["ways","own"] (Bc Sh):=⟨rfl,rfl,rfl,by decide +kernel,rfl,by decide +kernel,by decide +kernel⟩
abbrev Tg:Stmt:=top 27
theorem sc_qu:Bz ["ways","pair","own","within","ahead"] ["ways","pair","own"] (Bc Tg):=⟨rfl,rfl,rfl,by decide +kernel,rfl,by decide +kernel,by decide +kernel⟩
abbrev Sm:Stmt:=top 28
theorem sc_qc:Bz ["ways","pairs","own","found","pair","way"] ["ways","pairs","own"] (Bc Sm):=⟨rfl,rfl,rfl,by decide +kernel,rfl,by decide +kernel,by decide +kernel⟩
abbrev Tu:Stmt:=top 31
theorem sc_qw:Bz ["book","kinds","bases","own","ways","pairs"] ["book","kinds","bases","own"] (Bc Tu):=⟨rfl,rfl,rfl,by decide +kernel,rfl,by decide +kernel,by decide +kernel⟩
abbrev Te:Stmt:=top 23
theorem AmI:Bz ["level"] ["level"] (Bc Te):=⟨rfl,rfl,rfl,by decide +kernel,rfl,by decide +kernel,by decide +kernel⟩
abbrev Sf:Stmt:=top 32
theorem Amx:Bz ["kind","way","level"] ["kind","way","level"] (Bc Sf):=⟨rfl,rfl,rfl,by decide +kernel,rfl,by decide +kernel,by decide +kernel⟩
abbrev Ss:Stmt:=top 33
theorem sc_qf:Bz ["book","row","level","kinds","bases","ways"] ["book","row","level"] (Bc Ss):=⟨rfl,rfl,rfl,by decide +kernel,rfl,by decide +kernel,by decide +kernel⟩
abbrev Od:Stmt:=top 34
theorem sc_qbu:Bz ["book","text","base","most","wholes","lowest","levels","nests","level","row","found","k","own"] ["book","text","base","most"] (Bc Od):=⟨rfl,rfl,rfl,by decide +kernel,rfl,by decide +kernel,by decide +kernel⟩
abbrev Tn:Stmt:=top 40
theorem sc_qa:Bz ["kinds","levels","base","last"] ["kinds","levels","base"] (Bc Tn):=⟨rfl,rfl,rfl,by decide +kernel,rfl,by decide +kernel,by decide +kernel⟩
abbrev Si:Stmt:=top 41
theorem sc_qd:Bz ["book","text","rows","base","most","kinds","lowest","levels"] ["book","text","rows","base","most"] (Bc Si):=⟨rfl,rfl,rfl,by decide +kernel,rfl,by decide +kernel,by decide +kernel⟩
abbrev Ng:Stmt:=top 42
theorem Ajv:Bz ["book","text","row","base","most"] ["book","text","row","base","most"] (Bc Ng):=⟨rfl,rfl,rfl,by decide +kernel,rfl,by decide +kernel,by decide +kernel⟩
abbrev Oq:Stmt:=top 72
theorem Alw:Bz ["_law_book_here","_law_text_here","_law_row","_law_base","_law_most"] ["_law_book_here","_law_text_here","_law_row","_law_base","_law_most"] (Bc Oq):=⟨rfl,rfl,rfl,by decide +kernel,rfl,by decide +kernel,by decide +kernel⟩
abbrev Oe:Stmt:=top 73
theorem sc_qch:Bz ["_law_book_here","_law_text_here","_law_kinds_here","_law_row","_law_base","_law_most","_law_own","_law_whole_here","_law_due_here","_law_k"] ["_law_book_here","_law_text_here","_law_kinds_here","_law_row","_law_base","_law_most"] (Bc Oe):=⟨rfl,rfl,rfl,by decide +kernel,rfl,by decide +kernel,by decide +kernel⟩
abbrev Os:Stmt:=top 71
theorem AkQ:Bz ["_law_found_here"] ["_law_found_here"] (Bc Os):=⟨rfl,rfl,rfl,by decide +kernel,rfl,by decide +kernel,by decide +kernel⟩
abbrev Jm:Stmt:=top 74
theorem sc_qck:Bz ["_law_script","_law_book_here","_law_text_here","_law_kinds_here","_law_cell","_law_base","_law_most","_law_start","_law_end","_law_k","_law_rows","_law_handed","_law_row","_law_found_here","_law_due_here"] ["_law_script"] (Bc Jm):=⟨rfl,rfl,rfl,by decide +kernel,rfl,by decide +kernel,by decide +kernel⟩
structure Adr where
 f_qt:Addr
 d_qt:FuncData
 f_qca:Addr
 d_qca:FuncData
 f_qcc:Addr
 d_qcc:FuncData
 f_qg:Addr
 d_qg:FuncData
 f_qh:Addr
 d_qh:FuncData
 f_qb:Addr
 d_qb:FuncData
 f_qcg:Addr
 d_qcg:FuncData
 f_qbw:Addr
 d_qbw:FuncData
 f_qk:Addr
 d_qk:FuncData
 f_qbb:Addr
 d_qbb:FuncData
 f_qbd:Addr
 d_qbd:FuncData
 f_qbg:Addr
 d_qbg:FuncData
 f_qbm:Addr
 d_qbm:FuncData
 f_qbc:Addr
 d_qbc:FuncData
 f_qz:Addr
 d_qz:FuncData
 f_qi:Addr
 d_qi:FuncData
 f_qbf:Addr
 d_qbf:FuncData
 f_qx:Addr
 d_qx:FuncData
 f_qbi:Addr
 d_qbi:FuncData
 f_qbs:Addr
 d_qbs:FuncData
 f_qbq:Addr
 d_qbq:FuncData
 f_qbz:Addr
 d_qbz:FuncData
 f_qcb:Addr
 d_qcb:FuncData
 f_qbe:Addr
 d_qbe:FuncData
 f_qbr:Addr
 d_qbr:FuncData
 f_qbj:Addr
 d_qbj:FuncData
 f_qe:Addr
 d_qe:FuncData
 f_qbv:Addr
 d_qbv:FuncData
 f_qby:Addr
 d_qby:FuncData
 f_qce:Addr
 d_qce:FuncData
 f_qs:Addr
 d_qs:FuncData
 f_qci:Addr
 d_qci:FuncData
 f_qbx:Addr
 d_qbx:FuncData
 f_qj:Addr
 d_qj:FuncData
 f_qba:Addr
 d_qba:FuncData
 f_qbn:Addr
 d_qbn:FuncData
 f_qr:Addr
 d_qr:FuncData
 f_qn:Addr
 d_qn:FuncData
 f_qcd:Addr
 d_qcd:FuncData
 D_nests_of:Addr
 v_nests_of_0:Value
 f_qo:Addr
 d_qo:FuncData
 f_ql:Addr
 d_ql:FuncData
 f_qbk:Addr
 d_qbk:FuncData
 f_qcf:Addr
 d_qcf:FuncData
 f_qbo:Addr
 d_qbo:FuncData
 f_qv:Addr
 d_qv:FuncData
 f_qu:Addr
 d_qu:FuncData
 f_qc:Addr
 d_qc:FuncData
 f_qw:Addr
 d_qw:FuncData
 f_qp:Addr
 d_qp:FuncData
 f_qm:Addr
 d_qm:FuncData
 f_qf:Addr
 d_qf:FuncData
 f_qbu:Addr
 d_qbu:FuncData
 D_levels_of:Addr
 v_levels_of_0:Value
 v_levels_of_1:Value
 f_qa:Addr
 d_qa:FuncData
 f_qd:Addr
 d_qd:FuncData
 f_qbh:Addr
 d_qbh:FuncData
 D_row_levels:Addr
 v_row_levels_0:Value
 v_row_levels_1:Value
 f_qbp:Addr
 d_qbp:FuncData
 f_qch:Addr
 d_qch:FuncData
 f_qbt:Addr
 d_qbt:FuncData
 f_qck:Addr
 d_qck:FuncData
 C_Book:Addr
 a_BEGINNINGS:Addr
 a_JOINED_KINDS:Addr
 a_LEADING_KINDS:Addr
 a_TOLD_KINDS:Addr
structure Txt (K:Frag) (mg:Str->Option Value) (t:Adr):Prop where
 F_qt:Fun K "_law_cell_at" "_law_cell_at" Sd t.f_qt t.d_qt
 m_qt:mg "_law_cell_at" = some (.ref t.f_qt)
 F_qca:Fun K "_law_sign" "_law_sign" Nd t.f_qca t.d_qca
 m_qca:mg "_law_sign" = some (.ref t.f_qca)
 F_qcc:Fun K "_law_told" "_law_told" Nr t.f_qcc t.d_qcc
 m_qcc:mg "_law_told" = some (.ref t.f_qcc)
 F_qg:Fun K "refuse_unless" "refuse_unless" Tm t.f_qg t.d_qg
 m_qg:mg "refuse_unless" = some (.ref t.f_qg)
 F_qh:Fun K "check_tuples" "check_tuples" Tf t.f_qh t.d_qh
 m_qh:mg "check_tuples" = some (.ref t.f_qh)
 F_qb:Fun K "is_whole_number" "is_whole_number" Ta t.f_qb t.d_qb
 m_qb:mg "is_whole_number" = some (.ref t.f_qb)
 F_qcg:Fun K "is_sign" "is_sign" Oo t.f_qcg t.d_qcg
 m_qcg:mg "is_sign" = some (.ref t.f_qcg)
 F_qbw:Fun K "add_kind" "add_kind" Nf t.f_qbw t.d_qbw
 m_qbw:mg "add_kind" = some (.ref t.f_qbw)
 F_qk:Fun K "is_told_kind" "is_told_kind" Tp t.f_qk t.d_qk
 m_qk:mg "is_told_kind" = some (.ref t.f_qk)
 F_qbb:Fun K "is_rank_of" "is_rank_of" Nq t.f_qbb t.d_qbb
 m_qbb:mg "is_rank_of" = some (.ref t.f_qbb)
 F_qbd:Fun K "kinds_told" "kinds_told" Oh t.f_qbd t.d_qbd
 m_qbd:mg "kinds_told" = some (.ref t.f_qbd)
 F_qbg:Fun K "ranks_told" "ranks_told" Oi t.f_qbg t.d_qbg
 m_qbg:mg "ranks_told" = some (.ref t.f_qbg)
 F_qbm:Fun K "both_ways" "both_ways" Nu t.f_qbm t.d_qbm
 m_qbm:mg "both_ways" = some (.ref t.f_qbm)
 F_qbc:Fun K "kind_among" "kind_among" Nw t.f_qbc t.d_qbc
 m_qbc:mg "kind_among" = some (.ref t.f_qbc)
 F_qz:Fun K "check_join" "check_join" Tj t.f_qz t.d_qz
 m_qz:mg "check_join" = some (.ref t.f_qz)
 F_qi:Fun K "ends_in_time" "ends_in_time" So t.f_qi t.d_qi
 m_qi:mg "ends_in_time" = some (.ref t.f_qi)
 F_qbf:Fun K "pairs_told" "pairs_told" Nh t.f_qbf t.d_qbf
 m_qbf:mg "pairs_told" = some (.ref t.f_qbf)
 F_qx:Fun K "wholes_told" "wholes_told" Ts t.f_qx t.d_qx
 m_qx:mg "wholes_told" = some (.ref t.f_qx)
 F_qbi:Fun K "__init__" "Book.__init__" Nn t.f_qbi t.d_qbi
 F_qbs:Fun K "_law_mates" "_law_mates" Nt t.f_qbs t.d_qbs
 m_qbs:mg "_law_mates" = some (.ref t.f_qbs)
 F_qbq:Fun K "_law_joins" "_law_joins" Nl t.f_qbq t.d_qbq
 m_qbq:mg "_law_joins" = some (.ref t.f_qbq)
 F_qbz:Fun K "_law_book" "_law_book" Nv t.f_qbz t.d_qbz
 m_qbz:mg "_law_book" = some (.ref t.f_qbz)
 F_qcb:Fun K "_law_text" "_law_text" Nj t.f_qcb t.d_qcb
 m_qcb:mg "_law_text" = some (.ref t.f_qcb)
 F_qbe:Fun K "_law_parted" "_law_parted" Ni t.f_qbe t.d_qbe
 m_qbe:mg "_law_parted" = some (.ref t.f_qbe)
 F_qbr:Fun K "_law_kinds" "_law_kinds" Oc t.f_qbr t.d_qbr
 m_qbr:mg "_law_kinds" = some (.ref t.f_qbr)
 F_qbj:Fun K "kind" "Book.kind" Ny t.f_qbj t.d_qbj
 M_qbj:AcR K t.C_Book "kind" t.f_qbj
 F_qe:Fun K "kind_of_whole" "kind_of_whole" Tl t.f_qe t.d_qe
 m_qe:mg "kind_of_whole" = some (.ref t.f_qe)
 F_qbv:Fun K "wholes_of" "wholes_of" Oa t.f_qbv t.d_qbv
 m_qbv:mg "wholes_of" = some (.ref t.f_qbv)
 F_qby:Fun K "kinds_of" "kinds_of" Np t.f_qby t.d_qby
 m_qby:mg "kinds_of" = some (.ref t.f_qby)
 F_qce:Fun K "own_base" "own_base" Nz t.f_qce t.d_qce
 m_qce:mg "own_base" = some (.ref t.f_qce)
 F_qs:Fun K "check_width" "check_width" Ti t.f_qs t.d_qs
 m_qs:mg "check_width" = some (.ref t.f_qs)
 F_qci:Fun K "row_end" "row_end" Op t.f_qci t.d_qci
 m_qci:mg "row_end" = some (.ref t.f_qci)
 F_qbx:Fun K "cut_rows" "cut_rows" Of t.f_qbx t.d_qbx
 m_qbx:mg "cut_rows" = some (.ref t.f_qbx)
 F_qj:Fun K "is_number_to" "is_number_to" Sj t.f_qj t.d_qj
 m_qj:mg "is_number_to" = some (.ref t.f_qj)
 F_qba:Fun K "check_span" "check_span" Oj t.f_qba t.d_qba
 m_qba:mg "check_span" = some (.ref t.f_qba)
 F_qbn:Fun K "check_row" "check_row" On t.f_qbn t.d_qbn
 m_qbn:mg "check_row" = some (.ref t.f_qbn)
 F_qr:Fun K "base_or_own" "base_or_own" Td t.f_qr t.d_qr
 m_qr:mg "base_or_own" = some (.ref t.f_qr)
 F_qn:Fun K "level_within" "level_within" Sv t.f_qn t.d_qn
 m_qn:mg "level_within" = some (.ref t.f_qn)
 F_qcd:FunD K "nests_of" "nests_of" Ou t.f_qcd t.d_qcd t.D_nests_of [t.v_nests_of_0]
 w_nests_of_0:Vals [.int 20] [t.v_nests_of_0]
 m_qcd:mg "nests_of" = some (.ref t.f_qcd)
 F_qo:Fun K "stretch_rows" "stretch_rows" Sw t.f_qo t.d_qo
 m_qo:mg "stretch_rows" = some (.ref t.f_qo)
 F_ql:Fun K "leading_ways" "leading_ways" Sz t.f_ql t.d_ql
 m_ql:mg "leading_ways" = some (.ref t.f_ql)
 F_qbk:Fun K "mate" "Book.mate" Ol t.f_qbk t.d_qbk
 M_qbk:AcR K t.C_Book "mate" t.f_qbk
 F_qcf:Fun K "pairs_in" "pairs_in" Ot t.f_qcf t.d_qcf
 m_qcf:mg "pairs_in" = some (.ref t.f_qcf)
 F_qbo:Fun K "last_ways" "last_ways" Ow t.f_qbo t.d_qbo
 m_qbo:mg "last_ways" = some (.ref t.f_qbo)
 F_qv:Fun K "ways_filled" "ways_filled" Sh t.f_qv t.d_qv
 m_qv:mg "ways_filled" = some (.ref t.f_qv)
 F_qu:Fun K "way_of_pair" "way_of_pair" Tg t.f_qu t.d_qu
 m_qu:mg "way_of_pair" = some (.ref t.f_qu)
 F_qc:Fun K "ways_with_pairs" "ways_with_pairs" Sm t.f_qc t.d_qc
 m_qc:mg "ways_with_pairs" = some (.ref t.f_qc)
 F_qw:Fun K "ways_in_row" "ways_in_row" Tu t.f_qw t.d_qw
 m_qw:mg "ways_in_row" = some (.ref t.f_qw)
 F_qp:Fun K "way_of_level" "way_of_level" Te t.f_qp t.d_qp
 m_qp:mg "way_of_level" = some (.ref t.f_qp)
 F_qm:Fun K "level_by_way" "level_by_way" Sf t.f_qm t.d_qm
 m_qm:mg "level_by_way" = some (.ref t.f_qm)
 F_qf:Fun K "levels_in_row" "levels_in_row" Ss t.f_qf t.d_qf
 m_qf:mg "levels_in_row" = some (.ref t.f_qf)
 F_qbu:FunD K "levels_of" "levels_of" Od t.f_qbu t.d_qbu t.D_levels_of [t.v_levels_of_0,t.v_levels_of_1]
 w_levels_of_0:Vals [.non] [t.v_levels_of_0]
 w_levels_of_1:Vals [.int 20] [t.v_levels_of_1]
 m_qbu:mg "levels_of" = some (.ref t.f_qbu)
 F_qa:Fun K "with_last_blanks" "with_last_blanks" Tn t.f_qa t.d_qa
 m_qa:mg "with_last_blanks" = some (.ref t.f_qa)
 F_qd:Fun K "levels_of_rows" "levels_of_rows" Si t.f_qd t.d_qd
 m_qd:mg "levels_of_rows" = some (.ref t.f_qd)
 F_qbh:FunD K "row_levels" "row_levels" Ng t.f_qbh t.d_qbh t.D_row_levels [t.v_row_levels_0,t.v_row_levels_1]
 w_row_levels_0:Vals [.non] [t.v_row_levels_0]
 w_row_levels_1:Vals [.int 20] [t.v_row_levels_1]
 m_qbh:mg "row_levels" = some (.ref t.f_qbh)
 F_qbp:Fun K "_law_found" "_law_found" Oq t.f_qbp t.d_qbp
 m_qbp:mg "_law_found" = some (.ref t.f_qbp)
 F_qch:Fun K "_law_due" "_law_due" Oe t.f_qch t.d_qch
 m_qch:mg "_law_due" = some (.ref t.f_qch)
 F_qbt:Fun K "_law_whole" "_law_whole" Os t.f_qbt t.d_qbt
 m_qbt:mg "_law_whole" = some (.ref t.f_qbt)
 F_qck:Fun K "law" "law" Jm t.f_qck t.d_qck
 m_qck:mg "law" = some (.ref t.f_qck)
 m_Book:mg "Book" = some (.ref t.C_Book)
 cl_Book:Cls K t.C_Book
 K_Book:Mk K t.C_Book t.f_qbi
 n_Book_kinds:NoAttr K t.C_Book "kinds"
 n_Book_ranks:NoAttr K t.C_Book "ranks"
 n_Book_mates:NoAttr K t.C_Book "mates"
 n_Book_pairs:NoAttr K t.C_Book "pairs"
 n_Book_wholes:NoAttr K t.C_Book "wholes"
 z_bool:mg "bool" = none
 z_enumerate:mg "enumerate" = none
 z_int:mg "int" = none
 z_isinstance:mg "isinstance" = none
 z_len:mg "len" = none
 z_list:mg "list" = none
 z_max:mg "max" = none
 z_range:mg "range" = none
 z_reversed:mg "reversed" = none
 z_str:mg "str" = none
 z_tuple:mg "tuple" = none
 z_zip:mg "zip" = none
 g_BEGINNINGS:mg "BEGINNINGS" = some (.ref t.a_BEGINNINGS)
 q_BEGINNINGS:∀ H,SqT K H t.a_BEGINNINGS [.str "forein",.str "backin"]
 g_JOINED_KINDS:mg "JOINED_KINDS" = some (.ref t.a_JOINED_KINDS)
 q_JOINED_KINDS:∀ H,SqT K H t.a_JOINED_KINDS [.str "fore",.str "back",.str "num",.str "blank",.str "plain"]
 g_LEADING_KINDS:mg "LEADING_KINDS" = some (.ref t.a_LEADING_KINDS)
 q_LEADING_KINDS:∀ H,SqT K H t.a_LEADING_KINDS [.str "fore",.str "back",.str "num"]
 g_MOST_GOINGS:∃ u,mg "MOST_GOINGS" = some u/\RelV (.int 7) u
 g_TOLD_KINDS:mg "TOLD_KINDS" = some (.ref t.a_TOLD_KINDS)
 q_TOLD_KINDS:∀ H,SqT K H t.a_TOLD_KINDS [.str "fore",.str "back",.str "num",.str "blank",.str "mark",.str "forein",.str "backin",.str "out"]
abbrev Sg:=Int × Str × Int
def toldK:List Str:=["fore","back","num","blank","mark","forein","backin","out"]
def Wt (k:Str) (r:Int):Prop:=(k = "mark"/\1 <= r)\/(¬ k = "mark"/\r = 0)
def TripAt (H:Hp) (x:V) (s:Sg):Prop:=∃ p,x = .ref p/\H p = some (.tup [.int s.1,.str s.2.1,.int s.2.2])
def PairAt (H:Hp) (x:V) (m:Int × Int):Prop:=∃ p,x = .ref p/\H p = some (.tup [.int m.1,.int m.2])
def LAt {β α:Type} (R:Hp->β->α->Prop) (H:Hp) (xs:List β) (ys:List α):Prop:=xs.length = ys.length/\∀ (i:Nat) (x:β) (y:α),xs[i]? = some x->ys[i]? = some y->R H x y
theorem LAt.get {β α:Type} {R:Hp->β->α->Prop} {H:Hp} {xs:List β} {ys:List α} (h:LAt R H xs ys) {i:Nat} {x:β} (e:xs[i]? = some x):∃ y,ys[i]? = some y/\R H x y:=by
 have hi:i < xs.length:=(List.getElem?_eq_some_iff.mp e).1
 have hy:i < ys.length:=by rw [<- h.1]; exact hi
 exact ⟨ys[i],getElem?_eq_getElem hy,h.2 i x _ e (getElem?_eq_getElem hy)⟩
theorem LAt.mono {β α:Type} {R R':Hp->β->α->Prop} {H H':Hp} {xs:List β} {ys:List α} (h:LAt R H xs ys) (m:∀ x y,R H x y->R' H' x y):LAt R' H' xs ys:=⟨h.1,fun i x y e1 e2=>m x y (h.2 i x y e1 e2)⟩
theorem LAt.snoc {β α:Type} {R:Hp->β->α->Prop} {H:Hp} {xs:List β} {ys:List α} {x:β} {y:α} (h:LAt R H xs ys) (r:R H x y):LAt R H (xs ++ [x]) (ys ++ [y]):=by
 refine ⟨by simp [h.1],fun i u v e1 e2=>?_⟩
 by_cases hi:i < xs.length
 ·rw [getElem?_append_left hi] at e1
  rw [getElem?_append_left (by rw [<- h.1]; exact hi)] at e2
  exact h.2 i u v e1 e2
 ·rw [getElem?_append_right (by omega)] at e1
  rw [getElem?_append_right (by rw [<- h.1]; omega),<- h.1] at e2
  have hz:i - xs.length = 0:=by
   have:=(List.getElem?_eq_some_iff.mp e1).1
   simp at this; omega
  rw [hz] at e1 e2
  simp at e1 e2
  rw [<- e1,<- e2]; exact r
theorem LAt.nil {β α:Type} {R:Hp->β->α->Prop} {H:Hp}:LAt R H ([]:List β) ([]:List α):=⟨rfl,fun i x y e=>by simp at e⟩
structure Zw (s:Sg):Prop where
 nn:0 <= s.1
 kd:s.2.1 ∈ toldK
 rk:Wt s.2.1 s.2.2
def kK (signs:List Sg):List (Key × V):=signs.map fun s=>(.inl s.1,.str s.2.1)
def kR (signs:List Sg):List (Key × V):=signs.map fun s=>(.inl s.1,.int s.2.2)
def kM:List (Int × Int)->List (Key × V)
 | []=>[]
 | m :: r=>(.inl m.1,.str "open") :: (.inl m.2,.str "shut") :: kM r
def kB:List (Int × Int)->List (Key × V)
 | []=>[]
 | m :: r=>(.inl m.1,.int m.2) :: (.inl m.2,.int m.1) :: kB r
def Nb:List (Int × Int)->List Int
 | []=>[]
 | m :: r=>m.1 :: m.2 :: Nb r
theorem Yq (xs ys:List (Int × Int)):kM (xs ++ ys) = kM xs ++ kM ys:=by
 induction xs with
 | nil=>rfl
 | cons x r ih=>simp [kM,ih]
theorem Yy (xs ys:List (Int × Int)):kB (xs ++ ys) = kB xs ++ kB ys:=by
 induction xs with
 | nil=>rfl
 | cons x r ih=>simp [kB,ih]
theorem Xi (xs:List (Int × Int)):(kM xs).map (·.1) = (Nb xs).map Sum.inl:=by
 induction xs with
 | nil=>rfl
 | cons x r ih=>simp [kM,Nb,ih]
theorem Ah2 (xs:List (Int × Int)):(kB xs).map (·.1) = (Nb xs).map Sum.inl:=by
 induction xs with
 | nil=>rfl
 | cons x r ih=>simp [kB,Nb,ih]
theorem Alr (xs:List (Int × Int)):(kM xs).length = 2 * xs.length:=by
 induction xs with
 | nil=>rfl
 | cons x r ih=>simp [kM,ih]; omega
theorem Alb (xs:List (Int × Int)):(kB xs).length = 2 * xs.length:=by
 induction xs with
 | nil=>rfl
 | cons x r ih=>simp [kB,ih]; omega
theorem Lh {kvs:List (Key × V)} {n:Int} (h:¬ (Sum.inl n:Key) ∈ kvs.map (·.1)):Cv kvs (Sum.inl n) = none:=by
 cases e:Cv kvs (Sum.inl n:Key) with
 | none=>rfl
 | some v=>exact absurd (AbB e) h
theorem AaK {kvs:List (Key × V)} (nd:(kvs.map (·.1)).Nodup) {k:Key} {v:V} (h:(k,v) ∈ kvs):Cv kvs k = some v:=by
 induction kvs with
 | nil=>cases h
 | cons p r ih =>
  have nd':(p.1 :: r.map (·.1)).Nodup:=nd
  obtain ⟨h1,h2⟩:=nodup_cons.mp nd'
  rcases mem_cons.mp h with e | e
  ·subst e; exact Qt rfl
  ·have:¬ p.1 = k:=fun z=>h1 (by rw [z]; exact mem_map.mpr ⟨_,e,rfl⟩)
   rw [Qm this]; exact ih h2 e
theorem Uc {l:List Int} (h:l.Nodup):(l.map (Sum.inl:Int->Key)).Nodup:=by
 induction l with
 | nil=>exact nodup_nil
 | cons a r ih =>
  obtain ⟨h1,h2⟩:=nodup_cons.mp h
  refine nodup_cons.mpr ⟨fun m=>h1 ?_,ih h2⟩
  obtain ⟨b,hb,e⟩:=mem_map.mp m
  cases e; exact hb
theorem Gn {n:Nat} (h:n <= 1000):n < sizeLine:=Lr h
theorem Dv {α:Type} {l:List α} {i:Nat} {x:α} (h:l[i]? = some x):l.take (i + 1) = l.take i ++ [x]:=by
 obtain ⟨hi,e⟩:=List.getElem?_eq_some_iff.mp h
 rw [List.take_add_one,getElem?_eq_getElem hi,e]
 rfl
theorem Same.new {d:Addr} {H:Hp} {o:HO} (h:H d = none):Same H (upd H d o):=fun q u e=>by rw [Bl (Cb e h)]; exact e
theorem TripAt.mono {H H':Hp} {x:V} {s:Sg} (h:TripAt H x s) (k:∀ q xs,H q = some (.tup xs)->H' q = some (.tup xs)):TripAt H' x s:=by
 obtain ⟨p,e,hp⟩:=h
 exact ⟨p,e,k p _ hp⟩
theorem PairAt.mono {H H':Hp} {x:V} {s:Int × Int} (h:PairAt H x s) (k:∀ q xs,H q = some (.tup xs)->H' q = some (.tup xs)):PairAt H' x s:=by
 obtain ⟨p,e,hp⟩:=h
 exact ⟨p,e,k p _ hp⟩
theorem Cg {CX:CXT} {P:Program} {w:World} {K:Frag} {mg:Str->Option Value} {base:Heap} {N:List Str} {qual:Str} {sc:Scope} {f:Addr} {cd:Value} {A:Around} {outer:List Env} {s:Shared} {H:Hp} {E:XK}:(Uf CX P w K mg base N qual sc f cd A outer s H E).K = K:=rfl
section
variable {σ:St} {H:Hp} {Q:VK} {K:Frag} {a d:Addr} {n:Int}
theorem Ab2 {A B:Prop} (h:B):if (!true) = true then A else B:=Jo h
theorem Acu {A B:Prop} (h:A):if (!false) = true then A else B:=Ji h
theorem Afz {P:Bool->Prop} (q:P true):∃ x m t b,[V.int n,V.ty "int"] = [x,V.ty m]/\Fw K H x t/\kitOne K t (.type m) = some b/\P b:=⟨_,_,_,_,rfl,.int n,Aa8,q⟩
theorem Adl {P:Bool->Prop} (q:P false):∃ x m t b,[V.int n,V.ty "bool"] = [x,V.ty m]/\Fw K H x t/\kitOne K t (.type m) = some b/\P b:=⟨_,_,_,_,rfl,.int n,Aas,q⟩
theorem AfN {z:Str} {P:Bool->Prop} (q:P true):∃ x m t b,[V.str z,V.ty "str"] = [x,V.ty m]/\Fw K H x t/\kitOne K t (.type m) = some b/\P b:=⟨_,_,_,_,rfl,.str z,Abb,q⟩
theorem Ajt {xs:List V} (h:H a = some (.lst xs)) {P:Bool->Prop} (q:P true):∃ x m t b,[V.ref a,V.ty "list"] = [x,V.ty m]/\Fw K H x t/\kitOne K t (.type m) = some b/\P b:=⟨_,_,_,_,rfl,.lst h,Zh,q⟩
theorem Ang {xs:List V} (h:H a = some (.tup xs)) {P:Bool->Prop} (q:P true):∃ x m t b,[V.ref a,V.ty "tuple"] = [x,V.ty m]/\Fw K H x t/\kitOne K t (.type m) = some b/\P b:=⟨_,_,_,_,rfl,.tup h,Abc,q⟩
theorem AeI {xs:List V} (h:SqL K H a xs) {P:List V->Prop} (q:P xs):∃ p ys,[V.ref a] = [V.ref p]/\(SqL K H p ys\/SqT K H p ys)/\P ys:=⟨a,xs,rfl,.inl h,q⟩
theorem AjR {xs:List V} (h:H a = some (.tup xs)) {P:List V->Prop} (q:P xs):∃ p ys,[V.ref a] = [V.ref p]/\(SqL K H p ys\/SqT K H p ys)/\P ys:=⟨a,xs,rfl,.inr (SqT.of h),q⟩
theorem Amt {kvs:List (Key × V)} (h:H d = some (.dK kvs)) {P:Option V->Prop} (q:P (Cv kvs (.inl n))):∃ a o,V.ref d = V.ref a/\DGet H a (.int n) o/\P o:=⟨d,_,rfl,DGet.k (k:=Sum.inl n) h,q⟩
theorem AdQ {kvs:List (Key × V)} {v:V} {R:Hp->Prop} (h:H d = some (.dK kvs)) (q:R (upd H d (.dK (Gs kvs (.inl n) v)))) (hl:kvs.length < sizeLine):∃ a H4,V.ref d = V.ref a/\DPut H a (.int n) v H4/\R H4:=⟨d,_,rfl,DPut.k (k:=Sum.inl n) h hl,q⟩
theorem Amo {kvs:List (Key × V)} {P:Addr->Prop} (h:H d = some (.dK kvs)) (q:P d):∃ a,V.ref d = V.ref a/\IsD H a/\P a:=⟨d,rfl,.inl ⟨_,.inl h⟩,q⟩
theorem AlU {kvs:List (Key × V)} {P:Option V->Prop} (h:H d = some (.dK kvs)) (q:P (Cv kvs (.inl n))):∃ o,DGet H d (.int n) o/\P o:=⟨_,DGet.k (k:=Sum.inl n) h,q⟩
theorem Al4 {P:Prop} {xs:List V} (h:H a = some (.lst xs)) (q:P):tyV K "list" (.ref a) H/\P:=⟨.inl ⟨rfl,_,SqL.of h⟩,q⟩
theorem Zz {xs:List V} {i:Int} {v:V} (h:SqL K H a xs) (q:Q v H) (hv:atI xs i = some v):Aat K (.ref a) (.int i) H Q:=⟨a,xs,i,v,rfl,rfl,h,hv,q⟩
theorem AgX {xs:List V} {i:Int} {v:V} (h:H a = some (.tup xs)) (q:Q v H) (hv:atI xs i = some v):Xo K (.ref a) (.int i) H Q:=⟨a,xs,i,v,rfl,rfl,SqT.of h,hv,q⟩
end
section
variable {S:List Sg} {M:List (Int × Int)} {s:Sg} {m:Int × Int} {n:Int}
end
abbrev Jn:=Int × Int × Int
def joinedK:List Str:=["fore","back","num","blank","plain"]
def TrjAt (H:Hp) (x:V) (j:Jn):Prop:=∃ p,x = .ref p/\H p = some (.tup [.int j.1,.int j.2.1,.int j.2.2])
def KvAt (H:Hp) (kv:Key × V) (j:Jn):Prop:=kv.1 = Sum.inl j.1/\∃ p,kv.2 = .ref p/\H p = some (.tup [.int j.2.1,.int j.2.2])
theorem TrjAt.mono {H H':Hp} {x:V} {j:Jn} (h:TrjAt H x j) (k:∀ q xs,H q = some (.tup xs)->H' q = some (.tup xs)):TrjAt H' x j:=by
 obtain ⟨p,e,hp⟩:=h
 exact ⟨p,e,k p _ hp⟩
theorem KvAt.mono {H H':Hp} {x:Key × V} {j:Jn} (h:KvAt H x j) (k:∀ q xs,H q = some (.tup xs)->H' q = some (.tup xs)):KvAt H' x j:=by
 obtain ⟨e1,p,e,hp⟩:=h
 exact ⟨e1,p,e,k p _ hp⟩
theorem LAt.tripS {H H':Hp} {xs:List V} {S:List Sg} (h:LAt TripAt H xs S) (s:Same H H'):LAt TripAt H' xs S:=h.mono fun _ _ z=>z.mono fun _ _ e=>s _ _ e
theorem LAt.pairS {H H':Hp} {xs:List V} {S:List (Int × Int)} (h:LAt PairAt H xs S) (s:Same H H'):LAt PairAt H' xs S:=h.mono fun _ _ z=>z.mono fun _ _ e=>s _ _ e
theorem LAt.trjS {H H':Hp} {xs:List V} {S:List Jn} (h:LAt TrjAt H xs S) (s:Same H H'):LAt TrjAt H' xs S:=h.mono fun _ _ z=>z.mono fun _ _ e=>s _ _ e
theorem LAt.kvS {H H':Hp} {xs:List (Key × V)} {S:List Jn} (h:LAt KvAt H xs S) (s:Same H H'):LAt KvAt H' xs S:=h.mono fun _ _ z=>z.mono fun _ _ e=>s _ _ e
theorem LAt.take {β α:Type} {R:Hp->β->α->Prop} {H:Hp} {xs:List β} {ys:List α} (h:LAt R H xs ys) (n:Nat):LAt R H (xs.take n) (ys.take n) :=
 ⟨by rw [length_take,length_take,h.1],fun i x y e1 e2=>by
  rw [getElem?_take] at e1 e2
  split at e1
  ·rename_i hi
   rw [if_pos hi] at e2
   exact h.2 i x y e1 e2
  ·cases e1⟩
theorem LAt.drop {β α:Type} {R:Hp->β->α->Prop} {H:Hp} {xs:List β} {ys:List α} (h:LAt R H xs ys) (n:Nat):LAt R H (xs.drop n) (ys.drop n) :=
 ⟨by rw [length_drop,length_drop,h.1],fun i x y e1 e2=>by
  rw [List.getElem?_drop] at e1 e2
  exact h.2 _ x y e1 e2⟩
theorem LAt.append {β α:Type} {R:Hp->β->α->Prop} {H:Hp} {xs xs':List β} {ys ys':List α} (h:LAt R H xs ys) (h':LAt R H xs' ys'):LAt R H (xs ++ xs') (ys ++ ys') :=
 ⟨by rw [length_append,length_append,h.1,h'.1],fun i x y e1 e2=>by
  by_cases hi:i < xs.length
  ·rw [getElem?_append_left hi] at e1
   rw [getElem?_append_left (by rw [<- h.1]; exact hi)] at e2
   exact h.2 i x y e1 e2
  ·rw [getElem?_append_right (by omega)] at e1
   rw [getElem?_append_right (by rw [<- h.1]; omega),<- h.1] at e2
   exact h'.2 _ x y e1 e2⟩
theorem LAt.uncons {β α:Type} {R:Hp->β->α->Prop} {H:Hp} {x:β} {xs:List β} {y:α} {ys:List α} (h:LAt R H (x :: xs) (y :: ys)):R H x y/\LAt R H xs ys :=
 ⟨h.2 0 x y rfl rfl,by simpa using h.1,fun i u v e1 e2=>h.2 (i + 1) u v e1 e2⟩
def Fu:List Jn->Int->Option (Int × Int)
 | [],_=>none
 | j :: r,n=>if j.1 = n then some j.2 else Fu r n
def Jt (J:List Jn) (n:Int):Int:=match Fu J n with | some m=>m.1 | none=>n
def jGo (J:List Jn):Nat->Int->Int
 | 0,n=>n
 | k + 1,n=>Jt J (jGo J k n)
theorem AcJ {J:List Jn} {n:Int} {m:Int × Int} (h:Fu J n = some m):(n,m) ∈ J:=by
 induction J with
 | nil=>cases h
 | cons x r ih =>
  unfold Fu at h
  split at h
  ·rename_i e
   cases h
   rw [<- e]; exact mem_cons_self
  ·exact mem_cons_of_mem _ (ih h)
theorem Aaj {H:Hp} {kvs:List (Key × V)} {J:List Jn} (h:LAt KvAt H kvs J) (n:Int) :
  (Fu J n = none/\Cv kvs (Sum.inl n) = none)\/∃ m p,Fu J n = some m/\Cv kvs (Sum.inl n) = some (.ref p)/\H p = some (.tup [.int m.1,.int m.2]):=by
 induction kvs generalizing J with
 | nil =>
  cases J with
  | nil=>exact .inl ⟨rfl,rfl⟩
  | cons j r=>have:=h.1; simp at this
 | cons kv ks ih =>
  cases J with
  | nil=>have:=h.1; simp at this
  | cons j r =>
   obtain ⟨⟨h1,p,e,hp⟩,h3⟩:=h.uncons
   unfold Fu
   by_cases z:j.1 = n
   ·rw [if_pos z]
    exact .inr ⟨j.2,p,rfl,by rw [Qt (by rw [h1,z]),e],hp⟩
   ·rw [if_neg z,Qm (by rw [h1]; intro w; exact z (Sum.inl.inj w))]
    exact ih h3
def kW (J:List Jn):List (List Key × V):=J.map fun j=>([Sum.inl j.2.1,Sum.inl j.2.2],V.int j.1)
theorem Ane {J:List Jn} {a b:Int} (h:¬ (a,b) ∈ J.map (·.2)):Cv (kW J) [Sum.inl a,Sum.inl b] = none:=by
 cases e:Cv (kW J) ([Sum.inl a,Sum.inl b]:List Key) with
 | none=>rfl
 | some v =>
  have:=AbB e
  unfold kW at this
  rw [map_map] at this
  obtain ⟨j,hj,z⟩:=mem_map.mp this
  have z':([Sum.inl j.2.1,Sum.inl j.2.2]:List Key) = [Sum.inl a,Sum.inl b]:=z
  injection z' with z1 z2
  injection z2 with z3 z4
  exact absurd (mem_map.mpr ⟨j,hj,Prod.ext (Sum.inl.inj z1) (Sum.inl.inj z3)⟩) h
def knd (kk:List (Key × V)) (n:Int):V:=(Cv kk (Sum.inl n)).getD (.str "plain")
structure Acf (kk:List (Key × V)) (J:List Jn):Prop where
 nn:∀ j ∈ J,0 <= j.1/\0 <= j.2.1/\0 <= j.2.2
 mr:∀ j ∈ J,knd kk j.2.2 = .str "mark"
 kd:∀ j ∈ J,∃ k ∈ joinedK,knd kk j.1 = .str k/\knd kk j.2.1 = .str k
 nw:(J.map (·.1)).Nodup
 np:(J.map (·.2)).Nodup
 en:∀ j ∈ J,Fu J (jGo J 7 j.1) = none
 ln:J.length <= 400
theorem Ak2 {c A B:Prop} [Decidable c] (hc:c) (h:A):if decide c = true then A else B:=by
 rw [if_pos (decide_eq_true hc)]; exact h
theorem AfJ {H:Hp} {a:Addr} {u o:HO} (h:H a = some u):upd (upd H a o) a u = H:=by
 rw [Fy]; funext b; unfold upd; split
 ·rename_i e; rw [e,h]
 ·rfl
theorem AkC {H:Hp} {a:Addr} {u:HO} {o:Obj}:Rd (upd H a (.frz o u)) a u:=.inr ⟨o,Bt⟩
theorem AbY {α:Type} {l:List α} {i:Nat} {x:α} (nd:l.Nodup) (h:l[i]? = some x):¬ x ∈ l.take i:=by
 obtain ⟨hi,e⟩:=List.getElem?_eq_some_iff.mp h
 rw [<- take_append_drop i l,drop_eq_getElem_cons hi,e] at nd
 intro m
 exact (nodup_append.mp nd).2.2 _ m _ mem_cons_self rfl
theorem Ug {α β:Type} {l:List α} {f:α->β} {i:Nat} {x:α} (nd:(l.map f).Nodup) (h:l[i]? = some x):¬ f x ∈ (l.take i).map f:=by
 rw [map_take]
 exact AbY nd (by rw [getElem?_map,h]; rfl)
def bkF (dk dr dm dp dw:Addr):List (Str × V):=Ce "wholes" (.ref dw) (Ce "pairs" (.ref dp) (Ce "mates" (.ref dm) (Ce "ranks" (.ref dr) (Ce "kinds" (.ref dk) []))))
theorem AeK {dk dr dm dp dw:Addr}:(bkF dk dr dm dp dw).lookup ("kinds" : Str) = some (.ref dk):=by
 unfold bkF
 rw [Da,if_neg (by decide +kernel),Da,if_neg (by decide +kernel),Da,if_neg (by decide +kernel),Da,if_neg (by decide +kernel),Da,if_pos rfl]
theorem Aeh {dk dr dm dp dw:Addr}:(bkF dk dr dm dp dw).lookup ("mates" : Str) = some (.ref dm):=by
 unfold bkF
 rw [Da,if_neg (by decide +kernel),Da,if_neg (by decide +kernel),Da,if_pos rfl]
theorem AeM {dk dr dm dp dw:Addr} {m:Str} (h1:¬ m = "wholes") (h2:¬ m = "pairs") (h3:¬ m = "mates") (h4:¬ m = "ranks") (h5:¬ m = "kinds"):(bkF dk dr dm dp dw).lookup m = none:=by
 unfold bkF
 rw [Da,if_neg h1,Da,if_neg h2,Da,if_neg h3,Da,if_neg h4,Da,if_neg h5]
 rfl
theorem AaV {dk dr dm dp dw:Addr}:(bkF dk dr dm dp dw).lookup ("kind" : Str) = none:=AeM (by decide +kernel) (by decide +kernel) (by decide +kernel) (by decide +kernel) (by decide +kernel)
theorem Aae {dk dr dm dp dw:Addr}:(bkF dk dr dm dp dw).lookup ("mate" : Str) = none:=AeM (by decide +kernel) (by decide +kernel) (by decide +kernel) (by decide +kernel) (by decide +kernel)
def BookAt (C:Addr) (H:Hp) (b:Addr) (k r m p:List (Key × V)) (w:List (List Key × V)):Prop :=
 ∃ dx dk dr dm dp dw,H b = some (.ins C dx (bkF dk dr dm dp dw))/\H dk = some (.dK k)/\H dr = some (.dK r)/\H dm = some (.dK m)/\H dp = some (.dK p)/\H dw = some (.dT w)
theorem BookAt.mono {C:Addr} {H H':Hp} {b:Addr} {k r m p:List (Key × V)} {w:List (List Key × V)} (h:BookAt C H b k r m p w) (s:∀ q o,H q = some o->(∀ xs,o ≠ .lst xs)->H' q = some o):BookAt C H' b k r m p w:=by
 obtain ⟨dx,dk,dr,dm,dp,dw,h1,h2,h3,h4,h5,h6⟩:=h
 exact ⟨dx,dk,dr,dm,dp,dw,s _ _ h1 (fun _ z=>nomatch z),s _ _ h2 (fun _ z=>nomatch z),s _ _ h3 (fun _ z=>nomatch z),s _ _ h4 (fun _ z=>nomatch z),s _ _ h5 (fun _ z=>nomatch z),s _ _ h6 (fun _ z=>nomatch z)⟩
theorem AaF {C b:Addr} {H:Hp} {k r m p:List (Key × V)} {w:List (List Key × V)} {nm:Str} {P:Prop} (h:BookAt C H b k r m p w) (hm:∀ {dk dr dm dp dw:Addr},(bkF dk dr dm dp dw).lookup nm = none) (q:P) :
  ∃ a dx fs,V.ref b = V.ref a/\H a = some (.ins C dx fs)/\fs.lookup nm = none/\P:=by
 obtain ⟨dx,dk,dr,dm,dp,dw,h1,_⟩:=h
 exact ⟨b,dx,_,rfl,h1,hm,q⟩
def Keep (p:Addr) (H H':Hp):Prop:=∀ q o,H q = some o->q ≠ p->H' q = some o
theorem Keep.trans {p:Addr} {H H1 H2:Hp} (a:Keep p H H1) (b:Keep p H1 H2):Keep p H H2:=fun q o h n=>b q o (a q o h n) n
theorem Keep.new {p d:Addr} {H:Hp} {o:HO} (h:H d = none):Keep p H (upd H d o):=fun q u e _=>by rw [Bl (Cb e h)]; exact e
theorem Keep.put {p:Addr} {H:Hp} {o:HO}:Keep p H (upd H p o):=fun q u e n=>by rw [Bl n]; exact e
theorem Keep.free {p:Addr} {H H':Hp} {o:HO} (k:Keep p H H') (hp:H' p = some o) {d:Addr} (h:H' d = none):H d = none:=by
 cases e:H d with
 | none=>rfl
 | some u =>
  by_cases z:d = p
  ·subst z; rw [hp] at h; cases h
  ·rw [k _ _ e z] at h; cases h
def Abj (C:Addr):Sp:=fun vs H Q _=>∃ p dx a b cc xs ys zs signs mates J,vs = [.ref p,.ref a,.ref b,.ref cc]/\H p = some (.ins C dx [])/\H a = some (.lst xs)/\H b = some (.lst ys)/\H cc = some (.lst zs)/\LAt TripAt H xs signs/\LAt PairAt H ys mates/\LAt TrjAt H zs J /\
 (∀ s ∈ signs,Zw s)/\(∀ m ∈ mates,0 <= m.1/\0 <= m.2)/\(signs.map (·.1) ++ Nb mates).Nodup/\Acf (kK signs ++ kM mates) J/\signs.length + 2 * mates.length <= 400 /\
 ∀ H' kvs dx dk dr dm dp dw,Keep p H H'->H dk = none->H dr = none->H dm = none->H dp = none->H dw = none->H' p = some (.ins C dx (bkF dk dr dm dp dw))->H' dk = some (.dK (kK signs ++ kM mates))->H' dr = some (.dK (kR signs))->H' dm = some (.dK (kB mates))->H' dp = some (.dK kvs)->H' dw = some (.dT (kW J))->LAt KvAt H' kvs J->Q .non H'
def Xs (C:Addr):Sp:=fun vs H Q _=>∃ b n k r m p w,vs = [.ref b,.int n]/\BookAt C H b k r m p w/\Q ((Cv k (Sum.inl n)).getD (.str "plain")) H
theorem Adb {C b:Addr} {n:Int} {k r m p:List (Key × V)} {w:List (List Key × V)} {H:Hp} {Q:VK} {E:XK} (h:BookAt C H b k r m p w) (q:Q ((Cv k (Sum.inl n)).getD (.str "plain")) H):Xs C [.ref b,.int n] H Q E:=⟨b,n,k,r,m,p,w,rfl,h,q⟩
def Abz (C:Addr):Sp:=fun vs H Q _=>∃ b n k r m p w,vs = [.ref b,.int n]/\BookAt C H b k r m p w/\Q ((Cv m (Sum.inl n)).getD .non) H
inductive PV where
 | non | bl (b:Bool) | int (i:Int) | str (x:Str)
 | lst (xs:List PV) | tup (xs:List PV) | ctp (xs:List PV)
 | dk (kvs:List (Key × PV)) | dt (kvs:List (List Key × PV))
 | bk (S:List Sg) (M:List (Int × Int)) (J:List Jn)
 | scr (ns:List Int)
 | exc (c:Addr) | cls (c:Addr) | ty (n:String)
inductive Rep (K:Frag) (C:Addr) (G:Hp):V->PV->Prop where
 | non:Rep K C G .non .non
 | bl (b:Bool):Rep K C G (.bl b) (.bl b)
 | int (i:Int):Rep K C G (.int i) (.int i)
 | str (x:Str):Rep K C G (.str x) (.str x)
 | lst {a:Addr} {vs:List V} {ps:List PV} (e:G a = some (.lst vs)) (l:vs.length = ps.length) (h:∀ (i:Nat) (v:V) (p:PV),vs[i]? = some v->ps[i]? = some p->Rep K C G v p):Rep K C G (.ref a) (.lst ps)
 | tup {a:Addr} {vs:List V} {ps:List PV} (e:G a = some (.tup vs)) (l:vs.length = ps.length) (h:∀ (i:Nat) (v:V) (p:PV),vs[i]? = some v->ps[i]? = some p->Rep K C G v p):Rep K C G (.ref a) (.tup ps)
 | ctp {a:Addr} {vs:List V} {ps:List PV} (e:∀ H,SqT K H a vs) (l:vs.length = ps.length) (h:∀ (i:Nat) (v:V) (p:PV),vs[i]? = some v->ps[i]? = some p->Rep K C G v p):Rep K C G (.ref a) (.ctp ps)
 | dk {a:Addr} {kvs:List (Key × V)} {ps:List (Key × PV)} (e:G a = some (.dK kvs)) (l:kvs.length = ps.length) (hk:∀ (i:Nat) (v:Key × V) (p:Key × PV),kvs[i]? = some v->ps[i]? = some p->v.1 = p.1)
   (h:∀ (i:Nat) (v:Key × V) (p:Key × PV),kvs[i]? = some v->ps[i]? = some p->Rep K C G v.2 p.2):Rep K C G (.ref a) (.dk ps)
 | dt {a:Addr} {kvs:List (List Key × V)} {ps:List (List Key × PV)} (e:G a = some (.dT kvs)) (l:kvs.length = ps.length) (hk:∀ (i:Nat) (v:List Key × V) (p:List Key × PV),kvs[i]? = some v->ps[i]? = some p->v.1 = p.1)
   (h:∀ (i:Nat) (v:List Key × V) (p:List Key × PV),kvs[i]? = some v->ps[i]? = some p->Rep K C G v.2 p.2):Rep K C G (.ref a) (.dt ps)
 | bk {b:Addr} {S:List Sg} {M:List (Int × Int)} {J:List Jn} {kvs:List (Key × V)} (h:BookAt C G b (kK S ++ kM M) (kR S) (kB M) kvs (kW J)) (l:LAt KvAt G kvs J):Rep K C G (.ref b) (.bk S M J)
 | scr {a:Addr} {ns:List Int} (h:SqL K G a (ns.map V.int)):Rep K C G (.ref a) (.scr ns)
 | exc {a c:Addr} (e:G a = some (.ext (AnI a c))):Rep K C G (.ref a) (.exc c)
 | cls {c:Addr}:Rep K C G (.ref c) (.cls c)
 | ty {n:String}:Rep K C G (.ty n) (.ty n)
section
variable {K:Frag} {C:Addr} {ω:Om} {G G' H H':Hp} {v:V} {p:PV} {a:Addr}
theorem Rep.mono (h:Rep K C G v p) (s:Same G G'):Rep K C G' v p:=by
 induction h with
 | non=>exact .non
 | bl b=>exact .bl b
 | int i=>exact .int i
 | str x=>exact .str x
 | lst e l _ ih=>exact .lst (s _ _ e) l ih
 | tup e l _ ih=>exact .tup (s _ _ e) l ih
 | ctp e l _ ih=>exact .ctp e l ih
 | dk e l hk _ ih=>exact .dk (s _ _ e) l hk ih
 | dt e l hk _ ih=>exact .dt (s _ _ e) l hk ih
 | bk h l=>exact .bk (h.mono fun _ _ e _=>s _ _ e) (l.kvS s)
 | scr h=>exact .scr (s.seq h)
 | exc e=>exact .exc (s _ _ e)
 | cls=>exact .cls
 | ty=>exact .ty
def KRep {κ:Type} (K:Frag) (C:Addr) (G:Hp) (v:κ × V) (p:κ × PV):Prop:=v.1 = p.1/\Rep K C G v.2 p.2
theorem KRep.mono {κ:Type} {v:κ × V} {p:κ × PV} (h:KRep K C G v p) (s:Same G G'):KRep K C G' v p:=⟨h.1,h.2.mono s⟩
abbrev Reps (K:Frag) (C:Addr) (G:Hp) (vs:List V) (ps:List PV):Prop:=LAt (Rep K C) G vs ps
theorem Reps.mono {vs:List V} {ps:List PV} (h:Reps K C G vs ps) (s:Same G G'):Reps K C G' vs ps:=LAt.mono h fun _ _ z=>z.mono s
theorem KReps.mono {κ:Type} {vs:List (κ × V)} {ps:List (κ × PV)} (h:LAt (KRep K C) G vs ps) (s:Same G G'):LAt (KRep K C) G' vs ps:=LAt.mono h fun _ _ z=>z.mono s
theorem Rep.ofL {vs:List V} {ps:List PV} (e:G a = some (.lst vs)) (h:Reps K C G vs ps):Rep K C G (.ref a) (.lst ps):=.lst e h.1 h.2
theorem Rep.ofT {vs:List V} {ps:List PV} (e:G a = some (.tup vs)) (h:Reps K C G vs ps):Rep K C G (.ref a) (.tup ps):=.tup e h.1 h.2
theorem Rep.ofD {vs:List (Key × V)} {ps:List (Key × PV)} (e:G a = some (.dK vs)) (h:LAt (KRep K C) G vs ps):Rep K C G (.ref a) (.dk ps):=.dk e h.1 (fun i v p h1 h2=>(h.2 i v p h1 h2).1) (fun i v p h1 h2=>(h.2 i v p h1 h2).2)
theorem Rep.ofDt {vs:List (List Key × V)} {ps:List (List Key × PV)} (e:G a = some (.dT vs)) (h:LAt (KRep K C) G vs ps):Rep K C G (.ref a) (.dt ps):=.dt e h.1 (fun i v p h1 h2=>(h.2 i v p h1 h2).1) (fun i v p h1 h2=>(h.2 i v p h1 h2).2)
def Sr (o:HO):Prop:=∀ xs,o ≠ .tup xs
def OwnA (K:Frag) (C:Addr) (G H:Hp) (a:Addr):PV->Prop
 | .lst ps=>∃ vs,H a = some (.lst vs)/\Reps K C G vs ps
 | .dk ps=>∃ kvs,H a = some (.dK kvs)/\LAt (KRep K C) G kvs ps
 | .dt ps=>∃ kvs,H a = some (.dT kvs)/\LAt (KRep K C) G kvs ps
 | _=>False
theorem OwnA.ofL {vs:List V} {ps:List PV} (e:H a = some (.lst vs)) (r:Reps K C G vs ps):OwnA K C G H a (.lst ps):=⟨vs,e,r⟩
theorem OwnA.ofD {vs:List (Key × V)} {ps:List (Key × PV)} (e:H a = some (.dK vs)) (r:LAt (KRep K C) G vs ps):OwnA K C G H a (.dk ps):=⟨vs,e,r⟩
theorem OwnA.here (h:OwnA K C G H a p):H a ≠ none:=by
 cases p <;> first | exact h.elim | (obtain ⟨_,e,_⟩:=h; rw [e]; exact fun z=>nomatch z)
theorem OwnA.thing (h:OwnA K C G H a p):∃ o,H a = some o/\Sr o:=by
 cases p <;> first | exact h.elim | (obtain ⟨_,e,_⟩:=h; exact ⟨_,e,fun _ z=>nomatch z⟩)
theorem OwnA.mono (h:OwnA K C G H a p) (s:Same G G') (e:H' a = H a):OwnA K C G' H' a p:=by
 cases p <;> first | exact h.elim | (obtain ⟨vs,e1,l⟩:=h; exact ⟨vs,by rw [e]; exact e1,l.mono s⟩) | (obtain ⟨vs,e1,l⟩:=h; exact ⟨vs,by rw [e]; exact e1,KReps.mono l s⟩)
def RepB (K:Frag) (C:Addr) (G H:Hp) (v:V) (p:PV):Prop:=Rep K C G v p\/∃ a,v = .ref a/\OwnA K C G H a p
structure Grow (G H G' H':Hp):Prop where
 g:Same G G'
 h:Same H H'
 i:Same G' H'
 n:∀ a o,H a = some o->Sr o->G a = none->G' a = none
theorem Grow.refl (s:Same G H):Grow G H G H:=⟨Same.refl _,Same.refl _,s,fun _ _ _ _ h=>h⟩
theorem _root_.L2.Same.eq (s:Same H H') {a:Addr} (h:H a ≠ none):H' a = H a:=by
 cases e:H a with
 | none=>exact absurd e h
 | some o=>exact s _ _ e
theorem Grow.trans {G1 H1:Hp} (x:Grow G H G1 H1) (y:Grow G1 H1 G' H'):Grow G H G' H':=⟨x.g.trans y.g,x.h.trans y.h,y.i,fun a o h1 t h2=>y.n a o (x.h _ _ h1) t (x.n a o h1 t h2)⟩
theorem RepB.grow (h:RepB K C G H v p) (w:Grow G H G' H'):RepB K C G' H' v p:=by
 rcases h with h | ⟨a,e,h⟩
 ·exact .inl (h.mono w.g)
 ·exact .inr ⟨a,e,h.mono w.g (w.h.eq h.here)⟩
theorem Grow.put {o:HO} (s:Same G H) (n:H a = none) (s2:Same H H') (e:H' a = some o):Grow G H (upd G a o) H':=by
 have gn:G a = none:=s.free n
 refine ⟨Same.new gn,s2,fun b u h=>?_,fun b u h1 _ h2=>?_⟩
 ·by_cases z:b = a
  ·subst z; rw [Bt] at h; rw [e]; exact h
  ·rw [Bl z] at h; exact s2 _ _ (s _ _ h)
 ·rw [Bl (by intro z; subst z; rw [n] at h1; cases h1)]; exact h2
theorem Grow.own (s:Same G H) (s2:Same H H'):Grow G H G H':=⟨Same.refl _,s2,s.trans s2,fun _ _ _ _ h=>h⟩
end
inductive Sl where
 | un | sh (p:PV) | bo (p:PV) | ow (p:PV) | fz (z:Addr × Obj × List (Key × V)) (kvs:List (Key × PV)) | bz (kvs:List (Key × PV)) | fl (z:Addr × List V) (ps:List PV) | om (a:Addr) (p:PV)
abbrev Bp:=List Sl
def SlOk (K:Frag) (C:Addr) (G0 H0:Hp) (own:Nat->Option Addr) (G:Hp) (σ:St) (H:Hp) (i:Nat):Sl->Prop
 | .un=>True
 | .sh p=>∃ v,σ[i]? = some (some v)/\Rep K C G v p
 | .bo p=>∃ v,σ[i]? = some (some v)/\RepB K C G0 H0 v p
 | .ow p=>∃ a,σ[i]? = some (some (.ref a))/\own i = some a/\OwnA K C G H a p
 | .fz z kvs=>σ[i]? = some (some (.ref z.1))/\own i = some z.1/\H z.1 = some (.frz z.2.1 (.dK z.2.2))/\LAt (KRep K C) G z.2.2 kvs
 | .bz kvs=>∃ a o vs,σ[i]? = some (some (.ref a))/\H0 a = some (.frz o (.dK vs))/\LAt (KRep K C) G vs kvs
 | .fl z ps=>σ[i]? = some (some (.ref z.1))/\own i = some z.1/\H z.1 = some (.lst z.2)/\Reps K C G z.2 ps
 | .om a p=>σ[i]? = some (some (.ref a))/\own i = some a/\OwnA K C G H a p
structure Om where
 E:XK
 X:Nat->Prop
 ca:Nat->Addr
def Om.no:Om:=⟨fun _ _ _=>False,fun _=>False,fun _=>0⟩
structure Sat (K:Frag) (C:Addr) (ω:Om) (B G0 H0:Hp) (own:Nat->Option Addr) (G:Hp) (σ:St) (H:Hp) (ρ:Bp):Prop where
 kb:Same B G
 gr:Grow G0 H0 G H
 len:σ.length = ρ.length
 inj:∀ i j a,own i = some a->own j = some a->i = j
 fr:∀ i a,own i = some a->H0 a = none/\G a = none/\∃ o,H a = some o/\Sr o
 sl:∀ i s,ρ[i]? = some s->SlOk K C G0 H0 own G σ H i s
 ex:∀ x H',Same H0 H'->ω.X x->ω.E (.ref (ω.ca x)) none H'
abbrev UE:=Bp->(PV->Prop)->Prop
abbrev UT:=Bp->(Bool->Prop)->Prop
abbrev UA:=Bp->(List PV->Prop)->Prop
structure Ft where
 nx:Bp->Prop
 rt:PV->Prop
 bk:Bp->Prop
 ct:Bp->Prop
abbrev US:=Ft->Bp->Prop
section
variable (K:Frag) (C:Addr) (ω:Om)
def EB (t:TE) (u:UE):Prop:=∀ (B G0 H0:Hp) (own:Nat->Option Addr) (G:Hp) (σ:St) (H:Hp) (ρ:Bp) (P:PV->Prop) (Q:VK),Sat K C ω B G0 H0 own G σ H ρ->u ρ P->(∀ v p G' H',Grow G H G' H'->RepB K C G' H' v p->P p->Q v H')->t σ H Q
def EU (t:TE) (u:UE):Prop:=∀ (B G0 H0:Hp) (own:Nat->Option Addr) (G:Hp) (σ:St) (H:Hp) (ρ:Bp) (P:PV->Prop) (Q:VK),Sat K C ω B G0 H0 own G σ H ρ->u ρ P->(∀ v p G' H',Grow G H G' H'->Rep K C G' v p->P p->Q v H')->t σ H Q
def EF (t:TE) (u:UE):Prop:=∀ (B G0 H0:Hp) (own:Nat->Option Addr) (G:Hp) (σ:St) (H:Hp) (ρ:Bp) (P:PV->Prop) (Q:VK),Sat K C ω B G0 H0 own G σ H ρ->u ρ P->(∀ a p G' H',Grow G H G' H'->H a = none->G' a = none->OwnA K C G' H' a p->P p->Q (.ref a) H')->t σ H Q
def TU (t:TT) (u:UT):Prop:=∀ (B G0 H0:Hp) (own:Nat->Option Addr) (G:Hp) (σ:St) (H:Hp) (ρ:Bp) (P:Bool->Prop) (Q:Bool->Hp->Prop),Sat K C ω B G0 H0 own G σ H ρ->u ρ P->(∀ b G' H',Grow G H G' H'->P b->Q b H')->t σ H Q
def ArgsOk (G H:Hp):List Bool->List V->List PV->Prop
 | [],[],[]=>True
 | true :: ms,v :: vs,p :: ps=>Rep K C G v p/\ArgsOk G H ms vs ps
 | false :: ms,v :: vs,p :: ps=>RepB K C G H v p/\ArgsOk G H ms vs ps
 | _,_,_=>False
def AU (ms:List Bool) (t:TA) (u:UA):Prop:=∀ (B G0 H0:Hp) (own:Nat->Option Addr) (G:Hp) (σ:St) (H:Hp) (ρ:Bp) (P:List PV->Prop) (Q:List V->Hp->Prop),Sat K C ω B G0 H0 own G σ H ρ->u ρ P->(∀ vs ps G' H',Grow G H G' H'->ArgsOk K C G' H' ms vs ps->P ps->Q vs H')->t σ H Q
inductive Rm where
 | sh | fr | mu (a:Addr)
def ROk (rm:Rm) (H0 G H:Hp) (v:V) (p:PV):Prop:=match rm with
 | .sh=>Rep K C G v p
 | .fr=>∃ a,v = .ref a/\H0 a = none/\G a = none/\OwnA K C G H a p
 | .mu b=>∃ p1 p2 a,p = .tup [p1,p2]/\v = .ref a/\H0 a = none/\a ≠ b/\G a = none/\OwnA K C G H a p1/\G b = none/\OwnA K C G H b p2
structure Acd (rm:Rm) (B G0 H0:Hp) (D:Ends) (d:Ft):Prop where
 nx:∀ own G σ H ρ,Sat K C ω B G0 H0 own G σ H ρ->d.nx ρ->D.nx σ H
 rt:∀ G H v p,Grow G0 H0 G H->ROk K C rm H0 G H v p->d.rt p->D.rt v H
 bk:∀ own G σ H ρ,Sat K C ω B G0 H0 own G σ H ρ->d.bk ρ->D.bk σ H
 ct:∀ own G σ H ρ,Sat K C ω B G0 H0 own G σ H ρ->d.ct ρ->D.ct σ H
def SU (rm:Rm) (t:TS) (u:US):Prop:=∀ (B G0 H0:Hp) (own:Nat->Option Addr) (G:Hp) (σ:St) (H:Hp) (ρ:Bp) (D:Ends) (d:Ft),Sat K C ω B G0 H0 own G σ H ρ->Acd K C ω rm B G0 H0 D d->u d ρ->t D σ H
def GU (top:Nat) (g:TG) (u:PV->Bp->(Bp->Prop)->Prop):Prop:=∀ (B G0 H0:Hp) (own:Nat->Option Addr) (G:Hp) (σ:St) (H:Hp) (ρ:Bp) (v:V) (p:PV) (P:Bp->Prop) (R:St->Hp->Prop),Sat K C ω B G0 H0 own G σ H ρ->Rep K C G v p->u p ρ P ->
 (∀ own' σ' ρ',Sat K C ω B G0 H0 own' G σ' H ρ'->σ'.drop top = σ.drop top->P ρ'->R σ' H)->g v σ H R
def GsU (top:Nat) (g:TGs) (u:List PV->Bp->(Bp->Prop)->Prop):Prop:=∀ (B G0 H0:Hp) (own:Nat->Option Addr) (G:Hp) (σ:St) (H:Hp) (ρ:Bp) (vs:List V) (ps:List PV) (P:Bp->Prop) (R:St->Hp->Prop),Sat K C ω B G0 H0 own G σ H ρ->Reps K C G vs ps->u ps ρ P ->
 (∀ own' σ' ρ',Sat K C ω B G0 H0 own' G σ' H ρ'->σ'.drop top = σ.drop top->P ρ'->R σ' H)->g vs σ H R
end
section
variable {K:Frag} {C:Addr} {ω:Om} {B G0 H0 G G' H H':Hp} {own:Nat->Option Addr} {σ:St} {ρ:Bp}
theorem SlOk.grow {i:Nat} {s:Sl} (h:SlOk K C G0 H0 own G σ H i s) (w:Grow G H G' H'):SlOk K C G0 H0 own G' σ H' i s:=by
 cases s with
 | un=>trivial
 | sh p=>obtain ⟨v,e,r⟩:=h; exact ⟨v,e,r.mono w.g⟩
 | bo p=>exact h
 | ow p=>obtain ⟨a,e,o,r⟩:=h; exact ⟨a,e,o,r.mono w.g (w.h.eq r.here)⟩
 | fz z kvs=>obtain ⟨e,o,h1,h2⟩:=h; exact ⟨e,o,w.h _ _ h1,KReps.mono h2 w.g⟩
 | bz kvs=>obtain ⟨a,o,vs,e,h1,h2⟩:=h; exact ⟨a,o,vs,e,h1,KReps.mono h2 w.g⟩
 | fl z ps=>obtain ⟨e,o,h1,h2⟩:=h; exact ⟨e,o,w.h _ _ h1,h2.mono w.g⟩
 | om a p=>obtain ⟨e,o,r⟩:=h; exact ⟨e,o,r.mono w.g (w.h.eq r.here)⟩
theorem Sat.grow (S:Sat K C ω B G0 H0 own G σ H ρ) (w:Grow G H G' H'):Sat K C ω B G0 H0 own G' σ H' ρ :=
 ⟨S.kb.trans w.g,S.gr.trans w,S.len,S.inj,fun i a e=>let ⟨f0,fg,o,ho,ht⟩:=S.fr i a e; ⟨f0,w.n a o ho ht fg,o,w.h _ _ ho,ht⟩,fun i s e=>(S.sl i s e).grow w,S.ex⟩
theorem Sat.base {B':Hp} (S:Sat K C ω B G0 H0 own G σ H ρ) (h:Same B' G):Sat K C ω B' G0 H0 own G σ H ρ:=⟨h,S.gr,S.len,S.inj,S.fr,S.sl,S.ex⟩
def Aaa (own:Nat->Option Addr) (i:Nat):Nat->Option Addr:=fun j=>if j = i then none else own j
def Ud (own:Nat->Option Addr) (i:Nat) (a:Addr):Nat->Option Addr:=fun j=>if j = i then some a else own j
theorem To {own:Nat->Option Addr} {i j:Nat} {a:Addr} (h:Aaa own i j = some a):j ≠ i/\own j = some a:=by
 unfold Aaa at h
 split at h
 ·cases h
 ·rename_i z; exact ⟨z,h⟩
theorem Vj {α:Type} {l:List α} {i j:Nat} {x s:α} (h:(l.set i x)[j]? = some s):(j = i/\s = x/\i < l.length)\/(j ≠ i/\l[j]? = some s):=by
 by_cases z:j = i
 ·subst z
  rw [List.getElem?_set_self'] at h
  cases e:l[j]? with
  | none=>rw [e] at h; cases h
  | some y=>rw [e] at h; cases h; exact .inl ⟨rfl,rfl,(List.getElem?_eq_some_iff.mp e).1⟩
 ·rw [getElem?_set_ne (Ne.symm z)] at h; exact .inr ⟨z,h⟩
theorem Abh {α:Type} {l:List α} {i j:Nat} {x:α} (z:j ≠ i):(l.set i x)[j]? = l[j]?:=getElem?_set_ne (Ne.symm z)
theorem Rz {α:Type} {l:List α} {i:Nat} {x:α} (h:i < l.length):(l.set i x)[i]? = some x:=by rw [getElem?_set_self h]
theorem SlOk.other {own':Nat->Option Addr} {σ':St} {i:Nat} {s:Sl} (h:SlOk K C G0 H0 own G σ H i s) (e1:σ'[i]? = σ[i]?) (e2:own' i = own i):SlOk K C G0 H0 own' G σ' H i s:=by
 cases s with
 | un=>trivial
 | sh p=>obtain ⟨v,e,r⟩:=h; exact ⟨v,e1.trans e,r⟩
 | bo p=>obtain ⟨v,e,r⟩:=h; exact ⟨v,e1.trans e,r⟩
 | ow p=>obtain ⟨a,e,o,r⟩:=h; exact ⟨a,e1.trans e,e2.trans o,r⟩
 | fz z kvs=>obtain ⟨e,o,r⟩:=h; exact ⟨e1.trans e,e2.trans o,r⟩
 | bz kvs=>obtain ⟨a,o,vs,e,r⟩:=h; exact ⟨a,o,vs,e1.trans e,r⟩
 | fl z ps=>obtain ⟨e,o,r⟩:=h; exact ⟨e1.trans e,e2.trans o,r⟩
 | om a p=>obtain ⟨e,o,r⟩:=h; exact ⟨e1.trans e,e2.trans o,r⟩
theorem Sat.setS (S:Sat K C ω B G0 H0 own G σ H ρ) {i:Nat} {v:V} {p:PV} (r:Rep K C G v p):Sat K C ω B G0 H0 (Aaa own i) G (σ.set i (some v)) H (ρ.set i (.sh p)):=by
 refine ⟨S.kb,S.gr,by rw [length_set,length_set,S.len],fun j k a h1 h2=>S.inj j k a (To h1).2 (To h2).2,fun j a h=>S.fr j a (To h).2,fun j s h=>?_,S.ex⟩
 rcases Vj h with ⟨rfl,rfl,hl⟩ | ⟨z,h⟩
 ·exact ⟨v,Rz (by rw [S.len]; exact hl),r⟩
 ·exact (S.sl j s h).other (Abh z) (by unfold Aaa; rw [if_neg z])
theorem Sat.setO (S:Sat K C ω B G0 H0 own G σ H ρ) {i:Nat} {a:Addr} {p:PV} (r:OwnA K C G H a p) (f0:H0 a = none) (fg:G a = none) (fo:∀ j,own j ≠ some a):Sat K C ω B G0 H0 (Ud own i a) G (σ.set i (some (.ref a))) H (ρ.set i (.ow p)):=by
 refine ⟨S.kb,S.gr,by rw [length_set,length_set,S.len],fun j k b h1 h2=>?_,fun j b h=>?_,fun j s h=>?_,S.ex⟩
 ·unfold Ud at h1 h2
  split at h1 <;> split at h2
  ·rename_i z1 z2; rw [z1,z2]
  ·cases h1; exact absurd h2 (fo k)
  ·cases h2; exact absurd h1 (fo j)
  ·exact S.inj j k b h1 h2
 ·unfold Ud at h
  split at h
  ·cases h; exact ⟨f0,fg,r.thing⟩
  ·exact S.fr j b h
 ·rcases Vj h with ⟨rfl,rfl,hl⟩ | ⟨z,h⟩
  ·exact ⟨a,Rz (by rw [S.len]; exact hl),by unfold Ud; rw [if_pos rfl],r⟩
  ·exact (S.sl j s h).other (Abh z) (by unfold Ud; rw [if_neg z])
theorem Sat.chg (S:Sat K C ω B G0 H0 own G σ H ρ) {i:Nat} {a:Addr} {p:PV} (e:own i = some a) (hi:σ[i]? = some (some (.ref a))) (c:Chg a H H') (r:OwnA K C G H' a p):Sat K C ω B G0 H0 own G σ H' (ρ.set i (.ow p)):=by
 obtain ⟨f0,fg,fh⟩:=S.fr i a e
 have ng:∀ b o,G b = some o->b ≠ a:=fun b o h z=>by subst z; rw [fg] at h; cases h
 refine ⟨S.kb,⟨S.gr.g,fun b o h=>c _ _ (S.gr.h _ _ h) (by intro z; subst z; rw [f0] at h; cases h),fun b o h=>c _ _ (S.gr.i _ _ h) (ng b o h),S.gr.n⟩,by rw [length_set,S.len],S.inj,fun j b h=>?_,fun j s h=>?_,S.ex⟩
 ·obtain ⟨q0,qg,o,qh,qt⟩:=S.fr j b h
  refine ⟨q0,qg,?_⟩
  by_cases z:b = a
  ·subst z; exact r.thing
  ·exact ⟨o,c _ _ qh z,qt⟩
 ·rcases Vj h with ⟨rfl,rfl,hl⟩ | ⟨z,h⟩
  ·exact ⟨a,hi,e,r⟩
  ·have q:=S.sl j s h
   cases s with
   | un=>trivial
   | sh p=>exact q
   | bo p=>exact q
   | bz kvs=>exact q
   | fz y kvs =>
    obtain ⟨e1,o,h1,h2⟩:=q
    exact ⟨e1,o,c _ _ h1 fun w=>z (S.inj j i a (by rw [<- w]; exact o) e),h2⟩
   | fl y ps =>
    obtain ⟨e1,o,h1,h2⟩:=q
    exact ⟨e1,o,c _ _ h1 fun w=>z (S.inj j i a (by rw [<- w]; exact o) e),h2⟩
   | om b p' =>
    obtain ⟨e1,o,r1⟩:=q
    refine ⟨e1,o,r1.mono (Same.refl _) ?_⟩
    cases w:H b with
    | none=>exact absurd w r1.here
    | some o'=>exact c _ _ w fun w=>z (S.inj j i a (by rw [<- w]; exact o) e)
   | ow p' =>
    obtain ⟨b,e1,o,r1⟩:=q
    have nb:b ≠ a:=fun w=>z (S.inj j i a (by rw [<- w]; exact o) e)
    refine ⟨b,e1,o,r1.mono (Same.refl _) ?_⟩
    cases w:H b with
    | none=>exact absurd w r1.here
    | some o=>exact c _ _ w nb
def AaG:Sl->Sl
 | .ow p=>.sh p
 | s=>s
def AnZ (i:Nat) (ρ:Bp):Bp:=match ρ[i]? with
 | some s=>ρ.set i (AaG s)
 | none=>ρ
end
section
variable {K:Frag} {C:Addr} {ω:Om}
theorem EU.eb {t:TE} {u:UE} (h:EU K C ω t u):EB K C ω t u:=fun B G0 H0 own G σ H ρ P Q S hu k=>h B G0 H0 own G σ H ρ P Q S hu fun v p G' H' w r hp=>k v p G' H' w (.inl r) hp
theorem EF.eb {t:TE} {u:UE} (h:EF K C ω t u):EB K C ω t u:=fun B G0 H0 own G σ H ρ P Q S hu k=>h B G0 H0 own G σ H ρ P Q S hu fun a p G' H' w _ _ r hp=>k _ p G' H' w (.inr ⟨a,rfl,r⟩) hp
theorem AeD {G H G' H':Hp} {a:Addr} {p:PV} (w:Grow G H G' H') (n:H a = none) (g:G' a = none) (r:OwnA K C G' H' a p):∃ G'',Grow G H G'' H'/\Rep K C G'' (.ref a) p:=by
 obtain ⟨ob,hob⟩:∃ ob,H' a = some ob:=by
  cases e:H' a with
  | none=>exact absurd e r.here
  | some x=>exact ⟨x,rfl⟩
 have sg:Same G' (upd G' a ob):=Same.new g
 refine ⟨upd G' a ob,⟨w.g.trans sg,w.h,fun b u h=>?_,fun b u h1 t h2=>?_⟩,?_⟩
 ·by_cases z:b = a
  ·subst z; rw [Bt] at h; rw [hob]; exact h
  ·rw [Bl z] at h; exact w.i _ _ h
 ·rw [Bl (by intro z; subst z; rw [n] at h1; cases h1)]; exact w.n b u h1 t h2
 ·cases p <;> first | exact r.elim | skip
  ·obtain ⟨vs,h1,h2⟩:=r; rw [hob] at h1; cases h1; exact Rep.ofL Bt (h2.mono sg)
  ·obtain ⟨vs,h1,h2⟩:=r; rw [hob] at h1; cases h1; exact Rep.ofD Bt (KReps.mono h2 sg)
  ·obtain ⟨vs,h1,h2⟩:=r; rw [hob] at h1; cases h1; exact Rep.ofDt Bt (KReps.mono h2 sg)
theorem EF.eu {t:TE} {u:UE} (h:EF K C ω t u):EU K C ω t u:=fun B G0 H0 own G σ H ρ P Q S hu k=>h B G0 H0 own G σ H ρ P Q S hu fun a p G' H' w n g r hp =>
 let ⟨G'',w2,r2⟩:=AeD w n g r
 k _ p G'' H' w2 r2 hp
def Sl.val:Sl->Option PV
 | .un=>none
 | .sh p=>some p
 | .bo p=>some p
 | .ow p=>some p
 | .fz _ _=>none
 | .bz _=>none
 | .fl _ ps=>some (.lst ps)
 | .om _ p=>some p
def Akp (i:Nat):UE:=fun ρ P=>∃ s p,ρ[i]? = some s/\s.val = some p/\P p
def Agi (i:Nat):UE:=fun ρ P=>∃ p,ρ[i]? = some (.sh p)/\P p
theorem Bb {i:Nat}:EB K C ω (Fk i) (Akp i):=fun B G0 H0 own G σ H ρ P Q S ⟨s,p,h1,h2,h3⟩ k=>by
 have q:=S.sl i s h1
 have w:=Grow.refl S.gr.i
 cases s with
 | un=>cases h2
 | sh p'=>cases h2; obtain ⟨v,e,r⟩:=q; exact ⟨v,e,k v _ G H w (.inl r) h3⟩
 | bo p'=>cases h2; obtain ⟨v,e,r⟩:=q; exact ⟨v,e,k v _ G H w (r.grow S.gr) h3⟩
 | ow p'=>cases h2; obtain ⟨a,e,_,r⟩:=q; exact ⟨_,e,k _ _ G H w (.inr ⟨a,rfl,r⟩) h3⟩
 | fz _ _=>cases h2
 | bz _=>cases h2
 | fl z ps=>cases h2; obtain ⟨e,_,h1,r⟩:=q; exact ⟨_,e,k _ _ G H w (.inr ⟨z.1,rfl,OwnA.ofL h1 r⟩) h3⟩
 | om a p'=>cases h2; obtain ⟨e,_,r⟩:=q; exact ⟨_,e,k _ _ G H w (.inr ⟨a,rfl,r⟩) h3⟩
theorem Bv {i:Nat}:EU K C ω (Fk i) (Agi i):=fun B G0 H0 own G σ H ρ P Q S ⟨p,h1,h3⟩ k=>by
 obtain ⟨v,e,r⟩:=S.sl i _ h1
 exact ⟨v,e,k v _ G H (Grow.refl S.gr.i) r h3⟩
def uC (p:PV):UE:=fun _ P=>P p
theorem Vs {v:V} {p:PV} (h:∀ G,Rep K C G v p):EU K C ω (tC v) (uC p):=fun B G0 H0 own G σ H ρ P Q S hu k=>k v p G H (Grow.refl S.gr.i) (h G) hu
theorem Bg {i:Int}:EU K C ω (tC (.int i)) (uC (.int i)):=Vs fun _=>.int i
theorem AcI {b:Bool}:EU K C ω (tC (.bl b)) (uC (.bl b)):=Vs fun _=>.bl b
theorem Ch {x:Str}:EU K C ω (tC (.str x)) (uC (.str x)):=Vs fun _=>.str x
theorem Rw:EU K C ω (tC .non) (uC .non):=Vs fun _=>.non
theorem RepB.int {G H:Hp} {v:V} {i:Int} (h:RepB K C G H v (.int i)):v = .int i:=by
 rcases h with h | ⟨a,_,h⟩
 ·cases h; rfl
 ·exact h.elim
theorem RepB.bl {G H:Hp} {v:V} {b:Bool} (h:RepB K C G H v (.bl b)):v = .bl b:=by
 rcases h with h | ⟨a,_,h⟩
 ·cases h; rfl
 ·exact h.elim
theorem RepB.str {G H:Hp} {v:V} {b:Str} (h:RepB K C G H v (.str b)):v = .str b:=by
 rcases h with h | ⟨a,_,h⟩
 ·cases h; rfl
 ·exact h.elim
theorem RepB.lst {G H:Hp} {v:V} {ps:List PV} (i:Same G H) (h:RepB K C G H v (.lst ps)):∃ a vs,v = .ref a/\H a = some (.lst vs)/\Reps K C G vs ps:=by
 rcases h with h | ⟨a,e,vs,h1,h2⟩
 ·cases h with
  | lst e l q=>exact ⟨_,_,rfl,i _ _ e,l,q⟩
 ·exact ⟨a,vs,e,h1,h2⟩
theorem RepB.tup {G H:Hp} {v:V} {ps:List PV} (i:Same G H) (h:RepB K C G H v (.tup ps)):∃ a vs,v = .ref a/\H a = some (.tup vs)/\Reps K C G vs ps:=by
 rcases h with h | ⟨a,e,h⟩
 ·cases h with
  | tup e l q=>exact ⟨_,_,rfl,i _ _ e,l,q⟩
 ·exact h.elim
theorem RepB.scr {G H:Hp} {v:V} {ns:List Int} (i:Same G H) (h:RepB K C G H v (.scr ns)):∃ a,v = .ref a/\SqL K H a (ns.map V.int):=by
 rcases h with h | ⟨a,e,h⟩
 ·cases h with
  | scr e=>exact ⟨_,rfl,i.seq e⟩
 ·exact h.elim
theorem RepB.dk {G H:Hp} {v:V} {ps:List (Key × PV)} (i:Same G H) (h:RepB K C G H v (.dk ps)):∃ a kvs,v = .ref a/\H a = some (.dK kvs)/\LAt (KRep K C) G kvs ps:=by
 rcases h with h | ⟨a,e,vs,h1,h2⟩
 ·cases h with
  | dk e l hk q=>exact ⟨_,_,rfl,i _ _ e,l,fun i v p h1 h2=>⟨hk i v p h1 h2,q i v p h1 h2⟩⟩
 ·exact ⟨a,vs,e,h1,h2⟩
theorem RepB.dt {G H:Hp} {v:V} {ps:List (List Key × PV)} (i:Same G H) (h:RepB K C G H v (.dt ps)):∃ a kvs,v = .ref a/\H a = some (.dT kvs)/\LAt (KRep K C) G kvs ps:=by
 rcases h with h | ⟨a,e,vs,h1,h2⟩
 ·cases h with
  | dt e l hk q=>exact ⟨_,_,rfl,i _ _ e,l,fun i v p h1 h2=>⟨hk i v p h1 h2,q i v p h1 h2⟩⟩
 ·exact ⟨a,vs,e,h1,h2⟩
theorem two {ta tb:TE} {ua ub:UE} {r:R2} (ha:EB K C ω ta ua) (hb:EB K C ω tb ub) {B G0 H0:Hp} {own:Nat->Option Addr} {G:Hp} {σ:St} {H:Hp} {ρ:Bp} {Q:VK} {P:PV->PV->Prop} (S:Sat K C ω B G0 H0 own G σ H ρ)
  (hu:ua ρ fun p=>ub ρ fun q=>P p q) (k:∀ v w p q G' H',Grow G H G' H'->RepB K C G' H' v p->RepB K C G' H' w q->P p q->r v w H' Q):tOp r ta tb σ H Q :=
 ha B G0 H0 own G σ H ρ _ _ S hu fun v p G1 H1 w1 r1 h1=>hb B G0 H0 own G1 σ H1 ρ _ _ (S.grow w1) h1 fun w q G2 H2 w2 r2 h2=>k v w p q G2 H2 (w1.trans w2) (r1.grow w2) r2 h2
def bI0 (g:Int->Int->PV) (p q:PV) (P:PV->Prop):Prop:=∃ i j,p = .int i/\q = .int j/\P (g i j)
def uI0 (g:Int->Int->PV) (ua ub:UE):UE:=fun ρ P=>ua ρ fun p=>ub ρ fun q=>bI0 g p q P
def bI (c:Int->Int->Prop) (g:Int->Int->PV) (p q:PV) (P:PV->Prop):Prop:=∃ i j,p = .int i/\q = .int j/\c i j/\P (g i j)
def uI (c:Int->Int->Prop) (g:Int->Int->PV) (ua ub:UE):UE:=fun ρ P=>ua ρ fun p=>ub ρ fun q=>bI c g p q P
theorem Dc {g:Int->Int->V} {g':Int->Int->PV} {ta tb:TE} {ua ub:UE} (hg:∀ G i j,Rep K C G (g i j) (g' i j)) (ha:EB K C ω ta ua) (hb:EB K C ω tb ub):EU K C ω (tOp (rI0 g) ta tb) (uI0 g' ua ub) :=
 fun B G0 H0 own G σ H ρ P Q S hu k=>two ha hb S hu fun v w p q G' H' gr r1 r2 ⟨i,j,e1,e2,h⟩=>by
  subst e1 e2
  exact ⟨i,j,r1.int,r2.int,k _ _ G' H' gr (hg G' i j) h⟩
theorem Dh {c:Int->Int->Prop} {g:Int->Int->V} {g':Int->Int->PV} {ta tb:TE} {ua ub:UE} (hg:∀ G i j,Rep K C G (g i j) (g' i j)) (ha:EB K C ω ta ua) (hb:EB K C ω tb ub):EU K C ω (tOp (rI c g) ta tb) (uI c g' ua ub) :=
 fun B G0 H0 own G σ H ρ P Q S hu k=>two ha hb S hu fun v w p q G' H' gr r1 r2 ⟨i,j,e1,e2,hc,h⟩=>by
  subst e1 e2
  exact ⟨i,j,r1.int,r2.int,hc,k _ _ G' H' gr (hg G' i j) h⟩
def bU (g:Int->PV) (p:PV) (P:PV->Prop):Prop:=∃ i,p = .int i/\P (g i)
def uU (g:Int->PV) (ua:UE):UE:=fun ρ P=>ua ρ fun p=>bU g p P
theorem Xx {g:Int->V} {g':Int->PV} {ta:TE} {ua:UE} (hg:∀ G i,Rep K C G (g i) (g' i)) (ha:EB K C ω ta ua):EU K C ω (tUn (rU g) ta) (uU g' ua) :=
 fun B G0 H0 own G σ H ρ P Q S hu k=>ha B G0 H0 own G σ H ρ _ _ S hu fun v p G' H' w r ⟨i,e,h⟩=>by
  subst e
  exact ⟨i,r.int,k _ _ G' H' w (hg G' i) h⟩
def Yl (neg:Bool) (p q:PV) (P:PV->Prop):Prop:=(∃ i j,p = .int i/\q = .int j/\P (.bl (if neg then !decide (i = j) else decide (i = j))))\/(∃ i j,p = .str i/\q = .str j/\P (.bl (if neg then !decide (i = j) else decide (i = j))))
def Ae8 (neg:Bool) (ua ub:UE):UE:=fun ρ P=>ua ρ fun p=>ub ρ fun q=>Yl neg p q P
theorem Fb {ta tb:TE} {ua ub:UE} (ha:EB K C ω ta ua) (hb:EB K C ω tb ub):EU K C ω (tOp rEq ta tb) (Ae8 false ua ub) :=
 fun B G0 H0 own G σ H ρ P Q S hu k=>two ha hb S hu fun v w p q G' H' gr r1 r2 h=>by
  rcases h with ⟨i,j,e1,e2,h⟩ | ⟨i,j,e1,e2,h⟩
  ·subst e1 e2; rw [r1.int,r2.int]; exact Ahb (k _ _ G' H' gr (.bl _) h)
  ·subst e1 e2; rw [r1.str,r2.str]; exact Ag4 (k _ _ G' H' gr (.bl _) h)
theorem Aab {ta tb:TE} {ua ub:UE} (ha:EB K C ω ta ua) (hb:EB K C ω tb ub):EU K C ω (tOp rNe ta tb) (Ae8 true ua ub) :=
 fun B G0 H0 own G σ H ρ P Q S hu k=>two ha hb S hu fun v w p q G' H' gr r1 r2 h=>by
  rcases h with ⟨i,j,e1,e2,h⟩ | ⟨i,j,e1,e2,h⟩
  ·subst e1 e2; rw [r1.int,r2.int]; exact Agz (k _ _ G' H' gr (.bl _) h)
  ·subst e1 e2; rw [r1.str,r2.str]; exact Ahp (k _ _ G' H' gr (.bl _) h)
def isN:PV->Bool
 | .non=>true
 | _=>false
theorem Aeb {G H:Hp} {v:V} {p:PV} (r:RepB K C G H v p):decide (v = .non) = isN p:=by
 rcases r with r | ⟨a,e,r⟩
 ·cases r <;> first | rfl | exact decide_eq_false (fun z=>nomatch z)
 ·subst e
  cases p <;> first | exact r.elim | exact decide_eq_false (fun z=>nomatch z)
def Acy (neg:Bool) (ua:UE):UE:=fun ρ P=>ua ρ fun p=>P (.bl (if neg then !isN p else isN p))
theorem Qi {ta:TE} {ua:UE} (ha:EB K C ω ta ua):EU K C ω (Ai8 ta) (Acy false ua) :=
 fun B G0 H0 own G σ H ρ P Q S hu k=>ha B G0 H0 own G σ H ρ _ _ S hu fun v p G' H' w r h=>by rw [Aeb r]; exact k _ _ G' H' w (.bl _) h
theorem Oz {ta:TE} {ua:UE} (ha:EB K C ω ta ua):EU K C ω (Ahw ta) (Acy true ua) :=
 fun B G0 H0 own G σ H ρ P Q S hu k=>ha B G0 H0 own G σ H ρ _ _ S hu fun v p G' H' w r h=>by rw [Aeb r]; exact k _ _ G' H' w (.bl _) h
def bB (p:PV) (P:Bool->Prop):Prop:=∃ b,p = .bl b/\P b
def uB (ua:UE):UT:=fun ρ P=>ua ρ fun p=>bB p P
theorem Cw {ta:TE} {ua:UE} (ha:EB K C ω ta ua):TU K C ω (tB ta) (uB ua) :=
 fun B G0 H0 own G σ H ρ P Q S hu k=>ha B G0 H0 own G σ H ρ _ _ S hu fun v p G' H' w r ⟨b,e,h⟩=>by subst e; exact ⟨b,r.bl,k b G' H' w h⟩
theorem Oy {ta:TE} {ua:UE} (ha:EB K C ω ta ua):TU K C ω (Ab8 ta) (uB ua) :=
 fun B G0 H0 own G σ H ρ P Q S hu k=>ha B G0 H0 own G σ H ρ _ _ S hu fun v p G' H' w r ⟨b,e,h⟩=>by subst e; exact ⟨b,r.bl,k b G' H' w h⟩
def AkI (ua ub:UT):UT:=fun ρ P=>ua ρ fun b=>if b = true then ub ρ P else P false
def uOr (ua ub:UT):UT:=fun ρ P=>ua ρ fun b=>if b = true then P true else ub ρ P
def AjX (ua:UT):UT:=fun ρ P=>ua ρ fun b=>P (!b)
theorem Qo {ta tb:TT} {ua ub:UT} (ha:TU K C ω ta ua) (hb:TU K C ω tb ub):TU K C ω (Ai6 ta tb) (AkI ua ub) :=
 fun B G0 H0 own G σ H ρ P Q S hu k=>ha B G0 H0 own G σ H ρ _ _ S hu fun b G' H' w h=>by
  cases b with
  | true=>exact Ji (hb B G0 H0 own G' σ H' ρ P Q (S.grow w) (by simpa using h) fun c G2 H2 w2 h2=>k c G2 H2 (w.trans w2) h2)
  | false=>exact Jo (k _ G' H' w (by simpa using h))
theorem Uy {ta tb:TT} {ua ub:UT} (ha:TU K C ω ta ua) (hb:TU K C ω tb ub):TU K C ω (tOr ta tb) (uOr ua ub) :=
 fun B G0 H0 own G σ H ρ P Q S hu k=>ha B G0 H0 own G σ H ρ _ _ S hu fun b G' H' w h=>by
  cases b with
  | false=>exact Jo (hb B G0 H0 own G' σ H' ρ P Q (S.grow w) (by simpa using h) fun c G2 H2 w2 h2=>k c G2 H2 (w.trans w2) h2)
  | true=>exact Ji (k _ G' H' w (by simpa using h))
theorem Uu {ta:TT} {ua:UT} (ha:TU K C ω ta ua):TU K C ω (AfI ta) (AjX ua) :=
 fun B G0 H0 own G σ H ρ P Q S hu k=>ha B G0 H0 own G σ H ρ _ _ S hu fun b G' H' w h=>k _ G' H' w h
def Agd (ua ub:UE):UE:=fun ρ P=>ua ρ fun p=>bB p fun b=>if b = true then ub ρ P else P (.bl false)
def Ahj (ua:UE):UE:=fun ρ P=>ua ρ fun p=>bB p fun b=>P (.bl (!b))
theorem Abm {ta tb:TE} {ua ub:UE} (ha:EB K C ω ta ua) (hb:EU K C ω tb ub):EU K C ω (AcU ta tb) (Agd ua ub) :=
 fun B G0 H0 own G σ H ρ P Q S hu k=>ha B G0 H0 own G σ H ρ _ _ S hu fun v p G' H' w r ⟨b,e,h⟩=>by
  subst e
  refine ⟨b,r.bl,?_⟩
  cases b with
  | true=>exact Ji (hb B G0 H0 own G' σ H' ρ P Q (S.grow w) (by simpa using h) fun c p2 G2 H2 w2 h2=>k c p2 G2 H2 (w.trans w2) h2)
  | false=>exact Jo (k _ _ G' H' w (.bl _) (by simpa using h))
theorem AhX {ta:TE} {ua:UE} (ha:EB K C ω ta ua):EU K C ω (Ach ta) (Ahj ua) :=
 fun B G0 H0 own G σ H ρ P Q S hu k=>ha B G0 H0 own G σ H ρ _ _ S hu fun v p G' H' w r ⟨b,e,h⟩=>by subst e; exact ⟨b,r.bl,k _ _ G' H' w (.bl _) h⟩
def uIf (uc:UT) (ua ub:UE):UE:=fun ρ P=>uc ρ fun b=>if b = true then ua ρ P else ub ρ P
theorem Ov {tc:TT} {ta tb:TE} {uc:UT} {ua ub:UE} (hc:TU K C ω tc uc) (ha:EU K C ω ta ua) (hb:EU K C ω tb ub):EU K C ω (tIf tc ta tb) (uIf uc ua ub) :=
 fun B G0 H0 own G σ H ρ P Q S hu k=>hc B G0 H0 own G σ H ρ _ _ S hu fun b G' H' w h=>by
  cases b with
  | true=>exact Ji (ha B G0 H0 own G' σ H' ρ P Q (S.grow w) (by simpa using h) fun c p2 G2 H2 w2 h2=>k c p2 G2 H2 (w.trans w2) h2)
  | false=>exact Jo (hb B G0 H0 own G' σ H' ρ P Q (S.grow w) (by simpa using h) fun c p2 G2 H2 w2 h2=>k c p2 G2 H2 (w.trans w2) h2)
end
section
variable {K:Frag} {C:Addr} {ω:Om}
theorem ArgsOk.len {G H:Hp}:∀ {ms:List Bool} {vs:List V} {ps:List PV},ArgsOk K C G H ms vs ps->vs.length = ms.length/\ps.length = ms.length
 | [],[],[],_=>⟨rfl,rfl⟩
 | true :: _,_ :: _,_ :: _,h=>⟨congrArg Nat.succ h.2.len.1,congrArg Nat.succ h.2.len.2⟩
 | false :: _,_ :: _,_ :: _,h=>⟨congrArg Nat.succ h.2.len.1,congrArg Nat.succ h.2.len.2⟩
 | [],_ :: _,_,h=>h.elim
 | [],[],_ :: _,h=>h.elim
 | true :: _,[],_,h=>by cases h
 | false :: _,[],_,h=>by cases h
 | true :: _,_ :: _,[],h=>by cases h
 | false :: _,_ :: _,[],h=>by cases h
theorem ArgsOk.reps {G H:Hp}:∀ {n:Nat} {vs:List V} {ps:List PV},ArgsOk K C G H (replicate n true) vs ps->Reps K C G vs ps
 | 0,[],[],_=>LAt.nil
 | 0,_ :: _,_,h=>by cases h
 | 0,[],_ :: _,h=>by cases h
 | _ + 1,[],_,h=>by cases h
 | _ + 1,_ :: _,[],h=>by cases h
 | n + 1,v :: vs,p :: ps,h=>by
  have h1:Rep K C G v p:=h.1
  have h2:Reps K C G vs ps:=ArgsOk.reps (n:=n) h.2
  exact ⟨congrArg Nat.succ h2.1,fun i x y e1 e2=>by
   cases i with
   | zero=>cases e1; cases e2; exact h1
   | succ i=>exact h2.2 i x y (by simpa using e1) (by simpa using e2)⟩
def Alq:UA:=fun _ P=>P []
def Acs (ua:UE) (ur:UA):UA:=fun ρ P=>ua ρ fun p=>ur ρ fun ps=>P (p :: ps)
theorem Bh:AU K C ω [] La Alq:=fun B G0 H0 own G σ H ρ P Q S hu k=>k [] [] G H (Grow.refl S.gr.i) trivial hu
theorem Bn {ms:List Bool} {ta:TE} {tr:TA} {ua:UE} {ur:UA} (ha:EU K C ω ta ua) (hr:AU K C ω ms tr ur):AU K C ω (true :: ms) (Fl ta tr) (Acs ua ur) :=
 fun B G0 H0 own G σ H ρ P Q S hu k=>ha B G0 H0 own G σ H ρ _ _ S hu fun v p G1 H1 w1 r1 h1=>hr B G0 H0 own G1 σ H1 ρ _ _ (S.grow w1) h1 fun vs ps G2 H2 w2 r2 h2=>k (v :: vs) (p :: ps) G2 H2 (w1.trans w2) ⟨r1.mono w2.g,r2⟩ h2
theorem Bo {ms:List Bool} {ta:TE} {tr:TA} {ua:UE} {ur:UA} (ha:EB K C ω ta ua) (hr:AU K C ω ms tr ur):AU K C ω (false :: ms) (Fl ta tr) (Acs ua ur) :=
 fun B G0 H0 own G σ H ρ P Q S hu k=>ha B G0 H0 own G σ H ρ _ _ S hu fun v p G1 H1 w1 r1 h1=>hr B G0 H0 own G1 σ H1 ρ _ _ (S.grow w1) h1 fun vs ps G2 H2 w2 r2 h2=>k (v :: vs) (p :: ps) G2 H2 (w1.trans w2) ⟨r1.grow w2,r2⟩ h2
def Ajo (u:UA):UE:=fun ρ P=>u ρ fun ps=>P (.lst ps)
def Alg (u:UA):UE:=fun ρ P=>u ρ fun ps=>P (.tup ps)
theorem Db (n:Nat) {t:TA} {u:UA} (h:AU K C ω (replicate n true) t u) (hn:n <= 1000:=by decide):EF K C ω (Zv t) (Ajo u) :=
 fun B G0 H0 own G σ H ρ P Q S hu k=>h B G0 H0 own G σ H ρ _ _ S hu fun vs ps G1 H1 w1 r1 h1=>by
  have hl:vs.length = n:=by rw [r1.len.1,length_replicate]
  refine ⟨Nat.le_of_lt (Lr (by omega)),fun a H2 ha s2 e2=>?_⟩
  have w2:=w1.trans (Grow.own w1.i s2)
  exact k a _ G1 H2 w2 (w1.h.free ha) (w1.i.free ha) (OwnA.ofL e2 r1.reps) h1
theorem Fd (n:Nat) {t:TA} {u:UA} (h:AU K C ω (replicate n true) t u) (hn:n <= 1000:=by decide):EU K C ω (Zr t) (Alg u) :=
 fun B G0 H0 own G σ H ρ P Q S hu k=>h B G0 H0 own G σ H ρ _ _ S hu fun vs ps G1 H1 w1 r1 h1=>by
  have hl:vs.length = n:=by rw [r1.len.1,length_replicate]
  refine ⟨Nat.le_of_lt (Lr (by omega)),fun a H2 ha s2 e2=>?_⟩
  have w2:=Grow.put w1.i ha s2 e2
  exact k _ _ _ H2 (w1.trans w2) (Rep.ofT Bt (r1.reps.mono w2.g)) h1
theorem LAt.get' {β α:Type} {R:Hp->β->α->Prop} {H:Hp} {xs:List β} {ys:List α} (h:LAt R H xs ys) {i:Nat} {y:α} (e:ys[i]? = some y):∃ x,xs[i]? = some x/\R H x y:=by
 have hi:i < ys.length:=(List.getElem?_eq_some_iff.mp e).1
 have hx:i < xs.length:=by rw [h.1]; exact hi
 exact ⟨xs[i],getElem?_eq_getElem hx,h.2 i _ y (getElem?_eq_getElem hx) e⟩
theorem LAt.atI {β α:Type} {R:Hp->β->α->Prop} {H:Hp} {xs:List β} {ys:List α} (h:LAt R H xs ys) {i:Int} {y:α} (e:L2.atI ys i = some y):∃ x,L2.atI xs i = some x/\R H x y:=by
 unfold L2.atI at e ⊢
 rw [h.1]
 cases z:ixN ys.length i with
 | none=>rw [z] at e; cases e
 | some j=>rw [z] at e; exact h.get' e
theorem Fi {G:Hp} (ns:List Int):Reps K C G (ns.map V.int) (ns.map PV.int) :=
 ⟨by simp,fun i v p h1 h2=>by
  rw [getElem?_map] at h1 h2
  cases e:ns[i]? with
  | none=>rw [e] at h1; cases h1
  | some n=>rw [e] at h1 h2; cases h1; cases h2; exact .int n⟩
def Wf (p q:PV) (P:PV->Prop):Prop:=∃ i ps x,q = .int i/\(p = .lst ps\/∃ ns,p = .scr ns/\ps = ns.map .int)/\atI ps i = some x/\P x
def AlJ (ua ub:UE):UE:=fun ρ P=>ua ρ fun p=>ub ρ fun q=>Wf p q P
theorem Do {ta tb:TE} {ua ub:UE} (ha:EB K C ω ta ua) (hb:EB K C ω tb ub):EU K C ω (tOp (Aat K) ta tb) (AlJ ua ub) :=
 fun B G0 H0 own G σ H ρ P Q S hu k=>two ha hb S hu fun v w p q G' H' gr r1 r2 ⟨i,ps,x,e1,e2,e3,h⟩=>by
  subst e1
  rcases e2 with e2 | ⟨ns,e2,e4⟩
  ·subst e2
   obtain ⟨a,vs,rfl,ea,l⟩:=r1.lst gr.i
   obtain ⟨y,hy,ry⟩:=l.atI e3
   exact ⟨a,vs,i,y,rfl,r2.int,SqL.of ea,hy,k y x G' H' gr ry h⟩
  ·subst e2 e4
   obtain ⟨a,rfl,ea⟩:=r1.scr gr.i
   obtain ⟨y,hy,ry⟩:=(Fi (K:=K) (C:=C) (G:=G') ns).atI e3
   exact ⟨a,_,i,y,rfl,r2.int,ea,hy,k y x G' H' gr ry h⟩
def AaJ (p q:PV) (P:PV->Prop):Prop:=∃ i ps x,q = .int i/\p = .tup ps/\atI ps i = some x/\P x
def Aj5 (ua ub:UE):UE:=fun ρ P=>ua ρ fun p=>ub ρ fun q=>AaJ p q P
theorem Di {ta tb:TE} {ua ub:UE} (ha:EB K C ω ta ua) (hb:EB K C ω tb ub):EU K C ω (tOp (Xo K) ta tb) (Aj5 ua ub) :=
 fun B G0 H0 own G σ H ρ P Q S hu k=>two ha hb S hu fun v w p q G' H' gr r1 r2 ⟨i,ps,x,e1,e2,e3,h⟩=>by
  subst e1 e2
  obtain ⟨a,vs,rfl,ea,l⟩:=r1.tup gr.i
  obtain ⟨y,hy,ry⟩:=l.atI e3
  exact ⟨a,vs,i,y,rfl,r2.int,SqT.of ea,hy,k y x G' H' gr ry h⟩
abbrev UO:=Bp->(Option Int->Prop)->Prop
def OU (K:Frag) (C:Addr) (ω:Om) (t:TO) (u:UO):Prop:=∀ (B G0 H0:Hp) (own:Nat->Option Addr) (G:Hp) (σ:St) (H:Hp) (ρ:Bp) (P:Option Int->Prop) (Q:Option Int->Hp->Prop),Sat K C ω B G0 H0 own G σ H ρ->u ρ P->(∀ o G' H',Grow G H G' H'->P o->Q o H')->t σ H Q
def Abq:UO:=fun _ P=>P none
def Aca (p:PV) (P:Option Int->Prop):Prop:=∃ i,p = .int i/\P (some i)
def Ahf (ua:UE):UO:=fun ρ P=>ua ρ fun p=>Aca p P
theorem Yf:OU K C ω AbK Abq:=fun B G0 H0 own G σ H ρ P Q S hu k=>k none G H (Grow.refl S.gr.i) hu
theorem Fn {ta:TE} {ua:UE} (ha:EB K C ω ta ua):OU K C ω (Ahh ta) (Ahf ua) :=
 fun B G0 H0 own G σ H ρ P Q S hu k=>ha B G0 H0 own G σ H ρ _ _ S hu fun v p G' H' w r ⟨i,e,h⟩=>by subst e; exact ⟨i,r.int,k _ G' H' w h⟩
def Gh {α:Type} (xs:List α) (lo hi:Option Int):List α:=(xs.drop (HT.sIx xs.length 0 lo)).take (HT.sIx xs.length xs.length hi - HT.sIx xs.length 0 lo)
theorem Gw {α β:Type} (f:α->β) (xs:List α) (lo hi:Option Int):Gh (xs.map f) lo hi = (Gh xs lo hi).map f:=by
 unfold Gh; rw [length_map,map_take,List.map_drop]
theorem Reps.cut {G:Hp} {vs:List V} {ps:List PV} (h:Reps K C G vs ps) (lo hi:Option Int):Reps K C G (Vo vs lo hi) (Gh ps lo hi):=by
 unfold Vo Gh
 rw [h.1]
 exact (LAt.drop h _).take _
def Ab7 (p:PV) (lo hi:Option Int) (P:PV->Prop):Prop:=∃ ps,(p = .lst ps\/∃ ns,p = .scr ns/\ps = ns.map .int)/\P (.lst (Gh ps lo hi))
def Akt (ua:UE) (ul uh:UO):UE:=fun ρ P=>ua ρ fun p=>ul ρ fun lo=>uh ρ fun hi=>Ab7 p lo hi P
theorem Lv {ta:TE} {tl th:TO} {ua:UE} {ul uh:UO} (ha:EB K C ω ta ua) (hl:OU K C ω tl ul) (hh:OU K C ω th uh):EF K C ω (tSl (AgT K) ta tl th) (Akt ua ul uh) :=
 fun B G0 H0 own G σ H ρ P Q S hu k=>ha B G0 H0 own G σ H ρ _ _ S hu fun v p G1 H1 w1 r1 h1=>hl B G0 H0 own G1 σ H1 ρ _ _ (S.grow w1) h1 fun lo G2 H2 w2 h2=>hh B G0 H0 own G2 σ H2 ρ _ _ ((S.grow w1).grow w2) h2 fun hi G3 H3 w3 h3=>by
  have w:=(w1.trans w2).trans w3
  have r:=(r1.grow w2).grow w3
  obtain ⟨ps,e,h⟩:=h3
  rcases e with e | ⟨ns,e,e4⟩
  ·subst e
   obtain ⟨a,vs,rfl,ea,l⟩:=r.lst w3.i
   exact ⟨a,vs,rfl,SqL.of ea,fun b H4 hb s4 e4=>k b _ G3 H4 (w.trans (Grow.own w3.i s4)) (w.h.free hb) (w3.i.free hb) (OwnA.ofL e4 (l.cut lo hi)) h⟩
  ·subst e e4
   obtain ⟨a,rfl,ea⟩:=r.scr w3.i
   exact ⟨a,_,rfl,ea,fun b H4 hb s4 e4=>k b _ G3 H4 (w.trans (Grow.own w3.i s4)) (w.h.free hb) (w3.i.free hb) (OwnA.ofL e4 ((Fi ns).cut lo hi)) h⟩
theorem Afg {G:Hp} {vs ws:List V} {ps qs:List PV} (h:Reps K C G vs ps) (h':Reps K C G ws qs):Reps K C G (vs ++ ws) (ps ++ qs):=LAt.append h h'
def AfF (p q:PV) (P:PV->Prop):Prop:=∃ ps qs,p = .lst ps/\q = .lst qs/\ps.length + qs.length <= 100000/\P (.lst (ps ++ qs))
def Ajr (ua ub:UE):UE:=fun ρ P=>ua ρ fun p=>ub ρ fun q=>AfF p q P
theorem Vt {n:Nat} (h:n <= 100000):n < sizeLine:=Nat.lt_of_le_of_lt h (by decide)
theorem Qe {ta tb:TE} {ua ub:UE} (ha:EB K C ω ta ua) (hb:EB K C ω tb ub):EF K C ω (tOp AgC ta tb) (Ajr ua ub) :=
 fun B G0 H0 own G σ H ρ P Q S hu k=>two ha hb S hu fun v w p q G' H' gr r1 r2 ⟨ps,qs,e1,e2,hl,h⟩=>by
  subst e1 e2
  obtain ⟨a,vs,rfl,ea,l⟩:=r1.lst gr.i
  obtain ⟨b,ws,rfl,eb,l2⟩:=r2.lst gr.i
  exact ⟨a,b,vs,ws,rfl,rfl,ea,eb,Nat.le_of_lt (Vt (by rw [l.1,l2.1]; exact hl)),fun c H4 hc s4 e4=>k c _ G' H4 (gr.trans (Grow.own gr.i s4)) (gr.h.free hc) (gr.i.free hc) (OwnA.ofL e4 (Afg l l2)) h⟩
def uCB (ur:List PV->(PV->Prop)->Prop) (u:UA):UE:=fun ρ P=>u ρ fun ps=>ur ps P
theorem AcM {ms:List Bool} {r:List V->Hp->VK->Prop} {ur:List PV->(PV->Prop)->Prop} {t:TA} {u:UA}
  (hr:∀ G H vs ps P Q,Same G H->ArgsOk K C G H ms vs ps->ur ps P->(∀ v p,Rep K C G v p->P p->Q v H)->r vs H Q) (ha:AU K C ω ms t u):EU K C ω (tCB r t) (uCB ur u) :=
 fun B G0 H0 own G σ H ρ P Q S hu k=>ha B G0 H0 own G σ H ρ _ _ S hu fun vs ps G1 H1 w1 r1 h1=>hr G1 H1 vs ps P Q w1.i r1 h1 fun v p rv hp=>k v p G1 H1 w1 rv hp
theorem Jw {G H:Hp} {m:Bool} {vs:List V} {ps:List PV} (h:ArgsOk K C G H [m] vs ps):∃ v p,vs = [v]/\ps = [p]/\RepB K C G H v p:=by
 match vs,ps,m,h with
 | [v],[p],true,h=>exact ⟨v,p,rfl,rfl,.inl h.1⟩
 | [v],[p],false,h=>exact ⟨v,p,rfl,rfl,h.1⟩
 | [],_,true,h=>cases h
 | [],_,false,h=>cases h
 | _ :: _,[],true,h=>cases h
 | _ :: _,[],false,h=>cases h
 | _ :: _ :: _,[_],true,h=>cases h.2
 | _ :: _ :: _,[_],false,h=>cases h.2
 | [_],_ :: _ :: _,true,h=>cases h.2
 | [_],_ :: _ :: _,false,h=>cases h.2
 | _ :: _ :: _,_ :: _ :: _,true,h=>cases h.2
 | _ :: _ :: _,_ :: _ :: _,false,h=>cases h.2
theorem Tq {G H:Hp} {m n:Bool} {vs:List V} {ps:List PV} (h:ArgsOk K C G H [m,n] vs ps):∃ v w p q,vs = [v,w]/\ps = [p,q]/\RepB K C G H v p/\RepB K C G H w q:=by
 match vs,ps,m,h with
 | v :: vs,p :: ps,true,h=>obtain ⟨w,q,rfl,rfl,r⟩:=Jw h.2; exact ⟨v,w,p,q,rfl,rfl,.inl h.1,r⟩
 | v :: vs,p :: ps,false,h=>obtain ⟨w,q,rfl,rfl,r⟩:=Jw h.2; exact ⟨v,w,p,q,rfl,rfl,h.1,r⟩
 | [],_,true,h=>cases h
 | [],_,false,h=>cases h
 | _ :: _,[],true,h=>cases h
 | _ :: _,[],false,h=>cases h
def Zy (ps:List PV) (P:PV->Prop):Prop:=∃ n:Nat,(ps = [.scr []]/\n = 0\/(∃ xs,ps = [.lst xs]/\n = xs.length)\/(∃ xs,ps = [.tup xs]/\n = xs.length)\/∃ ns,ps = [.scr ns]/\n = ns.length)/\P (.int n)
theorem Dy {m:Bool} {t:TA} {u:UA} (ha:AU K C ω [m] t u):EU K C ω (tCB (fun xs H Q=>∃ p ys,xs = [.ref p]/\(SqL K H p ys\/SqT K H p ys)/\Q (.int ys.length) H) t) (uCB Zy u) :=
 AcM (fun G H vs ps P Q i ok h k=>by
  obtain ⟨v,p,rfl,rfl,r⟩:=Jw ok
  obtain ⟨n,h1,h2⟩:=h
  rcases h1 with ⟨e,rfl⟩ | ⟨xs,e,rfl⟩ | ⟨xs,e,rfl⟩ | ⟨ns,e,rfl⟩
  ·cases e
   obtain ⟨a,rfl,ea⟩:=r.scr i
   exact ⟨a,_,rfl,.inl ea,k _ _ (.int _) h2⟩
  ·cases e
   obtain ⟨a,vs,rfl,ea,l⟩:=r.lst i
   exact ⟨a,vs,rfl,.inl (SqL.of ea),by rw [l.1]; exact k _ _ (.int _) h2⟩
  ·cases e
   obtain ⟨a,vs,rfl,ea,l⟩:=r.tup i
   exact ⟨a,vs,rfl,.inr (SqT.of ea),by rw [l.1]; exact k _ _ (.int _) h2⟩
  ·cases e
   obtain ⟨a,rfl,ea⟩:=r.scr i
   exact ⟨a,_,rfl,.inl ea,by rw [length_map]; exact k _ _ (.int _) h2⟩) ha
def Agj (ps:List PV) (P:PV->Prop):Prop:=∃ i j:Int,ps = [.int i,.int j]/\P (.int (if j > i then j else i))
theorem Ale {m n:Bool} {t:TA} {u:UA} (ha:AU K C ω [m,n] t u):EU K C ω (tCB (fun xs H Q=>∃ i j,xs = [.int i,.int j]/\Q (.int (if j > i then j else i)) H) t) (uCB Agj u) :=
 AcM (fun G H vs ps P Q i ok h k=>by
  obtain ⟨v,w,p,q,rfl,rfl,r1,r2⟩:=Tq ok
  obtain ⟨x,y,e,h⟩:=h
  cases e
  exact ⟨x,y,by rw [r1.int,r2.int],k _ _ (.int _) h⟩) ha
def Aht (ps:List PV) (P:PV->Prop):Prop:=(∃ i:Int,ps = [.int i]/\P (.int i))\/∃ b:Bool,ps = [.bl b]/\P (.int (if b then 1 else 0))
theorem Xm {m:Bool} {t:TA} {u:UA} (ha:AU K C ω [m] t u):EU K C ω (tCB (fun xs H Q=>(∃ i,xs = [.int i]/\Q (.int i) H)\/∃ k,xs = [.bl k]/\Q (.int (if k then 1 else 0)) H) t) (uCB Aht u) :=
 AcM (fun G H vs ps P Q i ok h k=>by
  obtain ⟨v,p,rfl,rfl,r⟩:=Jw ok
  rcases h with ⟨x,e,h⟩ | ⟨x,e,h⟩
  ·cases e; exact .inl ⟨x,by rw [r.int],k _ _ (.int _) h⟩
  ·cases e; exact .inr ⟨x,by rw [r.bl],k _ _ (.int _) h⟩) ha
def Adw (ps:List PV) (P:PV->Prop):Prop:=∃ xs,(ps = [.lst xs]\/ps = [.tup xs]\/∃ ns,ps = [.scr ns]/\xs = ns.map .int)/\P (.lst xs)
theorem AbU {m:Bool} {t:TA} {u:UA} (ha:AU K C ω [m] t u):EF K C ω (tCB (fun xs H Q=>∃ p ys,xs = [.ref p]/\(SqL K H p ys\/SqT K H p ys)/\∀ l H',H l = none->Same H H'->H' l = some (.lst ys)->Q (.ref l) H') t) (uCB Adw u) :=
 fun B G0 H0 own G σ H ρ P Q S hu k=>ha B G0 H0 own G σ H ρ _ _ S hu fun vs ps G1 H1 w1 r1 h1=>by
  obtain ⟨v,p,rfl,rfl,r⟩:=Jw r1
  obtain ⟨xs,h1,h2⟩:=h1
  rcases h1 with e | e | ⟨ns,e,rfl⟩
  ·cases e
   obtain ⟨a,vs,rfl,ea,l⟩:=r.lst w1.i
   exact ⟨a,vs,rfl,.inl (SqL.of ea),fun b H4 hb s4 e4=>k b _ G1 H4 (w1.trans (Grow.own w1.i s4)) (w1.h.free hb) (w1.i.free hb) (OwnA.ofL e4 l) h2⟩
  ·cases e
   obtain ⟨a,vs,rfl,ea,l⟩:=r.tup w1.i
   exact ⟨a,vs,rfl,.inr (SqT.of ea),fun b H4 hb s4 e4=>k b _ G1 H4 (w1.trans (Grow.own w1.i s4)) (w1.h.free hb) (w1.i.free hb) (OwnA.ofL e4 l) h2⟩
  ·cases e
   obtain ⟨a,rfl,ea⟩:=r.scr w1.i
   exact ⟨a,_,rfl,.inl ea,fun b H4 hb s4 e4=>k b _ G1 H4 (w1.trans (Grow.own w1.i s4)) (w1.h.free hb) (w1.i.free hb) (OwnA.ofL e4 (Fi ns)) h2⟩
end
section
variable {K:Frag} {C:Addr} {ω:Om} {rm:Rm}
def AgD:US:=fun d ρ=>d.nx ρ
def Afw (u w:US):US:=fun d ρ=>u { d with nx:=w d } ρ
theorem Dg:SU K C ω rm Acc AgD:=fun B G0 H0 own G σ H ρ D d S F h=>F.nx own G σ H ρ S h
theorem Br {t t':TS} {u u':US} (h:SU K C ω rm t u) (h':SU K C ω rm t' u'):SU K C ω rm (Xt t t') (Afw u u'):=fun B G0 H0 own G σ H ρ D d S F hu =>
 h B G0 H0 own G σ H ρ { D with nx:=t' D } { d with nx:=u' d } S ⟨fun own' G' σ' H' ρ' S' q=>h' B G0 H0 own' G' σ' H' ρ' D d S' F q,F.rt,F.bk,F.ct⟩ hu
def AkD:US:=fun _ _=>False
theorem Wh:SU K C ω rm Aef AkD:=fun B G0 H0 own G σ H ρ D d S F h=>h.elim
def Ahq (ua:UE):US:=fun d ρ=>ua ρ fun _=>d.nx ρ
theorem Ye {ta:TE} {ua:UE} (ha:EB K C ω ta ua):SU K C ω rm (Wq ta) (Ahq ua):=fun B G0 H0 own G σ H ρ D d S F hu =>
 ha B G0 H0 own G σ H ρ _ _ S hu fun v p G' H' w _ h=>F.nx own G' σ H' ρ (S.grow w) h
def AfU (ua:UE):US:=fun d ρ=>ua ρ d.rt
theorem Dm {ta:TE} {ua:UE} (ha:EU K C ω ta ua):SU K C ω .sh (Xr ta) (AfU ua):=fun B G0 H0 own G σ H ρ D d S F hu =>
 ha B G0 H0 own G σ H ρ _ _ S hu fun v p G' H' w r h=>F.rt G' H' v p (S.gr.trans w) r h
theorem Je {ta:TE} {ua:UE} (ha:EF K C ω ta ua):SU K C ω .fr (Xr ta) (AfU ua):=fun B G0 H0 own G σ H ρ D d S F hu =>
 ha B G0 H0 own G σ H ρ _ _ S hu fun a p G' H' w n g r h=>F.rt G' H' _ p (S.gr.trans w) ⟨a,rfl,S.gr.h.free n,g,r⟩ h
def AgQ (i:Nat):US:=fun d ρ=>∃ p,ρ[i]? = some (.ow p)/\d.rt p
theorem Gq {i:Nat}:SU K C ω .fr (Xr (Fk i)) (AgQ i):=fun B G0 H0 own G σ H ρ D d S F ⟨p,e,h⟩=>by
 obtain ⟨a,e1,o,r⟩:=S.sl i _ e
 obtain ⟨f0,fg,_⟩:=S.fr i a o
 exact ⟨_,e1,F.rt G H _ p S.gr ⟨a,rfl,f0,fg,r⟩ h⟩
def Akl (uc:UT) (u w:US):US:=fun d ρ=>uc ρ fun b=>if b = true then u d ρ else w d ρ
theorem Dp {tc:TT} {t t':TS} {uc:UT} {u u':US} (hc:TU K C ω tc uc) (h:SU K C ω rm t u) (h':SU K C ω rm t' u'):SU K C ω rm (AfD tc t t') (Akl uc u u'):=fun B G0 H0 own G σ H ρ D d S F hu =>
 hc B G0 H0 own G σ H ρ _ _ S hu fun b G' H' w q=>by
  cases b with
  | true=>exact Ji (h B G0 H0 own G' σ H' ρ D d (S.grow w) F (by simpa using q))
  | false=>exact Jo (h' B G0 H0 own G' σ H' ρ D d (S.grow w) F (by simpa using q))
def Ajc (i:Nat) (ua:UE):US:=fun d ρ=>ua ρ fun p=>d.nx (ρ.set i (.sh p))
theorem Cc {i:Nat} {ta:TE} {ua:UE} (ha:EU K C ω ta ua):SU K C ω rm (Nc ta (Gf i)) (Ajc i ua):=fun B G0 H0 own G σ H ρ D d S F hu =>
 ha B G0 H0 own G σ H ρ _ _ S hu fun v p G' H' w r h=>F.nx _ G' _ H' _ ((S.grow w).setS r) h
def Agb (i:Nat) (ua:UE):US:=fun d ρ=>ua ρ fun p=>d.nx (ρ.set i (.ow p))
theorem Fc {i:Nat} {ta:TE} {ua:UE} (ha:EF K C ω ta ua):SU K C ω rm (Nc ta (Gf i)) (Agb i ua):=fun B G0 H0 own G σ H ρ D d S F hu =>
 ha B G0 H0 own G σ H ρ _ _ S hu fun a p G' H' w n g r h=>F.nx _ G' _ H' _ ((S.grow w).setO r (S.gr.h.free n) g fun j z=>(let ⟨_,_,o,ho,_⟩:=S.fr j a z; by rw [n] at ho; cases ho)) h
def Adu (i:Nat):PV->Bp->(Bp->Prop)->Prop:=fun p ρ P=>P (ρ.set i (.sh p))
theorem AaS {α:Type}:∀ {l:List α} {i top:Nat} {x:α},i < top->(l.set i x).drop top = l.drop top
 | [],_,_,_,_=>rfl
 | _ :: _,_,0,_,h=>by omega
 | _ :: _,0,_ + 1,_,_=>rfl
 | _ :: l,i + 1,t + 1,x,h=>AaS (l:=l) (i:=i) (top:=t) (by omega)
theorem Cn {top i:Nat} (hi:i < top:=by decide):GU K C ω top (Gf i) (Adu i):=fun B G0 H0 own G σ H ρ v p P R S r h k=>k _ _ _ (S.setS r) (AaS hi) h
def Aeg:List PV->Bp->(Bp->Prop)->Prop:=fun ps ρ P=>ps = []/\P ρ
def AbJ (u:PV->Bp->(Bp->Prop)->Prop) (us:List PV->Bp->(Bp->Prop)->Prop):List PV->Bp->(Bp->Prop)->Prop:=fun ps ρ P=>∃ p r,ps = p :: r/\u p ρ fun ρ'=>us r ρ' P
theorem Jb {top:Nat}:GsU K C ω top Ab4 Aeg:=fun B G0 H0 own G σ H ρ vs ps P R S r ⟨e,h⟩ k=>by
 subst e
 exact ⟨List.eq_nil_of_length_eq_zero r.1,k _ _ _ S rfl h⟩
theorem Du {top:Nat} {g:TG} {gs:TGs} {u:PV->Bp->(Bp->Prop)->Prop} {us:List PV->Bp->(Bp->Prop)->Prop} (hg:GU K C ω top g u) (hs:GsU K C ω top gs us):GsU K C ω top (Xe g gs) (AbJ u us):=fun B G0 H0 own G σ H ρ vs ps P R S r ⟨p,q,e,h⟩ k=>by
 subst e
 match vs,r with
 | [],r=>have:=r.1; simp at this
 | v :: vs,r =>
  obtain ⟨r1,r2⟩:=r.uncons
  exact ⟨v,vs,rfl,hg B G0 H0 own G σ H ρ v p _ _ S r1 h fun own' σ' ρ' S' dr h'=>hs B G0 H0 own' G σ' H ρ' vs q P R S' r2 h' fun own2 σ2 ρ2 S2 dr2 h2=>k own2 σ2 ρ2 S2 (dr2.trans dr) h2⟩
def Ahv (n:Nat) (us:List PV->Bp->(Bp->Prop)->Prop):PV->Bp->(Bp->Prop)->Prop:=fun p ρ P=>∃ ps,p = .tup ps/\ps.length = n/\us ps ρ P
theorem Ju {top n:Nat} {gs:TGs} {us:List PV->Bp->(Bp->Prop)->Prop} (hs:GsU K C ω top gs us):GU K C ω top (Xk K n gs) (Ahv n us):=fun B G0 H0 own G σ H ρ v p P R S r ⟨ps,e,hl,h⟩ k=>by
 subst e
 cases r with
 | tup e l q=>exact ⟨_,_,rfl,SqT.of (S.gr.i _ _ e),by rw [l]; exact hl,hs B G0 H0 own G σ H ρ _ ps P R S ⟨l,q⟩ h k⟩
theorem Rk {G:Hp} {vs:List V} {ps:List PV} {v:V} {p:PV} (h:Reps K C G vs ps) (r:Rep K C G v p):Reps K C G (vs ++ [v]) (ps ++ [p]):=LAt.snoc h r
theorem Sat.list {B G0 H0 G H:Hp} {own:Nat->Option Addr} {σ:St} {ρ:Bp} {i:Nat} {ps:List PV} (S:Sat K C ω B G0 H0 own G σ H ρ) (e:ρ[i]? = some (.ow (.lst ps))):∃ a vs,σ[i]? = some (some (.ref a))/\own i = some a/\H a = some (.lst vs)/\Reps K C G vs ps:=by
 obtain ⟨a,e1,o,vs,h1,h2⟩:=S.sl i _ e
 exact ⟨a,vs,e1,o,h1,h2⟩
theorem AiZ {B G0 H0 G H:Hp} {own:Nat->Option Addr} {σ:St} {ρ:Bp} {i:Nat} {r:V->List V->Hp->VK->Prop} {t:TA} {Q:VK} {ps:List PV} (S:Sat K C ω B G0 H0 own G σ H ρ) (e:ρ[i]? = some (.ow (.lst ps)))
  (k:∀ a vs,σ[i]? = some (some (.ref a))->own i = some a->H a = some (.lst vs)->Reps K C G vs ps->t σ H fun xs H2=>r (.ref a) xs H2 Q):tBM K "list" r (Fk i) t σ H Q:=by
 obtain ⟨a,vs,e1,o,h1,h2⟩:=S.list e
 exact ⟨_,e1,.inl ⟨rfl,_,SqL.of h1⟩,k a vs e1 o h1 h2⟩
def AfK (i:Nat) (ρ:Bp) (N:Bp->Prop) (qs:List PV):Prop:=∃ q ps,qs = [q]/\ρ[i]? = some (.ow (.lst ps))/\ps.length < 100000/\N (ρ.set i (.ow (.lst (ps ++ [q]))))
def AgG (i:Nat) (u:UA):US:=fun d ρ=>(∃ ps,ρ[i]? = some (.ow (.lst ps)))/\u ρ fun qs=>AfK i ρ d.nx qs
theorem Gk {i:Nat} {t:TA} {u:UA} (ha:AU K C ω [true] t u):SU K C ω rm (Wq (tBM K "list" Sx (Fk i) t)) (AgG i u):=fun B G0 H0 own G σ H ρ D d S F ⟨⟨ps0,e0⟩,hu⟩ =>
 AiZ S e0 fun a vs0 e1 o _ _=>ha B G0 H0 own G σ H ρ _ _ S hu fun xs qs G' H' w ok ⟨q,ps,eq,ep,hl,h⟩=>by
  have S':=S.grow w
  obtain ⟨a',vs,e1',o',h1,h2⟩:=S'.list ep
  rw [o] at o'; cases o'
  subst eq
  match xs,ok with
  | [x],ok =>
   have rx:Rep K C G' x q:=ok.1
   exact ⟨a,vs,x,rfl,rfl,h1,Vt (by rw [h2.1]; omega),fun H2 c e2=>F.nx own G' σ H2 _ (S'.chg o e1 c (OwnA.ofL e2 (Rk h2 rx))) h⟩
  | [],ok=>cases ok
  | _ :: _ :: _,ok=>cases ok.2
theorem AhI:EF K C ω AaT (fun _ P=>P (.dk [])):=fun B G0 H0 own G σ H ρ P Q S hu k p hp =>
 k p _ G _ (Grow.own S.gr.i (Same.new hp)) hp (S.gr.i.free hp) (by first | exact OwnA.ofD Bt LAt.nil | exact OwnA.ofDt Bt LAt.nil) hu
def kP:Key->PV
 | .inl i=>.int i
 | .inr x=>.str x
def Gc {κ:Type} [DecidableEq κ] (kvs:List (κ × PV)) (k:κ):Option PV:=(kvs.find? fun kv=>decide (kv.1 = k)).map (·.2)
def Sy {κ:Type} [DecidableEq κ] (kvs:List (κ × PV)) (k:κ) (v:PV):List (κ × PV) :=
 if kvs.any (fun kv=>decide (kv.1 = k)) then kvs.map (fun kv=>if kv.1 = k then (kv.1,v) else kv) else kvs ++ [(k,v)]
theorem Wp {κ:Type} [DecidableEq κ] {G:Hp}:∀ {kvs:List (κ × V)} {ps:List (κ × PV)} (k:κ),LAt (KRep K C) G kvs ps->(Cv kvs k = none/\Gc ps k = none)\/∃ v p,Cv kvs k = some v/\Gc ps k = some p/\Rep K C G v p
 | [],[],_,_=>.inl ⟨rfl,rfl⟩
 | [],_ :: _,_,h=>by have:=h.1; simp at this
 | _ :: _,[],_,h=>by have:=h.1; simp at this
 | x :: xs,y :: ys,k,h=>by
  obtain ⟨⟨e,r⟩,h2⟩:=h.uncons
  unfold Cv Gc
  rw [find?_cons,find?_cons,<- e]
  by_cases z:x.1 = k
  ·rw [decide_eq_true z]; exact .inr ⟨_,_,rfl,rfl,r⟩
  ·rw [decide_eq_false z]; exact Wp k h2
theorem AcF {G H:Hp} {v:V} {k:Key} (h:RepB K C G H v (kP k)):v = kV k:=by
 cases k with
 | inl i=>exact h.int
 | inr x=>exact h.str
end
section
variable {K:Frag} {C:Addr} {ω:Om} {rm:Rm}
theorem Ajd {κ:Type} [DecidableEq κ] {G:Hp} {kvs:List (κ × V)} {ps:List (κ × PV)} {k:κ} {v:V} {p:PV} (h:LAt (KRep K C) G kvs ps) (r:Rep K C G v p):LAt (KRep K C) G (Gs kvs k v) (Sy ps k p):=by
 have hany:(kvs.any fun kv=>decide (kv.1 = k)) = (ps.any fun kv=>decide (kv.1 = k)):=by
  clear r
  induction kvs generalizing ps with
  | nil=>cases ps with
   | nil=>rfl
   | cons y ys=>have:=h.1; simp at this
  | cons x xs ih=>cases ps with
   | nil=>have:=h.1; simp at this
   | cons y ys =>
    obtain ⟨⟨e,_⟩,h2⟩:=h.uncons
    rw [any_cons,any_cons,e,ih h2]
 unfold Gs Sy
 rw [hany]
 split
 ·refine ⟨by rw [length_map,length_map,h.1],fun i x y e1 e2=>?_⟩
  rw [getElem?_map] at e1 e2
  obtain ⟨x',hx,rfl⟩:=map_eq_some_iff.mp e1
  obtain ⟨y',hy,rfl⟩:=map_eq_some_iff.mp e2
  obtain ⟨q1,q2⟩:=h.2 i x' y' hx hy
  by_cases z:x'.1 = k
  ·rw [if_pos z,if_pos (by rw [<- q1]; exact z)]; exact ⟨q1,r⟩
  ·rw [if_neg z,if_neg (by rw [<- q1]; exact z)]; exact ⟨q1,q2⟩
 ·exact LAt.snoc h ⟨rfl,r⟩
theorem AiU {G H:Hp} {v w:V} {kvs:List (Key × PV)} {k:Key} (i:Same G H) (r1:RepB K C G H w (.dk kvs)) (r2:RepB K C G H v (kP k)):∃ a o,w = .ref a/\IsD H a/\DGet H a v o/\((o = none/\Gc kvs k = none)\/∃ x p,o = some x/\Gc kvs k = some p/\Rep K C G x p):=by
 obtain ⟨a,vs,rfl,ea,l⟩:=r1.dk i
 rw [AcF r2]
 refine ⟨a,Cv vs k,rfl,.inl ⟨_,.inl ea⟩,DGet.k ea,?_⟩
 rcases Wp k l with ⟨h1,h2⟩ | ⟨x,p,h1,h2,h3⟩
 ·exact .inl ⟨h1,h2⟩
 ·exact .inr ⟨x,p,h1,h2,h3⟩
def Ab0 (p q:PV) (P:PV->Prop):Prop:=∃ kvs k x,p = .dk kvs/\q = kP k/\Gc kvs k = some x/\P x
def Aah (kvs:List (Key × PV)) (q z:PV) (P:PV->Prop):Prop:=∃ k,q = kP k/\P ((Gc kvs k).getD z)
def AcX (i:Nat) (ub uc:UE):UE:=fun ρ P=>∃ s kvs,ρ[i]? = some s/\s.val = some (.dk kvs)/\ub ρ fun q=>uc ρ fun z=>Aah kvs q z P
theorem AfV {i:Nat} {tb tc:TE} {ub uc:UE} (hb:EB K C ω tb ub) (hc:EU K C ω tc uc):EU K C ω (AaD (Fk i) tb tc) (AcX i ub uc):=fun B G0 H0 own G σ H ρ P Q S ⟨s,kvs,e,ev,hu⟩ k =>
 Bb B G0 H0 own G σ H ρ (fun p=>p = .dk kvs) _ S ⟨s,_,e,ev,rfl⟩ fun v q G1 H1 w1 r1 e0=>by
  subst e0
  obtain ⟨a,vs,rfl,ea,l⟩:=r1.dk w1.i
  refine ⟨a,rfl,.inl ⟨_,.inl ea⟩,hb B G0 H0 own G1 σ H1 ρ _ _ (S.grow w1) hu fun w p G2 H2 w2 r2 h2=>hc B G0 H0 own G2 σ H2 ρ _ _ ((S.grow w1).grow w2) h2 fun z pz G3 H3 w3 r3 ⟨key,e2,h⟩=>?_⟩
  subst e2
  obtain ⟨a',o,e,_,hg,ho⟩:=AiU w3.i ((r1.grow w2).grow w3) (r2.grow w3)
  cases e
  refine ⟨o,hg,?_⟩
  have w:=(w1.trans w2).trans w3
  rcases ho with ⟨h1,h2⟩ | ⟨y,p,h1,h2,h3⟩
  ·rw [h2] at h; subst h1; exact k _ _ G3 H3 w r3 h
  ·rw [h2] at h; subst h1; exact k _ _ G3 H3 w h3 h
def Ab6 (i:Nat) (ρ:Bp) (N:Bp->Prop) (p q:PV):Prop:=∃ kvs k,ρ[i]? = some (.ow (.dk kvs))/\q = kP k/\kvs.length < 100000/\N (ρ.set i (.ow (.dk (Sy kvs k p))))
def AgB (i:Nat) (ub uv:UE):US:=fun d ρ=>(∃ kvs,ρ[i]? = some (.ow (.dk kvs)))/\uv ρ fun p=>ub ρ fun q=>Ab6 i ρ d.nx p q
theorem AhR {i:Nat} {tb tv:TE} {ub uv:UE} (hb:EB K C ω tb ub) (hv:EU K C ω tv uv):SU K C ω rm (Acn (Fk i) tb tv) (AgB i ub uv):=fun B G0 H0 own G σ H ρ D d S F ⟨⟨kvs0,e0⟩,hu⟩ =>
 hv B G0 H0 own G σ H ρ _ _ S hu fun v p G1 H1 w1 r1 h1=>by
  have S1:=S.grow w1
  obtain ⟨a,ea,o,_⟩:=S.sl i _ e0
  refine ⟨_,ea,hb B G0 H0 own G1 σ H1 ρ _ _ S1 h1 fun w q G2 H2 w2 r2 ⟨kvs,k,e,e2,hl,h⟩=>?_⟩
  subst e2
  have S2:=S1.grow w2
  obtain ⟨a',ea',o',vs,ha,l⟩:=S2.sl i _ e
  rw [o] at o'; cases o'
  rw [AcF r2]
  exact ⟨a,_,rfl,DPut.k ha (Vt (by rw [l.1]; omega)),F.nx own G2 σ _ _ (S2.chg o ea Chg.put (OwnA.ofD Bt (Ajd l (r1.mono w2.g)))) h⟩
end
section
variable {K:Frag} {C:Addr} {ω:Om} {rm:Rm}
abbrev UI:=Bp->(List PV->Prop)->Prop
def Vd (ps:List PV) (ug:PV->Bp->(Bp->Prop)->Prop) (ub:US):US:=fun d ρ=>∃ I:Nat->Bp->Prop,I 0 ρ/\(∀ k p ρ,ps[k]? = some p->I k ρ->ug p ρ fun ρ'=>ub { d with nx:=I (k + 1),ct:=I (k + 1),bk:=d.nx } ρ')/\∀ ρ,I ps.length ρ->d.nx ρ
def Aft (ui:UI) (ug:PV->Bp->(Bp->Prop)->Prop) (ub:US):US:=fun d ρ=>ui ρ fun ps=>Vd ps ug ub d ρ
def bL (p:PV) (R:List PV->Prop):Prop:=∃ ps,(p = .lst ps\/∃ ns,p = .scr ns/\ps = ns.map .int)/\R ps
def uiL (ua:UE):UI:=fun ρ R=>ua ρ fun p=>bL p R
theorem Gv {B B1 G0 H0:Hp} {D:Ends} {d:Ft} {N:Bp->Prop} {M:St->Hp->Prop} (F:Acd K C ω rm B G0 H0 D d) (hb:Same B B1) (hM:∀ own G σ H ρ,Sat K C ω B1 G0 H0 own G σ H ρ->N ρ->M σ H) :
  Acd K C ω rm B1 G0 H0 { D with nx:=M,ct:=M,bk:=D.nx } { d with nx:=N,ct:=N,bk:=d.nx } :=
 ⟨hM,F.rt,fun own G σ H ρ S h=>F.nx own G σ H ρ (S.base (hb.trans S.kb)) h,hM⟩
theorem Ww {top:Nat} {ta:TE} {ua:UE} {g:TG} {ug:PV->Bp->(Bp->Prop)->Prop} {tb:TS} {ub:US} (ha:EU K C ω ta ua) (hg:GU K C ω top g ug) (hb:SU K C ω rm tb ub):SU K C ω rm (Lg (Tb K ta) g tb) (Aft (uiL ua) ug ub) :=
 fun B G0 H0 own G σ H ρ D d S F hu=>ha B G0 H0 own G σ H ρ _ _ S hu fun v p G1 H1 w1 r1 ⟨ps,e,I,i0,ist,iend⟩=>by
  have S1:=S.grow w1
  obtain ⟨a,vs,rfl,sq,rp⟩:∃ a vs,v = .ref a/\SqL K G1 a vs/\Reps K C G1 vs ps:=by
   rcases e with e | ⟨ns,e,e2⟩
   ·subst e
    cases r1 with
    | lst e l q=>exact ⟨_,_,rfl,SqL.of e,l,q⟩
   ·subst e e2
    cases r1 with
    | scr e=>exact ⟨_,_,rfl,e,Fi ns⟩
  refine ⟨a,rfl,⟨vs,w1.i.seq sq⟩,Wk (xs:=vs) (fun k σ' H'=>∃ own' G' ρ',Sat K C ω G1 G0 H0 own' G' σ' H' ρ'/\I k ρ') ⟨own,G1,ρ,S1.base (Same.refl _),i0⟩ (fun k σ' H' _ ⟨own',G',ρ',S',_⟩=>(S'.kb.trans S'.gr.i).seq sq) (fun k x σ' H' hx ⟨own',G',ρ',S',hi⟩=>?_) fun σ' H' ⟨own',G',ρ',S',hi⟩=>?_⟩
  ·obtain ⟨q,hq,rq⟩:=rp.get hx
   exact hg G1 G0 H0 own' G' σ' H' ρ' x q _ _ S' (rq.mono S'.kb) (ist k q ρ' hq hi) fun own2 σ2 ρ2 S2 _ h2=>hb G1 G0 H0 own2 G' σ2 H' ρ2 _ _ S2 (Gv F S1.kb fun own3 G3 σ3 H3 ρ3 S3 h3=>⟨own3,G3,ρ3,S3,h3⟩) h2
  ·rw [rp.1] at hi
   exact F.nx own' G' σ' H' ρ' (S'.base (S1.kb.trans S'.kb)) (iend ρ' hi)
def uiB (i:Nat):UI:=fun ρ R=>∃ s p ps,ρ[i]? = some s/\(s = .bo p\/s = .sh p)/\(p = .lst ps\/∃ ns,p = .scr ns/\ps = ns.map .int)/\R ps
theorem Yb {top:Nat} {i:Nat} {g:TG} {ug:PV->Bp->(Bp->Prop)->Prop} {tb:TS} {ub:US} (hg:GU K C ω top g ug) (hb:SU K C ω rm tb ub):SU K C ω rm (Lg (Tb K (Fk i)) g tb) (Aft (uiB i) ug ub) :=
 fun B G0 H0 own G σ H ρ D d S F ⟨s,p,ps,es,ek,e,I,i0,ist,iend⟩=>by
  have key:∃ a vs,σ[i]? = some (some (.ref a))/\(∀ G' H',Same G G'->Same H0 H'->Same G' H'->SqL K H' a vs)/\Reps K C G vs ps:=by
   rcases ek with ek | ek
   ·subst ek
    obtain ⟨v,ev,rb⟩:=S.sl i _ es
    rcases e with e | ⟨ns,e,e2⟩
    ·subst e
     rcases rb with rb | ⟨a,e2,vs,h1,h2⟩
     ·cases rb with
      | lst e l q=>exact ⟨_,_,ev,fun G' H' s1 s2 s3=>SqL.of (s3 _ _ (s1 _ _ (S.gr.g _ _ e))),l,fun j x y h1 h2=>(q j x y h1 h2).mono S.gr.g⟩
     ·subst e2
      exact ⟨a,vs,ev,fun G' H' s1 s2 s3=>SqL.of (s2 _ _ h1),h2.mono S.gr.g⟩
    ·subst e e2
     rcases rb with rb | ⟨a,e2,h⟩
     ·cases rb with
      | scr e=>exact ⟨_,_,ev,fun G' H' s1 s2 s3=>s3.seq (s1.seq (S.gr.g.seq e)),Fi ns⟩
     ·exact h.elim
   ·subst ek
    obtain ⟨v,ev,rb⟩:=S.sl i _ es
    rcases e with e | ⟨ns,e,e2⟩
    ·subst e
     cases rb with
     | lst e l q=>exact ⟨_,_,ev,fun G' H' s1 s2 s3=>SqL.of (s3 _ _ (s1 _ _ e)),l,q⟩
    ·subst e e2
     cases rb with
     | scr e=>exact ⟨_,_,ev,fun G' H' s1 s2 s3=>s3.seq (s1.seq e),Fi ns⟩
  obtain ⟨a,vs,ev,sq,rp⟩:=key
  refine ⟨_,ev,a,rfl,⟨vs,sq G H (Same.refl _) S.gr.h S.gr.i⟩,Wk (xs:=vs) (fun k σ' H'=>∃ own' G' ρ',Sat K C ω G G0 H0 own' G' σ' H' ρ'/\I k ρ') ⟨own,G,ρ,S.base (Same.refl _),i0⟩ (fun k σ' H' _ ⟨own',G',ρ',S',_⟩=>sq G' H' S'.kb S'.gr.h S'.gr.i) (fun k x σ' H' hx ⟨own',G',ρ',S',hi⟩=>?_) fun σ' H' ⟨own',G',ρ',S',hi⟩=>?_⟩
  ·obtain ⟨q,hq,rq⟩:=rp.get hx
   exact hg G G0 H0 own' G' σ' H' ρ' x q _ _ S' (rq.mono S'.kb) (ist k q ρ' hq hi) fun own2 σ2 ρ2 S2 _ h2=>hb G G0 H0 own2 G' σ2 H' ρ2 _ _ S2 (Gv F S.kb fun own3 G3 σ3 H3 ρ3 S3 h3=>⟨own3,G3,ρ3,S3,h3⟩) h2
  ·rw [rp.1] at hi
   exact F.nx own' G' σ' H' ρ' (S'.base (S.kb.trans S'.kb)) (iend ρ' hi)
def Xd (lo:Int) (n:Nat) (ug:PV->Bp->(Bp->Prop)->Prop) (ub:US):US:=fun d ρ=>∃ I:Nat->Bp->Prop,I 0 ρ/\(∀ k ρ,k < n->I k ρ->ug (.int (lo + k)) ρ fun ρ'=>ub { d with nx:=I (k + 1),ct:=I (k + 1),bk:=d.nx } ρ')/\∀ ρ,I n ρ->d.nx ρ
def bR1 (R:Nat->Prop) (ps:List PV):Prop:=∃ j:Int,ps = [.int j]/\-(2 ^ 62) <= j/\j < 2 ^ 62/\R j.toNat
def Ahc (u:UA) (ug:PV->Bp->(Bp->Prop)->Prop) (ub:US):US:=fun d ρ=>u ρ fun ps=>bR1 (fun n=>Xd 0 n ug ub d ρ) ps
def bR2 (R:Int->Nat->Prop) (ps:List PV):Prop:=∃ i j:Int,ps = [.int i,.int j]/\(-(2 ^ 62) <= i/\i < 2 ^ 62/\-(2 ^ 62) <= j/\j < 2 ^ 62)/\R i (j - i).toNat
def AgE (u:UA) (ug:PV->Bp->(Bp->Prop)->Prop) (ub:US):US:=fun d ρ=>u ρ fun ps=>bR2 (fun i n=>Xd i n ug ub d ρ) ps
theorem Ag0 {top:Nat} {B G0 H0 G H:Hp} {own:Nat->Option Addr} {σ:St} {ρ:Bp} {D:Ends} {d:Ft} {lo:Int} {n:Nat} {g:TG} {ug:PV->Bp->(Bp->Prop)->Prop} {tb:TS} {ub:US} (hg:GU K C ω top g ug) (hb:SU K C ω rm tb ub) (S:Sat K C ω B G0 H0 own G σ H ρ) (F:Acd K C ω rm B G0 H0 D d) (h:Xd lo n ug ub d ρ) :
  ∃ W:Nat->Nat->St->Hp->Prop,(∃ m,W 0 m σ H)/\∀ i m σ H,W i m σ H->((Itr lo n).stop i H/\D.nx σ H)\/((Itr lo n).go i H/\∃ N:St->Hp->Prop,(∀ σ' H',N σ' H'->∃ m',m' < m/\W (i + 1) m' σ' H')/\∀ x H',(Itr lo n).yld i H x H'->g x σ H' fun σ2 H2=>tb { D with nx:=N,ct:=N,bk:=D.nx } σ2 H2):=by
 obtain ⟨I,i0,ist,iend⟩:=h
 refine Yp (fun k σ' H'=>∃ own' G' ρ',Sat K C ω B G0 H0 own' G' σ' H' ρ'/\I k ρ') ⟨own,G,ρ,S,i0⟩ (fun k σ' H' hk ⟨own',G',ρ',S',hi⟩=>?_) fun σ' H' ⟨own',G',ρ',S',hi⟩=>F.nx own' G' σ' H' ρ' S' (iend ρ' hi)
 exact hg B G0 H0 own' G' σ' H' ρ' _ _ _ _ S' (.int _) (ist k ρ' hk hi) fun own2 σ2 ρ2 S2 _ h2=>hb B G0 H0 own2 G' σ2 H' ρ2 _ _ S2 (Gv F (Same.refl _) fun own3 G3 σ3 H3 ρ3 S3 h3=>⟨own3,G3,ρ3,S3,h3⟩) h2
theorem Abu {top:Nat} {m:Bool} {t:TA} {u:UA} {g:TG} {ug:PV->Bp->(Bp->Prop)->Prop} {tb:TS} {ub:US} (ha:AU K C ω [m] t u) (hg:GU K C ω top g ug) (hb:SU K C ω rm tb ub):SU K C ω rm (Lg (AcC t) g tb) (Ahc u ug ub) :=
 fun B G0 H0 own G σ H ρ D d S F hu=>ha B G0 H0 own G σ H ρ _ _ S hu fun vs ps G1 H1 w1 ok ⟨j,e,h1,h2,h⟩=>by
  obtain ⟨v,p,rfl,e2,r⟩:=Jw ok
  rw [e] at e2; cases e2
  exact ⟨j,by rw [r.int],h1,h2,Ag0 hg hb (S.grow w1) F h⟩
theorem Xz {top:Nat} {m n:Bool} {t:TA} {u:UA} {g:TG} {ug:PV->Bp->(Bp->Prop)->Prop} {tb:TS} {ub:US} (ha:AU K C ω [m,n] t u) (hg:GU K C ω top g ug) (hb:SU K C ω rm tb ub):SU K C ω rm (Lg (Zq t) g tb) (AgE u ug ub) :=
 fun B G0 H0 own G σ H ρ D d S F hu=>ha B G0 H0 own G σ H ρ _ _ S hu fun vs ps G1 H1 w1 ok ⟨i,j,e,h1,h⟩=>by
  obtain ⟨v,w,p,q,rfl,e2,r1,r2⟩:=Tq ok
  rw [e] at e2; cases e2
  exact ⟨i,j,by rw [r1.int,r2.int],h1,Ag0 hg hb (S.grow w1) F h⟩
def AkR (uc:UT) (ub:US):US:=fun d ρ=>∃ I:Nat->Bp->Prop,(∃ m,I m ρ)/\∀ m ρ,I m ρ->uc ρ fun b=>if b = true then ub { d with nx:=fun ρ'=>∃ m',m' < m/\I m' ρ',ct:=fun ρ'=>∃ m',m' < m/\I m' ρ',bk:=d.nx } ρ else d.nx ρ
theorem AaY {tc:TT} {uc:UT} {tb:TS} {ub:US} (hc:TU K C ω tc uc) (hb:SU K C ω rm tb ub):SU K C ω rm (Ads tc tb) (AkR uc ub):=fun B G0 H0 own G σ H ρ D d S F ⟨I,⟨m,i0⟩,ist⟩ =>
 ⟨fun m σ' H'=>∃ own' G' ρ',Sat K C ω B G0 H0 own' G' σ' H' ρ'/\I m ρ',⟨m,own,G,ρ,S,i0⟩,fun m σ' H' ⟨own',G',ρ',S',hi⟩=>hc B G0 H0 own' G' σ' H' ρ' _ _ S' (ist m ρ' hi) fun b G1 H1 w1 h1=>by
  cases b with
  | false=>exact Jo (F.nx own' G1 σ' H1 ρ' (S'.grow w1) (by simpa using h1))
  | true =>
   refine Ji ?_
   refine ⟨fun σ2 H2=>∃ m',m' < m/\∃ own2 G2 ρ2,Sat K C ω B G0 H0 own2 G2 σ2 H2 ρ2/\I m' ρ2,fun σ2 H2 h=>h,hb B G0 H0 own' G1 σ' H1 ρ' _ _ (S'.grow w1) (Gv (N:=fun ρ'=>∃ m',m' < m/\I m' ρ') F (Same.refl _) fun own3 G3 σ3 H3 ρ3 S3 ⟨m',hm,h3⟩=>⟨m',hm,own3,G3,ρ3,S3,h3⟩) (by simpa using h1)⟩⟩
end
section
variable {K:Frag} {C:Addr} {ω:Om}
def boS:Sl->Sl
 | .ow p=>.bo p
 | .fz _ kvs=>.bz kvs
 | .fl _ ps=>.bo (.lst ps)
 | .om _ p=>.bo p
 | s=>s
def compρ (k:Nat) (fr:List Nat) (ρ:Bp):Bp:=replicate k .un ++ fr.map fun i=>boS ((ρ[i]?).getD .un)
theorem Sat.comp {B G0 H0 G1 H1:Hp} {own:Nat->Option Addr} {σ:St} {ρ:Bp} (S:Sat K C ω B G0 H0 own G1 σ H1 ρ) (k:Nat) (fr:List Nat) {G H:Hp} (w:Grow G1 H1 G H):Sat K C Om.no G1 G1 H1 (fun _=>none) G (compσ k fr σ) H (compρ k fr ρ):=by
 refine ⟨w.g,w,?_,fun i j a h=>(by cases h),fun i a h=>(by cases h),fun i s h=>?_,fun _ _ _ z=>z.elim⟩
 ·unfold compσ compρ; simp
 ·by_cases hk:i < k
  ·unfold compρ at h
   rw [getElem?_append_left (by rw [length_replicate]; exact hk),getElem?_replicate,if_pos hk] at h
   cases h; trivial
  ·unfold compρ at h
   rw [getElem?_append_right (by rw [length_replicate]; omega),length_replicate,getElem?_map] at h
   obtain ⟨j,hj,e⟩:=map_eq_some_iff.mp h
   have hσ:(compσ k fr σ)[i]? = some (σ[j]?).join:=by
    unfold compσ
    rw [getElem?_append_right (by rw [length_replicate]; omega),length_replicate,getElem?_map,hj]; rfl
   cases e2:ρ[j]? with
   | none=>rw [e2] at e; cases e; trivial
   | some s0 =>
    rw [e2] at e
    have q:=S.sl j s0 e2
    cases s0 with
    | un=>cases e; trivial
    | sh p=>cases e; obtain ⟨v,ev,r⟩:=q; exact ⟨v,by rw [hσ,ev]; rfl,r.mono w.g⟩
    | bo p=>cases e; obtain ⟨v,ev,r⟩:=q; exact ⟨v,by rw [hσ,ev]; rfl,r.grow S.gr⟩
    | ow p=>cases e; obtain ⟨a,ev,_,r⟩:=q; exact ⟨_,by rw [hσ,ev]; rfl,.inr ⟨a,rfl,r⟩⟩
    | fz z kvs=>cases e; obtain ⟨ev,_,h1,h2⟩:=q; exact ⟨z.1,z.2.1,z.2.2,by rw [hσ,ev]; rfl,h1,KReps.mono h2 w.g⟩
    | bz kvs=>cases e; obtain ⟨a,o,vs,ev,h1,h2⟩:=q; exact ⟨a,o,vs,by rw [hσ,ev]; rfl,S.gr.h _ _ h1,KReps.mono h2 w.g⟩
    | fl z ps=>cases e; obtain ⟨ev,_,h1,h2⟩:=q; exact ⟨_,by rw [hσ,ev]; rfl,.inr ⟨z.1,rfl,OwnA.ofL h1 h2⟩⟩
    | om a p=>cases e; obtain ⟨ev,_,r⟩:=q; exact ⟨_,by rw [hσ,ev]; rfl,.inr ⟨a,rfl,r⟩⟩
def Agx:UT:=fun _ P=>P true
theorem Ja:TU K C ω Acv Agx:=fun B G0 H0 own G σ H ρ P Q S hu k=>k true G H (Grow.refl S.gr.i) hu
def Qx (ps:List PV) (ug:PV->Bp->(Bp->Prop)->Prop) (uc:UT) (ue:UE) (ρ':Bp) (P:PV->Prop):Prop:=∃ I:Nat->List PV->Prop,I 0 []/\(∀ n p rs,ps[n]? = some p->I n rs->ug p ρ' fun ρ2=>uc ρ2 fun b=>if b = true then ue ρ2 fun q=>I (n + 1) (rs ++ [q]) else I (n + 1) rs)/\∀ rs,I ps.length rs->P (.lst rs)
def CSt (K:Frag) (C:Addr) (G1 H1:Hp) (D:Addr) (I:Nat->List PV->Prop) (n:Nat) (H:Hp):Prop:=∃ G ys rs,Grow G1 H1 G H/\G D = none/\H D = some (.lst ys)/\Reps K C G ys rs/\rs.length <= n/\I n rs
theorem Yz {B G0 H0 G1 H1:Hp} {own:Nat->Option Addr} {σ:St} {ρ:Bp} (S:Sat K C ω B G0 H0 own G1 σ H1 ρ) {k:Nat} {fr:List Nat} {g:TG} {ug:PV->Bp->(Bp->Prop)->Prop} {tc:TT} {uc:UT} {te:TE} {ue:UE} (hg:GU K C Om.no k g ug) (hc:TU K C Om.no tc uc) (he:EU K C Om.no te ue) {D:Addr} (hD:H1 D = none) {I:Nat->List PV->Prop} {n:Nat} (hn:n < 100000) {x:V} {p:PV} {H':Hp} {N:Hp->Prop}
  (rx:∀ G,Same G1 G->Rep K C G x p) (st:CSt K C G1 H1 D I n H') (hN:∀ H'',CSt K C G1 H1 D I (n + 1) H''->N H'') (hs:∀ rs,I n rs->ug p (compρ k fr ρ) fun ρ2=>uc ρ2 fun b=>if b = true then ue ρ2 fun q=>I (n + 1) (rs ++ [q]) else I (n + 1) rs) :
  g x (compσ k fr σ) H' fun σ2 H2=>σ2.drop k = (compσ k fr σ).drop k/\tc σ2 H2 fun b H3=>if b = true then te σ2 H3 (fun y H4=>∃ ys,H4 D = some (.lst ys)/\ys.length < sizeLine/\N (upd H4 D (.lst (ys ++ [y])))) else N H3:=by
 obtain ⟨G,ys,rs,w,gD,eD,ry,hl,hi⟩:=st
 refine hg G1 G1 H1 _ G _ H' _ x p _ _ (S.comp k fr w) (rx G w.g) (hs rs hi) fun own' σ' ρ' S' dr h=>⟨dr,hc G1 G1 H1 own' G σ' H' ρ' _ _ S' h fun b G3 H3 w3 h3=>?_⟩
 cases b with
 | false=>exact Jo (hN _ ⟨G3,ys,rs,w.trans w3,w3.n D _ eD (fun _ z=>nomatch z) gD,w3.h _ _ eD,ry.mono w3.g,by omega,by simpa using h3⟩)
 | true =>
  refine Ji (he G1 G1 H1 own' G3 σ' H3 ρ' _ _ (S'.grow w3) (by simpa using h3) fun y q G4 H4 w4 r4 h4=>?_)
  have w34:=w3.trans w4
  have g4:G4 D = none:=w34.n D _ eD (fun _ z=>nomatch z) gD
  have e4:H4 D = some (.lst ys):=w34.h _ _ eD
  refine ⟨ys,e4,Vt (by rw [ry.1]; omega),hN _ ⟨G4,_,_,⟨(w.trans w34).g,fun b u h=>?_,fun b u h=>?_,(w.trans w34).n⟩,g4,Bt,Rk (ry.mono w34.g) r4,by rw [length_append]; simp; omega,h4⟩⟩
  ·rw [Bl (by intro z; subst z; rw [hD] at h; cases h)]; exact (w.trans w34).h _ _ h
  ·rw [Bl (by intro z; subst z; rw [g4] at h; cases h)]; exact w34.i _ _ h
theorem Ri {G1 H1:Hp} {D:Addr} {I:Nat->List PV->Prop} (i:Same G1 H1) (hD:H1 D = none) (h:I 0 []):CSt K C G1 H1 D I 0 (upd H1 D (.lst [])) :=
 ⟨G1,[],[],Grow.own i (Same.new hD),i.free hD,Bt,LAt.nil,by simp,h⟩
def AgH (ua:UE) (ug:PV->Bp->(Bp->Prop)->Prop) (uc:UT) (ue:UE) (k:Nat) (fr:List Nat):UE:=fun ρ P=>ua ρ fun p=>bL p fun ps=>ps.length <= 100000/\Qx ps ug uc ue (compρ k fr ρ) P
theorem Fr {ta:TE} {ua:UE} {k:Nat} {fr:List Nat} {g:TG} {ug:PV->Bp->(Bp->Prop)->Prop} {tc:TT} {uc:UT} {te:TE} {ue:UE} (ha:EB K C ω ta ua) (hg:GU K C Om.no k g ug) (hc:TU K C Om.no tc uc) (he:EU K C Om.no te ue):EF K C ω (Jg (Tb K ta) g tc te k fr) (AgH ua ug uc ue k fr) :=
 fun B G0 H0 own G σ H ρ P Q S hu kk=>Sa (Anq (ha B G0 H0 own G σ H ρ _ _ S hu fun v p G1 H1 w1 r1 ⟨ps,e,hl,I,i0,ist,iend⟩=>by
  have S1:=S.grow w1
  obtain ⟨a,vs,rfl,sq,rp⟩:∃ a vs,v = .ref a/\SqL K H1 a vs/\Reps K C G1 vs ps:=by
   rcases e with e | ⟨ns,e,e2⟩
   ·subst e
    obtain ⟨a,vs,rfl,ea,l⟩:=r1.lst w1.i
    exact ⟨a,vs,rfl,SqL.of ea,l⟩
   ·subst e e2
    obtain ⟨a,rfl,ea⟩:=r1.scr w1.i
    exact ⟨a,_,rfl,ea,Fi ns⟩
  refine ⟨a,rfl,⟨vs,sq⟩,fun D hD=>CP.list vs (CSt K C G1 H1 D I) (Ri w1.i hD i0) (fun n H' _ ⟨G',_,_,w,_⟩=>w.h.seq sq) (fun n x H' N hx st hN=>?_) fun H' st=>?_⟩
  ·obtain ⟨q,hq,rq⟩:=rp.get hx
   have hn:n < ps.length:=(List.getElem?_eq_some_iff.mp hq).1
   exact Yz S1 hg hc he hD (by omega) (fun G' s=>rq.mono s) st hN fun rs hi=>ist n q rs hq hi
  ·obtain ⟨G',ys,rs,w,gD,eD,ry,_,hi⟩:=st
   rw [rp.1] at hi
   exact kk D _ G' H' (w1.trans w) (w1.h.free hD) gD (OwnA.ofL eD ry) (iend rs hi)))
end
section
variable {K:Frag} {C:Addr} {ω:Om}
abbrev PSp:=List PV->(PV->Prop)->Prop
def spOf (K:Frag) (C:Addr) (ms:List Bool) (rm:Rm) (psp:PSp):Sp:=fun vs H Q _=>∃ G ps P,Same G H/\ArgsOk K C G H ms vs ps/\psp ps P/\∀ G' H' v p,Grow G H G' H'->ROk K C rm H G' H' v p->P p->Q v H'
def Su (psp:PSp) (u:UA):UE:=fun ρ P=>u ρ fun ps=>psp ps P
theorem Ci {ms:List Bool} {psp:PSp} {E:XK} {t:TA} {u:UA} (ha:AU K C ω ms t u):EU K C ω (Ll (spOf K C ms .sh psp) [] E t) (Su psp u) :=
 fun B G0 H0 own G σ H ρ P Q S hu k=>ha B G0 H0 own G σ H ρ _ _ S hu fun vs ps G1 H1 w1 ok h=>by
  rw [append_nil]
  exact ⟨G1,ps,P,w1.i,ok,h,fun G' H' v p w r hp=>k v p G' H' (w1.trans w) r hp⟩
theorem Dk {ms:List Bool} {psp:PSp} {E:XK} {t:TA} {u:UA} (ha:AU K C ω ms t u):EF K C ω (Ll (spOf K C ms .fr psp) [] E t) (Su psp u) :=
 fun B G0 H0 own G σ H ρ P Q S hu k=>ha B G0 H0 own G σ H ρ _ _ S hu fun vs ps G1 H1 w1 ok h=>by
  rw [append_nil]
  exact ⟨G1,ps,P,w1.i,ok,h,fun G' H' v p w ⟨a,e,n,g,r⟩ hp=>by subst e; exact k a p G' H' (w1.trans w) (w1.h.free n) g r hp⟩
def Ws (n:Nat) (ms:List Bool) (ps:List PV):Bp:=zipWith (fun m p=>if m = true then Sl.sh p else Sl.bo p) ms ps ++ replicate (n - ps.length) .un
def AfH (rm:Rm) (P:PV->Prop):Bp->Prop:=match rm with
 | .sh=>fun _=>P .non
 | .fr=>fun _=>False
 | .mu _=>fun _=>False
theorem ArgsOk.slots {G H:Hp} {own:Nat->Option Addr}:∀ {ms:List Bool} {vs:List V} {ps:List PV} {i:Nat} {s:Sl} {σ:St} (k:Nat),ArgsOk K C G H ms vs ps->(∀ j v,vs[j]? = some v->σ[k + j]? = some (some v))->(zipWith (fun m p=>if m = true then Sl.sh p else Sl.bo p) ms ps)[i]? = some s->SlOk K C G H own G σ H (k + i) s
 | true :: ms,v :: vs,p :: ps,0,s,σ,k,ok,hσ,h=>by cases h; exact ⟨v,hσ 0 v rfl,ok.1⟩
 | false :: ms,v :: vs,p :: ps,0,s,σ,k,ok,hσ,h=>by cases h; exact ⟨v,hσ 0 v rfl,ok.1⟩
 | true :: ms,v :: vs,p :: ps,i + 1,s,σ,k,ok,hσ,h=>by
  have:=ArgsOk.slots (i:=i) (s:=s) (σ:=σ) (own:=own) (k + 1) ok.2 (fun j w hj=>by rw [show k + 1 + j = k + (j + 1) by omega]; exact hσ (j + 1) w (by simpa using hj)) (by simpa using h)
  rwa [show k + 1 + i = k + (i + 1) by omega] at this
 | false :: ms,v :: vs,p :: ps,i + 1,s,σ,k,ok,hσ,h=>by
  have:=ArgsOk.slots (i:=i) (s:=s) (σ:=σ) (own:=own) (k + 1) ok.2 (fun j w hj=>by rw [show k + 1 + j = k + (j + 1) by omega]; exact hσ (j + 1) w (by simpa using hj)) (by simpa using h)
  rwa [show k + 1 + i = k + (i + 1) by omega] at this
 | [],_,_,_,_,_,_,_,_,h=>by simp at h
 | _ :: _,_,[],_,_,_,_,_,_,h=>by simp at h
 | true :: _,[],_ :: _,_,_,_,_,ok,_,_=>by cases ok
 | false :: _,[],_ :: _,_,_,_,_,ok,_,_=>by cases ok
theorem Cm {ms:List Bool} {rm:Rm} {psp:PSp} {N:List Str} {vs:List V} {H:Hp} {Q:VK} {E:XK} {t:TS} {u:US} (h:spOf K C ms rm psp vs H Q E) (hn:ms.length <= N.length) (hs:SU K C Om.no rm t u)
  (hp:∀ ps P,psp ps P->u ⟨AfH rm P,P,fun _=>False,fun _=>False⟩ (Ws N.length ms ps)):t { nx:=fun _ H'=>Q .non H',rt:=Q } (L2.Nk N vs) H:=by
 obtain ⟨G,ps,P,i,ok,hq,k⟩:=h
 obtain ⟨l1,l2⟩:=ok.len
 have hz:(zipWith (fun m p=>if m = true then Sl.sh p else Sl.bo p) ms ps).length = ps.length:=by rw [List.length_zipWith,l2]; omega
 refine hs G G H (fun _=>none) G _ H _ _ ⟨AfH rm P,P,fun _=>False,fun _=>False⟩ ⟨Same.refl _,Grow.refl i,?_,fun i j a z=>(by cases z),fun i a z=>(by cases z),fun j s hj=>?_,fun _ _ _ z=>z.elim⟩ ⟨fun own' G' σ' H' ρ' S' q=>?_,fun G' H' v p w r hp=>k G' H' v p w r hp,fun _ _ _ _ _ _ q=>q.elim,fun _ _ _ _ _ _ q=>q.elim⟩ (hp ps P hq)
 ·unfold L2.Nk Ws
  rw [length_append,length_append,length_map,hz,length_replicate,length_replicate,l1,l2]
 ·unfold Ws at hj
  by_cases z:j < ps.length
  ·rw [getElem?_append_left (by rw [hz]; exact z)] at hj
   have q:=ArgsOk.slots (own:=fun _=>none) (σ:=L2.Nk N vs) 0 ok (fun j v hv=>by
    unfold L2.Nk
    rw [Nat.zero_add,getElem?_append_left (by rw [length_map]; exact (List.getElem?_eq_some_iff.mp hv).1),getElem?_map,hv]; rfl) hj
   rwa [Nat.zero_add] at q
  ·rw [getElem?_append_right (by rw [hz]; omega),getElem?_replicate] at hj
   split at hj
   ·cases hj; trivial
   ·cases hj
 ·cases rm with
  | sh=>exact k G' H' .non .non S'.gr .non q
  | fr=>exact q.elim
  | mu _=>exact q.elim
theorem spOf.len {ms:List Bool} {rm:Rm} {psp:PSp} {vs:List V} {H:Hp} {Q:VK} {E:XK} (h:spOf K C ms rm psp vs H Q E):vs.length = ms.length:=by
 obtain ⟨G,ps,P,i,ok,_⟩:=h
 exact ok.len.1
end
section
variable {K:Frag} {C:Addr} {ω:Om}
def Tk:PV->Bool
 | .non=>true
 | .int _=>true
 | .str _=>true
 | _=>false
theorem Ux {G:Hp} {v:V} {p:PV} (h:Rep K C G v p) (f:Tk p = true):Js v = true:=by
 cases h <;> first | rfl | (cases f; done)
theorem Xu {G:Hp} {v w:V} {p q:PV} (h1:Rep K C G v p) (h2:Rep K C G w q) (f1:Tk p = true) (f2:Tk q = true):eqV v w = true ↔ p = q:=by
 cases h1 <;> first | (cases f1; done) | (cases h2 <;> first | (cases f2; done) | (simp [eqV]))
inductive Cmp:Nat->PV->PV->Prop where
 | flat {n:Nat} {p q:PV} (hp:Tk p = true) (hq:Tk q = true):Cmp n p q
 | bl {n:Nat} {x y:Bool}:Cmp n (.bl x) (.bl y)
 | lst {n:Nat} {xs ys:List PV} (h:xs.length = ys.length->∀ (i:Nat) (x y:PV),xs[i]? = some x->ys[i]? = some y->Cmp n x y):Cmp (n + 1) (.lst xs) (.lst ys)
 | tup {n:Nat} {xs ys:List PV} (h:∀ (i:Nat) (x y:PV),xs[i]? = some x->ys[i]? = some y->Cmp n x y):Cmp (n + 1) (.tup xs) (.tup ys)
theorem Rc {α:Type} {xs ys:List α} (hl:xs.length = ys.length) (h:∀ (i:Nat) (x y:α),xs[i]? = some x->ys[i]? = some y->x = y):xs = ys:=by
 refine ext_getElem? fun i=>?_
 cases e1:xs[i]? with
 | none=>rw [getElem?_eq_none (by have:=List.getElem?_eq_none_iff.mp e1; omega)]
 | some x =>
  have hi:i < ys.length:=by have:=(List.getElem?_eq_some_iff.mp e1).1; omega
  rw [getElem?_eq_getElem hi,h i x _ e1 (getElem?_eq_getElem hi)]
theorem Cmp.fn {G:Hp} {n:Nat} {p q:PV} (c:Cmp n p q):∀ {v:V},Rep K C G v p->Rep K C G v q->p = q:=by
 induction c with
 | flat hp hq=>intro v h1 h2; cases h1 <;> first | (cases hp; done) | (cases h2 <;> first | (cases hq; done) | rfl)
 | bl=>intro v h1 h2; cases h1; cases h2; rfl
 | @lst n xs ys h ih =>
  intro v h1 h2
  cases h1 with
  | lst e1 l1 q1=>cases h2 with
   | lst e2 l2 q2 =>
    rw [e1] at e2; cases e2
    have hl:xs.length = ys.length:=l1.symm.trans l2
    refine congrArg _ (Rc hl fun i x y hx hy=>?_)
    have hi:=(List.getElem?_eq_some_iff.mp hx).1
    obtain ⟨w,hw⟩:=(⟨_,getElem?_eq_getElem (by rw [l1]; exact hi)⟩:∃ w,_ = some w)
    exact ih hl i x y hx hy (q1 i w x hw hx) (q2 i w y hw hy)
 | @tup n xs ys h ih =>
  intro v h1 h2
  cases h1 with
  | tup e1 l1 q1=>cases h2 with
   | tup e2 l2 q2 =>
    rw [e1] at e2; cases e2
    have hl:xs.length = ys.length:=l1.symm.trans l2
    refine congrArg _ (Rc hl fun i x y hx hy=>?_)
    have hi:=(List.getElem?_eq_some_iff.mp hx).1
    obtain ⟨w,hw⟩:=(⟨_,getElem?_eq_getElem (by rw [l1]; exact hi)⟩:∃ w,_ = some w)
    exact ih i x y hx hy (q1 i w x hw hx) (q2 i w y hw hy)
noncomputable def pd (a:Prop):Bool:=@decide a (Classical.propDecidable a)
theorem pd_iff {a:Prop}:pd a = true ↔ a:=by unfold pd; exact @decide_eq_true_iff a (Classical.propDecidable a)
theorem Rg {n:Nat} {e:Nat->Bool}:(range n).all e = true ↔ ∀ i,i < n->e i = true:=by
 rw [List.all_eq_true]
 exact ⟨fun h i hi=>h i (mem_range.mpr hi),fun h i hi=>h i (mem_range.mp hi)⟩
theorem Ga {a b:Bool} (h:a = true ↔ b = true):a = b:=by
 cases a <;> cases b <;> simp_all
theorem Cmp.eqD {G H:Hp} (s:Same G H) {n:Nat} {p q:PV} (c:Cmp n p q):∀ {v w:V} {b:Bool},Rep K C G v p->Rep K C G w q->(b = true ↔ p = q)->EqD K H n v w b:=by
 induction c with
 | flat hp hq =>
  intro v w b h1 h2 hb
  have e:b = eqV v w:=Ga (hb.trans (Xu h1 h2 hp hq).symm)
  rw [e]
  exact EqD.flat (Ux h1 hp) (Ux h2 hq)
 | @bl n x y =>
  intro v w b h1 h2 hb
  cases h1
  cases h2
  have e:b = eqV (.bl x) (.bl y):=Ga (by rw [hb]; cases x <;> cases y <;> simp [eqV])
  rw [e]
  exact EqD.flat rfl rfl
 | @lst n xs ys h ih =>
  intro v w b h1 h2 hb
  have cc:Cmp (n + 1) (.lst xs) (.lst ys):=.lst h
  have h1':=h1
  have h2':=h2
  cases h1 with
  | @lst a1 vs1 _ e1 l1 q1=>cases h2 with
   | @lst a2 vs2 _ e2 l2 q2 =>
    by_cases z:a1 = a2
    ·subst z
     rw [show b = true from hb.mpr (cc.fn h1' h2')]
     exact EqD.same _
    ·by_cases hl:xs.length = ys.length
     ·have e:b = (range vs1.length).all (fun i=>pd (xs[i]? = ys[i]?)):=Ga (by
       rw [hb,Rg]
       constructor
       ·intro e i _; rw [pd_iff,PV.lst.inj e]
       ·intro e
        refine congrArg _ (ext_getElem? fun i=>?_)
        by_cases hi:i < vs1.length
        ·exact pd_iff.mp (e i hi)
        ·rw [getElem?_eq_none (by omega),getElem?_eq_none (by omega)])
      rw [e]
      refine EqD.lst _ z (SqL.of (s _ _ e1)) (SqL.of (s _ _ e2)) (by omega) fun i x y hx hy=>?_
      have hi:=(List.getElem?_eq_some_iff.mp hx).1
      have hx':xs[i]? = some xs[i]:=getElem?_eq_getElem (by omega)
      have hy':ys[i]? = some ys[i]:=getElem?_eq_getElem (by omega)
      refine ih hl i _ _ hx' hy' (q1 i x _ hx hx') (q2 i y _ hy hy') ?_
      rw [pd_iff,hx',hy']
      exact ⟨fun z=>Option.some.inj z,fun z=>congrArg some z⟩
     ·have e:b = false:=by
       cases b with
       | false=>rfl
       | true=>exact absurd (congrArg length (PV.lst.inj (hb.mp rfl))) hl
      rw [e]
      exact EqD.lstN z (SqL.of (s _ _ e1)) (SqL.of (s _ _ e2)) (by omega)
 | @tup n xs ys h ih =>
  intro v w b h1 h2 hb
  have cc:Cmp (n + 1) (.tup xs) (.tup ys):=.tup h
  have h1':=h1
  have h2':=h2
  cases h1 with
  | @tup a1 vs1 _ e1 l1 q1=>cases h2 with
   | @tup a2 vs2 _ e2 l2 q2 =>
    by_cases z:a1 = a2
    ·subst z
     rw [show b = true from hb.mpr (cc.fn h1' h2')]
     exact EqD.same _
    ·have e:b = ((range (min vs1.length vs2.length)).all (fun i=>pd (xs[i]? = ys[i]?)) && vs1.length == vs2.length):=Ga (by
      rw [hb,and_eq_true,Rg]
      constructor
      ·intro e
       have e':=PV.tup.inj e
       exact ⟨fun i _=>by rw [pd_iff,e'],by rw [l1,l2,e']; exact beq_self_eq_true _⟩
      ·rintro ⟨e,el⟩
       have el':vs1.length = vs2.length:=by simpa using el
       refine congrArg _ (ext_getElem? fun i=>?_)
       by_cases hi:i < vs1.length
       ·exact pd_iff.mp (e i (by omega))
       ·rw [getElem?_eq_none (by omega),getElem?_eq_none (by omega)])
     rw [e]
     refine EqD.tup _ z (SqT.of (s _ _ e1)) (SqT.of (s _ _ e2)) fun i x y hx hy=>?_
     have hi:=(List.getElem?_eq_some_iff.mp hx).1
     have hj:=(List.getElem?_eq_some_iff.mp hy).1
     have hx':xs[i]? = some xs[i]:=getElem?_eq_getElem (by omega)
     have hy':ys[i]? = some ys[i]:=getElem?_eq_getElem (by omega)
     refine ih i _ _ hx' hy' (q1 i x _ hx hx') (q2 i y _ hy hy') ?_
     rw [pd_iff,hx',hy']
     exact ⟨fun z=>Option.some.inj z,fun z=>congrArg some z⟩
def CmpL (xs ys:List PV):Prop:=xs.length = ys.length->∀ (i:Nat) (x y:PV),xs[i]? = some x->ys[i]? = some y->Cmp 40 x y
theorem CmpL.leq {G H:Hp} (s:Same G H) {vs ws:List V} {xs ys:List PV} (c:CmpL xs ys) (h1:Reps K C G vs xs) (h2:Reps K C G ws ys) {b:Bool} (hb:b = true ↔ xs = ys):LEq K H vs ws b:=by
 by_cases hl:xs.length = ys.length
 ·refine .inr ⟨by rw [h1.1,h2.1,hl],fun i=>pd (xs[i]? = ys[i]?),fun i x y hx hy=>?_,Ga ?_⟩
  ·obtain ⟨p,hp,rp⟩:=h1.get hx
   obtain ⟨q,hq,rq⟩:=h2.get hy
   refine (c hl i p q hp hq).eqD s rp rq ?_
   rw [pd_iff,hp,hq]
   exact ⟨fun z=>Option.some.inj z,fun z=>congrArg some z⟩
  ·rw [hb,Rg,h1.1]
   constructor
   ·intro e i _; rw [pd_iff,e]
   ·intro e
    refine ext_getElem? fun i=>?_
    by_cases hi:i < xs.length
    ·exact pd_iff.mp (e i hi)
    ·rw [getElem?_eq_none (by omega),getElem?_eq_none (by omega)]
 ·refine .inl ⟨by rw [h1.1,h2.1]; exact hl,?_⟩
  cases b with
  | false=>rfl
  | true=>exact absurd (congrArg length (hb.mp rfl)) hl
def AbW (neg:Bool) (p q:PV) (P:PV->Prop):Prop:=∃ xs ys,p = .lst xs/\q = .lst ys/\CmpL xs ys/\∀ b:Bool,(b = true ↔ xs = ys)->P (.bl (if neg then !b else b))
def AjO (neg:Bool) (ua ub:UE):UE:=fun ρ P=>ua ρ fun p=>ub ρ fun q=>AbW neg p q P
theorem AaR {neg:Bool} {ta tb:TE} {ua ub:UE} (ha:EB K C ω ta ua) (hb:EB K C ω tb ub):EU K C ω (tOp (AaZ K neg) ta tb) (AjO neg ua ub) :=
 fun B G0 H0 own G σ H ρ P Q S hu k=>two ha hb S hu fun v w p q G' H' gr r1 r2 ⟨xs,ys,e1,e2,c,h⟩=>by
  subst e1 e2
  obtain ⟨a,vs,rfl,ea,l⟩:=r1.lst gr.i
  obtain ⟨b,ws,rfl,eb,l2⟩:=r2.lst gr.i
  exact ⟨a,b,vs,ws,pd (xs = ys),rfl,rfl,SqL.of ea,SqL.of eb,c.leq gr.i l l2 pd_iff,k _ _ G' H' gr (.bl _) (h _ pd_iff)⟩
def AkB:PV->Option (List PV)
 | .lst xs=>some xs
 | .tup xs=>some xs
 | .ctp xs=>some xs
 | _=>none
def bIn (neg:Bool) (p q:PV) (P:PV->Prop):Prop:=∃ xs,AkB q = some xs/\Tk p = true/\(∀ x ∈ xs,Tk x = true)/\∀ b:Bool,(b = true ↔ p ∈ xs)->P (.bl (if neg then !b else b))
def uIn (neg:Bool) (ua ub:UE):UE:=fun ρ P=>ua ρ fun p=>ub ρ fun q=>bIn neg p q P
theorem RepB.seq {G H:Hp} {v:V} {q:PV} {xs:List PV} (i:Same G H) (h:RepB K C G H v q) (e:AkB q = some xs):∃ a vs,v = .ref a/\(SqL K H a vs\/SqT K H a vs)/\Reps K C G vs xs:=by
 cases q <;> first | cases e | skip
 ·obtain ⟨a,vs,e,ea,l⟩:=h.lst i; exact ⟨a,vs,e,.inl (SqL.of ea),l⟩
 ·obtain ⟨a,vs,e,ea,l⟩:=h.tup i; exact ⟨a,vs,e,.inr (SqT.of ea),l⟩
 ·rcases h with h | ⟨a,_,h⟩
  ·cases h with
   | ctp e l q=>exact ⟨_,_,rfl,.inr (e H),l,q⟩
  ·exact h.elim
theorem Wy {neg:Bool} {ta tb:TE} {ua ub:UE} (ha:EU K C ω ta ua) (hb:EB K C ω tb ub):EU K C ω (tOp (rIn K neg) ta tb) (uIn neg ua ub) :=
 fun B G0 H0 own G σ H ρ P Q S hu k=>ha B G0 H0 own G σ H ρ _ _ S hu fun v p G1 H1 w1 r1 h1=>hb B G0 H0 own G1 σ H1 ρ _ _ (S.grow w1) h1 fun w q G2 H2 w2 r2 ⟨xs,e,f1,f2,h⟩=>by
  obtain ⟨a,vs,rfl,sq,l⟩:=r2.seq w2.i e
  have r1':=r1.mono w2.g
  have hb:inV v vs = pd (p ∈ xs):=Ga (by
   rw [pd_iff]
   unfold inV
   rw [any_eq_true]
   constructor
   ·rintro ⟨y,hy,e⟩
    obtain ⟨i,hi⟩:=getElem?_of_mem hy
    obtain ⟨x,hx,rx⟩:=l.get hi
    rw [<- (Xu rx r1' (f2 x (mem_of_getElem? hx)) f1).mp e]
    exact mem_of_getElem? hx
   ·intro m
    obtain ⟨i,hi⟩:=getElem?_of_mem m
    obtain ⟨y,hy,ry⟩:=l.get' hi
    exact ⟨y,mem_of_getElem? hy,(Xu ry r1' f1 f1).mpr rfl⟩)
  refine ⟨a,vs,rfl,sq,Ux r1' f1,?_,?_⟩
  ·rw [List.all_eq_true]
   intro y hy
   obtain ⟨i,hi⟩:=getElem?_of_mem hy
   obtain ⟨x,hx,rx⟩:=l.get hi
   exact Ux rx (f2 x (mem_of_getElem? hx))
  ·rw [hb]; exact k _ _ G2 H2 (w1.trans w2) (.bl _) (h _ pd_iff)
def tyP:PV->Option String
 | .non=>some "NoneType"
 | .bl _=>some "bool"
 | .int _=>some "int"
 | .str _=>some "str"
 | .lst _=>some "list"
 | .tup _=>some "tuple"
 | .dk _=>some "dict"
 | .dt _=>some "dict"
 | _=>none
def kit (T n:String):Bool:=T == n || (T == "bool" && n == "int")
def Ag7:List String:=["NoneType","bool","int","str","list","tuple","dict"]
def AgJ:List String:=["bool","int","str","list","tuple","dict"]
theorem AiG:∀ T ∈ Ag7,∀ n ∈ AgJ,(if (Value.type T == Value.type n) = true then some true else if kitMeta n = true then (fastBuiltinMro T).map (·.contains (Value.type n)) else none) = some (kit T n):=by decide +kernel
theorem AmF {G H:Hp} (i:Same G H) {v:V} {p:PV} {T:String} (h:RepB K C G H v p) (e:tyP p = some T):Fw K H v (.type T)/\T ∈ Ag7:=by
 cases p <;> first | cases e | skip
 ·rcases h with h | ⟨_,_,h⟩
  ·cases h; exact ⟨.non,by decide⟩
  ·exact h.elim
 ·rw [h.bl]; exact ⟨.bl _,by decide⟩
 ·rw [h.int]; exact ⟨.int _,by decide⟩
 ·rw [h.str]; exact ⟨.str _,by decide⟩
 ·obtain ⟨a,vs,rfl,ea,l⟩:=h.lst i; exact ⟨.lst ea,by decide⟩
 ·obtain ⟨a,vs,rfl,ea,l⟩:=h.tup i; exact ⟨.tup ea,by decide⟩
 ·obtain ⟨a,vs,rfl,ea,l⟩:=h.dk i; exact ⟨.dK ea,by decide⟩
 ·obtain ⟨a,vs,rfl,ea,l⟩:=h.dt i; exact ⟨.dT ea,by decide⟩
def Yd (n:String) (p:PV) (P:PV->Prop):Prop:=∃ T,tyP p = some T/\P (.bl (kit T n))
def Akr (n:String) (ua:UE):UE:=fun ρ P=>ua ρ fun p=>Yd n p P
theorem Xa {n:String} {ta:TE} {ua:UE} (ha:EB K C ω ta ua) (hn:n ∈ AgJ:=by decide):EU K C ω (tCB (fun vs H Q=>∃ x n t b,vs = [x,.ty n]/\Fw K H x t/\kitOne K t (.type n) = some b/\Q (.bl b) H) (Fl ta (Fl (tC (.ty n)) La))) (Akr n ua) :=
 fun B G0 H0 own G σ H ρ P Q S hu k=>ha B G0 H0 own G σ H ρ _ _ S hu fun v p G1 H1 w1 r1 ⟨T,e,h⟩=>by
  obtain ⟨ty,hT⟩:=AmF w1.i r1 e
  exact ⟨v,n,_,_,rfl,ty,Ru (AiG T hT n hn),k _ _ G1 H1 w1 (.bl _) h⟩
end
section
variable {K:Frag} {C:Addr} {ω:Om}
def vP:V->PV
 | .int i=>.int i
 | .str x=>.str x
 | .bl b=>.bl b
 | _=>.non
def scV:V->Bool
 | .int _=>true
 | .str _=>true
 | .bl _=>true
 | .non=>true
 | _=>false
theorem Alo {G:Hp} {v w:V} (hs:scV w = true) (h:Rep K C G v (vP w)):v = w:=by
 cases w <;> first | (cases hs; done) | (cases h; rfl)
theorem AdB {G:Hp} {w:V} (hs:scV w = true):Rep K C G w (vP w):=by
 cases w <;> first | (cases hs; done) | constructor
theorem AdD {G:Hp} {vs ws:List V} (hs:∀ w ∈ ws,scV w = true) (h:Reps K C G vs (ws.map vP)):vs = ws:=by
 refine Rc (by rw [h.1,length_map]) fun i x y hx hy=>?_
 exact Alo (hs y (mem_of_getElem? hy)) (h.2 i x (vP y) hx (by rw [getElem?_map,hy]; rfl))
theorem Aem {G:Hp} {ws:List V} (hs:∀ w ∈ ws,scV w = true):Reps K C G ws (ws.map vP) :=
 ⟨by rw [length_map],fun i v p h1 h2=>by
  rw [getElem?_map,h1] at h2
  cases h2
  exact AdB (hs v (mem_of_getElem? h1))⟩
theorem Wg {G:Hp} {v:V} {ws:List V} (hs:∀ w ∈ ws,scV w = true) (h:Rep K C G v (.tup (ws.map vP))):∃ p,v = .ref p/\G p = some (.tup ws):=by
 cases h with
 | tup e l q=>rw [AdD hs ⟨l,q⟩] at e; exact ⟨_,rfl,e⟩
theorem Vp {G:Hp} {p:Addr} {ws:List V} (hs:∀ w ∈ ws,scV w = true) (e:G p = some (.tup ws)):Rep K C G (.ref p) (.tup (ws.map vP)):=Rep.ofT e (Aem hs)
def sgW (s:Sg):List V:=[.int s.1,.str s.2.1,.int s.2.2]
def prW (m:Int × Int):List V:=[.int m.1,.int m.2]
def jnW (j:Jn):List V:=[.int j.1,.int j.2.1,.int j.2.2]
def sgP (s:Sg):PV:=.tup [.int s.1,.str s.2.1,.int s.2.2]
def prP (m:Int × Int):PV:=.tup [.int m.1,.int m.2]
def jnP (j:Jn):PV:=.tup [.int j.1,.int j.2.1,.int j.2.2]
theorem Aey (s:Sg):∀ w ∈ sgW s,scV w = true:=by intro w hw; simp [sgW] at hw; rcases hw with rfl | rfl | rfl <;> rfl
theorem Aer (s:Int × Int):∀ w ∈ prW s,scV w = true:=by intro w hw; simp [prW] at hw; rcases hw with rfl | rfl <;> rfl
theorem AdW (s:Jn):∀ w ∈ jnW s,scV w = true:=by intro w hw; simp [jnW] at hw; rcases hw with rfl | rfl | rfl <;> rfl
theorem Afm {G:Hp} {v:V} {s:Sg}:Rep K C G v (sgP s) ↔ TripAt G v s:=⟨fun h=>let ⟨p,e,hp⟩:=Wg (Aey s) h; ⟨p,e,hp⟩,fun ⟨p,e,hp⟩=>by subst e; exact Vp (Aey s) hp⟩
theorem AfG {G:Hp} {v:V} {s:Int × Int}:Rep K C G v (prP s) ↔ PairAt G v s:=⟨fun h=>let ⟨p,e,hp⟩:=Wg (Aer s) h; ⟨p,e,hp⟩,fun ⟨p,e,hp⟩=>by subst e; exact Vp (Aer s) hp⟩
theorem AhP {G:Hp} {v:V} {s:Jn}:Rep K C G v (jnP s) ↔ TrjAt G v s:=⟨fun h=>let ⟨p,e,hp⟩:=Wg (AdW s) h; ⟨p,e,hp⟩,fun ⟨p,e,hp⟩=>by subst e; exact Vp (AdW s) hp⟩
theorem Wd {α:Type} {R:Hp->V->α->Prop} {f:α->PV} (hf:∀ {G:Hp} {v:V} {s:α},Rep K C G v (f s) ↔ R G v s) {G:Hp} {vs:List V} {S:List α}:Reps K C G vs (S.map f) ↔ LAt R G vs S:=by
 constructor
 ·intro h
  refine ⟨by rw [h.1,length_map],fun i x y hx hy=>hf.mp (h.2 i x (f y) hx (by rw [getElem?_map,hy]; rfl))⟩
 ·intro h
  refine ⟨by rw [h.1,length_map],fun i x y hx hy=>?_⟩
  rw [getElem?_map] at hy
  obtain ⟨s,hs,e⟩:=map_eq_some_iff.mp hy
  rw [<- e]
  exact hf.mpr (h.2 i x s hx hs)
def Ob (G H H':Hp):Hp:=fun a=>match H' a with
 | some (.tup xs)=>some (.tup xs)
 | o=>match H a with
  | none=>o
  | some _=>G a
theorem Qz {G H H':Hp} {a:Addr} {xs:List V} (e:H' a = some (.tup xs)):Ob G H H' a = some (.tup xs):=by unfold Ob; rw [e]
theorem Ff {G H H':Hp} {a:Addr} {o:HO} (n:H a = none) (e:H' a = some o):Ob G H H' a = some o:=by
 unfold Ob; rw [e,n]; cases o <;> rfl
theorem Uj {G H H':Hp} {a:Addr} {o:HO} (h:H a = some o) (s:Same H H') (t:Sr o):Ob G H H' a = G a:=by
 unfold Ob; rw [s _ _ h,h]
 cases o <;> first | rfl | exact absurd rfl (t _)
theorem No {G H H':Hp} (i:Same G H) (s:Same H H'):Grow G H (Ob G H H') H':=by
 refine ⟨fun a o h=>?_,s,fun a o h=>?_,fun a o h t hg=>by rw [Uj h s t]; exact hg⟩
 ·have h1:=i _ _ h
  by_cases t:Sr o
  ·rw [Uj h1 s t]; exact h
  ·have:∃ xs,o = .tup xs:=Classical.byContradiction fun z=>t fun xs w=>z ⟨xs,w⟩
   obtain ⟨xs,rfl⟩:=this
   exact Qz (s _ _ h1)
 ·cases e:H' a with
  | none =>
   unfold Ob at h; rw [e] at h
   cases e2:H a with
   | none=>rw [e2] at h; cases h
   | some u=>rw [s _ _ e2] at e; cases e
  | some u =>
   by_cases t:Sr u
   ·cases e2:H a with
    | none=>rw [Ff e2 e] at h; exact h
    | some w =>
     have:=s _ _ e2
     rw [e] at this; cases this
     rw [Uj e2 s t] at h
     rw [i _ _ h] at e2; cases e2; rfl
   ·have:∃ xs,u = .tup xs:=Classical.byContradiction fun z=>t fun xs w=>z ⟨xs,w⟩
    obtain ⟨xs,rfl⟩:=this
    rw [Qz e] at h; exact h
theorem Aml {G H:Hp} {l m n:Bool} {vs:List V} {ps:List PV} (h:ArgsOk K C G H [l,m,n] vs ps):∃ v w x p q r,vs = [v,w,x]/\ps = [p,q,r]/\RepB K C G H v p/\RepB K C G H w q/\RepB K C G H x r:=by
 match vs,ps,l,h with
 | v :: vs,p :: ps,true,h=>obtain ⟨w,x,q,r,rfl,rfl,h1,h2⟩:=Tq h.2; exact ⟨v,w,x,p,q,r,rfl,rfl,.inl h.1,h1,h2⟩
 | v :: vs,p :: ps,false,h=>obtain ⟨w,x,q,r,rfl,rfl,h1,h2⟩:=Tq h.2; exact ⟨v,w,x,p,q,r,rfl,rfl,h.1,h1,h2⟩
 | [],_,true,h=>cases h
 | [],_,false,h=>cases h
 | _ :: _,[],true,h=>cases h
 | _ :: _,[],false,h=>cases h
def bMk (P:PV->Prop) (ps:List PV):Prop:=∃ S M J,ps = [.lst (S.map sgP),.lst (M.map prP),.lst (J.map jnP)]/\(∀ s ∈ S,Zw s)/\(∀ m ∈ M,0 <= m.1/\0 <= m.2)/\(S.map (·.1) ++ Nb M).Nodup/\Acf (kK S ++ kM M) J/\S.length + 2 * M.length <= 400/\P (.bk S M J)
def uMk (u:UA):UE:=fun ρ P=>u ρ fun ps=>bMk P ps
theorem Al7 {E:XK} {t:TA} {u:UA} (ha:AU K C ω [false,false,false] t u):EU K C ω (AgA C (Abj C) [] E t) (uMk u) :=
 fun B G0 H0 own G σ H ρ P Q St hu k=>ha B G0 H0 own G σ H ρ _ _ St hu fun vs ps G1 H1 w1 ok ⟨S,M,J,e,so,mo,nd,jo,hl,h⟩=>by
  obtain ⟨v,w,y,p,q,r,rfl,e2,r1,r2,r3⟩:=Aml ok
  rw [e] at e2; cases e2
  obtain ⟨a1,xs,rfl,ea1,l1⟩:=r1.lst w1.i
  obtain ⟨a2,ys,rfl,ea2,l2⟩:=r2.lst w1.i
  obtain ⟨a3,zs,rfl,ea3,l3⟩:=r3.lst w1.i
  intro x dx hx hdx ndx
  have sB:Same H1 (upd (upd H1 dx (.own x)) x (.ins C dx [])):=fun q' o e=>by rw [Bl (Cb e hx),Bl (Cb e hdx)]; exact e
  have sG:=w1.i.trans sB
  refine ⟨x,dx,a1,a2,a3,xs,ys,zs,S,M,J,rfl,Bt,sB _ _ ea1,sB _ _ ea2,sB _ _ ea3,((Wd Afm).mp l1).tripS sG,((Wd AfG).mp l2).pairS sG,((Wd AhP).mp l3).trjS sG,so,mo,nd,jo,hl,fun H2 kvs dx' dk dr dm dp dw kp fk fr fm fp fw e1 e2 e3 e4 e5 e6 lkv=>⟨rfl,?_⟩⟩
  have s2:Same H1 H2:=fun q' o e=>kp q' o (sB q' o e) (Cb e hx)
  have g:=No w1.i s2
  refine k _ _ _ H2 (w1.trans g) (.bk (kvs:=kvs) ⟨dx',dk,dr,dm,dp,dw,Ff hx e1,Ff (sB.free fk) e2,Ff (sB.free fr) e3,Ff (sB.free fm) e4,Ff (sB.free fp) e5,Ff (sB.free fw) e6⟩ ?_) h
  exact lkv.mono fun _ _ ⟨z1,p,z2,z3⟩=>⟨z1,p,z2,Qz z3⟩
def AnK:V->Str
 | .str x=>x
 | _=>"plain"
def Li (S:List Sg) (M:List (Int × Int)) (n:Int):Str:=AnK ((Cv (kK S ++ kM M) (Sum.inl n)).getD (.str "plain"))
def Ua (M:List (Int × Int)) (n:Int):PV:=vP ((Cv (kB M) (Sum.inl n)).getD .non)
theorem AbA {κ:Type} [DecidableEq κ] {kvs:List (κ × V)} {k:κ} {v:V} (h:Cv kvs k = some v):∃ x,(x,v) ∈ kvs:=by
 unfold Cv at h
 obtain ⟨kv,h1,h2⟩:=map_eq_some_iff.mp h
 exact ⟨kv.1,by rw [<- h2]; exact List.mem_of_find?_eq_some h1⟩
theorem Air {M:List (Int × Int)} {x:Key} {v:V} (h:(x,v) ∈ kM M):∃ s,v = .str s:=by
 induction M with
 | nil=>cases h
 | cons m r ih =>
  rcases mem_cons.mp h with e | h
  ·cases e; exact ⟨_,rfl⟩
  ·rcases mem_cons.mp h with e | h
   ·cases e; exact ⟨_,rfl⟩
   ·exact ih h
theorem Ail {M:List (Int × Int)} {x:Key} {v:V} (h:(x,v) ∈ kB M):∃ s,v = .int s:=by
 induction M with
 | nil=>cases h
 | cons m r ih =>
  rcases mem_cons.mp h with e | h
  ·cases e; exact ⟨_,rfl⟩
  ·rcases mem_cons.mp h with e | h
   ·cases e; exact ⟨_,rfl⟩
   ·exact ih h
theorem AjI (S:List Sg) (M:List (Int × Int)) (n:Int):(Cv (kK S ++ kM M) (Sum.inl n)).getD (.str "plain") = .str (Li S M n):=by
 unfold Li
 cases e:Cv (kK S ++ kM M) (Sum.inl n) with
 | none=>rfl
 | some v =>
  obtain ⟨x,hx⟩:=AbA e
  rcases mem_append.mp hx with h | h
  ·obtain ⟨s,_,e2⟩:=mem_map.mp h; cases e2; rfl
  ·obtain ⟨s,rfl⟩:=Air h; rfl
theorem Akb {G:Hp} (M:List (Int × Int)) (n:Int):Rep K C G ((Cv (kB M) (Sum.inl n)).getD .non) (Ua M n):=by
 unfold Ua
 refine AdB ?_
 cases e:Cv (kB M) (Sum.inl n) with
 | none=>rfl
 | some v=>obtain ⟨x,hx⟩:=AbA e; obtain ⟨s,rfl⟩:=Ail hx; rfl
def bBk (p:PV) (R:List Sg->List (Int × Int)->List Jn->Prop):Prop:=∃ S M J,p = .bk S M J/\R S M J
def uM1 (f:List Sg->List (Int × Int)->List Jn->Int->PV) (ua ub:UE):UE:=fun ρ P=>ua ρ fun p=>bBk p fun S M J=>ub ρ fun q=>bU (fun n=>f S M J n) q P
theorem RepB.bk {G H:Hp} {v:V} {S:List Sg} {M:List (Int × Int)} {J:List Jn} (h:RepB K C G H v (.bk S M J)):∃ b kvs,v = .ref b/\BookAt C G b (kK S ++ kM M) (kR S) (kB M) kvs (kW J)/\LAt KvAt G kvs J:=by
 rcases h with h | ⟨a,_,h⟩
 ·cases h with
  | bk h l=>exact ⟨_,_,rfl,h,l⟩
 ·exact h.elim
theorem Ahz {nm:Str} {E:XK} {sp:Sp} {f:List Sg->List (Int × Int)->List Jn->Int->PV} {ta tb:TE} {ua ub:UE} (hm:∀ {dk dr dm dp dw:Addr},(bkF dk dr dm dp dw).lookup nm = none)
  (hs:∀ G H b S M J kvs n Q,Same G H->BookAt C G b (kK S ++ kM M) (kR S) (kB M) kvs (kW J)->LAt KvAt G kvs J->(∀ v,Rep K C G v (f S M J n)->Q v H)->sp [.ref b,.int n] H Q E)
  (ha:EB K C ω ta ua) (hb:EB K C ω tb ub):EU K C ω (Wo C nm sp [] E ta (Fl tb La)) (uM1 f ua ub) :=
 fun B G0 H0 own G σ H ρ P Q St hu k=>ha B G0 H0 own G σ H ρ _ _ St hu fun v p G1 H1 w1 r1 ⟨S,M,J,e,h1⟩=>by
  subst e
  obtain ⟨b,kvs,rfl,bk,l⟩:=r1.bk
  refine AaF (bk.mono fun _ _ e _=>w1.i _ _ e) hm (hb B G0 H0 own G1 σ H1 ρ _ _ (St.grow w1) h1 fun w q G2 H2 w2 r2 ⟨n,e,h⟩=>?_)
  subst e
  rw [r2.int]
  exact hs G2 H2 b S M J kvs n Q w2.i (bk.mono fun _ _ e _=>w2.g _ _ e) (l.kvS w2.g) fun v rv=>k v _ G2 H2 (w1.trans w2) rv h
theorem Ah8 {E:XK} {ta tb:TE} {ua ub:UE} (ha:EB K C ω ta ua) (hb:EB K C ω tb ub):EU K C ω (Wo C "kind" (Xs C) [] E ta (Fl tb La)) (uM1 (fun S M _ n=>.str (Li S M n)) ua ub) :=
 Ahz AaV (fun G H b S M J kvs n Q i bk l k=>⟨b,n,_,_,_,_,_,rfl,bk.mono fun _ _ e _=>i _ _ e,by rw [AjI]; exact k _ (.str _)⟩) ha hb
theorem Aie {E:XK} {ta tb:TE} {ua ub:UE} (ha:EB K C ω ta ua) (hb:EB K C ω tb ub):EU K C ω (Wo C "mate" (Abz C) [] E ta (Fl tb La)) (uM1 (fun _ M _ n=>Ua M n) ua ub) :=
 Ahz Aae (fun G H b S M J kvs n Q i bk l k=>⟨b,n,_,_,_,_,_,rfl,bk.mono fun _ _ e _=>i _ _ e,k _ (Akb M n)⟩) ha hb
end
section
variable {ρ:Bp} {P:PV->Prop} {B:Bool->Prop} {R:Bp->Prop} {d:Ft} {ua ub uc:UE} {ta tb:UT} {u w:US} {x y:PV}
theorem Gg (q:u { d with nx:=w d } ρ):Afw u w d ρ:=q
theorem AeG (q:d.nx ρ):AgD d ρ:=q
theorem Aeq (q:ua ρ fun _=>d.nx ρ):Ahq ua d ρ:=q
theorem AgR (q:ua ρ d.rt):AfU ua d ρ:=q
theorem Adk {i:Nat} (h:ρ[i]? = some (.ow x)) (q:d.rt x):AgQ i d ρ:=⟨x,h,q⟩
theorem AlB (q:ta ρ fun b=>if b = true then u d ρ else w d ρ):Akl ta u w d ρ:=q
theorem Agl {i:Nat} (q:ua ρ fun p=>d.nx (ρ.set i (.sh p))):Ajc i ua d ρ:=q
theorem AdV {i:Nat} (q:ua ρ fun p=>d.nx (ρ.set i (.ow p))):Agb i ua d ρ:=q
theorem AbR {i:Nat} (q:R (ρ.set i (.sh x))):Adu i x ρ R:=q
theorem Adf {n:Nat} {ps:List PV} {us:List PV->Bp->(Bp->Prop)->Prop} (hl:ps.length = n) (q:us ps ρ R):Ahv n us (.tup ps) ρ R:=⟨ps,rfl,hl,q⟩
theorem Abp {r:List PV} {ug:PV->Bp->(Bp->Prop)->Prop} {us:List PV->Bp->(Bp->Prop)->Prop} (q:ug x ρ fun ρ'=>us r ρ' R):AbJ ug us (x :: r) ρ R:=⟨x,r,rfl,q⟩
theorem Ad3 (q:R ρ):Aeg [] ρ R:=⟨rfl,q⟩
theorem Ag2 {i:Nat} {s:Sl} (h1:ρ[i]? = some s) (h2:s.val = some x) (q:P x):Akp i ρ P:=⟨s,x,h1,h2,q⟩
theorem Aep {i:Nat} (h1:ρ[i]? = some (.sh x)) (q:P x):Agi i ρ P:=⟨x,h1,q⟩
theorem p_c (q:P x):uC x ρ P:=q
theorem AjP {g:Int->Int->PV} (q:ua ρ fun p=>ub ρ fun q=>bI0 g p q P):uI0 g ua ub ρ P:=q
theorem Ajw {g:Int->Int->PV} {i j:Int} (q:P (g i j)):bI0 g (.int i) (.int j) P:=⟨i,j,rfl,rfl,q⟩
theorem p_i {c:Int->Int->Prop} {g:Int->Int->PV} (q:ua ρ fun p=>ub ρ fun q=>bI c g p q P):uI c g ua ub ρ P:=q
theorem AhA {g:Int->Int->PV} {i j:Int} (q:P (g i j)) (hc:0 < j):bI (fun _ j=>0 < j) g (.int i) (.int j) P:=⟨i,j,rfl,rfl,hc,q⟩
theorem Agv {g:Int->Int->PV} {i j:Int} (q:P (g i j)) (hc:Acb i j):bI Acb g (.int i) (.int j) P:=⟨i,j,rfl,rfl,hc,q⟩
theorem Ahl {g:Int->Int->PV} {i j:Int} (q:P (g i j)) (hc:CMul i j):bI CMul g (.int i) (.int j) P:=⟨i,j,rfl,rfl,hc,q⟩
theorem Agr {g:Int->Int->PV} {i j:Int} (q:P (g i j)) (hc:Acq i j):bI Acq g (.int i) (.int j) P:=⟨i,j,rfl,rfl,hc,q⟩
theorem p_u {g:Int->PV} (q:ua ρ fun p=>bU g p P):uU g ua ρ P:=q
theorem b_u {g:Int->PV} {i:Int} (q:P (g i)):bU g (.int i) P:=⟨i,rfl,q⟩
theorem Ahu {neg:Bool} (q:ua ρ fun p=>ub ρ fun q=>Yl neg p q P):Ae8 neg ua ub ρ P:=q
theorem Ag9 {i j:Int} (q:P (.bl (decide (i = j)))):Yl false (.int i) (.int j) P:=.inl ⟨i,j,rfl,rfl,q⟩
theorem AgV {i j:Int} (q:P (.bl (!decide (i = j)))):Yl true (.int i) (.int j) P:=.inl ⟨i,j,rfl,rfl,q⟩
theorem AgN {i j:Str} (q:P (.bl (decide (i = j)))):Yl false (.str i) (.str j) P:=.inr ⟨i,j,rfl,rfl,q⟩
theorem Ahx {i j:Str} (q:P (.bl (!decide (i = j)))):Yl true (.str i) (.str j) P:=.inr ⟨i,j,rfl,rfl,q⟩
theorem Aga (q:ua ρ fun p=>P (.bl (isN p))):Acy false ua ρ P:=q
theorem Ad5 (q:ua ρ fun p=>P (.bl (!isN p))):Acy true ua ρ P:=q
theorem p_b (q:ua ρ fun p=>bB p B):uB ua ρ B:=q
theorem b_b {b:Bool} (q:B b):bB (.bl b) B:=⟨b,rfl,q⟩
theorem Af8 (q:ta ρ fun b=>if b = true then tb ρ B else B false):AkI ta tb ρ B:=q
theorem Ajp (q:ta ρ fun b=>if b = true then B true else tb ρ B):uOr ta tb ρ B:=q
theorem Ag5 (q:ta ρ fun b=>B (!b)):AjX ta ρ B:=q
theorem Ad0 (q:ua ρ fun p=>bB p fun b=>if b = true then ub ρ P else P (.bl false)):Agd ua ub ρ P:=q
theorem Ac8 (q:ua ρ fun p=>bB p fun b=>P (.bl (!b))):Ahj ua ρ P:=q
theorem Agu (q:ta ρ fun b=>if b = true then ua ρ P else ub ρ P):uIf ta ua ub ρ P:=q
theorem Ags {L:List PV->Prop} (q:L []):Alq ρ L:=q
theorem Aex {L:List PV->Prop} {ur:UA} (q:ua ρ fun p=>ur ρ fun ps=>L (p :: ps)):Acs ua ur ρ L:=q
theorem Ag3 {ur:UA} (q:ur ρ fun ps=>P (.lst ps)):Ajo ur ρ P:=q
theorem Agk {ur:UA} (q:ur ρ fun ps=>P (.tup ps)):Alg ur ρ P:=q
theorem AgY (q:ua ρ fun p=>ub ρ fun q=>Wf p q P):AlJ ua ub ρ P:=q
theorem Ln {ps:List PV} {i:Int} (h:atI ps i = some x) (q:P x):Wf (.lst ps) (.int i) P:=⟨i,ps,x,rfl,.inl rfl,h,q⟩
theorem AmG {ns:List Int} {i n:Int} (h:atI ns i = some n) (q:P (.int n)):Wf (.scr ns) (.int i) P:=⟨i,_,_,rfl,.inr ⟨ns,rfl,rfl⟩,by
 unfold L2.atI at h ⊢
 rw [length_map]
 cases e:ixN ns.length i with
 | none=>rw [e] at h; cases h
 | some j=>rw [e] at h; show (ns.map PV.int)[j]? = _; rw [getElem?_map,show ns[j]? = some n from h]; rfl,q⟩
theorem Ahs (q:ua ρ fun p=>ub ρ fun q=>AaJ p q P):Aj5 ua ub ρ P:=q
theorem AeT {a:PV} {r:List PV} (q:P a):AaJ (.tup (a :: r)) (.int 0) P:=⟨0,_,_,rfl,rfl,Fo (j:=0) rfl,q⟩
theorem Aee {a b:PV} {r:List PV} (q:P b):AaJ (.tup (a :: b :: r)) (.int 1) P:=⟨1,_,_,rfl,rfl,Fo (j:=1) rfl,q⟩
theorem Ad7 {a b c:PV} {r:List PV} (q:P c):AaJ (.tup (a :: b :: c :: r)) (.int 2) P:=⟨2,_,_,rfl,rfl,Fo (j:=2) rfl,q⟩
theorem AaP {O:Option Int->Prop} (q:O none):Abq ρ O:=q
theorem AeA {O:Option Int->Prop} (q:ua ρ fun p=>Aca p O):Ahf ua ρ O:=q
theorem Aea {O:Option Int->Prop} {i:Int} (q:O (some i)):Aca (.int i) O:=⟨i,rfl,q⟩
theorem Ahe {ul uh:UO} (q:ua ρ fun p=>ul ρ fun lo=>uh ρ fun hi=>Ab7 p lo hi P):Akt ua ul uh ρ P:=q
theorem Agq {ps:List PV} {lo hi:Option Int} (q:P (.lst (Gh ps lo hi))):Ab7 (.lst ps) lo hi P:=⟨ps,.inl rfl,q⟩
theorem AgZ {ns:List Int} {lo hi:Option Int} (q:P (.lst ((Gh ns lo hi).map .int))):Ab7 (.scr ns) lo hi P:=⟨_,.inr ⟨ns,rfl,rfl⟩,by rw [Gw]; exact q⟩
theorem Agh (q:ua ρ fun p=>ub ρ fun q=>AfF p q P):Ajr ua ub ρ P:=q
theorem Agw {xs ys:List PV} (q:P (.lst (xs ++ ys))) (hl:xs.length + ys.length <= 100000):AfF (.lst xs) (.lst ys) P:=⟨xs,ys,rfl,rfl,hl,q⟩
theorem AjQ {ur:List PV->(PV->Prop)->Prop} {us:UA} (q:us ρ fun ps=>ur ps P):uCB ur us ρ P:=q
theorem Ac4 {xs:List PV} (q:P (.int (xs.length:Nat))):Zy [.lst xs] P:=⟨_,.inr (.inl ⟨xs,rfl,rfl⟩),q⟩
theorem Ac5 {xs:List PV} (q:P (.int (xs.length:Nat))):Zy [.tup xs] P:=⟨_,.inr (.inr (.inl ⟨xs,rfl,rfl⟩)),q⟩
theorem Aew {ns:List Int} (q:P (.int (ns.length:Nat))):Zy [.scr ns] P:=⟨_,.inr (.inr (.inr ⟨ns,rfl,rfl⟩)),q⟩
theorem Agm {i j:Int} (q:P (.int (if j > i then j else i))):Agj [.int i,.int j] P:=⟨i,j,rfl,q⟩
theorem Ac9 {b:Bool} (q:P (.int (if b then 1 else 0))):Aht [.bl b] P:=.inr ⟨b,rfl,q⟩
theorem AbE {xs:List PV} (q:P (.lst xs)):Adw [.lst xs] P:=⟨xs,.inl rfl,q⟩
theorem Aho {i:Nat} {us:UA} {ps:List PV} (h:ρ[i]? = some (.ow (.lst ps))) (q:us ρ fun qs=>AfK i ρ d.nx qs):AgG i us d ρ:=⟨⟨ps,h⟩,q⟩
theorem Agn {i:Nat} {N:Bp->Prop} {ps:List PV} (h:ρ[i]? = some (.ow (.lst ps))) (q:N (ρ.set i (.ow (.lst (ps ++ [x]))))) (hl:ps.length < 100000):AfK i ρ N [x]:=⟨x,ps,rfl,h,hl,q⟩
theorem Aag {kvs:List (Key × PV)} {n:Int} (h:Gc kvs (.inl n) = some x) (q:P x):Ab0 (.dk kvs) (.int n) P:=⟨kvs,.inl n,x,rfl,rfl,h,q⟩
theorem Abw {i:Nat} {s:Sl} {kvs:List (Key × PV)} (h1:ρ[i]? = some s) (h2:s.val = some (.dk kvs)) (q:ub ρ fun q=>uc ρ fun z=>Aah kvs q z P):AcX i ub uc ρ P:=⟨s,kvs,h1,h2,q⟩
theorem AbL {kvs:List (Key × PV)} {n:Int} (q:P ((Gc kvs (.inl n)).getD x)):Aah kvs (.int n) x P:=⟨.inl n,rfl,q⟩
theorem Adv {i:Nat} {kvs:List (Key × PV)} (h:ρ[i]? = some (.ow (.dk kvs))) (q:ub ρ fun p=>ua ρ fun q=>Ab6 i ρ d.nx p q):AgB i ua ub d ρ:=⟨⟨kvs,h⟩,q⟩
theorem Adx {i:Nat} {kvs:List (Key × PV)} {n:Int} {N:Bp->Prop} (h:ρ[i]? = some (.ow (.dk kvs))) (q:N (ρ.set i (.ow (.dk (Sy kvs (.inl n) x))))) (hl:kvs.length < 100000):Ab6 i ρ N x (.int n):=⟨kvs,.inl n,h,rfl,hl,q⟩
theorem Af6 {ui:UI} {ug:PV->Bp->(Bp->Prop)->Prop} (q:ui ρ fun ps=>Vd ps ug u d ρ):Aft ui ug u d ρ:=q
theorem AgP {L:List PV->Prop} (q:ua ρ fun p=>bL p L):uiL ua ρ L:=q
theorem b_L {L:List PV->Prop} {ps:List PV} (q:L ps):bL (.lst ps) L:=⟨ps,.inl rfl,q⟩
theorem AdI {L:List PV->Prop} {i:Nat} (h:ρ[i]? = some (.bo x)) (q:bL x L):uiB i ρ L:=let ⟨ps,e,q⟩:=q; ⟨_,x,ps,h,.inl rfl,e,q⟩
theorem AdS {us:UA} {ug:PV->Bp->(Bp->Prop)->Prop} (q:us ρ fun ps=>bR1 (fun n=>Xd 0 n ug u d ρ) ps):Ahc us ug u d ρ:=q
theorem AdH {us:UA} {ug:PV->Bp->(Bp->Prop)->Prop} (q:us ρ fun ps=>bR2 (fun i n=>Xd i n ug u d ρ) ps):AgE us ug u d ρ:=q
theorem AeJ {ug:PV->Bp->(Bp->Prop)->Prop} {k:Nat} {fr:List Nat} (q:ua ρ fun p=>bL p fun ps=>ps.length <= 100000/\Qx ps ug ta ue (compρ k fr ρ) P):AgH ua ug ta ue k fr ρ P:=q
theorem Aes (q:B true):Agx ρ B:=q
theorem Adt {psp:PSp} {us:UA} (q:us ρ fun ps=>psp ps P):Su psp us ρ P:=q
theorem AgW {neg:Bool} (q:ua ρ fun p=>ub ρ fun q=>AbW neg p q P):AjO neg ua ub ρ P:=q
theorem Ai7 {neg:Bool} (q:ua ρ fun p=>ub ρ fun q=>bIn neg p q P):uIn neg ua ub ρ P:=q
theorem Ahg {n:String} (q:ua ρ fun p=>Yd n p P):Akr n ua ρ P:=q
theorem AeQ {xs:List PV} (q:P (.bl true)):Yd "list" (.lst xs) P:=⟨_,rfl,q⟩
theorem AeL {i:Int} (q:P (.bl true)):Yd "int" (.int i) P:=⟨_,rfl,q⟩
theorem Ac2 {i:Int} (q:P (.bl false)):Yd "bool" (.int i) P:=⟨_,rfl,q⟩
theorem AeP {xs:List PV} (q:P (.bl true)):Yd "tuple" (.tup xs) P:=⟨_,rfl,q⟩
theorem Aks {L:Nat->Prop} {j:Int} (q:L j.toNat) (h:-(2 ^ 62) <= j/\j < 2 ^ 62):bR1 L [.int j]:=⟨j,rfl,h.1,h.2,q⟩
theorem AjF {L:Int->Nat->Prop} {i j:Int} (q:L i (j - i).toNat) (h:-(2 ^ 62) <= i/\i < 2 ^ 62/\-(2 ^ 62) <= j/\j < 2 ^ 62):bR2 L [.int i,.int j]:=⟨i,j,rfl,h,q⟩
theorem Aar {a:PV} {r:List PV} (q:P a):Wf (.lst (a :: r)) (.int 0) P:=⟨0,_,_,rfl,.inl rfl,Fo (j:=0) rfl,q⟩
theorem Fp {α:Type} {f:α->PV} {l:List α} {j:Nat} {a:α} {i:Int} (h:l[j]? = some a) (e:i = (j:Int)) (q:P (f a)):Wf (.lst (l.map f)) (.int i) P:=by
 subst e
 exact ⟨_,_,_,rfl,.inl rfl,Fo (by rw [getElem?_map,h]; rfl),q⟩
theorem Aj6 {us:UA} (q:us ρ fun ps=>bMk P ps):uMk us ρ P:=q
theorem Akh {f:List Sg->List (Int × Int)->List Jn->Int->PV} (q:ua ρ fun p=>bBk p fun S M J=>ub ρ fun q=>bU (fun n=>f S M J n) q P):uM1 f ua ub ρ P:=q
theorem AkZ {S:List Sg} {M:List (Int × Int)} {J:List Jn} {L:List Sg->List (Int × Int)->List Jn->Prop} (q:L S M J):bBk (.bk S M J) L:=⟨S,M,J,rfl,q⟩
theorem AeF {xs:List PV} (c:CmpL xs xs) (q:P (.bl false)):AbW true (.lst xs) (.lst xs) P:=⟨xs,xs,rfl,rfl,c,fun b hb=>by rw [hb.mpr rfl]; exact q⟩
theorem AaW {xs ys:List Int}:CmpL (xs.map .int) (ys.map .int):=fun _ i x y hx hy=>by
 rw [getElem?_map] at hx hy
 obtain ⟨a,_,rfl⟩:=map_eq_some_iff.mp hx
 obtain ⟨b,_,rfl⟩:=map_eq_some_iff.mp hy
 exact .flat rfl rfl
theorem Fj {α:Type} {S:List α} {enc:α->PV} {f:α->Option PV} {ug:PV->Bp->(Bp->Prop)->Prop} {ue:UE} {ρ':Bp} (q:P (.lst (S.filterMap f))) (h:∀ s ∈ S,∀ Z:Option PV->Prop,Z (f s)->ug (enc s) ρ' fun ρ2=>ta ρ2 fun b=>if b = true then ue ρ2 fun q=>Z (some q) else Z none):Qx (S.map enc) ug ta ue ρ' P:=by
 refine ⟨fun n rs=>rs = (S.take n).filterMap f,rfl,fun n p rs hp hr=>?_,fun rs hr=>?_⟩
 ·rw [getElem?_map] at hp
  obtain ⟨s,hs,rfl⟩:=map_eq_some_iff.mp hp
  subst hr
  refine h s (mem_of_getElem? hs) (fun o=>(match o with | some q=>(S.take n).filterMap f ++ [q] | none=>(S.take n).filterMap f) = (S.take (n + 1)).filterMap f) ?_
  rw [Dv hs,List.filterMap_append]
  cases e:f s with
  | none=>simp [filterMap_cons,e]
  | some x=>simp [filterMap_cons,e]
 ·rw [length_map,take_length] at hr
  rw [hr]; exact q
end
section
variable {K:Frag} {C:Addr} {ω:Om} {rm:Rm}
theorem Rh {G:Hp} {vs:List V} {ns:List Int} (h:Reps K C G vs (ns.map .int)):vs = ns.map V.int:=by
 refine Rc (by rw [h.1,length_map,length_map]) fun i x y hx hy=>?_
 rw [getElem?_map] at hy
 obtain ⟨n,hn,rfl⟩:=map_eq_some_iff.mp hy
 have r:=h.2 i x (.int n) hx (by rw [getElem?_map,hn]; rfl)
 cases r; rfl
end
def Abi:PSp:=fun ps P=>∃ ns,ps = [.scr ns]/\ns.length <= 63/\P (.bl true)
def Wr (K:Frag):Sp:=fun vs H Q _=>∃ (a:Addr) (ns:List Int),vs = [.ref a]/\SqL K H a (ns.map V.int)/\ns.length <= 63/\∀ H',Q (.bl true) H'
theorem AhH {K:Frag} {C:Addr}:∀ vs H Q E,Wr K vs H Q E->spOf K C [false] .sh Abi vs H Q E:=fun vs H Q E ⟨a,ns,e,hS,hl,q⟩=>by
 subst e
 refine ⟨H,[.scr ns],fun p=>p = .bl true,Same.refl _,⟨.inl (.scr hS),trivial⟩,⟨ns,rfl,hl,rfl⟩,fun G' H' v p w r hp=>?_⟩
 subst hp
 have r':Rep K C G' v (.bl true):=r
 cases r'
 exact q H'
section
variable {K:Frag} {C:Addr}
end
section
variable {K:Frag} {C:Addr} {ω:Om}
end
section
variable {K:Frag} {C:Addr} {ω:Om} {rm:Rm}
end
section
variable {K:Frag} {C:Addr} {ω:Om} {rm:Rm}
theorem Af5 {κ:Type} [DecidableEq κ] (kvs:List (κ × PV)) (k k':κ) (v:PV):Gc (Sy kvs k v) k' = if k = k' then some v else Gc kvs k':=by
 have fnd:∀ l:List (κ × PV),Gc (l.map fun kv=>if kv.1 = k then (kv.1,v) else kv) k' = if k = k' then (if l.any (fun kv=>decide (kv.1 = k)) = true then some v else none) else Gc l k':=by
  intro l
  induction l with
  | nil=>unfold Gc; simp
  | cons x l ih =>
   have h1:∀ (y:κ × PV) (r:List (κ × PV)),Gc (y :: r) k' = if y.1 = k' then some y.2 else Gc r k':=fun y r=>by
    unfold Gc
    rw [find?_cons]
    by_cases z:y.1 = k'
    ·simp [z]
    ·simp [z]
   rw [map_cons,h1,ih,h1]
   by_cases e:k = k'
   ·subst e
    by_cases z:x.1 = k
    ·simp [z]
    ·rw [if_neg z,if_neg z,if_pos rfl,if_pos rfl,any_cons,decide_eq_false z,Bool.false_or]
   ·by_cases z:x.1 = k
    ·have:¬ x.1 = k':=fun w=>e (z.symm.trans w)
     simp [z,e]
    ·simp [z,e]
 unfold Sy
 by_cases z:(kvs.any fun kv=>decide (kv.1 = k)) = true
 ·rw [if_pos z,fnd,if_pos z]
 ·rw [if_neg z]
  unfold Gc
  rw [List.find?_append]
  by_cases e:k = k'
  ·subst e
   have:(kvs.find? fun kv=>decide (kv.1 = k)) = none:=by
    rw [List.find?_eq_none]
    intro x hx w
    exact z (any_eq_true.mpr ⟨x,hx,w⟩)
   rw [this]; simp
  ·rw [if_neg e]
   cases (kvs.find? fun kv=>decide (kv.1 = k')) with
   | none=>simp [e]
   | some y=>simp
end
section
variable {K:Frag} {C:Addr} {ω:Om} {rm:Rm}
end
section
variable {K:Frag} {C:Addr} {ω:Om} {rm:Rm}
def enP (ps:List PV):List PV:=ps.mapIdx fun i p=>.tup [.int (i:Int),p]
theorem Qb {ps:List PV} {k:Nat}:(enP ps)[k]? = ps[k]?.map fun p=>.tup [.int (k:Int),p]:=by unfold enP; rw [getElem?_mapIdx]
theorem Rt (ps:List PV):(enP ps).length = ps.length:=by unfold enP; rw [length_mapIdx]
def Aha (ua:UE) (ug:PV->Bp->(Bp->Prop)->Prop) (ub:US):US:=fun d ρ=>ua ρ fun p=>bL p fun ps=>Vd (enP ps) ug ub d ρ
theorem Yc {top:Nat} {ta:TE} {ua:UE} {g:TG} {ug:PV->Bp->(Bp->Prop)->Prop} {tb:TS} {ub:US} (ha:EU K C ω ta ua) (hg:GU K C ω top g ug) (hb:SU K C ω rm tb ub):SU K C ω rm (Lg (Zo K ta) g tb) (Aha ua ug ub) :=
 fun B G0 H0 own G σ H ρ D d S F hu=>ha B G0 H0 own G σ H ρ _ _ S hu fun v p G1 H1 w1 r1 ⟨ps,e,I,i0,ist,iend⟩=>by
  have S1:=S.grow w1
  obtain ⟨a,vs,rfl,sq,rp⟩:∃ a vs,v = .ref a/\SqL K G1 a vs/\Reps K C G1 vs ps:=by
   rcases e with e | ⟨ns,e,e2⟩
   ·subst e
    cases r1 with
    | lst e l q=>exact ⟨_,_,rfl,SqL.of e,l,q⟩
   ·subst e e2
    cases r1 with
    | scr e=>exact ⟨_,_,rfl,e,Fi ns⟩
  refine ⟨a,rfl,⟨vs,w1.i.seq sq⟩,Aap (xs:=vs) (fun k σ' H'=>∃ own' G' ρ',Sat K C ω G1 G0 H0 own' G' σ' H' ρ'/\I k ρ') ⟨own,G1,ρ,S1.base (Same.refl _),i0⟩ (fun k σ' H' _ ⟨own',G',ρ',S',_⟩=>(S'.kb.trans S'.gr.i).seq sq) (fun k x t σ' H' hx ht ⟨own',G',ρ',S',hi⟩=>?_) fun σ' H' ⟨own',G',ρ',S',hi⟩=>?_⟩
  ·obtain ⟨q,hq,rq⟩:=rp.get hx
   have w2:Grow G' H' (upd G' t (.tup [.int (k:Int),x])) (upd H' t (.tup [.int (k:Int),x])):=Grow.put S'.gr.i ht (Same.new ht) Bt
   have S2:=S'.grow w2
   have rt:Rep K C (upd G' t (.tup [.int (k:Int),x])) (.ref t) (.tup [.int (k:Int),q]):=Rep.ofT Bt (LAt.snoc (LAt.snoc LAt.nil (.int _)) ((rq.mono S'.kb).mono w2.g))
   exact hg G1 G0 H0 own' _ σ' _ ρ' (.ref t) _ _ _ S2 rt (ist k _ ρ' (by rw [Qb,hq]; rfl) hi) fun own2 σ2 ρ2 S3 _ h2=>hb G1 G0 H0 own2 _ σ2 _ ρ2 _ _ S3 (Gv F S1.kb fun own3 G3 σ3 H3 ρ3 S4 h3=>⟨own3,G3,ρ3,S4,h3⟩) h2
  ·rw [rp.1,<- Rt] at hi
   exact F.nx own' G' σ' H' ρ' (S'.base (S1.kb.trans S'.kb)) (iend ρ' hi)
def Adp (ua:UE) (ug:PV->Bp->(Bp->Prop)->Prop) (uc:UT) (ue:UE) (k:Nat) (fr:List Nat):UE:=fun ρ P=>ua ρ fun p=>bL p fun ps=>ps.length <= 100000/\Qx (enP ps) ug uc ue (compρ k fr ρ) P
theorem AcO {B G0 H0 G1 H1:Hp} {own:Nat->Option Addr} {σ:St} {ρ:Bp} (S:Sat K C ω B G0 H0 own G1 σ H1 ρ) {k:Nat} {fr:List Nat} {g:TG} {ug:PV->Bp->(Bp->Prop)->Prop} {tc:TT} {uc:UT} {te:TE} {ue:UE} (hg:GU K C Om.no k g ug) (hc:TU K C Om.no tc uc) (he:EU K C Om.no te ue) {D t:Addr} (hD:H1 D = none) {I:Nat->List PV->Prop} {n:Nat} (hn:n < 100000) {x:V} {q:PV} {H':Hp} {N:Hp->Prop}
  (rq:Rep K C G1 x q) (ht:H' t = none) (st:CSt K C G1 H1 D I n H') (hN:∀ H'',CSt K C G1 H1 D I (n + 1) H''->N H'') (hs:∀ rs,I n rs->ug (.tup [.int (n:Int),q]) (compρ k fr ρ) fun ρ2=>uc ρ2 fun b=>if b = true then ue ρ2 fun q=>I (n + 1) (rs ++ [q]) else I (n + 1) rs) :
  g (.ref t) (compσ k fr σ) (upd H' t (.tup [.int (n:Int),x])) fun σ2 H2=>σ2.drop k = (compσ k fr σ).drop k/\tc σ2 H2 fun b H3=>if b = true then te σ2 H3 (fun y H4=>∃ ys,H4 D = some (.lst ys)/\ys.length < sizeLine/\N (upd H4 D (.lst (ys ++ [y])))) else N H3:=by
 obtain ⟨G,ys,rs,w,gD,eD,ry,hl,hi⟩:=st
 have w2:Grow G H' (upd G t (.tup [.int (n:Int),x])) (upd H' t (.tup [.int (n:Int),x])):=Grow.put w.i ht (Same.new ht) Bt
 have nD:D ≠ t:=fun z=>by rw [z,ht] at eD; cases eD
 have gD2:upd G t (.tup [.int (n:Int),x]) D = none:=by rw [Bl nD]; exact gD
 have eD2:upd H' t (.tup [.int (n:Int),x]) D = some (.lst ys):=by rw [Bl nD]; exact eD
 have w':=w.trans w2
 have ry2:=ry.mono w2.g
 have rt:Rep K C (upd G t (.tup [.int (n:Int),x])) (.ref t) (.tup [.int (n:Int),q]):=Rep.ofT Bt (LAt.snoc (LAt.snoc LAt.nil (.int _)) (rq.mono w'.g))
 refine hg G1 G1 H1 _ _ _ _ _ (.ref t) _ _ _ (S.comp k fr w') rt (hs rs hi) fun own' σ' ρ' S' dr h=>⟨dr,hc G1 G1 H1 own' _ σ' _ ρ' _ _ S' h fun b G3 H3 w3 h3=>?_⟩
 cases b with
 | false=>exact Jo (hN _ ⟨G3,ys,rs,w'.trans w3,w3.n D _ eD2 (fun _ z=>nomatch z) gD2,w3.h _ _ eD2,ry2.mono w3.g,by omega,by simpa using h3⟩)
 | true =>
  refine Ji (he G1 G1 H1 own' G3 σ' H3 ρ' _ _ (S'.grow w3) (by simpa using h3) fun y q G4 H4 w4 r4 h4=>?_)
  have w34:=w3.trans w4
  have g4:G4 D = none:=w34.n D _ eD2 (fun _ z=>nomatch z) gD2
  have e4:H4 D = some (.lst ys):=w34.h _ _ eD2
  refine ⟨ys,e4,Vt (by rw [ry.1]; omega),hN _ ⟨G4,_,_,⟨(w'.trans w34).g,fun b u h=>?_,fun b u h=>?_,(w'.trans w34).n⟩,g4,Bt,Rk (ry2.mono w34.g) r4,by rw [length_append]; simp; omega,h4⟩⟩
  ·rw [Bl (by intro z; subst z; rw [hD] at h; cases h)]; exact (w'.trans w34).h _ _ h
  ·rw [Bl (by intro z; subst z; rw [g4] at h; cases h)]; exact w34.i _ _ h
theorem Ae2 {ta:TE} {ua:UE} {k:Nat} {fr:List Nat} {g:TG} {ug:PV->Bp->(Bp->Prop)->Prop} {tc:TT} {uc:UT} {te:TE} {ue:UE} (ha:EB K C ω ta ua) (hg:GU K C Om.no k g ug) (hc:TU K C Om.no tc uc) (he:EU K C Om.no te ue):EF K C ω (Jg (Zo K ta) g tc te k fr) (Adp ua ug uc ue k fr) :=
 fun B G0 H0 own G σ H ρ P Q S hu kk=>Sa (ha B G0 H0 own G σ H ρ _ _ S hu fun v p G1 H1 w1 r1 ⟨ps,e,hl,I,i0,ist,iend⟩=>by
  have S1:=S.grow w1
  obtain ⟨a,vs,rfl,sq,rp⟩:∃ a vs,v = .ref a/\SqL K H1 a vs/\Reps K C G1 vs ps:=by
   rcases e with e | ⟨ns,e,e2⟩
   ·subst e
    obtain ⟨a,vs,rfl,ea,l⟩:=r1.lst w1.i
    exact ⟨a,vs,rfl,SqL.of ea,l⟩
   ·subst e e2
    obtain ⟨a,rfl,ea⟩:=r1.scr w1.i
    exact ⟨a,_,rfl,ea,Fi ns⟩
  refine ⟨a,rfl,⟨vs,sq⟩,fun D hD=>CP.enum vs (CSt K C G1 H1 D I) (Ri w1.i hD i0) (fun n H' _ ⟨G',_,_,w,_⟩=>w.h.seq sq) (fun n x t H' N hx ht st hN=>?_) fun H' st=>?_⟩
  ·obtain ⟨q,hq,rq⟩:=rp.get hx
   have hn:n < ps.length:=(List.getElem?_eq_some_iff.mp hq).1
   exact AcO S1 hg hc he hD (by omega) rq ht st hN fun rs hi=>ist n _ rs (by rw [Qb,hq]; rfl) hi
  ·obtain ⟨G',ys,rs,w,gD,eD,ry,_,hi⟩:=st
   rw [rp.1,<- Rt] at hi
   exact kk D _ G' H' (w1.trans w) (w1.h.free hD) gD (OwnA.ofL eD ry) (iend rs hi))
theorem AkT {ρ:Bp} {d:Ft} {ua:UE} {ug:PV->Bp->(Bp->Prop)->Prop} {ub:US} (q:ua ρ fun p=>bL p fun ps=>Vd (enP ps) ug ub d ρ):Aha ua ug ub d ρ:=q
theorem Ah0 {ρ:Bp} {P:PV->Prop} {ua:UE} {ug:PV->Bp->(Bp->Prop)->Prop} {uc:UT} {ue:UE} {k:Nat} {fr:List Nat} (q:ua ρ fun p=>bL p fun ps=>ps.length <= 100000/\Qx (enP ps) ug uc ue (compρ k fr ρ) P):Adp ua ug uc ue k fr ρ P:=q
end
section
variable {K:Frag} {C:Addr} {ω:Om}
def Acp (ps ks:List PV) (P:PV->Prop):Prop:=∃ (ns:List Int) (d:Int),ps = [.lst (ns.map .int)]/\ks = [.int d]/\(ns = []->P (.int d))/\∀ m ∈ ns,(∀ x ∈ ns,x <= m)->P (.int m)
def AgU (u uk:UA):UE:=fun ρ P=>u ρ fun ps=>uk ρ fun ks=>Acp ps ks P
theorem AhS {m m':Bool} {t tk:TA} {u uk:UA} (ha:AU K C ω [m] t u) (hk:AU K C ω [m'] tk uk):EU K C ω (Ag8 K t tk) (AgU u uk) :=
 fun B G0 H0 own G σ H ρ P Q S hu k=>ha B G0 H0 own G σ H ρ _ _ S hu fun vs ps G1 H1 w1 r1 h1=>hk B G0 H0 own G1 σ H1 ρ _ _ (S.grow w1) h1 fun ws ks G2 H2 w2 r2 ⟨ns,d,e1,e2,h2,h3⟩=>by
  obtain ⟨x,px,rfl,e3,r⟩:=Jw r1
  obtain ⟨y,py,rfl,e4,r'⟩:=Jw r2
  rw [e3] at e1; cases e1
  rw [e4] at e2; cases e2
  obtain ⟨a,vs,rfl,ea,la⟩:=r.lst w1.i
  rw [r'.int]
  exact ⟨a,ns,d,rfl,rfl,SqL.of (by rw [<- Rh la]; exact w2.h _ _ ea),fun e=>k _ _ G2 H2 (w1.trans w2) (.int _) (h2 e),fun m hm hx=>k _ _ G2 H2 (w1.trans w2) (.int _) (h3 m hm hx)⟩
theorem Ai5 {ρ:Bp} {u uk:UA} {P:PV->Prop} (q:u ρ fun ps=>uk ρ fun ks=>Acp ps ks P):AgU u uk ρ P:=q
theorem AlM {ns:List Int} {d:Int} {P:PV->Prop} (q0:ns = []->P (.int d)) (q1:∀ m ∈ ns,(∀ x ∈ ns,x <= m)->P (.int m)):Acp [.lst (ns.map .int)] [.int d] P:=⟨ns,d,rfl,rfl,q0,q1⟩
end
theorem Jr {u w:US} {d:Ft} {ρ:Bp} (N:Bp->Prop) (h1:∀ ρ',N ρ'->w d ρ') (h2:u { d with nx:=fun ρ'=>N ρ'\/w d ρ' } ρ):Afw u w d ρ:=by
 have e:(fun ρ'=>N ρ'\/w d ρ') = w d:=funext fun ρ'=>propext ⟨fun z=>z.elim (h1 ρ') id,.inr⟩
 rw [e] at h2
 exact h2
section
variable {K:Frag} {C:Addr} {ω:Om} {rm:Rm}
theorem Afq {G:Hp} {vs:List V} {ps:List PV} (h:Reps K C G vs ps):Reps K C G vs.reverse ps.reverse:=by
 refine ⟨by rw [length_reverse,length_reverse,h.1],fun i v p h1 h2=>?_⟩
 have hi:i < vs.length:=by simpa using (List.getElem?_eq_some_iff.mp h1).1
 have hj:i < ps.length:=by simpa using (List.getElem?_eq_some_iff.mp h2).1
 rw [List.getElem?_reverse hi] at h1
 rw [List.getElem?_reverse hj] at h2
 exact h.2 _ v p h1 (by rw [h.1]; exact h2)
def AfY (p:PV) (P:PV->Prop):Prop:=∃ ps,p = .lst ps/\P (.lst ps.reverse)
def AjL (ua:UE):UE:=fun ρ P=>ua ρ fun p=>AfY p P
theorem Anc {ρ:Bp} {ua:UE} {P:PV->Prop} (q:ua ρ fun p=>AfY p P):AjL ua ρ P:=q
theorem AmS {ps:List PV} {P:PV->Prop} (q:P (.lst ps.reverse)):AfY (.lst ps) P:=⟨ps,rfl,q⟩
theorem Ad2 {ta:TE} {ua:UE} (ha:EB K C ω ta ua):EF K C ω (Akd K ta) (AjL ua) :=
 fun B G0 H0 own G σ H ρ P Q S hu k=>ha B G0 H0 own G σ H ρ _ _ S hu fun v p G1 H1 w1 r1 ⟨ps,e,h⟩=>by
  subst e
  obtain ⟨a,vs,rfl,ea,l⟩:=r1.lst w1.i
  exact ⟨a,vs,rfl,SqL.of ea,fun b H2 hb s2 e2=>k b _ G1 H2 (w1.trans (Grow.own w1.i s2)) (w1.h.free hb) (w1.i.free hb) (OwnA.ofL e2 (Afq l)) h⟩
def Aco (i:Int) (n:Nat):List PV:=(range n).map fun (k:Nat)=>.int (i + (k:Int))
theorem AeZ {G:Hp} {i:Int} {n:Nat}:Reps K C G ((range n).map fun (k:Nat)=>V.int (i + (k:Int))) (Aco i n):=by
 unfold Aco
 refine ⟨by simp,fun j v p h1 h2=>?_⟩
 rw [getElem?_map] at h1 h2
 cases e:(range n)[j]? with
 | none=>rw [e] at h1; cases h1
 | some m=>rw [e] at h1 h2; cases h1; cases h2; exact .int _
theorem Alx (n:Nat):Aco 0 n = (range n).map fun (k:Nat)=>.int (k:Int):=by
 unfold Aco; refine List.map_congr_left fun k _=>?_; rw [Int.zero_add]
def AgF (ps:List PV) (P:PV->Prop):Prop:=∃ j:Int,ps = [.int j]/\-(2 ^ 62) <= j/\j < 16000000/\P (.lst ((range j.toNat).map fun (k:Nat)=>.int (k:Int)))
theorem Anh {j:Int} {P:PV->Prop} (q:P (.lst ((range j.toNat).map fun (k:Nat)=>.int (k:Int)))) (h:-(2 ^ 62) <= j/\j < 16000000):AgF [.int j] P:=⟨j,rfl,h.1,h.2,q⟩
theorem Ajg {m:Bool} {t:TA} {u:UA} (ha:AU K C ω [m] t u):EF K C ω (AjM t) (uCB AgF u) :=
 fun B G0 H0 own G σ H ρ P Q S hu k=>ha B G0 H0 own G σ H ρ _ _ S hu fun vs ps G1 H1 w1 ok ⟨j,e,h1,h2,h⟩=>by
  obtain ⟨v,p,rfl,e2,r⟩:=Jw ok
  rw [e] at e2; cases e2
  refine ⟨j,by rw [r.int],h1,h2,fun b H2 hb s2 e2=>k b _ G1 H2 (w1.trans (Grow.own w1.i s2)) (w1.h.free hb) (w1.i.free hb) (OwnA.ofL e2 ?_) h⟩
  rw [<- Alx]
  have:=AeZ (K:=K) (C:=C) (G:=G1) (i:=0) (n:=j.toNat)
  simpa using this
def AfS (i:Nat) (ρ:Bp) (N:Bp->Prop) (p q:PV):Prop:=∃ ps n j,ρ[i]? = some (.ow (.lst ps))/\q = .int n/\ixN ps.length n = some j/\N (ρ.set i (.ow (.lst (ps.set j p))))
def AlA (i:Nat) (ub uv:UE):US:=fun d ρ=>(∃ ps,ρ[i]? = some (.ow (.lst ps)))/\uv ρ fun p=>ub ρ fun q=>AfS i ρ d.nx p q
theorem Amm {i:Nat} {ρ:Bp} {ub uv:UE} {d:Ft} {ps:List PV} (h:ρ[i]? = some (.ow (.lst ps))) (q:uv ρ fun p=>ub ρ fun q=>AfS i ρ d.nx p q):AlA i ub uv d ρ:=⟨⟨ps,h⟩,q⟩
theorem Wm {i:Nat} {ρ:Bp} {N:Bp->Prop} {p:PV} {n:Int} {j:Nat} {ps:List PV} (h:ρ[i]? = some (.ow (.lst ps))) (hj:ixN ps.length n = some j) (q:N (ρ.set i (.ow (.lst (ps.set j p))))):AfS i ρ N p (.int n):=⟨ps,n,j,h,rfl,hj,q⟩
theorem AfT {G:Hp} {vs:List V} {ps:List PV} {j:Nat} {v:V} {p:PV} (h:Reps K C G vs ps) (r:Rep K C G v p):Reps K C G (vs.set j v) (ps.set j p):=by
 refine ⟨by rw [length_set,length_set,h.1],fun i x y h1 h2=>?_⟩
 by_cases z:i = j
 ·subst z
  have hi:i < vs.length:=by simpa using (List.getElem?_eq_some_iff.mp h1).1
  rw [getElem?_set_self hi] at h1
  rw [getElem?_set_self (by rw [<- h.1]; exact hi)] at h2
  cases h1; cases h2; exact r
 ·rw [getElem?_set_ne (Ne.symm z)] at h1 h2
  exact h.2 i x y h1 h2
theorem Um {i:Nat} {tb tv:TE} {ub uv:UE} (hb:EB K C ω tb ub) (hv:EU K C ω tv uv):SU K C ω rm (Nc tv (Ald (Fk i) tb Adi)) (AlA i ub uv):=fun B G0 H0 own G σ H ρ D d S F ⟨⟨ps0,e0⟩,hu⟩ =>
 hv B G0 H0 own G σ H ρ _ _ S hu fun v p G1 H1 w1 r1 h1=>by
  have S1:=S.grow w1
  obtain ⟨a,ea,o,_⟩:=S.sl i _ e0
  refine ⟨_,ea,hb B G0 H0 own G1 σ H1 ρ _ _ S1 h1 fun w q G2 H2 w2 r2 ⟨ps,n,j,e,e2,hj,h⟩=>?_⟩
  subst e2
  have S2:=S1.grow w2
  obtain ⟨a',ea',o',vs,ha,l⟩:=S2.sl i _ e
  rw [o] at o'; cases o'
  exact ⟨a,vs,n,j,rfl,r2.int,ha,by rw [l.1]; exact hj,fun H3 c e3=>F.nx own G2 σ H3 _ (S2.chg o ea c (OwnA.ofL e3 (AfT l (r1.mono w2.g)))) h⟩
def Af3 (p q:PV) (P:PV->Prop):Prop:=∃ x n,p = .lst [x]/\q = .int n/\n <= 100000/\-(2 ^ 63) <= n/\P (.lst (replicate n.toNat x))
def AkY (ua ub:UE):UE:=fun ρ P=>ua ρ fun p=>ub ρ fun q=>Af3 p q P
theorem Al3 {ρ:Bp} {ua ub:UE} {P:PV->Prop} (q:ua ρ fun p=>ub ρ fun q=>Af3 p q P):AkY ua ub ρ P:=q
theorem AmX {x:PV} {n:Int} {P:PV->Prop} (q:P (.lst (replicate n.toNat x))) (h:n <= 100000/\-(2 ^ 63) <= n):Af3 (.lst [x]) (.int n) P:=⟨x,n,rfl,rfl,h.1,h.2,q⟩
theorem Wx {ta tb:TE} {ua ub:UE} (ha:EB K C ω ta ua) (hb:EB K C ω tb ub):EF K C ω (tOp Af7 ta tb) (AkY ua ub) :=
 fun B G0 H0 own G σ H ρ P Q S hu k=>two ha hb S hu fun v w p q G' H' gr r1 r2 ⟨x,n,e1,e2,hl,hm,h⟩=>by
  subst e1 e2
  obtain ⟨a,vs,rfl,ea,l⟩:=r1.lst gr.i
  rw [r2.int]
  obtain ⟨y,rfl⟩:∃ y,vs = [y]:=by
   have hlen:vs.length = 1:=l.1
   match vs,hlen with
   | [y],_=>exact ⟨y,rfl⟩
  refine ⟨a,n,[y],rfl,rfl,ea,hm,by omega,Nat.le_of_lt (Vt (by simp; omega)),fun c H4 hc s4 e4=>k c _ G' H4 (gr.trans (Grow.own gr.i s4)) (gr.h.free hc) (gr.i.free hc) (OwnA.ofL e4 ?_) h⟩
  have hf:∀ m:Nat,(replicate m [y]).flatten = replicate m y:=fun m=>by
   induction m with
   | zero=>rfl
   | succ m ih=>rw [replicate_succ,flatten_cons,ih,replicate_succ]; rfl
  rw [hf]
  refine ⟨by simp,fun i v p h1 h2=>?_⟩
  have hi:i < n.toNat:=by simpa using (List.getElem?_eq_some_iff.mp h1).1
  rw [getElem?_replicate,if_pos hi] at h1 h2
  cases h1; cases h2
  exact l.2 0 _ _ rfl rfl
inductive EqO:PV->PV->Bool->Prop where
 | nn:EqO .non .non true
 | ns {z:Str}:EqO .non (.str z) false
 | ni {z:Int}:EqO .non (.int z) false
 | ii {x y:Int}:EqO (.int x) (.int y) (decide (x = y))
 | nt {ys:List PV}:EqO .non (.tup ys) false
 | tn {xs:List PV}:EqO (.tup xs) .non false
 | ts {xs:List PV} {z:Str}:EqO (.tup xs) (.str z) false
 | ss {x y:Str}:EqO (.str x) (.str y) (decide (x = y))
 | tt {xs ys:List PV} {b:Bool} (c:∀ (i:Nat) (x y:PV),xs[i]? = some x->ys[i]? = some y->Cmp 40 x y) (h:b = true ↔ xs = ys):EqO (.tup xs) (.tup ys) b
def AfC (neg:Bool) (p q:PV) (P:PV->Prop):Prop:=∃ b,EqO p q b/\P (.bl (if neg then !b else b))
def Ak5 (neg:Bool) (ua ub:UE):UE:=fun ρ P=>ua ρ fun p=>ub ρ fun q=>AfC neg p q P
theorem Al6 {neg:Bool} {ρ:Bp} {ua ub:UE} {P:PV->Prop} (q:ua ρ fun p=>ub ρ fun q=>AfC neg p q P):Ak5 neg ua ub ρ P:=q
theorem AjT {neg bb:Bool} {G' H':Hp} {a b:Addr} {vs ws:List V} {xs ys:List PV} {Q:VK} (i0:Same G' H') (c:∀ (i:Nat) (x y:PV),xs[i]? = some x->ys[i]? = some y->Cmp 40 x y) (ea:H' a = some (.tup vs)) (eb:H' b = some (.tup ws)) (l1:Reps K C G' vs xs) (l2:Reps K C G' ws ys) (hbb:bb = true ↔ xs = ys) (fin:Q (.bl (if neg then !bb else bb)) H'):Afy K neg (.ref a) (.ref b) H' Q:=by
 have key:((range (min vs.length ws.length)).all (fun i=>pd (xs[i]? = ys[i]?)) && vs.length == ws.length) = pd (xs = ys):=Ga (by
  rw [pd_iff,and_eq_true,Rg]
  constructor
  ·rintro ⟨e,el⟩
   have el':vs.length = ws.length:=by simpa using el
   refine ext_getElem? fun i=>?_
   by_cases hi:i < vs.length
   ·exact pd_iff.mp (e i (by omega))
   ·rw [getElem?_eq_none (by rw [<- l1.1]; omega),getElem?_eq_none (by rw [<- l2.1]; omega)]
  ·intro e
   exact ⟨fun i _=>by rw [pd_iff,e],by rw [l1.1,l2.1,e]; exact beq_self_eq_true _⟩)
 refine ⟨a,b,vs,ws,fun i=>pd (xs[i]? = ys[i]?),rfl,rfl,SqT.of ea,SqT.of eb,fun i x y hx hy=>?_,?_⟩
 ·obtain ⟨p,hp,rp⟩:=l1.get hx
  obtain ⟨q,hq,rq⟩:=l2.get hy
  refine (c i p q hp hq).eqD i0 rp rq ?_
  rw [pd_iff,hp,hq]
  exact ⟨fun z=>Option.some.inj z,fun z=>congrArg some z⟩
 ·rw [key,show pd (xs = ys) = bb from Ga (by rw [pd_iff,hbb])]; exact fin
theorem Aj0 {neg:Bool} {ta tb:TE} {ua ub:UE} (ha:EB K C ω ta ua) (hb:EB K C ω tb ub):EU K C ω (tOp (AjK K neg) ta tb) (Ak5 neg ua ub) :=
 fun B G0 H0 own G σ H ρ P Q S hu k=>two ha hb S hu fun v w p q G' H' gr r1 r2 ⟨b,e,h⟩=>by
  have fin:Q (.bl (if neg then !b else b)) H':=k _ _ G' H' gr (.bl _) h
  cases e with
  | nn =>
   rw [show v = .non by rcases r1 with r1 | ⟨_,_,z⟩; cases r1; rfl; exact z.elim,show w = .non by rcases r2 with r2 | ⟨_,_,z⟩; cases r2; rfl; exact z.elim]
   exact .inr (.inl ⟨rfl,by simpa using fin⟩)
  | ns =>
   rw [show v = .non by rcases r1 with r1 | ⟨_,_,z⟩; cases r1; rfl; exact z.elim,r2.str]
   exact .inr (.inl ⟨rfl,by simpa using fin⟩)
  | ni =>
   rw [show v = .non by rcases r1 with r1 | ⟨_,_,z⟩; cases r1; rfl; exact z.elim,r2.int]
   exact .inr (.inl ⟨rfl,by simpa using fin⟩)
  | @ii x y =>
   rw [r1.int,r2.int]
   refine .inr (.inl ⟨rfl,?_⟩)
   have e:decide (V.int x = V.int y) = decide (x = y):=decide_eq_decide.mpr ⟨fun z=>by injection z,fun z=>by rw [z]⟩
   rw [e]; exact fin
  | nt =>
   obtain ⟨a,vs,rfl,ea,l⟩:=r2.tup gr.i
   rw [show v = .non by rcases r1 with r1 | ⟨_,_,z⟩; cases r1; rfl; exact z.elim]
   exact .inr (.inr ⟨a,vs,SqT.of ea,.inr ⟨rfl,rfl⟩,by cases neg <;> exact fin⟩)
  | tn =>
   obtain ⟨a,vs,rfl,ea,l⟩:=r1.tup gr.i
   rw [show w = .non by rcases r2 with r2 | ⟨_,_,z⟩; cases r2; rfl; exact z.elim]
   exact .inr (.inr ⟨a,vs,SqT.of ea,.inl ⟨rfl,.inl rfl⟩,by cases neg <;> exact fin⟩)
  | ts =>
   obtain ⟨a,vs,rfl,ea,l⟩:=r1.tup gr.i
   rw [r2.str]
   exact .inr (.inr ⟨a,vs,SqT.of ea,.inl ⟨rfl,.inr ⟨_,rfl⟩⟩,by cases neg <;> exact fin⟩)
  | @ss x y =>
   rw [r1.str,r2.str]
   refine .inr (.inl ⟨rfl,?_⟩)
   have e:decide (V.str x = V.str y) = decide (x = y):=decide_eq_decide.mpr ⟨fun z=>by injection z,fun z=>by rw [z]⟩
   rw [e]; exact fin
  | tt c hb' =>
   left
   obtain ⟨a,vs,rfl,ea,l⟩:=r1.tup gr.i
   obtain ⟨b2,ws,rfl,eb,l2⟩:=r2.tup gr.i
   exact AjT gr.i c ea eb l l2 hb' fin
theorem AeC {a b:PV} {r:List PV} {P:PV->Prop} (q:P b):Wf (.lst (a :: b :: r)) (.int 1) P:=⟨1,_,_,rfl,.inl rfl,Fo (j:=1) rfl,q⟩
end
section
variable {K:Frag} {C:Addr} {ω:Om} {rm:Rm}
def zpP (ps qs:List PV):List PV:=zipWith (fun p q=>PV.tup [p,q]) ps qs
theorem Abt {ps qs:List PV} {k:Nat} {p q:PV} (h1:ps[k]? = some p) (h2:qs[k]? = some q):(zpP ps qs)[k]? = some (.tup [p,q]):=by
 unfold zpP; rw [List.getElem?_zipWith,h1,h2]
theorem AbG (ps qs:List PV):(zpP ps qs).length = min ps.length qs.length:=by unfold zpP; exact List.length_zipWith
theorem Xp {α β:Type} (f:α->PV) (g:β->PV) (xs:List α) (ys:List β):zpP (xs.map f) (ys.map g) = (xs.zip ys).map fun z=>PV.tup [f z.1,g z.2]:=by
 unfold zpP
 rw [List.zipWith_map,zip,List.map_zipWith]
def bLL (p q:PV) (R:List PV->List PV->Prop):Prop:=∃ ps qs,p = .lst ps/\q = .lst qs/\R ps qs
theorem Any {ps qs:List PV} {R:List PV->List PV->Prop} (h:R ps qs):bLL (.lst ps) (.lst qs) R:=⟨ps,qs,rfl,rfl,h⟩
def Ahr (ua ub:UE) (ug:PV->Bp->(Bp->Prop)->Prop) (u:US):US:=fun d ρ=>ua ρ fun p=>ub ρ fun q=>bLL p q fun ps qs=>Vd (zpP ps qs) ug u d ρ
theorem Ajs {ρ:Bp} {d:Ft} {ua ub:UE} {ug:PV->Bp->(Bp->Prop)->Prop} {u:US} (q:ua ρ fun p=>ub ρ fun q=>bLL p q fun ps qs=>Vd (zpP ps qs) ug u d ρ):Ahr ua ub ug u d ρ:=q
theorem Rep.lstE {G:Hp} {v:V} {ps:List PV} (h:Rep K C G v (.lst ps)):∃ a vs,v = .ref a/\SqL K G a vs/\Reps K C G vs ps:=by
 cases h with
 | lst e l q=>exact ⟨_,_,rfl,SqL.of e,l,q⟩
theorem AiV {top:Nat} {ta tb:TE} {ua ub:UE} {g:TG} {ug:PV->Bp->(Bp->Prop)->Prop} {ts:TS} {us:US} (ha:EU K C ω ta ua) (ha2:EU K C ω tb ub) (hg:GU K C ω top g ug) (hb:SU K C ω rm ts us):SU K C ω rm (Lg (AcD K ta tb) g ts) (Ahr ua ub ug us) :=
 fun B G0 H0 own G σ H ρ D d S F hu=>ha B G0 H0 own G σ H ρ _ _ S hu fun v p G1 H1 w1 r1 h1=>ha2 B G0 H0 own G1 σ H1 ρ _ _ (S.grow w1) h1 fun v2 q G2 H2 w2 r2 ⟨ps,qs,e1,e2,I,i0,ist,iend⟩=>by
  subst e1 e2
  have S2:=(S.grow w1).grow w2
  obtain ⟨a,vs,rfl,sq,rp⟩:=(r1.mono w2.g).lstE
  obtain ⟨b,ws,rfl,sq2,rp2⟩:=r2.lstE
  refine ⟨a,b,rfl,rfl,⟨vs,w2.i.seq sq⟩,⟨ws,w2.i.seq sq2⟩,AiQ (xs:=vs) (ys:=ws) (fun k σ' H'=>∃ own' G' ρ',Sat K C ω G2 G0 H0 own' G' σ' H' ρ'/\I k ρ') ⟨own,G2,ρ,S2.base (Same.refl _),i0⟩ (fun k σ' H' ⟨own',G',ρ',S',_⟩=>⟨(S'.kb.trans S'.gr.i).seq sq,(S'.kb.trans S'.gr.i).seq sq2⟩) (fun k x y t σ' H' hx hy ht ⟨own',G',ρ',S',hi⟩=>?_) fun σ' H' ⟨own',G',ρ',S',hi⟩=>?_⟩
  ·obtain ⟨q1,hq1,rq1⟩:=rp.get hx
   obtain ⟨q2,hq2,rq2⟩:=rp2.get hy
   have w3:Grow G' H' (upd G' t (.tup [x,y])) (upd H' t (.tup [x,y])):=Grow.put S'.gr.i ht (Same.new ht) Bt
   have S3:=S'.grow w3
   have rt:Rep K C (upd G' t (.tup [x,y])) (.ref t) (.tup [q1,q2]):=Rep.ofT Bt (LAt.snoc (LAt.snoc LAt.nil ((rq1.mono S'.kb).mono w3.g)) ((rq2.mono S'.kb).mono w3.g))
   exact hg G2 G0 H0 own' _ σ' _ ρ' (.ref t) _ _ _ S3 rt (ist k _ ρ' (Abt hq1 hq2) hi) fun own2 σ2 ρ2 S4 _ h2=>hb G2 G0 H0 own2 _ σ2 _ ρ2 _ _ S4 (Gv F S2.kb fun own3 G3 σ3 H3 ρ3 S5 h3=>⟨own3,G3,ρ3,S5,h3⟩) h2
  ·rw [rp.1,rp2.1,<- AbG] at hi
   exact F.nx own' G' σ' H' ρ' (S'.base (S2.kb.trans S'.kb)) (iend ρ' hi)
theorem AcS {B G0 H0 G1 H1:Hp} {own:Nat->Option Addr} {σ:St} {ρ:Bp} (S:Sat K C ω B G0 H0 own G1 σ H1 ρ) {k:Nat} {fr:List Nat} {g:TG} {ug:PV->Bp->(Bp->Prop)->Prop} {tc:TT} {uc:UT} {te:TE} {ue:UE} (hg:GU K C Om.no k g ug) (hc:TU K C Om.no tc uc) (he:EU K C Om.no te ue) {D t:Addr} (hD:H1 D = none) {I:Nat->List PV->Prop} {n:Nat} (hn:n < 100000) {x y:V} {q1 q2:PV} {H':Hp} {N:Hp->Prop}
  (rq1:Rep K C G1 x q1) (rq2:Rep K C G1 y q2) (ht:H' t = none) (st:CSt K C G1 H1 D I n H') (hN:∀ H'',CSt K C G1 H1 D I (n + 1) H''->N H'') (hs:∀ rs,I n rs->ug (.tup [q1,q2]) (compρ k fr ρ) fun ρ2=>uc ρ2 fun b=>if b = true then ue ρ2 fun q=>I (n + 1) (rs ++ [q]) else I (n + 1) rs) :
  g (.ref t) (compσ k fr σ) (upd H' t (.tup [x,y])) fun σ2 H2=>σ2.drop k = (compσ k fr σ).drop k/\tc σ2 H2 fun b H3=>if b = true then te σ2 H3 (fun y H4=>∃ ys,H4 D = some (.lst ys)/\ys.length < sizeLine/\N (upd H4 D (.lst (ys ++ [y])))) else N H3:=by
 obtain ⟨G,ys,rs,w,gD,eD,ry,hl,hi⟩:=st
 have w2:Grow G H' (upd G t (.tup [x,y])) (upd H' t (.tup [x,y])):=Grow.put w.i ht (Same.new ht) Bt
 have nD:D ≠ t:=fun z=>by rw [z,ht] at eD; cases eD
 have gD2:upd G t (.tup [x,y]) D = none:=by rw [Bl nD]; exact gD
 have eD2:upd H' t (.tup [x,y]) D = some (.lst ys):=by rw [Bl nD]; exact eD
 have w':=w.trans w2
 have ry2:=ry.mono w2.g
 have rt:Rep K C (upd G t (.tup [x,y])) (.ref t) (.tup [q1,q2]):=Rep.ofT Bt (LAt.snoc (LAt.snoc LAt.nil (rq1.mono w'.g)) (rq2.mono w'.g))
 refine hg G1 G1 H1 _ _ _ _ _ (.ref t) _ _ _ (S.comp k fr w') rt (hs rs hi) fun own' σ' ρ' S' dr h=>⟨dr,hc G1 G1 H1 own' _ σ' _ ρ' _ _ S' h fun b G3 H3 w3 h3=>?_⟩
 cases b with
 | false=>exact Jo (hN _ ⟨G3,ys,rs,w'.trans w3,w3.n D _ eD2 (fun _ z=>nomatch z) gD2,w3.h _ _ eD2,ry2.mono w3.g,by omega,by simpa using h3⟩)
 | true =>
  refine Ji (he G1 G1 H1 own' G3 σ' H3 ρ' _ _ (S'.grow w3) (by simpa using h3) fun y q G4 H4 w4 r4 h4=>?_)
  have w34:=w3.trans w4
  have g4:G4 D = none:=w34.n D _ eD2 (fun _ z=>nomatch z) gD2
  have e4:H4 D = some (.lst ys):=w34.h _ _ eD2
  refine ⟨ys,e4,Vt (by rw [ry.1]; omega),hN _ ⟨G4,_,_,⟨(w'.trans w34).g,fun b u h=>?_,fun b u h=>?_,(w'.trans w34).n⟩,g4,Bt,Rk (ry2.mono w34.g) r4,by rw [length_append]; simp; omega,h4⟩⟩
  ·rw [Bl (by intro z; subst z; rw [hD] at h; cases h)]; exact (w'.trans w34).h _ _ h
  ·rw [Bl (by intro z; subst z; rw [g4] at h; cases h)]; exact w34.i _ _ h
def AcZ (ua ub:UE) (ug:PV->Bp->(Bp->Prop)->Prop) (uc:UT) (ue:UE) (k:Nat) (fr:List Nat):UE:=fun ρ P=>ua ρ fun p=>ub ρ fun q=>bLL p q fun ps qs=>ps.length <= 100000/\Qx (zpP ps qs) ug uc ue (compρ k fr ρ) P
theorem AiE {ρ:Bp} {P:PV->Prop} {ua ub:UE} {ug:PV->Bp->(Bp->Prop)->Prop} {uc:UT} {ue:UE} {k:Nat} {fr:List Nat} (q:ua ρ fun p=>ub ρ fun q=>bLL p q fun ps qs=>ps.length <= 100000/\Qx (zpP ps qs) ug uc ue (compρ k fr ρ) P):AcZ ua ub ug uc ue k fr ρ P:=q
theorem AaH {ta tb:TE} {ua ub:UE} {k:Nat} {fr:List Nat} {g:TG} {ug:PV->Bp->(Bp->Prop)->Prop} {tc:TT} {uc:UT} {te:TE} {ue:UE} (ha:EB K C ω ta ua) (ha2:EB K C ω tb ub) (hg:GU K C Om.no k g ug) (hc:TU K C Om.no tc uc) (he:EU K C Om.no te ue):EF K C ω (Jg (AcD K ta tb) g tc te k fr) (AcZ ua ub ug uc ue k fr) :=
 fun B G0 H0 own G σ H ρ P Q S hu kk=>Sa (ha B G0 H0 own G σ H ρ _ _ S hu fun v p G1 H1 w1 r1 h1=>ha2 B G0 H0 own G1 σ H1 ρ _ _ (S.grow w1) h1 fun v2 q G2 H2 w2 r2 ⟨ps,qs,e1,e2,hl,I,i0,ist,iend⟩=>by
  subst e1 e2
  have S2:=(S.grow w1).grow w2
  obtain ⟨a,vs,rfl,ea,rp⟩:=(r1.grow w2).lst w2.i
  obtain ⟨b,ws,rfl,eb,rp2⟩:=r2.lst w2.i
  refine ⟨a,b,rfl,rfl,⟨vs,SqL.of ea⟩,⟨ws,SqL.of eb⟩,fun D hD=>CP.zip vs ws (CSt K C G2 H2 D I) (Ri w2.i hD i0) (fun n H' ⟨G',_,_,w,_⟩=>⟨w.h.seq (SqL.of ea),w.h.seq (SqL.of eb)⟩) (fun n x y t H' N hx hy ht st hN=>?_) fun H' st=>?_⟩
  ·obtain ⟨q1,hq1,rq1⟩:=rp.get hx
   obtain ⟨q2,hq2,rq2⟩:=rp2.get hy
   have hn:n < ps.length:=(List.getElem?_eq_some_iff.mp hq1).1
   exact AcS S2 hg hc he hD (by omega) rq1 rq2 ht st hN fun rs hi=>ist n _ rs (Abt hq1 hq2) hi
  ·obtain ⟨G',ys,rs,w,gD,eD,ry,_,hi⟩:=st
   rw [rp.1,rp2.1,<- AbG] at hi
   exact kk D _ G' H' ((w1.trans w2).trans w) ((w1.trans w2).h.free hD) gD (OwnA.ofL eD ry) (iend rs hi))
def Xn (ug:PV->Bp->(Bp->Prop)->Prop) (uc:UT) (ue:UE) (ρ':Bp) (P:PV->Prop) (ps:List PV):Prop:=∃ i j:Int,ps = [.int i,.int j]/\(-(2 ^ 62) <= i/\i < 2 ^ 62/\-(2 ^ 62) <= j/\j < 2 ^ 62)/\j - i < 100000/\∃ I:Nat->List PV->Prop,I 0 []/\(∀ n rs,n < (j - i).toNat->I n rs->ug (.int (i + n)) ρ' fun ρ2=>uc ρ2 fun b=>if b = true then ue ρ2 fun q=>I (n + 1) (rs ++ [q]) else I (n + 1) rs)/\∀ rs,I (j - i).toNat rs->P (.lst rs)
def AbC (u:UA) (ug:PV->Bp->(Bp->Prop)->Prop) (uc:UT) (ue:UE) (k:Nat) (fr:List Nat):UE:=fun ρ P=>u ρ fun ps=>Xn ug uc ue (compρ k fr ρ) P ps
theorem Afn {ρ:Bp} {P:PV->Prop} {u:UA} {ug:PV->Bp->(Bp->Prop)->Prop} {uc:UT} {ue:UE} {k:Nat} {fr:List Nat} (q:u ρ fun ps=>Xn ug uc ue (compρ k fr ρ) P ps):AbC u ug uc ue k fr ρ P:=q
theorem Ac7 {m m':Bool} {t:TA} {u:UA} {k:Nat} {fr:List Nat} {g:TG} {ug:PV->Bp->(Bp->Prop)->Prop} {tc:TT} {uc:UT} {te:TE} {ue:UE} (ha:AU K C ω [m,m'] t u) (hg:GU K C Om.no k g ug) (hc:TU K C Om.no tc uc) (he:EU K C Om.no te ue):EF K C ω (Jg (Zq t) g tc te k fr) (AbC u ug uc ue k fr) :=
 fun B G0 H0 own G σ H ρ P Q S hu kk=>Sa (show Zq t σ H _ from ha B G0 H0 own G σ H ρ _ _ S hu fun vs ps G1 H1 w1 ok ⟨i,j,e,hb,h2,I,i0,ist,iend⟩=>by
  have S1:=S.grow w1
  obtain ⟨v,v',p,p',rfl,e2,r,r'⟩:=Tq ok
  rw [e] at e2; cases e2
  refine ⟨i,j,by rw [r.int,r'.int],hb,fun D hD=>CP.range (CSt K C G1 H1 D I) (Ri w1.i hD i0) (fun n H' N hx st hN=>Yz S1 hg hc he hD (by omega) (fun G' s=>.int _) st hN fun rs hi=>ist n rs hx hi) fun H' st=>?_⟩
  obtain ⟨G',ys,rs,w,gD,eD,ry,_,hi⟩:=st
  exact kk D _ G' H' (w1.trans w) (w1.h.free hD) gD (OwnA.ofL eD ry) (iend rs hi))
def Ae4 (f:Int->Int->Int) (i:Nat) (ρ:Bp) (N:Bp->Prop) (p q:PV):Prop:=∃ a b,p = .int a/\q = .int b/\N (ρ.set i (.sh (.int (f a b))))
def AlC (f:Int->Int->Int) (i:Nat) (ue:UE):US:=fun d ρ=>∃ s p,ρ[i]? = some s/\s.val = some p/\ue ρ fun q=>Ae4 f i ρ d.nx p q
theorem AmY {f:Int->Int->Int} {i:Nat} {ue:UE} {d:Ft} {ρ:Bp} {s:Sl} {p:PV} (h1:ρ[i]? = some s) (h2:s.val = some p) (q:ue ρ fun q=>Ae4 f i ρ d.nx p q):AlC f i ue d ρ:=⟨s,p,h1,h2,q⟩
theorem AmP {f:Int->Int->Int} {i:Nat} {ρ:Bp} {N:Bp->Prop} {a b:Int} (q:N (ρ.set i (.sh (.int (f a b))))):Ae4 f i ρ N (.int a) (.int b):=⟨a,b,rfl,rfl,q⟩
theorem Aaw {f:Int->Int->Int} {i:Nat} {te:TE} {ue:UE} (he:EB K C ω te ue):SU K C ω rm (AkH i te (ipI f)) (AlC f i ue):=fun B G0 H0 own G σ H ρ D d S F ⟨s,p,h1,h2,hu⟩=>by
 have q:=S.sl i s h1
 have key:∃ v,σ[i]? = some (some v)/\∀ a,p = .int a->v = .int a:=by
  cases s with
  | un=>cases h2
  | sh p'=>cases h2; obtain ⟨v,e,r⟩:=q; exact ⟨v,e,fun a ea=>by subst ea; cases r; rfl⟩
  | bo p'=>cases h2; obtain ⟨v,e,r⟩:=q; exact ⟨v,e,fun a ea=>by subst ea; exact r.int⟩
  | ow p'=>cases h2; obtain ⟨a,e,_,r⟩:=q; exact ⟨_,e,fun a ea=>by subst ea; exact r.elim⟩
  | fz _ _=>cases h2
  | bz _=>cases h2
  | fl z ps=>cases h2; obtain ⟨e,_,_,_⟩:=q; exact ⟨_,e,fun a ea=>nomatch ea⟩
  | om b p'=>cases h2; obtain ⟨e,_,r⟩:=q; exact ⟨_,e,fun a ea=>by subst ea; exact r.elim⟩
 obtain ⟨v,ev,hv⟩:=key
 refine ⟨v,ev,he B G0 H0 own G σ H ρ _ _ S hu fun y qv G1 H1 w1 r1 ⟨a,b,e1,e2,h⟩=>?_⟩
 subst e2
 exact ⟨a,b,hv a e1,r1.int,F.nx _ G1 _ H1 _ ((S.grow w1).setS (.int _)) h⟩
abbrev Fz:=Addr × Obj × List (Key × V)
def fzE (i:Nat) (z:Fz) (kvs:List (Key × PV)) (N:Bp->Prop) (ρ:Bp):Prop:=ρ[i]? = some (.fz z kvs)/\N (ρ.set i (.ow (.dk kvs)))
def Aao (i:Nat) (z:Fz) (kvs:List (Key × PV)) (d:Ft):Ft:=⟨fzE i z kvs d.nx,fun _=>False,fzE i z kvs d.bk,fzE i z kvs d.ct⟩
def Alm (i:Nat) (u:US):US:=fun d ρ=>∃ kvs,ρ[i]? = some (.ow (.dk kvs))/\∀ z,u (Aao i z kvs d) (ρ.set i (.fz z kvs))
theorem Rx {H:Hp} {a b:Addr} {o u:HO} (n:b ≠ a) (h:H b = some u):upd H a o b = some u:=by rw [Bl n]; exact h
theorem Sat.turn {B G0 H0 G H:Hp} {own:Nat->Option Addr} {σ:St} {ρ:Bp} (S:Sat K C ω B G0 H0 own G σ H ρ) {i:Nat} {a:Addr} {o:HO} {s':Sl} (e:own i = some a) (ht:Sr o) (hs:SlOk K C G0 H0 own G σ (upd H a o) i s'):Sat K C ω B G0 H0 own G σ (upd H a o) (ρ.set i s'):=by
 obtain ⟨f0,fg,_⟩:=S.fr i a e
 have ng:∀ b u,G b = some u->b ≠ a:=fun b u h w=>by subst w; rw [fg] at h; cases h
 have n0:∀ b u,H0 b = some u->b ≠ a:=fun b u h w=>by subst w; rw [f0] at h; cases h
 refine ⟨S.kb,⟨S.gr.g,fun b u h=>Rx (n0 b u h) (S.gr.h _ _ h),fun b u h=>Rx (ng b u h) (S.gr.i _ _ h),S.gr.n⟩,by rw [length_set,S.len],S.inj,fun j b h=>?_,fun j s h=>?_,S.ex⟩
 ·obtain ⟨q0,qg,u,qh,qt⟩:=S.fr j b h
  by_cases w:b = a
  ·subst w; exact ⟨q0,qg,o,Bt,ht⟩
  ·exact ⟨q0,qg,u,Rx w qh,qt⟩
 ·rcases Vj h with ⟨rfl,rfl,hl⟩ | ⟨z,h⟩
  ·exact hs
  ·have q:=S.sl j s h
   cases s with
   | un=>trivial
   | sh p=>exact q
   | bo p=>exact q
   | bz kvs=>exact q
   | fz y kvs =>
    obtain ⟨e1,o1,h1,h2⟩:=q
    exact ⟨e1,o1,Rx (fun w=>z (S.inj j i a (by rw [<- w]; exact o1) e)) h1,h2⟩
   | fl y ps =>
    obtain ⟨e1,o1,h1,h2⟩:=q
    exact ⟨e1,o1,Rx (fun w=>z (S.inj j i a (by rw [<- w]; exact o1) e)) h1,h2⟩
   | om b p' =>
    obtain ⟨e1,o1,r1⟩:=q
    exact ⟨e1,o1,r1.mono (Same.refl _) (Bl fun w=>z (S.inj j i a (by rw [<- w]; exact o1) e))⟩
   | ow p' =>
    obtain ⟨b,e1,o1,r1⟩:=q
    exact ⟨b,e1,o1,r1.mono (Same.refl _) (Bl fun w=>z (S.inj j i a (by rw [<- w]; exact o1) e))⟩
theorem Alt {i:Nat} {t:TS} {u:US} (h:SU K C ω rm t u):SU K C ω rm (AcL t) (Alm i u):=fun B G0 H0 own G σ H ρ D d S F ⟨kvs,e,hu⟩=>by
 obtain ⟨a,ea,eo,vs,ha,l⟩:=S.sl i _ e
 refine ⟨a,.dK vs,trivial,ha,fun o=>?_⟩
 have S1:=S.turn (o:=.frz o (.dK vs)) (s':=.fz (a,o,vs) kvs) eo (fun _ z=>nomatch z) ⟨ea,eo,Bt,l⟩
 have key:∀ (N:Bp->Prop) (M:St->Hp->Prop),(∀ own G σ H ρ,Sat K C ω B G0 H0 own G σ H ρ->N ρ->M σ H)->∀ own' G' σ' H' ρ',Sat K C ω B G0 H0 own' G' σ' H' ρ'->fzE i (a,o,vs) kvs N ρ'->∃ o',H' a = some (.frz o' (.dK vs))/\M σ' (upd H' a (.dK vs)):=fun N M hM own' G' σ' H' ρ' S' ⟨e',h'⟩=>by
  obtain ⟨h1,h2,h3,h4⟩:=S'.sl i _ e'
  exact ⟨o,h3,hM own' G' σ' _ _ (S'.turn (o:=.dK vs) (s':=.ow (.dk kvs)) h2 (fun _ z=>nomatch z) ⟨a,h1,h2,OwnA.ofD Bt h4⟩) h'⟩
 exact h B G0 H0 own G σ _ _ _ (Aao i (a,o,vs) kvs d) S1 ⟨key d.nx D.nx F.nx,fun _ _ _ _ _ _ z=>z.elim,key d.bk D.bk F.bk,key d.ct D.ct F.ct⟩ (hu (a,o,vs))
def Abn (i:Nat) (z:Fz) (kvs:List (Key × PV)) (ug:PV->Bp->(Bp->Prop)->Prop) (ub:US) (d:Ft) (ρ:Bp):Prop:=∃ I:Nat->Bp->Prop,I 0 ρ/\(∀ k ρ,I k ρ->ρ[i]? = some (.fz z kvs))/\(∀ k kv ρ,kvs[k]? = some kv->I k ρ->ug (kP kv.1) ρ fun ρ'=>ub { d with nx:=I (k + 1),ct:=I (k + 1),bk:=d.nx } ρ')/\∀ ρ,I kvs.length ρ->d.nx ρ
def AeV (i:Nat) (ug:PV->Bp->(Bp->Prop)->Prop) (ub:US):US:=fun d ρ=>∃ z kvs,ρ[i]? = some (.fz z kvs)/\Abn i z kvs ug ub d ρ
theorem AlR {G:Hp} (k:Key):Rep K C G (kV k) (kP k):=by
 cases k with
 | inl i=>exact .int _
 | inr x=>exact .str _
theorem Af4 {top:Nat} {i:Nat} {g:TG} {ug:PV->Bp->(Bp->Prop)->Prop} {tb:TS} {ub:US} (hg:GU K C ω top g ug) (hb:SU K C ω rm tb ub):SU K C ω rm (Lg (iDk (Fk i)) g tb) (AeV i ug ub) :=
 fun B G0 H0 own G σ H ρ D d S F ⟨z,kvs,e,I,i0,iz,ist,iend⟩=>by
  obtain ⟨e1,e2,e3,e4⟩:=S.sl i _ e
  refine ⟨_,e1,z.1,z.2.1,z.2.2,rfl,e3,Yx (fun k σ' H'=>∃ own' G' ρ',Sat K C ω B G0 H0 own' G' σ' H' ρ'/\I k ρ') ⟨own,G,ρ,S,i0⟩ (fun k σ' H' _ ⟨own',G',ρ',S',hi⟩=>(S'.sl i _ (iz k ρ' hi)).2.2.1) (fun k kv σ' H' hx ⟨own',G',ρ',S',hi⟩=>?_) fun σ' H' ⟨own',G',ρ',S',hi⟩=>?_⟩
  ·have hk:k < kvs.length:=by rw [<- e4.1]; exact (List.getElem?_eq_some_iff.mp hx).1
   obtain ⟨q,hq⟩:∃ q,kvs[k]? = some q:=⟨_,getElem?_eq_getElem hk⟩
   have rq:=e4.2 k kv q hx hq
   rw [show kv.1 = q.1 from rq.1]
   exact hg B G0 H0 own' G' σ' H' ρ' _ _ _ _ S' (AlR q.1) (ist k q ρ' hq hi) fun own2 σ2 ρ2 S2 _ h2=>hb B G0 H0 own2 G' σ2 H' ρ2 _ _ S2 (Gv F (Same.refl _) fun own3 G3 σ3 H3 ρ3 S3 h3=>⟨own3,G3,ρ3,S3,h3⟩) h2
  ·rw [e4.1] at hi
   exact F.nx own' G' σ' H' ρ' S' (iend ρ' hi)
def Sl.fzv:Sl->Option (List (Key × PV))
 | .fz _ kvs=>some kvs
 | .bz kvs=>some kvs
 | _=>none
def AdJ (i:Nat) (ub:UE):UE:=fun ρ P=>∃ s kvs,ρ[i]? = some s/\s.fzv = some kvs/\ub ρ fun q=>Ab0 (.dk kvs) q P
theorem Vv {i:Nat} {tb:TE} {ub:UE} (hb:EB K C ω tb ub):EU K C ω (AcK (Fk i) tb) (AdJ i ub):=fun B G0 H0 own G σ H ρ P Q S ⟨s,kvs,e,ev,hu⟩ k=>by
 have key:∃ a o vs,σ[i]? = some (some (.ref a))/\H a = some (.frz o (.dK vs))/\LAt (KRep K C) G vs kvs:=by
  have q:=S.sl i s e
  cases s with
  | fz z kvs'=>cases ev; obtain ⟨h1,_,h2,h3⟩:=q; exact ⟨_,_,_,h1,h2,h3⟩
  | bz kvs'=>cases ev; obtain ⟨a,o,vs,h1,h2,h3⟩:=q; exact ⟨a,o,vs,h1,S.gr.h _ _ h2,h3⟩
  | _=>cases ev
 obtain ⟨a,o,vs,ea,ha,l⟩:=key
 refine ⟨_,ea,hb B G0 H0 own G σ H ρ _ _ S hu fun w p G1 H1 w1 r1 ⟨kvs',k',x,e1,e2,e3,h⟩=>?_⟩
 cases e1
 subst e2
 rw [AcF r1]
 rcases Wp k' (KReps.mono l w1.g) with ⟨h1,h2⟩ | ⟨y,p,h1,h2,h3⟩
 ·rw [e3] at h2; cases h2
 ·rw [e3] at h2; cases h2
  exact ⟨a,y,rfl,.inl ⟨vs,k',.inr ⟨o,w1.h _ _ ha⟩,rfl,h1.symm⟩,k _ _ G1 H1 w1 h3 h⟩
theorem Amg {i:Nat} {u:US} {d:Ft} {ρ:Bp} {kvs:List (Key × PV)} (h1:ρ[i]? = some (.ow (.dk kvs))) (q:∀ z,u (Aao i z kvs d) (ρ.set i (.fz z kvs))):Alm i u d ρ:=⟨kvs,h1,q⟩
theorem Ah5 {i:Nat} {z:Fz} {kvs:List (Key × PV)} {ug:PV->Bp->(Bp->Prop)->Prop} {ub:US} {d:Ft} {ρ:Bp} (h1:ρ[i]? = some (.fz z kvs)) (q:Abn i z kvs ug ub d ρ):AeV i ug ub d ρ:=⟨z,kvs,h1,q⟩
theorem AiX {i:Nat} {ub:UE} {ρ:Bp} {P:PV->Prop} {s:Sl} {kvs:List (Key × PV)} (h1:ρ[i]? = some s) (h2:s.fzv = some kvs) (q:ub ρ fun q=>Ab0 (.dk kvs) q P):AdJ i ub ρ P:=⟨s,kvs,h1,h2,q⟩
def AcT (dps:List PV) (u:UA):UA:=fun ρ P=>u ρ fun ps=>P (ps ++ dps)
theorem AkL {dps:List PV} {u:UA} {ρ:Bp} {P:List PV->Prop} (q:u ρ fun ps=>P (ps ++ dps)):AcT dps u ρ P:=q
theorem Lp {G H:Hp} {v:V} {p:PV} (m:Bool) (i:Same G H) (r:Rep K C G v p):∀ {ms:List Bool} {vs:List V} {ps:List PV},ArgsOk K C G H ms vs ps->ArgsOk K C G H (ms ++ [m]) (vs ++ [v]) (ps ++ [p])
 | [],[],[],_=>match m with
  | true=>⟨r,trivial⟩
  | false=>⟨.inl r,trivial⟩
 | true :: _,_ :: _,_ :: _,h=>⟨h.1,Lp m i r h.2⟩
 | false :: _,_ :: _,_ :: _,h=>⟨h.1,Lp m i r h.2⟩
theorem Afi {ms:List Bool} {t:TA} {u:UA} {m:Bool} {v:V} {p:PV} (r:∀ G,Rep K C G v p) (ha:AU K C ω ms t u):AU K C ω (ms ++ [m]) (Zx [v] t) (AcT [p] u) :=
 fun B G0 H0 own G σ H ρ P Q S hu k=>ha B G0 H0 own G σ H ρ _ _ S hu fun vs ps G1 H1 w1 ok h=>k _ _ G1 H1 w1 (Lp m w1.i (r _) ok) h
theorem Ae5 {ms:List Bool} {t:TA} {u:UA} {m m2:Bool} {v v2:V} {p p2:PV} (r:∀ G,Rep K C G v p) (r2:∀ G,Rep K C G v2 p2) (ha:AU K C ω ms t u):AU K C ω (ms ++ [m] ++ [m2]) (Zx [v,v2] t) (AcT [p,p2] u) :=
 fun B G0 H0 own G σ H ρ P Q S hu k=>ha B G0 H0 own G σ H ρ _ _ S hu fun vs ps G1 H1 w1 ok h=>k _ _ G1 H1 w1 (by
  have:=Lp m2 w1.i (r2 _) (Lp m w1.i (r _) ok)
  rw [append_assoc vs,append_assoc ps] at this
  exact this) h
def AjZ (i j:Nat):US:=fun d ρ=>∃ ps q,ρ[j]? = some (.ow (.lst ps))/\ps[ps.length - 1]? = some q/\d.nx ((ρ.set j (.ow (.lst ps.dropLast))).set i (.sh q))
theorem Al1 {i j:Nat} {d:Ft} {ρ:Bp} {ps:List PV} {q:PV} (h:ρ[j]? = some (.ow (.lst (ps ++ [q])))) (k:d.nx ((ρ.set j (.ow (.lst ps))).set i (.sh q))):AjZ i j d ρ:=⟨ps ++ [q],q,h,by rw [length_append,length_singleton,Nat.add_sub_cancel,getElem?_append_right (Nat.le_refl _),Nat.sub_self]; rfl,by rw [List.dropLast_concat]; exact k⟩
theorem Aj4 {i j:Nat}:SU K C ω rm (Nc (AkA K "list" Agt (Fk j)) (Gf i)) (AjZ i j):=fun B G0 H0 own G σ H ρ D d S F ⟨ps,q,e,hq,h⟩=>by
 obtain ⟨a,vs,e1,o,h1,h2⟩:=S.list e
 obtain ⟨y,hy⟩:∃ y,vs[vs.length - 1]? = some y:=by
  have:=(List.getElem?_eq_some_iff.mp hq).1
  rw [<- h2.1] at this
  exact ⟨_,getElem?_eq_getElem this⟩
 have ry:Rep K C G y q:=h2.2 _ _ _ hy (by rw [h2.1]; exact hq)
 refine ⟨_,e1,.inl ⟨rfl,_,SqL.of h1⟩,a,vs,y,rfl,rfl,h1,hy,fun H2 c e2=>F.nx _ G _ H2 _ ((S.chg o e1 c (OwnA.ofL e2 ⟨by rw [List.length_dropLast,List.length_dropLast,h2.1],fun k x z hx hz=>?_⟩)).setS ry) h⟩
 rw [List.dropLast_eq_take] at hx hz
 rw [getElem?_take] at hx hz
 split at hx
 ·rw [if_pos (by rw [<- h2.1]; assumption)] at hz
  exact h2.2 k x z hx hz
 ·cases hx
end
theorem Qa {α:Type} {R:List α} {x s:α} {i:Nat} (h:(R ++ [x])[i]? = some s):R[i]? = some s\/(i = R.length/\s = x):=by
 by_cases hi:i < R.length
 ·rw [getElem?_append_left hi] at h; exact .inl h
 ·rw [getElem?_append_right (by omega)] at h
  have hz:i - R.length = 0:=by
   have:=(List.getElem?_eq_some_iff.mp h).1
   simp at this; omega
  rw [hz] at h
  simp at h
  exact .inr ⟨by omega,h.symm⟩
section
variable {S:Nat->Int} {R0 Mk R:List Sg} {J:List Jn} {k:Nat}
theorem Th {J:List Jn} {n:Int} {k:Nat} (h:Fu J (jGo J k n) = none):∀ d,jGo J (k + d) n = jGo J k n
 | 0=>rfl
 | d + 1=>by
  show Jt J (jGo J (k + d) n) = _
  rw [Th h d]
  unfold Jt
  rw [h]
end
structure AnQ (S:List Sg) (M:List (Int × Int)) (J:List Jn):Prop where
 so:∀ s ∈ S,Zw s
 mo:∀ m ∈ M,0 <= m.1/\0 <= m.2
 nd:(S.map (·.1) ++ Nb M).Nodup
 jo:Acf (kK S ++ kM M) J
 ln:S.length + 2 * M.length <= 60
 jl:J.length <= 7
 mr:∃ s ∈ S,s.2.1 = "mark"
section
variable {S:Nat->Int} {R0 Mk R:List Sg} {J:List Jn} {k x y t:Nat}
end
theorem AeN {kvs:List (Key × V)} {k:Key} {v:V} (h:Cv kvs k = some v):(k,v) ∈ kvs:=by
 unfold Cv at h
 obtain ⟨p,h1,h2⟩:=map_eq_some_iff.mp h
 have e0:=List.find?_some h1
 have e:p.1 = k:=of_decide_eq_true e0
 have:p = (k,v):=Prod.ext e h2
 rw [<- this]
 exact List.mem_of_find?_eq_some h1
theorem AjC {M:List (Int × Int)} {p:Key × V} (h:p ∈ kM M):p.2 = .str "open"\/p.2 = .str "shut":=by
 induction M with
 | nil=>cases h
 | cons x r ih =>
  rcases mem_cons.mp h with e | h
  ·rw [e]; exact .inl rfl
  ·rcases mem_cons.mp h with e | h
   ·rw [e]; exact .inr rfl
   ·exact ih h
theorem Ahm (U:List Sg) (M:List (Int × Int)) (n:Int):(Cv (kK U ++ kM M) (Sum.inl n)).getD (.str "plain") = .str (Li U M n):=by
 unfold Li
 cases e:Cv (kK U ++ kM M) (Sum.inl n) with
 | none=>rfl
 | some v =>
  rcases mem_append.mp (AeN e) with h | h
  ·obtain ⟨s,_,z⟩:=mem_map.mp h
   have:V.str s.2.1 = v:=(Prod.mk.inj z).2
   rw [<- this]; rfl
  ·rcases AjC h with z | z
   ·have z:v = .str "open":=z
    rw [z]; rfl
   ·have z:v = .str "shut":=z
    rw [z]; rfl
theorem AhV {U:List Sg} {M:List (Int × Int)} {n:Int} {k:Str} (h:(Cv (kK U ++ kM M) (Sum.inl n)).getD (.str "plain") = .str k):Li U M n = k:=by
 rw [Ahm] at h
 exact V.str.inj h
def Df (U:List Sg) (M:List (Int × Int)) (n:Int):Bool:=decide (Li U M n = "mark")
def Ro (mk:Int->Bool) (gs:List (List Int)) (n:Int):List (List Int):=if gs = []\/mk n = false then gs ++ [[n]] else gs.dropLast ++ [gs.getLast?.getD [] ++ [n]]
def grp (mk:Int->Bool) (ts:List Int):List (List Int):=ts.foldl (Ro mk) []
theorem AaA (mk:Int->Bool) (ts:List Int) (n:Int):grp mk (ts ++ [n]) = Ro mk (grp mk ts) n:=by simp [grp]
theorem Tr {mk:Int->Bool} {gs:List (List Int)} {n:Int} (h:gs = []\/mk n = false):Ro mk gs n = gs ++ [[n]]:=if_pos h
theorem Vm {mk:Int->Bool} {gs:List (List Int)} {g:List Int} {n:Int} (h:mk n = true):Ro mk (gs ++ [g]) n = gs ++ [g ++ [n]]:=by
 unfold Ro
 rw [if_neg (by rintro (z | z); (simp at z); (rw [h] at z; cases z))]
 simp
theorem AhC {mk:Int->Bool} (P:List (List Int)->List Int->Prop) (h0:P [] []) (hs:∀ gs ts n,P gs ts->P (Ro mk gs n) (ts ++ [n])) (ts:List Int):P (grp mk ts) ts:=by
 have key:∀ (ts:List Int) (acc:List (List Int)) (pre:List Int),P acc pre->P (ts.foldl (Ro mk) acc) (pre ++ ts):=by
  intro ts
  induction ts with
  | nil=>intro acc pre h; rw [append_nil]; exact h
  | cons n r ih =>
   intro acc pre h
   have:=ih (Ro mk acc n) (pre ++ [n]) (hs acc pre n h)
   rw [append_assoc] at this
   exact this
 exact key ts [] [] h0
structure Ag6 (mk:Int->Bool) (gs:List (List Int)) (ts:List Int):Prop where
 fl:gs.flatten = ts
 ln:gs.length <= ts.length
 ne:∀ g ∈ gs,∃ n r,g = n :: r/\∀ m ∈ r,mk m = true
 hd:∀ (i:Nat) (g:List Int),gs[i]? = some g->0 < i->∃ n r,g = n :: r/\mk n = false
theorem Gm (mk:Int->Bool) (ts:List Int):Ag6 mk (grp mk ts) ts:=by
 refine AhC (Ag6 mk) ⟨rfl,Nat.le_refl _,(fun g h=>by cases h),(fun i g h=>by simp at h)⟩ (fun gs ts n h=>?_) ts
 by_cases z:gs = []\/mk n = false
 ·rw [Tr z]
  refine ⟨by rw [List.flatten_append,h.fl]; rfl,by have:=h.ln; simp; omega,fun g hg=>?_,fun i g e hi=>?_⟩
  ·rcases mem_append.mp hg with hg | hg
   ·exact h.ne g hg
   ·rw [mem_singleton.mp hg]; exact ⟨n,[],rfl,(fun m hm=>by cases hm)⟩
  ·rcases Qa e with e | ⟨e1,e2⟩
   ·exact h.hd i g e hi
   ·rcases z with z | z
    ·rw [z] at e1; rw [e1] at hi; exact absurd hi (Nat.lt_irrefl _)
    ·exact ⟨n,[],e2,z⟩
 ·rcases eq_nil_or_concat gs with e | ⟨gs',g',rfl⟩
  ·exact absurd (.inl e) z
  ·have hm:mk n = true:=by
    cases w:mk n with
    | true=>rfl
    | false=>exact absurd (.inr w) z
   rw [concat_eq_append] at h z ⊢
   rw [Vm hm]
   obtain ⟨a,r,eg,hr⟩:=h.ne g' (mem_append_right _ mem_cons_self)
   refine ⟨by rw [<- h.fl]; simp,by have:=h.ln; simp at this ⊢; omega,fun g hg=>?_,fun i g e hi=>?_⟩
   ·rcases mem_append.mp hg with hg | hg
    ·exact h.ne g (mem_append_left _ hg)
    ·rw [mem_singleton.mp hg,eg]
     refine ⟨a,r ++ [n],rfl,fun m hm'=>?_⟩
     rcases mem_append.mp hm' with w | w
     ·exact hr m w
     ·rw [mem_singleton.mp w]; exact hm
   ·rcases Qa e with e | ⟨e1,e2⟩
    ·have hlt:=(List.getElem?_eq_some_iff.mp e).1
     exact h.hd i g (by rw [getElem?_append_left hlt]; exact e) hi
    ·obtain ⟨n',r',q1,q2⟩:=h.hd i g' (by rw [e1]; simp) hi
     exact ⟨n',r' ++ [n],by rw [e2,q1]; rfl,q2⟩
def Tc (H:Hp) (x:V) (g:List Int):Prop:=∃ p,x = .ref p/\H p = some (.lst (g.map V.int))
theorem LAt.monoM {β α:Type} {R R':Hp->β->α->Prop} {H H':Hp} {xs:List β} {ys:List α} (h:LAt R H xs ys) (m:∀ x ∈ xs,∀ y,R H x y->R' H' x y):LAt R' H' xs ys:=⟨h.1,fun i x y e1 e2=>m x (mem_of_getElem? e1) y (h.2 i x y e1 e2)⟩
theorem LAt.lstS {H H':Hp} {xs:List V} {gs:List (List Int)} (h:LAt Tc H xs gs) (s:Same H H'):LAt Tc H' xs gs:=h.mono fun _ _ ⟨p,e,z⟩=>⟨p,e,s _ _ z⟩
theorem LAt.lstC {H H':Hp} {a:Addr} {xs:List V} {gs:List (List Int)} (h:LAt Tc H xs gs) (c:Chg a H H') (n:¬ V.ref a ∈ xs):LAt Tc H' xs gs :=
 h.monoM fun x hx y ⟨p,e,z⟩=>⟨p,e,c _ _ z (by intro w; subst w; rw [e] at hx; exact n hx)⟩
structure LLat (H:Hp) (l:Addr) (xs:List V) (gs:List (List Int)):Prop where
 li:H l = some (.lst xs)
 at':LAt Tc H xs gs
 nd:xs.Nodup
 no:¬ V.ref l ∈ xs
theorem LLat.same {H H':Hp} {l:Addr} {xs:List V} {gs:List (List Int)} (h:LLat H l xs gs) (s:Same H H'):LLat H' l xs gs:=⟨s _ _ h.li,h.at'.lstS s,h.nd,h.no⟩
theorem LAt.lstF {H:Hp} {a:Addr} {xs:List V} {gs:List (List Int)} (h:LAt Tc H xs gs) (ha:H a = none):¬ V.ref a ∈ xs:=fun z=>by
 obtain ⟨i,hi⟩:=getElem?_of_mem z
 obtain ⟨g,_,p,e,hp⟩:=h.get hi
 cases e
 rw [ha] at hp; cases hp
theorem LLat.push {H H2 H3 H4:Hp} {l p:Addr} {xs:List V} {gs:List (List Int)} {n:Int} (h:LLat H l xs gs) (hp:H p = none) (s:Same H H2) (c3:Chg l H2 H3) (e3:H3 l = some (.lst (xs ++ [.ref p]))) (c4:Chg p H3 H4) (e4:H4 p = some (.lst ([] ++ [.int n]))) :
  LLat H4 l (xs ++ [.ref p]) (gs ++ [[n]]):=by
 have nlp:l ≠ p:=Cb h.li hp
 have nf:=h.at'.lstF hp
 refine ⟨c4 _ _ e3 nlp,LAt.snoc (((h.at'.lstS s).lstC c3 h.no).lstC c4 nf) ⟨p,rfl,e4⟩,?_,?_⟩
 ·refine nodup_append.mpr ⟨h.nd,by simp,fun x hx y hy e=>?_⟩
  rw [e,mem_singleton.mp hy] at hx
  exact nf hx
 ·intro z
  rcases mem_append.mp z with z | z
  ·exact h.no z
  ·exact nlp (V.ref.inj (mem_singleton.mp z))
theorem LLat.add {H H':Hp} {l p:Addr} {xs:List V} {gs:List (List Int)} {g:List Int} {n:Int} (h:LLat H l (xs ++ [.ref p]) (gs ++ [g])) (c:Chg p H H') (e:H' p = some (.lst (g.map V.int ++ [.int n]))):LLat H' l (xs ++ [.ref p]) (gs ++ [g ++ [n]]):=by
 have nlp:l ≠ p:=fun z=>h.no (by rw [z]; exact mem_append_right _ mem_cons_self)
 obtain ⟨n1,_,n3⟩:=nodup_append.mp h.nd
 have np:¬ V.ref p ∈ xs:=fun z=>n3 _ z _ mem_cons_self rfl
 have hl:xs.length = gs.length:=by have:=h.at'.1; simpa using this
 have h':LAt Tc H xs gs:=⟨hl,fun i x y e1 e2=>h.at'.2 i x y (by rw [getElem?_append_left (List.getElem?_eq_some_iff.mp e1).1]; exact e1) (by rw [getElem?_append_left (List.getElem?_eq_some_iff.mp e2).1]; exact e2)⟩
 exact ⟨c _ _ h.li nlp,LAt.snoc (h'.lstC c np) ⟨p,rfl,by rw [map_append]; exact e⟩,h.nd,h.no⟩
theorem LLat.last {H:Hp} {l:Addr} {xs:List V} {gs:List (List Int)} (h:LLat H l xs gs) (ne:¬ gs = []):∃ xs' p gs' g,xs = xs' ++ [V.ref p]/\gs = gs' ++ [g]/\H p = some (.lst (g.map V.int)):=by
 rcases eq_nil_or_concat gs with e | ⟨gs',g,rfl⟩
 ·exact absurd e ne
 ·rcases eq_nil_or_concat xs with e | ⟨xs',x,rfl⟩
  ·have:=h.at'.1; rw [e] at this; simp at this
  ·rw [concat_eq_append,concat_eq_append] at h
   have hl:xs'.length = gs'.length:=by have:=h.at'.1; simpa using this
   obtain ⟨p,e,hp⟩:=h.at'.2 xs'.length x g (by simp) (by rw [hl]; simp)
   exact ⟨xs',p,gs',g,by rw [concat_eq_append,e],concat_eq_append,hp⟩
theorem AaU {ts:List Int} {i:Nat} {x:V} (h:(ts.map V.int)[i]? = some x):∃ n,ts[i]? = some n/\x = .int n:=by
 rw [getElem?_map] at h
 obtain ⟨n,h1,h2⟩:=map_eq_some_iff.mp h
 exact ⟨n,h1,h2.symm⟩
theorem Afa {κ:Type} [DecidableEq κ] {kvs:List (κ × PV)} {k:κ} {v:PV} (h:¬ k ∈ kvs.map (·.1)):Sy kvs k v = kvs ++ [(k,v)]:=by
 unfold Sy
 rw [if_neg]
 intro z
 obtain ⟨kv,h1,h2⟩:=any_eq_true.mp z
 exact h (mem_map.mpr ⟨kv,h1,of_decide_eq_true h2⟩)
section
variable {U:List Sg} {M:List (Int × Int)} {J:List Jn}
end
theorem Gy {α:Type} (l:List α) (x:α):L2.atI (l ++ [x]) (-1) = some x:=by
 unfold L2.atI ixN
 rw [if_neg (by omega),if_pos (by simp; omega)]
 show (l ++ [x])[_]? = _
 rw [show (-1 + ((l ++ [x]).length:Int)).toNat = l.length by simp; omega]
 simp
section
variable {U:List Sg} {M:List (Int × Int)} {J:List Jn}
def knW (U:List Sg) (M:List (Int × Int)):List Int->Str
 | []=>"plain"
 | n :: _=>if Df U M n = true then "plain" else Li U M n
end
theorem Vx {α:Type} (xs:List α) (lo hi:Option Int):(Gh xs lo hi).length <= xs.length:=by
 unfold Gh; rw [length_take,length_drop]; omega
section
variable {U:List Sg} {M:List (Int × Int)} {J:List Jn}
end
section
variable {U:List Sg} {M:List (Int × Int)} {J:List Jn}
end
section
variable {U:List Sg} {M:List (Int × Int)} {J:List Jn}
end
theorem Acx {α:Type} (xs:List α) (p:Nat):Gh xs none (some (p:Int)) = xs.take p:=by
 unfold Gh
 rw [HT.sIx_nat,HT.sIx_none]
 simp
section
variable {U:List Sg} {M:List (Int × Int)} {J:List Jn}
end
def cM (ns:List Int) (k:Nat):Int:=if k < ns.length then (ns[k]?).getD 0 % 10 ^ 62 else 0
theorem Ana (ns:List Int) (k:Nat):0 <= cM ns k:=by
 unfold cM
 split
 ·exact emod_nonneg _ (by decide)
 ·exact Int.le_refl _
def AkK:PSp:=fun ps P=>∃ ns k,ps = [.scr ns,.int (k:Nat)]/\ns.length <= 63/\P (.int (cM ns k))
def sgF (ns:List Int) (k:Nat):Int:=cM ns 0 % 10 ^ 29 + (1 + cM ns 1 % 100) * (k:Int) % 101 * (1 + cM ns 1 % 10 ^ 27)
theorem Ry (ns:List Int) (k:Nat):0 <= sgF ns k:=by
 unfold sgF
 have h1:=emod_nonneg (cM ns 0) (show (10:Int) ^ 29 ≠ 0 by decide)
 have h2:=emod_nonneg ((1 + cM ns 1 % 100) * (k:Int)) (show (101:Int) ≠ 0 by decide)
 have h3:=emod_nonneg (cM ns 1) (show (10:Int) ^ 27 ≠ 0 by decide)
 have h4:=Int.mul_nonneg h2 (show 0 <= 1 + cM ns 1 % 10 ^ 27 by omega)
 omega
theorem Ae7:∀ m,m < 100->∀ i,i < 28->∀ j,j < i->((1 + m) * i) % 101 ≠ ((1 + m) * j) % 101:=by decide +kernel
theorem Ld (ns:List Int) {i j:Nat} (hi:i < 28) (hj:j < 28) (e:sgF ns i = sgF ns j):i = j:=by
 have key:∀ i j:Nat,i < 28->j < i->sgF ns i ≠ sgF ns j:=fun i j hi hj e=>by
  unfold sgF at e
  obtain ⟨m,hm⟩:=Int.eq_ofNat_of_zero_le (emod_nonneg (cM ns 1) (show (100:Int) ≠ 0 by decide))
  have hm2:=emod_lt_of_pos (cM ns 1) (show (0:Int) < 100 by decide)
  have h3:=emod_nonneg (cM ns 1) (show (10:Int) ^ 27 ≠ 0 by decide)
  rw [hm] at e hm2
  have e2:(1 + (m:Int)) * (i:Int) % 101 * (1 + cM ns 1 % 10 ^ 27) = (1 + (m:Int)) * (j:Int) % 101 * (1 + cM ns 1 % 10 ^ 27):=by omega
  have e3:=Int.eq_of_mul_eq_mul_right (show (1 + cM ns 1 % 10 ^ 27) ≠ 0 by omega) e2
  refine Ae7 m (by omega) i hi j hj ?_
  have e4:(((1 + m) * i % 101:Nat):Int) = (((1 + m) * j % 101:Nat):Int):=by
   rw [Int.natCast_emod,Int.natCast_emod,Int.natCast_mul,Int.natCast_mul,Int.natCast_add]
   exact e3
  exact Int.ofNat.inj e4
 rcases Nat.lt_trichotomy i j with z | z | z
 ·exact absurd e.symm (key j i hj z)
 ·exact z
 ·exact absurd e (key i j hi z)
def Aij:PSp:=fun ps P=>∃ ns k,ps = [.scr ns,.int (k:Nat)]/\ns.length <= 63/\k < 28/\P (.int (sgF ns k))
def menuK:List Str:=["fore","back","num","blank","mark","forein","backin","out","plain","blank"]
def Fq:Nat->Int->List Str
 | 0,_=>[]
 | n + 1,c=>(menuK[(c % 10).toNat]?).getD "plain" :: Fq n (c / 10)
def kdH:List Str:=["fore","back","mark","mark","blank","num","forein","backin","out"]
def kdE:List Str:=["open","shut","open","shut","fore","fore","back","plain","num","blank","plain","plain"]
def kdL (ns:List Int):List Str:=kdH ++ Fq 7 (cM ns 2) ++ kdE
theorem Ge:∀ n c,(Fq n c).length = n
 | 0,_=>rfl
 | n + 1,c=>by rw [Fq,length_cons,Ge n]
theorem Ah3 (ns:List Int):(kdL ns).length = 28:=by
 unfold kdL; rw [length_append,length_append,Ge]; rfl
def kdF (ns:List Int) (k:Nat):Str:=((kdL ns)[k]?).getD "plain"
def Qu (ns:List Int):List Int:=[1,1 + cM ns 3 % 3,1 + cM ns 3 / 3 % (10 ^ 30 - 1)]
def mkN (ns:List Int) (k:Nat):Nat:=(((kdL ns).take k).filter fun (x:Str)=>decide (x = "mark")).length
def rkF (ns:List Int) (k:Nat):Int:=if kdF ns k = "mark" then ((Qu ns)[mkN ns k % 3]?).getD 0 else 0
def tdD (ns:List Int) (n:Nat):List (Key × PV):=(range n).map fun k=>(Sum.inl (sgF ns k),.tup [.str (kdF ns k),.int (rkF ns k)])
theorem Abx (ns:List Int) {k:Nat} (hk:k < 28):Sy (tdD ns k) (.inl (sgF ns k)) (.tup [.str (kdF ns k),.int (rkF ns k)]) = tdD ns (k + 1):=by
 rw [Afa (kvs:=tdD ns k) (fun z=>by
  unfold tdD at z
  rw [map_map] at z
  obtain ⟨j,hj,e⟩:=mem_map.mp z
  rw [mem_range] at hj
  have e2:sgF ns j = sgF ns k:=Sum.inl.inj e
  have:=Ld ns (by omega) hk e2
  omega)]
 unfold tdD
 rw [List.range_succ,map_append]; rfl
def Ah1:PSp:=fun ps P=>∃ ns,ps = [.scr ns]/\ns.length <= 63/\P (.dk (tdD ns 28))
def mtL (ns:List Int):List (Int × Int):=[(sgF ns 16,sgF ns 17),(sgF ns 18,sgF ns 19)]
def jnI:List (Nat × Nat × Nat):=[(20,0,2),(21,20,3),(22,1,3),(23,26,2),(24,5,2),(25,4,3)]
theorem Ut:∀ t ∈ jnI,t.1 < 28/\t.2.1 < 28/\t.2.2 < 28:=by decide
def jnL (ns:List Int):List Jn:=jnI.map fun t=>(sgF ns t.1,sgF ns t.2.1,sgF ns t.2.2)
def unK:List Str:=["plain","open","shut"]
def usI (ns:List Int) (n:Nat):List Nat:=(range n).filter fun k=>decide (¬ kdF ns k ∈ unK)
def usL (ns:List Int) (n:Nat):List Sg:=(usI ns n).map fun k=>(sgF ns k,kdF ns k,rkF ns k)
theorem Afs (ns:List Int) (k:Nat):usI ns (k + 1) = usI ns k ++ (if kdF ns k ∈ unK then [] else [k]):=by
 unfold usI
 rw [List.range_succ,filter_append]
 by_cases h:kdF ns k ∈ unK
 ·rw [if_pos h,filter_cons_of_neg (by simp [h])]; rfl
 ·rw [if_neg h,filter_cons_of_pos (by simp [h])]; rfl
theorem Wl {ns:List Int} {n k:Nat} (h:k ∈ usI ns n):k < n/\¬ kdF ns k ∈ unK:=by
 unfold usI at h
 obtain ⟨h1,h2⟩:=mem_filter.mp h
 exact ⟨mem_range.mp h1,of_decide_eq_true h2⟩
theorem Aj2 (ns:List Int) (n:Nat):(usI ns n).Nodup:=Nodup.sublist List.filter_sublist List.nodup_range
theorem AbN (ns:List Int) (n:Nat):(usI ns n).length <= n:=by
 have:=length_filter_le (fun k=>decide (¬ kdF ns k ∈ unK)) (range n)
 rw [length_range] at this
 exact this
def elK:List Str:=["fore","back","num","blank","mark","forein","backin","out","plain","open","shut"]
theorem AaX:∀ n c,∀ x ∈ Fq n c,x ∈ elK
 | 0,_=>fun x h=>by cases h
 | n + 1,c=>fun x h=>by
  rw [Fq] at h
  rcases mem_cons.mp h with e | e
  ·have h1:=emod_nonneg c (show (10:Int) ≠ 0 by decide)
   have h2:=emod_lt_of_pos c (show (0:Int) < 10 by decide)
   rw [getElem?_eq_getElem (show (c % 10).toNat < menuK.length by show _ < 10; omega)] at e
   have:∀ y ∈ menuK,y ∈ elK:=by decide +kernel
   rw [e]; exact this _ (getElem_mem _)
  ·exact AaX n (c / 10) x e
theorem Akv (ns:List Int) (k:Nat):kdF ns k ∈ elK:=by
 unfold kdF
 cases e:(kdL ns)[k]? with
 | none=>show ("plain" : Str) ∈ elK; decide +kernel
 | some x =>
  have hx:=mem_of_getElem? e
  show x ∈ elK
  unfold kdL at hx
  rcases mem_append.mp hx with hx | hx
  ·rcases mem_append.mp hx with hx | hx
   ·have:∀ y ∈ kdH,y ∈ elK:=by decide +kernel
    exact this x hx
   ·exact AaX _ _ x hx
  ·have:∀ y ∈ kdE,y ∈ elK:=by decide +kernel
   exact this x hx
theorem Ql (ns:List Int) {k:Nat} (h:k < 9):kdF ns k = (kdH[k]?).getD "plain":=by
 unfold kdF kdL
 rw [getElem?_append_left (by rw [length_append,Ge]; show k < 9 + 7; omega),getElem?_append_left h]
theorem Jc (ns:List Int) {k:Nat} (h:16 <= k):kdF ns k = (kdE[k - 16]?).getD "plain":=by
 unfold kdF kdL
 rw [getElem?_append_right (by rw [length_append,Ge]; show 9 + 7 <= k; omega),length_append,Ge]; rfl
theorem AfP (ns:List Int):∀ x ∈ Qu ns,1 <= x:=by
 intro x hx
 have h3:=Ana ns 3
 have h1:=emod_nonneg (cM ns 3) (show (3:Int) ≠ 0 by decide)
 have h2:=emod_nonneg (cM ns 3 / 3) (show (10:Int) ^ 30 - 1 ≠ 0 by decide)
 simp only [Qu,mem_cons,not_mem_nil,or_false] at hx
 rcases hx with rfl | rfl | rfl <;> omega
theorem AlW (ns:List Int) (k:Nat):Wt (kdF ns k) (rkF ns k):=by
 unfold rkF
 by_cases h:kdF ns k = "mark"
 ·rw [if_pos h]
  have h3:mkN ns k % 3 < (Qu ns).length:=by show _ < 3; omega
  rw [getElem?_eq_getElem h3]
  exact .inl ⟨h,AfP ns _ (getElem_mem _)⟩
 ·rw [if_neg h]; exact .inr ⟨h,rfl⟩
theorem AgL {ns:List Int} {l:List Nat} (nd:l.Nodup) (h:∀ k ∈ l,k < 28):(l.map (sgF ns)).Nodup:=by
 induction l with
 | nil=>exact nodup_nil
 | cons x r ih =>
  obtain ⟨h1,h2⟩:=nodup_cons.mp nd
  refine nodup_cons.mpr ⟨fun z=>?_,ih h2 fun k hk=>h k (mem_cons_of_mem _ hk)⟩
  obtain ⟨j,hj,e⟩:=mem_map.mp z
  exact h1 (by rw [<- Ld ns (h j (mem_cons_of_mem _ hj)) (h x mem_cons_self) e]; exact hj)
theorem Abo (ns:List Int):(usL ns 28).map (·.1) ++ Nb (mtL ns) = (usI ns 28 ++ [16,17,18,19]).map (sgF ns):=by
 rw [map_append]
 unfold usL
 rw [map_map]; rfl
theorem Aci (ns:List Int):(usI ns 28 ++ [16,17,18,19]).Nodup/\∀ k ∈ usI ns 28 ++ [16,17,18,19],k < 28:=by
 have key:∀ k ∈ ([16,17,18,19]:List Nat),k < 28/\kdF ns k ∈ unK:=fun k hk=>by
  have:16 <= k/\k < 20:=by simp at hk; omega
  refine ⟨by omega,?_⟩
  rw [Jc ns this.1]
  have:∀ j:Nat,j < 4->(kdE[j]?).getD ("plain" : Str) ∈ unK:=by decide +kernel
  exact this _ (by omega)
 refine ⟨nodup_append.mpr ⟨Aj2 ns 28,by decide,fun a ha b hb e=>?_⟩,fun k hk=>?_⟩
 ·subst e; exact (Wl ha).2 (key a hb).2
 ·rcases mem_append.mp hk with hk | hk
  ·exact (Wl hk).1
  ·exact (key k hk).1
theorem Ahn (ns:List Int):((usL ns 28).map (·.1) ++ Nb (mtL ns)).Nodup:=by
 rw [Abo]
 exact AgL (Aci ns).1 (Aci ns).2
theorem Agc (ns:List Int):((kK (usL ns 28) ++ kM (mtL ns)).map (·.1)).Nodup:=by
 rw [map_append,Xi,show (kK (usL ns 28)).map (·.1) = ((usL ns 28).map (·.1)).map Sum.inl by unfold kK; rw [map_map,map_map]; rfl,<- map_append]
 have nd:=Ahn ns
 unfold Nodup at nd ⊢
 exact (List.pairwise_map).mpr (nd.imp fun h z=>h (Sum.inl.inj z))
theorem Zn (ns:List Int) {k:Nat} (hk:k < 28):knd (kK (usL ns 28) ++ kM (mtL ns)) (sgF ns k) = .str (kdF ns k):=by
 unfold knd
 by_cases h:kdF ns k ∈ unK
 ·by_cases h2:k ∈ ([16,17,18,19]:List Nat)
  ·have:(Sum.inl (sgF ns k),V.str (kdF ns k)) ∈ kM (mtL ns):=by
    simp only [mem_cons,not_mem_nil,or_false] at h2
    rcases h2 with rfl | rfl | rfl | rfl
    ·rw [Jc ns (by decide)]; exact .head _
    ·rw [Jc ns (by decide)]; exact .tail _ (.head _)
    ·rw [Jc ns (by decide)]; exact .tail _ (.tail _ (.head _))
    ·rw [Jc ns (by decide)]; exact .tail _ (.tail _ (.tail _ (.head _)))
   rw [AaK (Agc ns) (mem_append_right _ this)]; rfl
  ·have hp:kdF ns k = "plain":=by
    have h9:k < 9\/(9 <= k/\k < 16)\/20 <= k:=by
     simp only [mem_cons,not_mem_nil,or_false] at h2; omega
    rcases h9 with h9 | h9 | h9
    ·rw [Ql ns h9] at h
     have:∀ j:Nat,j < 9->¬ (kdH[j]?).getD ("plain" : Str) ∈ unK:=by decide +kernel
     exact absurd h (this k h9)
    ·have:kdF ns k ∈ menuK:=by
      have hm:∀ n c,∀ x ∈ Fq n c,x ∈ menuK:=fun n=>by
       induction n with
       | zero=>intro c x h; cases h
       | succ n ih =>
        intro c x h
        rw [Fq] at h
        rcases mem_cons.mp h with e | e
        ·have h1:=emod_nonneg c (show (10:Int) ≠ 0 by decide)
         have h2:=emod_lt_of_pos c (show (0:Int) < 10 by decide)
         rw [getElem?_eq_getElem (show (c % 10).toNat < menuK.length by show _ < 10; omega)] at e
         rw [e]; exact getElem_mem _
        ·exact ih (c / 10) x e
      unfold kdF kdL
      have hl:k - 9 < (Fq 7 (cM ns 2)).length:=by rw [Ge]; omega
      rw [getElem?_append_left (by rw [length_append,Ge]; show k < 9 + 7; omega),getElem?_append_right (by show 9 <= k; omega),show k - kdH.length = k - 9 from rfl,getElem?_eq_getElem hl]
      exact hm _ _ _ (getElem_mem _)
     have q:∀ x ∈ menuK,x ∈ unK->x = "plain":=by decide +kernel
     exact q _ this h
    ·rw [Jc ns (by omega)] at h ⊢
     have:∀ j:Nat,j < 12->4 <= j->(kdE[j]?).getD ("plain" : Str) ∈ unK->(kdE[j]?).getD ("plain" : Str) = ("plain" : Str):=by decide +kernel
     exact this (k - 16) (by omega) (by omega) h
   rw [hp,Lh]
   ·rfl
   ·rw [map_append,Xi,show (kK (usL ns 28)).map (·.1) = ((usL ns 28).map (·.1)).map Sum.inl by unfold kK; rw [map_map,map_map]; rfl,<- map_append,Abo]
    intro z
    obtain ⟨n,hn,e⟩:=mem_map.mp z
    obtain ⟨j,hj,e2⟩:=mem_map.mp hn
    have e3:sgF ns j = sgF ns k:=by rw [e2]; exact Sum.inl.inj e
    have:=Ld ns ((Aci ns).2 j hj) hk e3
    subst this
    rcases mem_append.mp hj with hj | hj
    ·exact (Wl hj).2 h
    ·exact h2 hj
 ·have:(Sum.inl (sgF ns k),V.str (kdF ns k)) ∈ kK (usL ns 28):=by
   unfold kK usL usI
   rw [map_map]
   exact mem_map.mpr ⟨k,mem_filter.mpr ⟨mem_range.mpr hk,decide_eq_true h⟩,rfl⟩
  rw [AaK (Agc ns) (mem_append_left _ this)]; rfl
theorem AbD (ns:List Int) {k:Nat} (hk:k < 28):Fu (jnL ns) (sgF ns k) = ((jnI.find? fun t=>decide (t.1 = k)).map fun t=>(sgF ns t.2.1,sgF ns t.2.2)):=by
 have e:∀ l:List (Nat × Nat × Nat),(∀ t ∈ l,t.1 < 28)->Fu (l.map fun t=>(sgF ns t.1,sgF ns t.2.1,sgF ns t.2.2)) (sgF ns k) = ((l.find? fun t=>decide (t.1 = k)).map fun t=>(sgF ns t.2.1,sgF ns t.2.2)):=by
  intro l
  induction l with
  | nil=>intro _; rfl
  | cons t r ih =>
   intro h
   rw [map_cons,Fu,find?_cons]
   by_cases z:t.1 = k
   ·rw [if_pos (by rw [z]),decide_eq_true z]; rfl
   ·rw [if_neg (fun w=>z (Ld ns (h t mem_cons_self) hk w)),decide_eq_false z]
    exact ih fun t ht=>h t (mem_cons_of_mem _ ht)
 exact e jnI fun t ht=>(Ut t ht).1
theorem Uw (ns:List Int) {k:Nat} (hk:k < 28) (h:(jnI.find? fun t=>decide (t.1 = k)) = none):Fu (jnL ns) (sgF ns k) = none:=by rw [AbD ns hk,h]; rfl
theorem Xj (ns:List Int) {k j m:Nat} (hk:k < 28) (h:(jnI.find? fun t=>decide (t.1 = k)) = some (k,j,m)):Jt (jnL ns) (sgF ns k) = sgF ns j:=by unfold Jt; rw [AbD ns hk,h]; rfl
theorem Al5 (ns:List Int):AnQ (usL ns 28) (mtL ns) (jnL ns) where
 so:=fun s hs=>by
  obtain ⟨k,hk,rfl⟩:=mem_map.mp hs
  refine ⟨Ry ns k,?_,AlW ns k⟩
  have h:=Akv ns k
  have h2:=(Wl hk).2
  have q:∀ x ∈ elK,¬ x ∈ unK->x ∈ toldK:=by decide +kernel
  exact q _ h h2
 mo:=fun m hm=>by
  simp only [mtL,mem_cons,not_mem_nil,or_false] at hm
  rcases hm with rfl | rfl <;> exact ⟨Ry _ _,Ry _ _⟩
 nd:=Ahn ns
 jo:={
  nn:=fun j hj=>by
   obtain ⟨t,ht,rfl⟩:=mem_map.mp hj
   exact ⟨Ry _ _,Ry _ _,Ry _ _⟩
  mr:=fun j hj=>by
   obtain ⟨t,ht,rfl⟩:=mem_map.mp hj
   rw [Zn ns (Ut t ht).2.2]
   have h23:∀ t ∈ jnI,t.2.2 = 2\/t.2.2 = 3:=by decide
   have:=h23 t ht
   rcases this with e | e
   ·rw [e,Ql ns (by decide)]; rfl
   ·rw [e,Ql ns (by decide)]; rfl
  kd:=fun j hj=>by
   obtain ⟨t,ht,rfl⟩:=mem_map.mp hj
   refine ⟨kdF ns t.1,?_,Zn ns (Ut t ht).1,?_⟩
   ·have h1:∀ t ∈ jnI,16 <= t.1/\(kdE[t.1 - 16]?).getD ("plain" : Str) ∈ joinedK:=by decide +kernel
    rw [Jc ns (h1 t ht).1]; exact (h1 t ht).2
   ·rw [Zn ns (Ut t ht).2.1]
    have h1:∀ t ∈ jnI,16 <= t.1:=by decide
    have h2:∀ t ∈ jnI,t.2.1 < 9->(kdH[t.2.1]?).getD ("plain" : Str) = (kdE[t.1 - 16]?).getD ("plain" : Str):=by decide +kernel
    have h3:∀ t ∈ jnI,16 <= t.2.1->(kdE[t.2.1 - 16]?).getD ("plain" : Str) = (kdE[t.1 - 16]?).getD ("plain" : Str):=by decide +kernel
    have h4:∀ t ∈ jnI,t.2.1 < 9\/16 <= t.2.1:=by decide
    rw [Jc ns (h1 t ht)]
    rcases h4 t ht with z | z
    ·rw [Ql ns z,h2 t ht z]
    ·rw [Jc ns z,h3 t ht z]
  nw:=by
   have:=AgL (ns:=ns) (l:=jnI.map (·.1)) (by decide) (by decide)
   rw [map_map] at this
   unfold jnL
   rw [map_map]; exact this
  np:=by
   unfold jnL
   rw [map_map]
   unfold Nodup
   refine List.pairwise_map.mpr ?_
   have h:jnI.Pairwise fun a b=>a.2 ≠ b.2:=by decide
   have h2:∀ t ∈ jnI,t.2.1 < 28/\t.2.2 < 28:=by decide
   refine h.imp_of_mem fun {a b} ha hb hab e=>hab ?_
   obtain ⟨e1,e2⟩:=Prod.mk.inj e
   exact Prod.ext (Ld ns (h2 a ha).1 (h2 b hb).1 e1) (Ld ns (h2 a ha).2 (h2 b hb).2 e2)
  en:=fun j hj=>by
   obtain ⟨t,ht,rfl⟩:=mem_map.mp hj
   have stay:∀ k,k < 28->(jnI.find? fun t=>decide (t.1 = k)) = none->Fu (jnL ns) (jGo (jnL ns) 7 (sgF ns k)) = none:=fun k hk h=>by
    have e:=Th (J:=jnL ns) (n:=sgF ns k) (k:=0) (Uw ns hk h) 7
    rw [Nat.zero_add] at e
    rw [e]; exact Uw ns hk h
   have one:∀ k j m,k < 28->j < 28->(jnI.find? fun t=>decide (t.1 = k)) = some (k,j,m)->(jnI.find? fun t=>decide (t.1 = j)) = none->Fu (jnL ns) (jGo (jnL ns) 7 (sgF ns k)) = none:=fun k j m hk hj h1 h2=>by
    have e1:jGo (jnL ns) 1 (sgF ns k) = sgF ns j:=Xj ns hk h1
    have e:=Th (J:=jnL ns) (n:=sgF ns k) (k:=1) (by rw [e1]; exact Uw ns hj h2) 6
    rw [show 1 + 6 = 7 from rfl] at e
    rw [e,e1]; exact Uw ns hj h2
   simp only [jnI,mem_cons,not_mem_nil,or_false] at ht
   rcases ht with rfl | rfl | rfl | rfl | rfl | rfl
   ·exact one 20 0 2 (by decide) (by decide) (by decide) (by decide)
   ·have e1:jGo (jnL ns) 2 (sgF ns 21) = sgF ns 0:=by
     show Jt _ (Jt _ (sgF ns 21)) = _
     rw [Xj ns (k:=21) (j:=20) (m:=3) (by decide) (by decide),Xj ns (k:=20) (j:=0) (m:=2) (by decide) (by decide)]
    have h0:=Uw ns (k:=0) (by decide) (by decide)
    have e:=Th (J:=jnL ns) (n:=sgF ns 21) (k:=2) (by rw [e1]; exact h0) 5
    rw [show 2 + 5 = 7 from rfl] at e
    show Fu (jnL ns) (jGo (jnL ns) 7 (sgF ns 21)) = none
    rw [e,e1]; exact h0
   ·exact one 22 1 3 (by decide) (by decide) (by decide) (by decide)
   ·exact one 23 26 2 (by decide) (by decide) (by decide) (by decide)
   ·exact one 24 5 2 (by decide) (by decide) (by decide) (by decide)
   ·exact one 25 4 3 (by decide) (by decide) (by decide) (by decide)
  ln:=(show 6 <= 400 by decide) }
 ln:=by
  have h1:(usL ns 28).length = (usI ns 28).length:=length_map _
  have:=AbN ns 28
  show (usL ns 28).length + 2 * 2 <= 60
  omega
 jl:=(show 6 <= 7 by decide)
 mr:=⟨(sgF ns 2,kdF ns 2,rkF ns 2),by
  have h2:kdF ns 2 = "mark":=by rw [Ql ns (by decide)]; rfl
  refine ⟨mem_map.mpr ⟨2,mem_filter.mpr ⟨mem_range.mpr (by decide),?_⟩,rfl⟩,h2⟩
  rw [h2]; decide +kernel⟩
theorem Jd {c:Prop} [Decidable c] {A B:Prop} (h:¬ c) (q:B):if c then A else B:=by rw [if_neg h]; exact q
theorem Gu {c:Prop} [Decidable c] {A B:Prop} (h:c) (q:A):if c then A else B:=by rw [if_pos h]; exact q
def knL (U:List Sg) (M:List (Int × Int)) (ts:List Int):List Str:=(grp (Df U M) ts).map (knW U M)
theorem Aal {L:List Str} {x:Str} {P:PV->Prop} (q:P (.bl (decide (x ∈ L)))):bIn false (.str x) (.ctp (L.map .str)) P:=by
 refine ⟨L.map .str,rfl,rfl,fun y hy=>by obtain ⟨z,_,rfl⟩:=mem_map.mp hy; rfl,fun b hb=>?_⟩
 have:b = decide (x ∈ L):=Ga (by
  rw [hb,decide_eq_true_iff]
  constructor
  ·intro h
   obtain ⟨z,hz,e⟩:=mem_map.mp h
   injection e with e'
   rwa [<- e']
  ·intro h
   exact mem_map.mpr ⟨x,h,rfl⟩)
 rw [this]; exact q
def bgK:List Str:=["forein","backin"]
theorem Aad {k:Str} (h:k ∈ bgK):¬ k = "out":=fun e=>by rw [e] at h; revert h; decide +kernel
def stD (d:Int) (k:Str):Int:=(if k ∈ bgK then d + 1 else d) - (if k = "out" then 1 else 0)
def enS:Int->List Str->Nat
 | _,[]=>0
 | d,k :: r=>if stD d k = 0 then 0 else enS (stD d k) r + 1
theorem Ve {d:Nat} {k:Str} {r:List Str} (h:k ∈ bgK):enS (d:Int) (k :: r) = enS ((d + 1:Nat):Int) r + 1:=by
 have e:stD (d:Int) k = ((d + 1:Nat):Int):=by unfold stD; rw [if_pos h,if_neg (Aad h)]; omega
 rw [enS,e,if_neg (by omega)]
theorem Aih {d:Nat} {r:List Str} (h:2 <= d):enS (d:Int) ("out" :: r) = enS ((d - 1:Nat):Int) r + 1:=by
 have e:stD (d:Int) "out" = ((d - 1:Nat):Int):=by unfold stD; rw [if_neg (by decide +kernel),if_pos rfl]; omega
 rw [enS,e,if_neg (by omega)]
theorem Aix {r:List Str}:enS ((1:Nat):Int) ("out" :: r) = 0:=by
 have e:stD ((1:Nat):Int) "out" = 0:=by unfold stD; rw [if_neg (by decide +kernel),if_pos rfl]; rfl
 rw [enS,e,if_pos rfl]
theorem Abs {d:Nat} {k:Str} {r:List Str} (h1:1 <= d) (h2:¬ k ∈ bgK) (h3:¬ k = "out"):enS (d:Int) (k :: r) = enS (d:Int) r + 1:=by
 have e:stD (d:Int) k = (d:Int):=by unfold stD; rw [if_neg h2,if_neg h3]; omega
 rw [enS,e,if_neg (by omega)]
abbrev Nst:=Nat × Nat × Option Int
def lvF (k:Str) (a m:Int):Option Int:=if (if (a + 1) % 2 = (if k = "forein" then 0 else 1) then a + 1 else a + 2) <= m then some (if (a + 1) % 2 = (if k = "forein" then 0 else 1) then a + 1 else a + 2) else none
theorem AjY {k:Str} {a m l:Int} (h:lvF k a m = some l):a <= l:=by
 unfold lvF at h
 generalize (if k = "forein" then (0:Int) else 1) = r at h
 by_cases h1:(a + 1) % 2 = r
 ·rw [if_pos h1] at h
  by_cases h2:a + 1 <= m
  ·rw [if_pos h2] at h; injection h with h; omega
  ·rw [if_neg h2] at h; cases h
 ·rw [if_neg h1] at h
  by_cases h2:a + 2 <= m
  ·rw [if_pos h2] at h; injection h with h; omega
  ·rw [if_neg h2] at h; cases h
def arF (b:Int) (D:List Nst):Int:=D.foldl (fun a x=>match x.2.2 with | some l=>max a l | none=>a) b
def Lj (kn:List Str) (a:Nat):Nat:=a + enS 0 (kn.drop a)
def dF (kn:List Str) (b m:Int):Nat->List Nst
 | 0=>[]
 | n + 1=>match kn[n]? with
  | some k=>if k ∈ bgK then dF kn b m n ++ [(n,Lj kn n,lvF k (arF b ((dF kn b m n).filter fun x=>decide (n <= x.2.1))) m)] else dF kn b m n
  | none=>dF kn b m n
theorem Aai {kn:List Str} {b m:Int} {n:Nat} {k:Str} (h:kn[n]? = some k) (hb:k ∈ bgK):dF kn b m (n + 1) = dF kn b m n ++ [(n,Lj kn n,lvF k (arF b ((dF kn b m n).filter fun x=>decide (n <= x.2.1))) m)]:=by
 rw [dF,h]; exact if_pos hb
theorem Wz {kn:List Str} {b m:Int} {n:Nat} {k:Str} (h:kn[n]? = some k) (hb:¬ k ∈ bgK):dF kn b m (n + 1) = dF kn b m n:=by
 rw [dF,h]; exact if_neg hb
theorem Acz {kn:List Str} {b m:Int}:∀ n,(∀ x ∈ dF kn b m n,x.1 < n)/\(dF kn b m n).Pairwise (fun x y=>x.1 < y.1)
 | 0=>⟨fun x h=>(by cases h),Pairwise.nil⟩
 | n + 1=>by
  obtain ⟨h1,h2⟩:=Acz (kn:=kn) (b:=b) (m:=m) n
  cases e:kn[n]? with
  | none=>rw [dF,e]; exact ⟨fun x h=>lt_succ_of_lt (h1 x h),h2⟩
  | some k =>
   by_cases hb:k ∈ bgK
   ·rw [Aai e hb]
    refine ⟨fun x h=>?_,List.pairwise_append.mpr ⟨h2,List.pairwise_singleton _ _,fun x hx y hy=>?_⟩⟩
    ·rcases mem_append.mp h with h | h
     ·exact lt_succ_of_lt (h1 x h)
     ·rw [mem_singleton.mp h]; exact lt_succ_self _
    ·rw [mem_singleton.mp hy]; exact h1 x hx
   ·rw [Wz e hb]; exact ⟨fun x h=>lt_succ_of_lt (h1 x h),h2⟩
theorem AaM {kn:List Str} {b m:Int}:∀ n,(dF kn b m n).length <= n
 | 0=>Nat.le_refl _
 | n + 1=>by
  have h:=AaM (kn:=kn) (b:=b) (m:=m) n
  cases e:kn[n]? with
  | none=>rw [dF,e]; exact Nat.le_succ_of_le h
  | some k =>
   by_cases hb:k ∈ bgK
   ·rw [Aai e hb,length_append]; exact succ_le_succ h
   ·rw [Wz e hb]; exact Nat.le_succ_of_le h
theorem Ala {kn:List Str} {b m:Int} {n i j:Nat} {x y:Nst} (h1:(dF kn b m n)[i]? = some x) (h2:(dF kn b m n)[j]? = some y) (e:x.1 = y.1):i = j:=by
 have p:=(Acz (kn:=kn) (b:=b) (m:=m) n).2
 obtain ⟨hi,rfl⟩:=List.getElem?_eq_some_iff.mp h1
 obtain ⟨hj,rfl⟩:=List.getElem?_eq_some_iff.mp h2
 rcases Nat.lt_trichotomy i j with z | z | z
 ·have:=List.pairwise_iff_getElem.mp p i j hi hj z; omega
 ·exact z
 ·have:=List.pairwise_iff_getElem.mp p j i hj hi z; omega
abbrev Stk:=List (Nat × Nst)
def chF:Int->Stk->Int
 | a,[]=>a
 | a,s :: r=>chF (s.2.2.2.getD a) r
def wtF:Int->Stk->List (Nat × Int)
 | _,[]=>[]
 | a,s :: r=>(s.1,a) :: wtF (s.2.2.2.getD a) r
def upF:Int->Stk->Prop
 | _,[]=>True
 | a,s :: r=>(∀ l,s.2.2.2 = some l->a <= l)/\upF (s.2.2.2.getD a) r
theorem Wa:∀ (a:Int) (S:Stk) (s:Nat × Nst),chF a (S ++ [s]) = s.2.2.2.getD (chF a S)
 | _,[],_=>rfl
 | a,x :: S,s=>Wa (x.2.2.2.getD a) S s
theorem Vy:∀ (a:Int) (S:Stk) (s:Nat × Nst),wtF a (S ++ [s]) = wtF a S ++ [(s.1,chF a S)]
 | _,[],_=>rfl
 | a,x :: S,s=>by
  show (x.1,a) :: wtF (x.2.2.2.getD a) (S ++ [s]) = _
  rw [Vy]; rfl
theorem Xy:∀ (a:Int) (S:Stk),(wtF a S).length = S.length
 | _,[]=>rfl
 | a,x :: S=>by show (wtF _ S).length + 1 = _; rw [Xy]; rfl
theorem Wj:∀ (a:Int) (S:Stk) (s:Nat × Nst),upF a (S ++ [s]) ↔ upF a S/\∀ l,s.2.2.2 = some l->chF a S <= l
 | _,[],s=>⟨fun h=>⟨trivial,h.1⟩,fun h=>⟨h.2,trivial⟩⟩
 | a,x :: S,s=>by
  have:=Wj (x.2.2.2.getD a) S s
  constructor
  ·intro h; exact ⟨⟨h.1,(this.mp h.2).1⟩,(this.mp h.2).2⟩
  ·intro h; exact ⟨h.1.1,this.mpr ⟨h.1.2,h.2⟩⟩
theorem Adz:∀ (a:Int) (S:Stk),upF a S->arF a (S.map (·.2)) = chF a S
 | _,[],_=>rfl
 | a,s :: r,h=>by
  have ih:=Adz (s.2.2.2.getD a) r h.2
  unfold arF at ih ⊢
  rw [map_cons,foldl_cons,chF,<- ih]
  congr 1
  cases e:s.2.2.2 with
  | none=>rfl
  | some l=>have:=h.1 l e; show max a l = l; omega
structure NI (kn:List Str) (b m:Int) (n:Nat) (S:Stk):Prop where
 fil:(dF kn b m n).filter (fun x=>decide (n <= x.2.1)) = S.map (·.2)
 ix:∀ s ∈ S,(dF kn b m n)[s.1]? = some s.2
 dp:∀ j s,S[j]? = some s->s.2.2.1 = n + enS ((S.length - j:Nat):Int) (kn.drop n)
 up:upF b S
section
variable {kn:List Str} {b m:Int} {n:Nat} {S:Stk} {k:Str}
theorem Jq {l:List Str} (h:l[n]? = some k):l.drop n = k :: l.drop (n + 1):=by
 obtain ⟨hi,rfl⟩:=List.getElem?_eq_some_iff.mp h
 exact drop_eq_getElem_cons hi
theorem NI.zero:NI kn b m 0 []:=⟨rfl,fun s h=>(by cases h),fun j s h=>(by cases h),trivial⟩
theorem AdM (D:List Nst) (h:∀ x ∈ D.filter (fun x=>decide (n <= x.2.1)),n + 1 <= x.2.1):D.filter (fun x=>decide (n + 1 <= x.2.1)) = D.filter (fun x=>decide (n <= x.2.1)):=by
 refine List.filter_congr fun x hx=>?_
 by_cases z:n <= x.2.1
 ·have:=h x (mem_filter.mpr ⟨hx,decide_eq_true z⟩)
  rw [decide_eq_true z,decide_eq_true this]
 ·rw [decide_eq_false z,decide_eq_false (by omega)]
theorem NI.lev (h:NI kn b m n S):arF b ((dF kn b m n).filter fun x=>decide (n <= x.2.1)) = chF b S:=by rw [h.fil,Adz _ _ h.up]
theorem NI.later (h:NI kn b m n S) (hk:kn[n]? = some k) (ho:¬ k = "out"):∀ x ∈ (dF kn b m n).filter (fun x=>decide (n <= x.2.1)),n + 1 <= x.2.1:=fun x hx=>by
 rw [h.fil] at hx
 obtain ⟨s,hs,rfl⟩:=mem_map.mp hx
 obtain ⟨j,hj⟩:=getElem?_of_mem hs
 have hl:=(List.getElem?_eq_some_iff.mp hj).1
 have e:=h.dp j s hj
 rw [Jq hk] at e
 by_cases hb:k ∈ bgK
 ·rw [Ve hb] at e; omega
 ·rw [Abs (by omega) hb ho] at e; omega
theorem NI.beg (h:NI kn b m n S) (hk:kn[n]? = some k) (hb:k ∈ bgK):dF kn b m (n + 1) = dF kn b m n ++ [(n,Lj kn n,lvF k (chF b S) m)]/\NI kn b m (n + 1) (S ++ [((dF kn b m n).length,(n,Lj kn n,lvF k (chF b S) m))]):=by
 have e1:=Aai (b:=b) (m:=m) hk hb
 rw [h.lev] at e1
 have en:Lj kn n = n + 1 + enS ((1:Nat):Int) (kn.drop (n + 1)):=by
  unfold Lj
  rw [Jq hk,show (0:Int) = ((0:Nat):Int) from rfl,Ve hb,Nat.zero_add]; omega
 refine ⟨e1,?_,fun s hs=>?_,fun j s hj=>?_,?_⟩
 ·rw [e1,filter_append,AdM _ (h.later hk (Aad hb)),h.fil,map_append,filter_cons_of_pos (p:=fun x:Nst=>decide (n + 1 <= x.2.1)) (decide_eq_true (show n + 1 <= Lj kn n by omega))]
  rfl
 ·rw [e1]
  rcases mem_append.mp hs with hs | hs
  ·have:=h.ix s hs
   rw [getElem?_append_left (List.getElem?_eq_some_iff.mp this).1]; exact this
  ·rw [mem_singleton.mp hs,getElem?_append_right (Nat.le_refl _),Nat.sub_self]; rfl
 ·rw [length_append,length_singleton]
  rcases Nat.lt_or_ge j S.length with z | z
  ·rw [getElem?_append_left z] at hj
   have:=h.dp j s hj
   rw [Jq hk,Ve hb] at this
   rw [this,show S.length + 1 - j = S.length - j + 1 by omega]; omega
  ·rw [getElem?_append_right z] at hj
   have z2:j - S.length = 0:=by
    have:=(List.getElem?_eq_some_iff.mp hj).1
    rw [length_singleton] at this; omega
   rw [z2] at hj
   cases hj
   rw [show S.length + 1 - j = 1 by omega]
   exact en
 ·exact (Wj _ _ _).mpr ⟨h.up,fun l hl=>AjY hl⟩
theorem NI.oth (h:NI kn b m n S) (hk:kn[n]? = some k) (hb:¬ k ∈ bgK) (ho:k = "out"->S = []):dF kn b m (n + 1) = dF kn b m n/\NI kn b m (n + 1) S:=by
 have e1:=Wz (b:=b) (m:=m) hk hb
 refine ⟨e1,?_⟩
 by_cases hk2:k = "out"
 ·have hS:=ho hk2
  subst hS
  refine ⟨?_,fun s hs=>(by cases hs),fun j s hj=>(by cases hj),trivial⟩
  have hf:=h.fil
  rw [e1]
  refine List.filter_eq_nil_iff.mpr fun x hx=>?_
  have:=List.filter_eq_nil_iff.mp hf x hx
  intro z
  exact this (decide_eq_true (by have:=of_decide_eq_true z; omega))
 ·refine ⟨by rw [e1,AdM _ (h.later hk hk2),h.fil],fun s hs=>by rw [e1]; exact h.ix s hs,fun j s hj=>?_,h.up⟩
  have:=h.dp j s hj
  have hl:=(List.getElem?_eq_some_iff.mp hj).1
  rw [Jq hk,Abs (by omega) hb hk2] at this
  omega
theorem NI.out {s:Nat × Nst} (h:NI kn b m n (S ++ [s])) (hk:kn[n]? = some "out"):dF kn b m (n + 1) = dF kn b m n/\NI kn b m (n + 1) S/\s.2.2.1 = n/\∀ x ∈ dF kn b m n,x.2.1 = n->x = s.2:=by
 have e1:=Wz (b:=b) (m:=m) hk (by decide +kernel)
 have ls:s.2.2.1 = n:=by
  have:=h.dp S.length s (by rw [getElem?_append_right (Nat.le_refl _),Nat.sub_self]; rfl)
  rw [length_append,length_singleton,show S.length + 1 - S.length = 1 by omega,Jq hk,Aix] at this
  exact this
 have others:∀ j y,S[j]? = some y->y.2.2.1 = n + 1 + enS ((S.length - j:Nat):Int) (kn.drop (n + 1)):=fun j y hy=>by
  have hj:=(List.getElem?_eq_some_iff.mp hy).1
  have:=h.dp j y (by rw [getElem?_append_left hj]; exact hy)
  rw [length_append,length_singleton,Jq hk,Aih (by omega),show S.length + 1 - j - 1 = S.length - j by omega] at this
  omega
 have hf:=h.fil
 refine ⟨e1,⟨?_,fun y hy=>by rw [e1]; exact h.ix y (mem_append_left _ hy),others,((Wj _ _ _).mp h.up).1⟩,ls,fun x hx e=>?_⟩
 ·rw [e1]
  have e2:(dF kn b m n).filter (fun x=>decide (n + 1 <= x.2.1)) = ((dF kn b m n).filter (fun x=>decide (n <= x.2.1))).filter (fun x=>decide (n + 1 <= x.2.1)):=by
   rw [List.filter_filter]
   refine List.filter_congr fun x _=>?_
   by_cases z:n + 1 <= x.2.1
   ·rw [decide_eq_true z,decide_eq_true (by omega)]; rfl
   ·rw [decide_eq_false z]; rfl
  rw [e2,hf,map_append,filter_append,map_cons,map_nil,filter_cons_of_neg (by rw [ls]; simp),List.filter_nil,append_nil]
  refine List.filter_eq_self.mpr fun x hx=>?_
  obtain ⟨y,hy,rfl⟩:=mem_map.mp hx
  obtain ⟨j,hj⟩:=getElem?_of_mem hy
  have:=others j y hj
  exact decide_eq_true (by omega)
 ·have hm:x ∈ (S ++ [s]).map (·.2):=by rw [<- hf]; exact mem_filter.mpr ⟨hx,decide_eq_true (by omega)⟩
  obtain ⟨y,hy,rfl⟩:=mem_map.mp hm
  rcases mem_append.mp hy with hy | hy
  ·obtain ⟨j,hj⟩:=getElem?_of_mem hy
   have:=others j y hj
   omega
  ·rw [mem_singleton.mp hy]
theorem NI.end (h:NI kn b m kn.length S):∀ x ∈ dF kn b m kn.length,x.2.1 <= kn.length:=fun x hx=>by
 by_cases z:kn.length <= x.2.1
 ·have hm:x ∈ S.map (·.2):=by rw [<- h.fil]; exact mem_filter.mpr ⟨hx,decide_eq_true z⟩
  obtain ⟨y,hy,rfl⟩:=mem_map.mp hm
  obtain ⟨j,hj⟩:=getElem?_of_mem hy
  have:=h.dp j y hj
  rw [drop_length,enS] at this
  omega
 ·omega
theorem NI.all (h:∀ k ∈ kn,True):∀ n,n <= kn.length->∃ S,NI kn b m n S
 | 0,_=>⟨[],.zero⟩
 | n + 1,hn=>by
  obtain ⟨S,hS⟩:=NI.all h n (by omega)
  obtain ⟨k,hk⟩:∃ k,kn[n]? = some k:=⟨_,getElem?_eq_getElem (by omega)⟩
  by_cases hb:k ∈ bgK
  ·exact ⟨_,(hS.beg hk hb).2⟩
  ·by_cases ho:k = "out"
   ·rcases eq_nil_or_concat S with e | ⟨S',s,e⟩
    ·exact ⟨_,(hS.oth hk hb fun _=>e).2⟩
    ·rw [concat_eq_append] at e
     subst e; subst ho
     exact ⟨_,(hS.out hk).2.1⟩
   ·exact ⟨_,(hS.oth hk hb fun z=>absurd z ho).2⟩
end
def obF:Nat->List Str->Int
 | _,[]=>0
 | d,k :: r=>if k ∈ bgK then obF (d + 1) r else if k = "out" then obF (d - 1) r else if d = 0/\k = "back" then 1 else if d = 0/\k = "fore" then 0 else obF d r
def Aja:PSp:=fun ps P=>∃ U M J ts,ps = [.bk U M J,.lst (map .int ts)]/\ts.length <= 300/\P (.int (obF 0 (knL U M ts)))
theorem AjA {L:List Str} {x:Str} {P:PV->Prop} (q:P (.bl (decide (x ∈ L)))):bIn false (.str x) (.lst (L.map .str)) P:=by
 refine ⟨L.map .str,rfl,rfl,fun y hy=>by obtain ⟨z,_,rfl⟩:=mem_map.mp hy; rfl,fun b hb=>?_⟩
 have:b = decide (x ∈ L):=Ga (by
  rw [hb,decide_eq_true_iff]
  constructor
  ·intro h
   obtain ⟨z,hz,e⟩:=mem_map.mp h
   injection e with e'
   rwa [<- e']
  ·intro h
   exact mem_map.mpr ⟨x,h,rfl⟩)
 rw [this]; exact q
def hdF (g:List Int):Int:=g.headD 0
def bsL (U:List Sg) (M:List (Int × Int)) (ts:List Int):List Int:=(grp (Df U M) ts).map hdF
def wyF (v:Int):Str:=if v % 2 = 0 then "fore" else "back"
def ldK:List Str:=["fore","back","num"]
def osP:Option Str->PV
 | none=>.non
 | some s=>.str s
def ldF:Str->List Str->List (Option Str)
 | _,[]=>[]
 | l,k :: r=>(if k ∈ ldK then some (if k = "fore"\/k = "back" then k else l) else none) :: ldF (if k = "fore"\/k = "back" then k else l) r
def Vn (mt:Int->Option Int) (bs:List Int) (w:List Nat) (b:Int):List Nat:=(w.mapIdx fun j a=>(j,a)).filterMap fun q=>if (bs[q.2]?).bind mt = some b then some q.1 else none
def prF (mt:Int->Option Int) (ks:List Str) (bs:List Int):Nat->List (Nat × Nat) × List Nat
 | 0=>([],[])
 | n + 1 =>
  if ks[n]? = some ("open" : Str) then ((prF mt ks bs n).1,(prF mt ks bs n).2 ++ [n])
  else if ks[n]? = some ("shut" : Str) then
   match (Vn mt bs (prF mt ks bs n).2 ((bs[n]?).getD 0)).getLast? with
   | none=>prF mt ks bs n
   | some j=>((prF mt ks bs n).1 ++ [(((prF mt ks bs n).2[j]?).getD 0,n)],(prF mt ks bs n).2.take j)
  else prF mt ks bs n
theorem AeY (mt:Int->Option Int) (ks:List Str) (bs:List Int) (n:Nat):prF mt ks bs (n + 1) =
  if ks[n]? = some ("open" : Str) then ((prF mt ks bs n).1,(prF mt ks bs n).2 ++ [n])
  else if ks[n]? = some ("shut" : Str) then
   match (Vn mt bs (prF mt ks bs n).2 ((bs[n]?).getD 0)).getLast? with
   | none=>prF mt ks bs n
   | some j=>((prF mt ks bs n).1 ++ [(((prF mt ks bs n).2[j]?).getD 0,n)],(prF mt ks bs n).2.take j)
  else prF mt ks bs n:=rfl
def wpF (ws:List (Option Str)) (p:Nat × Nat) (own:Str):Option Str :=
 if ((ws.take p.2).drop (p.1 + 1)).filterMap id = [] then none
 else if own ∈ ((ws.take p.2).drop (p.1 + 1)).filterMap id then some own
 else some ((((ws.take p.1).filterMap id).getLast?).getD own)
def wwF (ws:List (Option Str)) (ps:List (Nat × Nat)) (own:Str):List (Option Str):=ps.foldl (fun f p=>(f.set p.1 (wpF ws p own)).set p.2 (wpF ws p own)) ws
def laF:Str->List (Option Str)->List Str
 | _,[]=>[]
 | l,w :: r=>w.getD l :: laF (w.getD l) r
def flF (own:Str) (ws:List (Option Str)):List Str:=((laF own ws).zip (laF own ws.reverse).reverse).map fun z=>if z.1 = z.2 then z.1 else own
def lwF (k w:Str) (v:Int):Int:=if k = "num" then (if v % 2 = 1 then v + 1 else if w = "fore" then v else v + 2) else if w = wyF v then v else v + 1
def wrF (mt:Int->Option Int) (ks:List Str) (bs:List Int) (own:Str):List Str:=flF own (wwF (ldF own ks) (prF mt ks bs ks.length).1 own)
def rwF (mt:Int->Option Int) (ks:List Str) (bs:List Int) (v:Int):List Int:=(ks.zip (wrF mt ks bs (wyF v))).map fun z=>lwF z.1 z.2 v
abbrev Stc:=Int × Int × Int
def stP (s:Stc):PV:=.tup [.int s.1,.int s.2.1,.int s.2.2]
def stF (N:List Nst) (n:Nat) (b:Int):List Stc:=(-1,(n:Int),b) :: N.filterMap fun x=>x.2.2.map fun l=>((x.1:Int),(x.2.1:Int),l)
def hmS (hs:List Nat) (h:Nat) (a e:Int):List Nat:=hs.mapIdx fun k x=>if a < (k:Int)/\(k:Int) < e then h else x
def hmF (St:List Stc) (n:Nat):Nat->List Nat
 | 0=>replicate n 0
 | j + 1=>match St[j]? with
  | some s=>hmS (hmF St n j) j s.1 s.2.1
  | none=>hmF St n j
def rsF (St:List Stc) (hs:List Nat):List (Int × List Nat):=St.mapIdx fun h s=>(s.2.2,(range hs.length).filter fun k=>decide (hs[k]? = some h))
def rsP (r:Int × List Nat):PV:=.tup [.int r.1,.lst (r.2.map fun k:Nat=>.int k)]
def lpF (acc:List Int) (ks:List Nat) (vs:List Int):List Int:=(ks.zip vs).foldl (fun l p=>l.set p.1 p.2) acc
def pkF {α:Type} [Inhabited α] (l:List α) (ks:List Nat):List α:=ks.map fun k=>(l[k]?).getD default
def lvA (mt:Int->Option Int) (ks:List Str) (bs:List Int) (rows:List (Int × List Nat)) (acc:List Int):List Int:=rows.foldl (fun l r=>lpF l r.2 (rwF mt (pkF ks r.2) (pkF bs r.2) r.1)) acc
def AbZ (ks:List Str) (b m:Int):List (Int × List Nat):=rsF (stF (dF ks b m ks.length) ks.length b) (hmF (stF (dF ks b m ks.length) ks.length b) ks.length (stF (dF ks b m ks.length) ks.length b).length)
def Qj (mt:Int->Option Int) (ks:List Str) (bs:List Int) (b m:Int):List Int:=lvA mt ks bs (AbZ ks b m) (replicate ks.length b)
theorem Vh:∀ (l:Str) (ks:List Str),(ldF l ks).length = ks.length
 | _,[]=>rfl
 | l,k :: r=>by rw [ldF,length_cons,Vh,length_cons]
theorem Abg:∀ (l:Str) (ws:List (Option Str)),(laF l ws).length = ws.length
 | _,[]=>rfl
 | l,k :: r=>by rw [laF,length_cons,Abg,length_cons]
theorem AhB (ws:List (Option Str)) (ps:List (Nat × Nat)) (own:Str):(wwF ws ps own).length = ws.length:=by
 unfold wwF
 suffices h:∀ (ps:List (Nat × Nat)) (f:List (Option Str)),(ps.foldl (fun f p=>(f.set p.1 (wpF ws p own)).set p.2 (wpF ws p own)) f).length = f.length from h ps ws
 intro ps
 induction ps with
 | nil=>intro f; rfl
 | cons p r ih=>intro f; rw [foldl_cons,ih,length_set,length_set]
theorem AhK (hs:List Nat) (h:Nat) (a e:Int):(hmS hs h a e).length = hs.length:=length_mapIdx
theorem Rv (St:List Stc) (n:Nat):∀ j,(hmF St n j).length = n
 | 0=>length_replicate
 | j + 1=>by
  rw [hmF]
  cases St[j]? with
  | none=>exact Rv St n j
  | some s=>exact (AhK _ _ _ _).trans (Rv St n j)
theorem AaC (St:List Stc) (n:Nat) (h0:0 < St.length):∀ j,∀ x ∈ hmF St n j,x < St.length
 | 0,x,h=>by rw [List.eq_of_mem_replicate h]; exact h0
 | j + 1,x,h=>by
  rw [hmF] at h
  cases e:St[j]? with
  | none=>rw [e] at h; exact AaC St n h0 j x h
  | some s =>
   rw [e] at h
   have hj:=(List.getElem?_eq_some_iff.mp e).1
   unfold hmS at h
   obtain ⟨k,hk⟩:=getElem?_of_mem h
   rw [getElem?_mapIdx] at hk
   obtain ⟨y,hy,rfl⟩:=map_eq_some_iff.mp hk
   split
   ·exact hj
   ·exact AaC St n h0 j y (mem_of_getElem? hy)
theorem Aic (ks:List Nat) (vs acc:List Int):(lpF acc ks vs).length = acc.length:=by
 unfold lpF
 generalize ks.zip vs = z
 induction z generalizing acc with
 | nil=>rfl
 | cons p r ih=>rw [foldl_cons,ih,length_set]
theorem AiF {hs:List Nat} {h i:Nat} {a:Int} (h0:-1 <= a) (hi:a + 1 + i < hs.length):(hs.mapIdx fun k x=>if a < (k:Int)/\(k:Int) < a + 1 + i then h else x).set (a + 1 + i).toNat h = hs.mapIdx fun k x=>if a < (k:Int)/\(k:Int) < a + 1 + ((i + 1:Nat):Int) then h else x:=by
 refine ext_getElem? fun k=>?_
 rw [getElem?_set,length_mapIdx,getElem?_mapIdx,getElem?_mapIdx]
 by_cases e:(a + 1 + i).toNat = k
 ·rw [if_pos e,if_pos (by omega),getElem?_eq_getElem (show k < hs.length by omega)]
  show some h = some (if a < (k:Int)/\(k:Int) < a + 1 + ((i + 1:Nat):Int) then h else _)
  rw [if_pos (by omega)]
 ·rw [if_neg e]
  cases hs[k]? with
  | none=>rfl
  | some x =>
   show some (if a < (k:Int)/\(k:Int) < a + 1 + i then h else x) = some (if a < (k:Int)/\(k:Int) < a + 1 + ((i + 1:Nat):Int) then h else x)
   by_cases z:a < (k:Int)/\(k:Int) < a + 1 + i
   ·rw [if_pos z,if_pos (by omega)]
   ·rw [if_neg z,if_neg (by omega)]
theorem Abd {α:Type} (l:List α) (f:Nat->α->α) (h:∀ k x,l[k]? = some x->f k x = x):l.mapIdx f = l:=by
 refine ext_getElem? fun k=>?_
 rw [getElem?_mapIdx]
 cases e:l[k]? with
 | none=>rfl
 | some x=>show some (f k x) = some x; rw [h k x e]
theorem Aki {St:List Stc} {hs:List Nat}:(rsF St hs).length = St.length/\∀ r ∈ rsF St hs,r.2.length <= hs.length/\∀ k ∈ r.2,k < hs.length:=by
 refine ⟨length_mapIdx,fun r hr=>?_⟩
 unfold rsF at hr
 obtain ⟨i,hi⟩:=getElem?_of_mem hr
 rw [getElem?_mapIdx] at hi
 obtain ⟨s,_,rfl⟩:=map_eq_some_iff.mp hi
 refine ⟨?_,fun k hk=>mem_range.mp (mem_filter.mp hk).1⟩
 have:=length_filter_le (fun k=>decide (hs[k]? = some i)) (range hs.length)
 rw [length_range] at this
 exact this
theorem AeB {α β:Type} [Inhabited α] [Inhabited β] (g:α->β) (l:List α):∀ ks:List Nat,(∀ k ∈ ks,k < l.length)->pkF (l.map g) ks = (pkF l ks).map g:=fun ks h=>by
 unfold pkF
 rw [map_map]
 refine List.map_congr_left fun k hk=>?_
 have:=h k hk
 show ((l.map g)[k]?).getD default = g ((l[k]?).getD default)
 rw [getElem?_map,getElem?_eq_getElem this]; rfl
theorem AhM (N:List Nst) (n:Nat) (b:Int):(stF N n b).length <= N.length + 1:=by
 unfold stF
 have:=List.length_filterMap_le (fun x:Nst=>x.2.2.map fun l=>((x.1:Int),(x.2.1:Int),l)) N
 rw [length_cons]; omega
structure RL (H0:Hp) (D:Addr) (lv:List Int) (R:List (List Nat)) (tl:List (Addr × Addr)) (H:Hp):Prop where
 s:Same H0 H
 nD:H0 D = none
 eD:H D = some (.lst (tl.map fun z=>V.ref z.1))
 l1:tl.length = lv.length
 l2:R.length = lv.length
 at':∀ (i:Nat) (z:Addr × Addr) (v:Int) (r:List Nat),tl[i]? = some z->lv[i]? = some v->R[i]? = some r->H z.1 = some (.tup [.int v,.ref z.2])/\H z.2 = some (.lst (r.map fun k:Nat=>V.int k))/\H0 z.1 = none/\H0 z.2 = none/\z.2 ≠ D/\z.1 ≠ D
 ap:∀ (i j:Nat) (z y:Addr × Addr),tl[i]? = some z->tl[j]? = some y->i ≠ j->z.2 ≠ y.2
theorem RL.mono {H0:Hp} {D:Addr} {lv:List Int} {R:List (List Nat)} {tl:List (Addr × Addr)} {H H':Hp} (h:RL H0 D lv R tl H) (s:Same H H'):RL H0 D lv R tl H' :=
 ⟨h.s.trans s,h.nD,s _ _ h.eD,h.l1,h.l2,fun i z v r h1 h2 h3=>by
  obtain ⟨a,b,c⟩:=h.at' i z v r h1 h2 h3
  exact ⟨s _ _ a,s _ _ b,c⟩,h.ap⟩
theorem RL.snoc {H0:Hp} {D:Addr} {lv:List Int} {R:List (List Nat)} {tl:List (Addr × Addr)} {H H1 H2:Hp} {l p:Addr} {v:Int} (h:RL H0 D lv R tl H) (hl:H l = none) (s1:Same H H1) (e1:H1 l = some (.lst [])) (hp:H1 p = none) (s2:Same H1 H2) (e2:H2 p = some (.tup [.int v,.ref l])) :
  RL H0 D (lv ++ [v]) (R ++ [[]]) (tl ++ [(p,l)]) (upd H2 D (.lst (tl.map (fun z=>V.ref z.1) ++ [.ref p]))):=by
 have nlD:l ≠ D:=fun z=>by subst z; rw [h.eD] at hl; cases hl
 have npD:p ≠ D:=fun z=>by subst z; rw [s1 _ _ h.eD] at hp; cases hp
 have s12:=s1.trans s2
 refine ⟨fun b o hb=>?_,h.nD,by rw [Bt,map_append]; rfl,by rw [length_append,length_append,h.l1]; rfl,by rw [length_append,length_append,h.l2]; rfl,fun i z w r h1 h2 h3=>?_,fun i j z y h1 h2 ne=>?_⟩
 ·rw [Bl (by intro z; subst z; rw [h.nD] at hb; cases hb)]
  exact s12 _ _ (h.s _ _ hb)
 ·rcases Qa h1 with h1 | ⟨rfl,rfl⟩
  ·have hi:=(List.getElem?_eq_some_iff.mp h1).1
   rw [getElem?_append_left (by have:=h.l1; omega)] at h2
   rw [getElem?_append_left (by have:=h.l1; have:=h.l2; omega)] at h3
   obtain ⟨a,b,c,d,e,f⟩:=h.at' i z w r h1 h2 h3
   exact ⟨by rw [Bl f]; exact s12 _ _ a,by rw [Bl e]; exact s12 _ _ b,c,d,e,f⟩
  ·rw [getElem?_append_right (by rw [h.l1]; exact Nat.le_refl _),h.l1,Nat.sub_self] at h2
   rw [getElem?_append_right (by rw [h.l1,h.l2]; exact Nat.le_refl _),h.l1,h.l2,Nat.sub_self] at h3
   cases h2; cases h3
   exact ⟨by rw [Bl npD]; exact e2,by rw [Bl nlD]; exact s2 _ _ e1,h.s.free (s1.free hp),h.s.free hl,nlD,npD⟩
 ·have old:∀ (k:Nat) (w:Addr × Addr),tl[k]? = some w->w.2 ≠ l:=fun k w hk e=>by
   have hk2:=(List.getElem?_eq_some_iff.mp hk).1
   obtain ⟨u,hu⟩:∃ u,lv[k]? = some u:=⟨_,getElem?_eq_getElem (by have:=h.l1; omega)⟩
   obtain ⟨r,hr⟩:∃ r,R[k]? = some r:=⟨_,getElem?_eq_getElem (by have:=h.l1; have:=h.l2; omega)⟩
   obtain ⟨_,b,_⟩:=h.at' k w u r hk hu hr
   rw [e,hl] at b; cases b
  rcases Qa h1 with h1 | ⟨rfl,rfl⟩
  ·rcases Qa h2 with h2 | ⟨rfl,rfl⟩
   ·exact h.ap i j z y h1 h2 ne
   ·exact old i z h1
  ·rcases Qa h2 with h2 | ⟨rfl,rfl⟩
   ·exact fun e=>old j y h2 e.symm
   ·exact absurd rfl ne
theorem RL.app {H0:Hp} {D:Addr} {lv:List Int} {R:List (List Nat)} {tl:List (Addr × Addr)} {H H1:Hp} {i k:Nat} {z:Addr × Addr} {r:List Nat} (h:RL H0 D lv R tl H) (hz:tl[i]? = some z) (hr:R[i]? = some r) (c:Chg z.2 H H1) (e:H1 z.2 = some (.lst (r.map (fun k:Nat=>V.int k) ++ [.int (k:Int)]))) :
  RL H0 D lv (R.set i (r ++ [k])) tl H1:=by
 have hi:=(List.getElem?_eq_some_iff.mp hz).1
 obtain ⟨v,hv⟩:∃ v,lv[i]? = some v:=⟨_,getElem?_eq_getElem (by have:=h.l1; omega)⟩
 obtain ⟨a,b,c0,d,e0,f⟩:=h.at' i z v r hz hv hr
 refine ⟨h.s.chg c d,h.nD,c _ _ h.eD (Ne.symm e0),h.l1,by rw [length_set,h.l2],fun j y w q h1 h2 h3=>?_,h.ap⟩
 by_cases ij:i = j
 ·subst ij
  rw [hz] at h1; cases h1
  rw [hv] at h2; cases h2
  rw [getElem?_set,if_pos rfl,if_pos (by have:=h.l1; have:=h.l2; omega)] at h3
  cases h3
  refine ⟨c _ _ a (fun w=>?_),by rw [e,map_append]; rfl,c0,d,e0,f⟩
  rw [w,b] at a; cases a
 ·rw [getElem?_set,if_neg ij] at h3
  obtain ⟨a',b',c',d',e',f'⟩:=h.at' j y w q h1 h2 h3
  refine ⟨c _ _ a' (fun w=>?_),c _ _ b' (Ne.symm (h.ap i j z y hz h1 ij)),c',d',e',f'⟩
  rw [w,b] at a'; cases a'
def Af9 (K:Frag):TS:=Xt (Nc (Jg (Tb K (Fk 3)) (Gf 0) Acv (Zr (Fl (tOp (Xo K) (Fk 0) (tC (V.int 2))) (Fl (Zv La) La))) 1 []) (Gf 8))
 (Xt (Lg (Zo K (Fk 4)) (Xk K 2 (Xe (Gf 7) (Xe (Gf 5) Ab4))) (Wq (tBM K "list" Sx (tOp (Xo K) (tOp (Aat K) (Fk 8) (Fk 5)) (tC (V.int 1))) (Fl (Fk 7) La)))) (Xr (Fk 8)))
def Anj:US:=fun d ρ=>∃ (St:List Stc) (hs:List Nat),ρ[3]? = some (.sh (.lst (St.map stP)))/\ρ[4]? = some (.ow (.lst (hs.map fun k:Nat=>.int k)))/\ρ.length = 9/\St.length <= 1000/\hs.length <= 1000/\(∀ x ∈ hs,x < St.length)/\d.rt (.lst ((rsF St hs).map rsP))
def rnF (m n:Nat) (hs:List Nat):List (List Nat):=(range m).map fun h=>(range n).filter fun k=>decide (hs[k]? = some h)
theorem Afv {m n x:Nat} {hs:List Nat} (hx:hs[n]? = some x) (hm:x < m):(rnF m n hs)[x]? = some ((range n).filter fun k=>decide (hs[k]? = some x))/\(rnF m n hs).set x (((range n).filter fun k=>decide (hs[k]? = some x)) ++ [n]) = rnF m (n + 1) hs:=by
 unfold rnF
 refine ⟨by rw [getElem?_map,getElem?_range hm]; rfl,ext_getElem? fun i=>?_⟩
 rw [getElem?_set,length_map,length_range,getElem?_map,getElem?_map,List.range_succ]
 by_cases e:x = i
 ·subst e
  rw [if_pos rfl,if_pos hm,getElem?_range hm]
  show some _ = some ((range n ++ [n]).filter fun k=>decide (hs[k]? = some x))
  rw [filter_append,filter_cons_of_pos (p:=fun k=>decide (hs[k]? = some x)) (decide_eq_true hx)]; rfl
 ·rw [if_neg e]
  by_cases hi:i < m
  ·rw [getElem?_range hi]
   show some ((range n).filter fun k=>decide (hs[k]? = some i)) = some ((range n ++ [n]).filter fun k=>decide (hs[k]? = some i))
   rw [filter_append,filter_cons_of_neg (p:=fun k=>decide (hs[k]? = some i)) (fun z=>e (by have:=of_decide_eq_true z; rw [hx] at this; exact Option.some.inj this)),List.filter_nil,append_nil]
  ·rw [getElem?_eq_none (by rw [length_range]; omega)]; rfl
section
variable {K:Frag} {C:Addr} {ω:Om}
theorem AiR:SU K C ω .sh (Af9 K) Anj:=fun B G0 H0 own G σ H ρ D d S F ⟨St,hs,e3,e4,rl,sl,hl,hx,hq⟩=>by
 obtain ⟨v3,g3,r3⟩:=S.sl 3 _ e3
 obtain ⟨b,xs,g4,_,h4,rp4⟩:=S.list e4
 have sL:σ.length = 9:=by rw [S.len,rl]
 have ex:xs = hs.map fun k:Nat=>V.int k:=by
  have:=Rh (ns:=hs.map fun k:Nat=>(k:Int)) (by rw [map_map]; exact rp4)
  rw [this,map_map]; rfl
 subst ex
 obtain ⟨a,vs,rfl,ea,rp⟩:∃ a vs,v3 = .ref a/\G a = some (.lst vs)/\Reps K C G vs (St.map stP):=by
  cases r3 with
  | lst e l q=>exact ⟨_,_,rfl,e,l,q⟩
 have ha:H a = some (.lst vs):=S.gr.i _ _ ea
 have vl:vs.length = St.length:=by rw [rp.1,length_map]
 delta Af9 Xt Nc
 dsimp only
 refine Sa ?_
 refine ⟨_,g3,a,rfl,⟨vs,SqL.of ha⟩,fun A hA=>CP.list vs (fun n H'=>∃ tl,RL H A ((St.take n).map fun s=>s.2.2) (replicate n []) tl H') ?_ ?_ ?_ ?_⟩
 ·exact ⟨[],fun b' o hb=>by rw [Bl (by intro z; subst z; rw [hA] at hb; cases hb)]; exact hb,hA,Bt,rfl,rfl,fun i z v r h=>by simp at h,fun i j z y h=>by simp at h⟩
 ·rintro n H' _ ⟨tl,h⟩
  exact SqL.of (h.s _ _ ha)
 ·rintro n x H' N hxn ⟨tl,h⟩ hN
  obtain ⟨q,hq',rq⟩:=rp.get hxn
  rw [getElem?_map] at hq'
  obtain ⟨s,hs',rfl⟩:=map_eq_some_iff.mp hq'
  obtain ⟨p,ys,rfl,ep,ry⟩:∃ p ys,x = .ref p/\G p = some (.tup ys)/\Reps K C G ys [.int s.1,.int s.2.1,.int s.2.2]:=by
   cases rq with
   | tup e l q=>exact ⟨_,_,rfl,e,l,q⟩
  have hp:H' p = some (.tup ys):=h.s _ _ (S.gr.i _ _ ep)
  have y2:ys[2]? = some (.int s.2.2):=by
   have l3:ys.length = 3:=ry.1
   obtain ⟨y,hy⟩:∃ y,ys[2]? = some y:=⟨_,getElem?_eq_getElem (by omega)⟩
   have:=ry.2 2 y _ hy rfl
   cases this; exact hy
  refine ⟨rfl,_,rfl,p,ys,2,_,rfl,rfl,SqT.of hp,Fo (j:=2) y2,⟨zero_le _,fun l H1 hl1 s1 e1=>⟨(by decide:2 <= sizeLine),fun t H2 ht s2 e2=>⟨_,s2 _ _ (s1 _ _ h.eD),?_,hN _ ⟨tl ++ [(t,l)],?_⟩⟩⟩⟩⟩
  ·have:=h.l1
   rw [length_map,length_take] at this
   rw [length_map]
   exact Lr (by omega)
  ·rw [Dv hs',map_append,List.replicate_succ']
   exact h.snoc hl1 s1 e1 ht s2 e2
 ·rintro H' ⟨tl,h⟩
  rw [vl,take_length] at h
  refine ⟨.ref b,by rw [getElem?_set_ne (by decide)]; exact g4,b,rfl,⟨_,SqL.of (h.s _ _ h4)⟩,Aap (xs:=hs.map fun k:Nat=>V.int k) (fun n σ' H'=>σ'.length = 9/\σ'[8]? = some (some (.ref A))/\RL H A (St.map fun s=>s.2.2) (rnF St.length n hs) tl H') ⟨by rw [length_set,sL],Rz (by omega),?_⟩ ?_ ?_ ?_⟩
  ·rw [show rnF St.length 0 hs = replicate St.length [] by unfold rnF; rw [List.eq_replicate_iff]; exact ⟨by rw [length_map,length_range],fun b' hb=>by obtain ⟨_,_,rfl⟩:=mem_map.mp hb; rfl⟩]
   exact h
  ·rintro n σ' H' _ ⟨_,_,h'⟩
   exact SqL.of (h'.s _ _ h4)
  ·rintro n x t σ' H' hxn ht ⟨l9,g8,h'⟩
   rw [getElem?_map] at hxn
   obtain ⟨k,hk,rfl⟩:=map_eq_some_iff.mp hxn
   have hk1:=hx k (mem_of_getElem? hk)
   obtain ⟨r1,r2⟩:=Afv hk hk1
   have h2:=h'.mono (Same.new (o:=.tup [.int (n:Int),.int (k:Int)]) ht)
   obtain ⟨z,hz⟩:∃ z,tl[k]? = some z:=⟨_,getElem?_eq_getElem (by have:=h'.l1; rw [length_map] at this; omega)⟩
   obtain ⟨v,hv⟩:∃ v,(St.map fun s:Stc=>s.2.2)[k]? = some v:=⟨_,getElem?_eq_getElem (by rw [length_map]; exact hk1)⟩
   obtain ⟨a1,a2,_⟩:=h2.at' k z v _ hz hv r1
   refine ⟨t,_,rfl,SqT.of Bt,rfl,_,_,rfl,_,_,rfl,rfl,?_⟩
   refine ⟨.ref A,by rw [getElem?_set_ne (by decide),getElem?_set_ne (by decide)]; exact g8,.int (k:Nat),Rz (by rw [length_set]; omega),A,_,k,.ref z.1,rfl,rfl,SqL.of h2.eD,Fo (by rw [getElem?_map,hz]; rfl),z.1,_,1,.ref z.2,rfl,rfl,SqT.of a1,Fo (j:=1) rfl,.inl ⟨rfl,_,SqL.of a2⟩,.int (n:Nat),by rw [getElem?_set_ne (by decide)]; exact Rz (by omega),z.2,_,_,rfl,rfl,a2,?_,fun H1 c e=>?_⟩
   ·rw [length_map]
    refine Lr (Nat.le_trans (length_filter_le _ _) ?_)
    rw [length_range]
    have:=(List.getElem?_eq_some_iff.mp hk).1
    omega
   ·refine ⟨by rw [length_set,length_set,l9],by rw [getElem?_set_ne (by decide),getElem?_set_ne (by decide)]; exact g8,?_⟩
    rw [<- r2]
    exact h2.app hz r1 c e
  ·rintro σ' H' ⟨_,g8,h'⟩
   rw [length_map] at h'
   refine ⟨.ref A,g8,F.rt _ H' _ _ (S.gr.trans (No S.gr.i h'.s)) ?_ hq⟩
   refine Rep.ofL (Ff h'.nD h'.eD) ⟨by rw [length_map,length_map,h'.l1,length_map]; unfold rsF; rw [length_mapIdx],fun i x y hxi hyi=>?_⟩
   rw [getElem?_map] at hxi hyi
   obtain ⟨z,hz,rfl⟩:=map_eq_some_iff.mp hxi
   obtain ⟨w,hw,rfl⟩:=map_eq_some_iff.mp hyi
   unfold rsF at hw
   rw [getElem?_mapIdx] at hw
   obtain ⟨s,hs',rfl⟩:=map_eq_some_iff.mp hw
   have hi:=(List.getElem?_eq_some_iff.mp hs').1
   obtain ⟨a1,a2,a3,a4,_⟩:=h'.at' i z s.2.2 ((range hs.length).filter fun k=>decide (hs[k]? = some i)) hz (by rw [getElem?_map,hs']; rfl) (by unfold rnF; rw [getElem?_map,getElem?_range hi]; rfl)
   refine Rep.ofT (Qz a1) (LAt.snoc (LAt.snoc LAt.nil (.int _)) (Rep.ofL (Ff a4 a2) ?_))
   have:=Fi (K:=K) (C:=C) (G:=Ob G H H') (((range hs.length).filter fun k=>decide (hs[k]? = some i)).map fun k:Nat=>(k:Int))
   rw [map_map,map_map] at this
   exact this
end
local macro_rules | `(tactic| walk_at "rd")=>`(tactic| repeat (first
 | (with_reducible first | refine Ab9 ?_ | refine Amn rfl ?_ | refine i_c ?_ | refine AnC ?_ | refine AnS ?_ | refine Ano ?_ | refine Amc ?_ | refine Ahb ?_ | refine Ag4 ?_ | refine Agz ?_ | refine Ahp ?_ | refine Anw ?_ | refine AkS ?_ | refine Amr ?_ | refine Anr ?_ | refine AmL ?_ | refine Ak8 ?_ | refine Alz ?_ | refine i_notN ?_ | refine Anu ?_ | refine Ajm ?_ | refine Al9 ?_ | refine Ant ?_ | refine Amw ?_ | refine Aim ?_ | refine AlH (SqT.of (by assumption)) rfl ?_ | refine Aiu ?_ | refine Ak6 ?_ | refine Ak3 ?_ | refine Ake ?_ | refine i_make ?_ | refine AmR ?_ | refine Aly ?_ | refine AmH ?_ | refine AmC ?_ | refine AnR ?_ | refine AmZ ?_ | refine Ae0 ?_ | refine AkV ?_ | refine AhN ?_ | refine AiL ?_ | refine AlP ?_ | refine Als ?_ | refine AnO ?_ | refine Ajl ?_ | refine Alc ?_ | refine i_int1 ?_ | refine AlO ?_ | refine Aj7 ?_ | refine Ji ?_ | refine Jo ?_ | refine Ab2 ?_ | refine Acu ?_ | refine Afz ?_ | refine Adl ?_ | refine AfN ?_ | refine Ajt (by assumption) ?_ | refine Ang (by assumption) ?_ | refine AeI (by assumption) ?_ | refine AeI (SqL.of (by assumption)) ?_ | refine AjR (by assumption) ?_ | refine j_min ?_ | refine Amt (by assumption) ?_ | refine AdQ (by assumption) ?_ ?_ | refine Amo (by assumption) ?_ | refine AlU (by assumption) ?_ | refine Al4 (by assumption) ?_ | refine j_clear (by assumption) ?_)
 | walk_at "u" | dsimp only [List.set,cons_append,nil_append,append_nil]))
local macro_rules | `(tactic| walk_at "cs")=>`(tactic| dsimp only [compσ,replicate,map_cons,map_nil,List.getElem?_cons_succ,List.getElem?_cons_zero,Option.join_some,cons_append,nil_append])
local macro_rules | `(tactic| walk_at "s")=>`(tactic| simp only [Ws,List.zipWith_cons_cons,List.zipWith_nil_left,List.zipWith_nil_right,length_cons,length_nil,Nat.zero_add,Nat.reduceAdd,Nat.reduceSub,replicate_succ,List.replicate_zero,false_eq_true,if_false,if_true,cons_append,nil_append,AfH])
local macro_rules | `(tactic| walk_at "pr")=>`(tactic| repeat (first
 | (with_reducible first | refine Gg ?_ | refine Ag2 rfl rfl ?_ | refine Aep rfl ?_ | refine p_c ?_ | refine AjP ?_ | refine Ajw ?_ | refine p_i ?_ | refine p_u ?_ | refine b_u ?_ | refine Ahu ?_ | refine Ag9 ?_ | refine AgV ?_ | refine AgN ?_ | refine Ahx ?_ | refine Aga ?_ | refine Ad5 ?_ | refine p_b ?_ | refine b_b ?_ | refine Af8 ?_ | refine Ajp ?_ | refine Ag5 ?_ | refine Ad0 ?_ | refine Ac8 ?_ | refine Agu ?_ | refine AeG ?_ | refine Aeq ?_ | refine AgR ?_ | refine Adk rfl ?_ | refine AlB ?_ | refine Agl ?_ | refine AdV ?_ | refine p_asg ?_ | refine AbR ?_ | refine Adf rfl ?_ | refine Abp ?_ | refine Ad3 ?_ | refine Ags ?_ | refine Aex ?_ | refine Ag3 ?_ | refine Agk ?_ | refine AgY ?_ | refine Ahs ?_ | refine AeT ?_ | refine Aee ?_ | refine Ad7 ?_ | refine AaP ?_ | refine AeA ?_ | refine Aea ?_ | refine Ahe ?_ | refine Agq ?_ | refine AgZ ?_ | refine Agh ?_ | refine Agw ?_ ?_ | refine AhA ?_ ?_ | refine Agv ?_ ?_ | refine Ahl ?_ ?_ | refine Agr ?_ ?_ | refine AjQ ?_ | refine Ac4 ?_ | refine Ac5 ?_ | refine Aew ?_ | refine Agm ?_ | refine Ac9 ?_ | refine AbE ?_ | refine b_listS ?_ | refine Aho rfl ?_ | refine Agn rfl ?_ ?_ | refine Abw rfl rfl ?_ | refine AbL ?_ | refine Adv rfl ?_ | refine Adx rfl ?_ ?_ | refine Af6 ?_ | refine AgP ?_ | refine b_L ?_ | refine AdI rfl ?_ | refine AdS ?_ | refine AdH ?_ | refine AeJ ?_ | refine Aes ?_ | refine Adt ?_ | refine AgW ?_ | refine Ai7 ?_ | refine Ahg ?_ | refine AeQ ?_ | refine AeL ?_ | refine Ac2 ?_ | refine AeP ?_ | refine Aks ?_ ?_ | refine AjF ?_ ?_ | refine Aar ?_ | refine Aj6 ?_ | refine Akh ?_ | refine AkZ ?_ | refine pf_dnew ?_ | refine b_abs ?_ | refine p_share rfl ?_ | refine Ji ?_ | refine Jo ?_ | refine Ab2 ?_ | refine Acu ?_)
 | walk_at "u" | dsimp only [List.set,cons_append,nil_append,append_nil,AaG]))
local macro_rules | `(tactic| walk_at "u")=>`(tactic| first | with_reducible refine b_ins0 rfl ?_ ?_)
local macro_rules | `(tactic| walk_at "u")=>`(tactic| first | (with_reducible first | refine AkT ?_ | refine Ah0 ?_ | refine Ai5 ?_) | with_reducible refine b_dputT rfl ?_ ?_)
local macro_rules | `(tactic| walk_at "cp")=>`(tactic| dsimp only [compρ,replicate,map_cons,map_nil,List.getElem?_cons_succ,List.getElem?_cons_zero,getD_some,boS,cons_append,nil_append])
local macro_rules | `(tactic| walk_at "u")=>`(tactic| first | (with_reducible first | refine AeC ?_ | refine Anc ?_ | refine AmS ?_ | refine Anh ?_ ?_ | refine Amm rfl ?_ | refine Al3 ?_ | refine AmX ?_ ?_ | refine Al6 ?_) | with_reducible refine b_neB ?_)
local macro_rules | `(tactic| walk_at "sd")=>`(tactic| all_goals try first
 | ((with_reducible show (_:Int) < _); first | decide | omega | (simp only [length_map,length_replicate,length_range,length_append,length_reverse]; omega))
 | ((with_reducible show Acb _ _); exact ⟨by omega,by omega⟩)
 | ((with_reducible show Acq _ _); exact ⟨by decide,by decide,by decide⟩)
 | ((with_reducible show CMul _ _); first | exact .inr ⟨by omega,by omega⟩ | exact .inl ⟨by omega,by omega⟩)
 | ((with_reducible show (_:Nat) < _); first | omega | (simp only [length_map,length_replicate,length_range,length_append,length_reverse]; omega))
 | ((with_reducible show (_:Nat) <= _); first | omega | (simp only [length_map,length_replicate,length_range,length_append,length_reverse]; omega))
 | ((with_reducible show (_:Int) <= _/\_); first | omega | (simp only [length_map,length_replicate,length_range,length_append,length_reverse]; omega)))
local macro_rules | `(tactic| walk_at "u")=>`(tactic| first | (with_reducible first | refine AkL ?_ | refine Ajs ?_ | refine Any ?_ | refine AiE ?_ | refine Afn ?_ | refine AmY rfl rfl ?_ | refine Amg rfl (fun z=>?_) | refine AiX rfl rfl ?_) | with_reducible refine AmP ?_)
local macro_rules | `(tactic| walk_at "px")=>`(tactic| repeat (first
 | (with_reducible first | refine Ag2 rfl rfl ?_ | refine Aep rfl ?_ | refine p_c ?_ | refine AjP ?_ | refine Ajw ?_ | refine p_i ?_ | refine p_u ?_ | refine b_u ?_ | refine Ahu ?_ | refine Ag9 ?_ | refine AgV ?_ | refine AgN ?_ | refine Ahx ?_ | refine Aga ?_ | refine Ad5 ?_ | refine p_b ?_ | refine b_b ?_ | refine Af8 ?_ | refine Ajp ?_ | refine Ag5 ?_ | refine Ad0 ?_ | refine Ac8 ?_ | refine Agu ?_ | refine AeG ?_ | refine Aeq ?_ | refine AgR ?_ | refine Adk rfl ?_ | refine AlB ?_ | refine Agl ?_ | refine AdV ?_ | refine p_asg ?_ | refine AbR ?_ | refine Adf rfl ?_ | refine Abp ?_ | refine Ad3 ?_ | refine Ags ?_ | refine Aex ?_ | refine Ag3 ?_ | refine Agk ?_ | refine AgY ?_ | refine Ahs ?_ | refine AeT ?_ | refine Aee ?_ | refine Ad7 ?_ | refine AaP ?_ | refine AeA ?_ | refine Aea ?_ | refine Ahe ?_ | refine Agq ?_ | refine AgZ ?_ | refine Agh ?_ | refine Agw ?_ ?_ | refine AhA ?_ ?_ | refine Agv ?_ ?_ | refine Ahl ?_ ?_ | refine Agr ?_ ?_ | refine AjQ ?_ | refine Ac4 ?_ | refine Ac5 ?_ | refine Aew ?_ | refine Agm ?_ | refine Ac9 ?_ | refine AbE ?_ | refine b_listS ?_ | refine Aho rfl ?_ | refine Agn rfl ?_ ?_ | refine Abw rfl rfl ?_ | refine AbL ?_ | refine Adv rfl ?_ | refine Adx rfl ?_ ?_ | refine Af6 ?_ | refine AgP ?_ | refine b_L ?_ | refine AdI rfl ?_ | refine AdS ?_ | refine AdH ?_ | refine AeJ ?_ | refine Aes ?_ | refine Adt ?_ | refine AgW ?_ | refine Ai7 ?_ | refine Ahg ?_ | refine AeQ ?_ | refine AeL ?_ | refine Ac2 ?_ | refine AeP ?_ | refine Aks ?_ ?_ | refine AjF ?_ ?_ | refine Aar ?_ | refine Aj6 ?_ | refine Akh ?_ | refine AkZ ?_ | refine pf_dnew ?_ | refine b_abs ?_ | refine p_share rfl ?_ | refine Ji ?_ | refine Jo ?_ | refine Ab2 ?_ | refine Acu ?_)
 | walk_at "u" | dsimp only [List.set,cons_append,nil_append,append_nil,AaG]))
section
variable {P:Program} {w:World} {K:Frag} {mg:Str->Option Value} {base:Heap} {t:Adr}
def Ue:Sp:=fun vs H Q _=>∃ b,vs = [.bl true,b]/\Q .non H
theorem Afh {b:Bool} {z:V} {H:Hp} {Q:VK} {E:XK} (q:Q .non H) (h:b = true):Ue [.bl b,z] H Q E:=⟨z,by rw [h],q⟩
theorem AdX {z:V} {H:Hp} {Q:VK} {E:XK} (q:Q .non H):Ue [.bl true,z] H Q E:=⟨z,rfl,q⟩
local macro_rules | `(tactic| walk_at "u")=>`(tactic| with_reducible refine Afh ?_ ?_)
local macro_rules | `(tactic| walk_at "u")=>`(tactic| with_reducible refine AdX ?_)
theorem Jy (T:Txt K mg t):Binds K t.d_qg ["held","words"] []:=T.F_qg.binds fun _ _ _ _ _ _ us hl=>match us,hl with | [_,_],_=>rfl
theorem Jf (T:Txt K mg t):FnOk P w K mg base CX0 1 t.f_qg t.d_qg ["held","words"] (Ue):=by
 refine T.F_qg.ok Al8 (fun vs H Q E h=>?_) (fun cdv A outer s H vs Q E hr h=>?_)
 ·obtain ⟨b,rfl,q⟩:=h
  rfl
 ·obtain ⟨b,rfl,q⟩:=h
  have hu:=Co hr
  have hu64:=hr.units
  refine ⟨_,(Bi (De (Qk (Lx (pv 0)))
    Rj
    Cy)),?_⟩
  try dsimp only [Cg,Bw]
  walk_at "rd"
  exact q
def Vz:Sp:=fun vs H Q _=>∃ n,vs = [.int n]/\Q (.bl true) H
theorem AiY {n:Int} {H:Hp} {Q:VK} {E:XK} (q:Q (.bl true) H):Vz [.int n] H Q E:=⟨n,rfl,q⟩
local macro_rules | `(tactic| walk_at "u")=>`(tactic| with_reducible refine AiY ?_)
theorem Afk (T:Txt K mg t):Binds K t.d_qb ["thing"] []:=T.F_qb.binds fun _ _ _ _ _ _ us hl=>match us,hl with | [_],_=>rfl
theorem Act (T:Txt K mg t):FnOk P w K mg base CX0 1 t.f_qb t.d_qb ["thing"] (Vz):=by
 refine T.F_qb.ok AmA (fun vs H Q E h=>?_) (fun cdv A outer s H vs Q E hr h=>?_)
 ·obtain ⟨n,rfl,q⟩:=h
  rfl
 ·obtain ⟨n,rfl,q⟩:=h
  have hu:=Co hr
  have hu64:=hr.units
  refine ⟨_,(Bi (Cd (Lu (Ct (Go) rfl T.z_isinstance boot_isinstance (Ba (pv 0) (Ba (Jh (v:=.ty "int") rfl T.z_int boot_int rfl) Bd))) (Qw (AeU (Ct (Go) rfl T.z_isinstance boot_isinstance (Ba (pv 0) (Ba (Jh (v:=.ty "bool") rfl T.z_bool boot_bool rfl) Bd)))))))),?_⟩
  try dsimp only [Cg,Bw]
  walk_at "rd"
  exact q
def Yi:Sp:=fun vs H Q _=>∃ n,vs = [.int n]/\Q (.bl (decide (0 <= n))) H
theorem AjB {n:Int} {H:Hp} {Q:VK} {E:XK} (q:Q (.bl (decide (0 <= n))) H):Yi [.int n] H Q E:=⟨n,rfl,q⟩
local macro_rules | `(tactic| walk_at "u")=>`(tactic| with_reducible refine AjB ?_)
theorem Xf (T:Txt K mg t):Binds K t.d_qcg ["thing"] []:=T.F_qcg.binds fun _ _ _ _ _ _ us hl=>match us,hl with | [_],_=>rfl
theorem Ub (T:Txt K mg t):FnOk P w K mg base CX0 2 t.f_qcg t.d_qcg ["thing"] (Yi):=by
 refine T.F_qcg.ok AlS (fun vs H Q E h=>?_) (fun cdv A outer s H vs Q E hr h=>?_)
 ·obtain ⟨n,rfl,q⟩:=h
  rfl
 ·obtain ⟨n,rfl,q⟩:=h
  have hu:=Co hr
  have hu64:=hr.units
  refine ⟨_,(Bi (Cd (Lu (Bm (Act T) (hr.mono (by decide)) rfl T.m_qb T.F_qb.kp (Afk T) .nil Bs (Ba (pv 0) Bd)) (Qw (Fx AgK (pv 0) Be (Ck _)))))),?_⟩
  try dsimp only [Cg,Bw]
  walk_at "rd"
  exact q
def Afd:Sp:=fun vs H Q _=>∃ a xs n,vs = [.ref a,.int n]/\H a = some (.lst xs)/\(∀ x ∈ xs,∃ b ys,x = .ref b/\H b = some (.tup ys)/\((ys.length:Nat):Int) = n)/\Q .non H
theorem Afr (T:Txt K mg t):Binds K t.d_qh ["rows","length"] []:=T.F_qh.binds fun _ _ _ _ _ _ us hl=>match us,hl with | [_,_],_=>rfl
theorem AbV (T:Txt K mg t):FnOk P w K mg base CX0 2 t.f_qh t.d_qh ["rows","length"] (Afd):=by
 refine T.F_qh.ok sc_qh (fun vs H Q E h=>?_) (fun cdv A outer s H vs Q E hr h=>?_)
 ·obtain ⟨a,xs,n,rfl,hx,hr',q⟩:=h
  rfl
 ·obtain ⟨a,xs,n,rfl,hx,hr',q⟩:=h
  have hu:=Co hr
  have hu64:=hr.units
  refine ⟨_,(Bf (Cs (Bm (Jf T) (hr.mono (by decide)) rfl T.m_qg T.F_qg.kp (Jy T) .nil Bs (Ba (Ct (Go) rfl T.z_isinstance boot_isinstance (Ba (pv 0) (Ba (Jh (v:=.ty "list") rfl T.z_list PyProof.Rows.boot_list rfl) Bd))) (Ba Bx Bd))))
   (Bi (Dl PassesOwn.never rfl (Dd (pv 0)) (By (i:=2) sc_qh.nd rfl (Or.inl rfl))
    (Bi (Cs (Bm (Jf T) (hr.mono (by decide)) rfl T.m_qg T.F_qg.kp (Jy T) .nil Bs (Ba (Lu (Ct (Go) rfl T.z_isinstance boot_isinstance (Ba (pv 2) (Ba (Jh (v:=.ty "tuple") rfl T.z_tuple boot_tuple rfl) Bd))) (Qw (Fx Dq (Ct (Qn) rfl T.z_len PySem.boot_len (Ba (pv 2) Bd)) (pv 1) (Ck _)))) (Ba Bx Bd)))))))),?_⟩
  try dsimp only [Cg,Bw]
  walk_at "rd"
  refine Ly rfl (SqL.of hx) (fun i σ H'=>∃ v,σ = [some (.ref a),some (.int n),v]/\H' = H) ⟨none,rfl,rfl⟩ (fun i σ H' _ ⟨_,_,e⟩=>by subst e; exact SqL.of hx) ?_ ?_
  ·rintro i x σ H' hi ⟨v,rfl,rfl⟩
   obtain ⟨b,ys,rfl,hy,hl⟩:=hr' x (mem_of_getElem? hi)
   walk_at "rd"
   ·exact ⟨_,rfl,rfl⟩
   ·exact decide_eq_true hl
  ·rintro σ H' ⟨v,rfl,rfl⟩
   exact q
theorem Aib {k:Str} (h:k ∈ toldK):inV (V.str k) [V.str "fore",V.str "back",V.str "num",V.str "blank",V.str "mark",V.str "forein",V.str "backin",V.str "out"] = true:=by
 have e:inV (V.str k) (toldK.map V.str) = true:=by
  unfold inV
  rw [any_map]
  exact any_eq_true.mpr ⟨k,h,by show (k == k) = true; exact beq_self_eq_true k⟩
 exact e
def AbM:Sp:=fun vs H Q _=>∃ k,vs = [.str k]/\k ∈ toldK/\Q (.bl true) H
theorem Alh {k:Str} {H:Hp} {Q:VK} {E:XK} (q:Q (.bl true) H) (h:k ∈ toldK):AbM [.str k] H Q E:=⟨k,rfl,h,q⟩
local macro_rules | `(tactic| walk_at "u")=>`(tactic| with_reducible refine Alh ?_ ?_)
theorem Anp (T:Txt K mg t):Binds K t.d_qk ["thing"] []:=T.F_qk.binds fun _ _ _ _ _ _ us hl=>match us,hl with | [_],_=>rfl
theorem Am8 (T:Txt K mg t):FnOk P w K mg base CX0 1 t.f_qk t.d_qk ["thing"] (AbM):=by
 refine T.F_qk.ok Am5 (fun vs H Q E h=>?_) (fun cdv A outer s H vs Q E hr h=>?_)
 ·obtain ⟨k,rfl,hk,q⟩:=h
  rfl
 ·obtain ⟨k,rfl,hk,q⟩:=h
  have hu:=Co hr
  have hu64:=hr.units
  refine ⟨_,(Bi (Cd (Lu (Ct (Go) rfl T.z_isinstance boot_isinstance (Ba (pv 0) (Ba (Jh (v:=.ty "str") rfl T.z_str boot_str rfl) Bd))) (Qw (Fx (Up) (pv 0) (Qd (v:=.ref t.a_TOLD_KINDS) rfl T.g_TOLD_KINDS rfl) rfl))))),?_⟩
  try dsimp only [Cg,Bw]
  walk_at "rd"
  refine ⟨_,_,rfl,.inr (T.q_TOLD_KINDS _),rfl,rfl,?_⟩
  rw [show (if false = true then !inV (V.str k) _ else inV (V.str k) [V.str "fore",V.str "back",V.str "num",V.str "blank",V.str "mark",V.str "forein",V.str "backin",V.str "out"]) = true from Aib hk]
  exact q
def Yn:Sp:=fun vs H Q _=>∃ k r,vs = [.str k,.int r]/\Wt k r/\Q (.bl true) H
theorem Af2 {k:Str} {r:Int} {H:Hp} {Q:VK} {E:XK} (q:Q (.bl true) H) (h:Wt k r):Yn [.str k,.int r] H Q E:=⟨k,r,rfl,h,q⟩
local macro_rules | `(tactic| walk_at "u")=>`(tactic| with_reducible refine Af2 ?_ ?_)
theorem AmB (T:Txt K mg t):Binds K t.d_qbb ["kind","thing"] []:=T.F_qbb.binds fun _ _ _ _ _ _ us hl=>match us,hl with | [_,_],_=>rfl
theorem Ajy (T:Txt K mg t):FnOk P w K mg base CX0 2 t.f_qbb t.d_qbb ["kind","thing"] (Yn):=by
 refine T.F_qbb.ok Aji (fun vs H Q E h=>?_) (fun cdv A outer s H vs Q E hr h=>?_)
 ·obtain ⟨k,r,rfl,hk,q⟩:=h
  rfl
 ·obtain ⟨k,r,rfl,hk,q⟩:=h
  have hu:=Co hr
  have hu64:=hr.units
  refine ⟨_,(Bf (De (Qk (Lx (Bm (Act T) (hr.mono (by decide)) rfl T.m_qb T.F_qb.kp (Afk T) .nil Bs (Ba (pv 1) Bd))))
    (Bi (Cd Zu))
    Cy)
   (Bf (De (Cf Dq (pv 0) Bx (Ck _))
    (Bi (Cd (Fx AgK (pv 1) Be (Ck _))))
    Cy)
   (Bi (Cd (Fx Dq (pv 1) Be (Ck _)))))),?_⟩
  try dsimp only [Cg,Bw]
  walk_at "rd"
  refine Yg (fun h=>?_) (fun h=>?_)
  ·have h':k = "mark":=of_decide_eq_true h
   walk_at "rd"
   rcases hk with ⟨_,hr1⟩ | ⟨hn,_⟩
   ·rw [decide_eq_true hr1]; exact q
   ·exact absurd h' hn
  ·have h':¬ k = "mark":=fun z=>h (decide_eq_true z)
   walk_at "rd"
   rcases hk with ⟨hm,_⟩ | ⟨_,hr0⟩
   ·exact absurd hm h'
   ·rw [decide_eq_true hr0]; exact q
def AaO:Sp:=fun vs H Q _=>∃ d kvs n,vs = [.ref d,.int n]/\H d = some (.dK kvs)/\Q ((Cv kvs (.inl n)).getD (.str "plain")) H
theorem AhQ {d:Addr} {kvs:List (Key × V)} {n:Int} {H:Hp} {Q:VK} {E:XK} (h:H d = some (.dK kvs)) (q:Q ((Cv kvs (.inl n)).getD (.str "plain")) H):AaO [.ref d,.int n] H Q E:=⟨d,kvs,n,rfl,h,q⟩
local macro_rules | `(tactic| walk_at "u")=>`(tactic| with_reducible refine AhQ (by assumption) ?_)
theorem Zp (T:Txt K mg t):Binds K t.d_qbc ["kinds","sign"] []:=T.F_qbc.binds fun _ _ _ _ _ _ us hl=>match us,hl with | [_,_],_=>rfl
theorem Xh (T:Txt K mg t):FnOk P w K mg base CX0 1 t.f_qbc t.d_qbc ["kinds","sign"] (AaO):=by
 refine T.F_qbc.ok AlK (fun vs H Q E h=>?_) (fun cdv A outer s H vs Q E hr h=>?_)
 ·obtain ⟨d,kvs,n,rfl,hd,q⟩:=h
  rfl
 ·obtain ⟨d,kvs,n,rfl,hd,q⟩:=h
  have hu:=Co hr
  have hu64:=hr.units
  refine ⟨_,(Bi (Cd (Vq hu (pv 0) (pv 1) Bx ⟨rfl,rfl,rfl,rfl⟩))),?_⟩
  try dsimp only [Cg,Bw]
  walk_at "rd"
  exact q
def Adc:Sp:=fun vs H Q _=>∃ d kvs n k,vs = [.ref d,.int n,.str k]/\H d = some (.dK kvs)/\0 <= n/\Cv kvs (Sum.inl n) = none/\kvs.length <= 1000/\Q .non (upd H d (.dK (Gs kvs (Sum.inl n) (.str k))))
theorem AmW {d:Addr} {kvs:List (Key × V)} {n:Int} {k:Str} {H:Hp} {Q:VK} {E:XK} (h:H d = some (.dK kvs)) (q:Q .non (upd H d (.dK (kvs ++ [(Sum.inl n,.str k)])))) (hn:0 <= n) (hv:Cv kvs (Sum.inl n) = none) (hl:kvs.length <= 1000) :
  Adc [.ref d,.int n,.str k] H Q E:=⟨d,kvs,n,k,rfl,h,hn,hv,hl,by rw [Lc _ hv]; exact q⟩
local macro_rules | `(tactic| walk_at "u")=>`(tactic| with_reducible refine AmW (by assumption) ?_ ?_ ?_ ?_)
theorem Acm (T:Txt K mg t):Binds K t.d_qbw ["kinds","sign","kind"] []:=T.F_qbw.binds fun _ _ _ _ _ _ us hl=>match us,hl with | [_,_,_],_=>rfl
theorem Aa5 (T:Txt K mg t):FnOk P w K mg base CX0 3 t.f_qbw t.d_qbw ["kinds","sign","kind"] (Adc):=by
 refine T.F_qbw.ok AjJ (fun vs H Q E h=>?_) (fun cdv A outer s H vs Q E hr h=>?_)
 ·obtain ⟨d,kvs,n,k,rfl,hd,hn,hv,hl,q⟩:=h
  rfl
 ·obtain ⟨d,kvs,n,k,rfl,hd,hn,hv,hl,q⟩:=h
  have hu:=Co hr
  have hu64:=hr.units
  refine ⟨_,(Bf (Cs (Bm (Jf T) (hr.mono (by decide)) rfl T.m_qg T.F_qg.kp (Jy T) .nil Bs (Ba (Bm (Ub T) (hr.mono (by decide)) rfl T.m_qcg T.F_qcg.kp (Xf T) .nil Bs (Ba (pv 1) Bd)) (Ba Bx Bd))))
   (Bf (Cs (Bm (Jf T) (hr.mono (by decide)) rfl T.m_qg T.F_qg.kp (Jy T) .nil Bs (Ba (Us (Rf hu (pv 1) (pv 0))) (Ba Bx Bd))))
   (Bi (Lb hu (pv 0) (pv 1) (pv 2) rfl)))),?_⟩
  try dsimp only [Cg,Bw]
  walk_at "rd"
  ·exact q
  ·exact Gn hl
  ·rw [hv]; rfl
  ·exact decide_eq_true hn
def AeW:Sp:=fun vs H Q _=>∃ a b xs ys signs mates,vs = [.ref a,.ref b]/\H a = some (.lst xs)/\H b = some (.lst ys)/\LAt TripAt H xs signs/\LAt PairAt H ys mates/\(∀ s ∈ signs,Zw s)/\(∀ m ∈ mates,0 <= m.1/\0 <= m.2) /\
 (signs.map (·.1) ++ Nb mates).Nodup/\signs.length + 2 * mates.length <= 900/\∀ d,H d = none->Q (.ref d) (upd H d (.dK (kK signs ++ kM mates)))
theorem AmO (T:Txt K mg t):Binds K t.d_qbd ["signs","mates"] []:=T.F_qbd.binds fun _ _ _ _ _ _ us hl=>match us,hl with | [_,_],_=>rfl
theorem Alf (T:Txt K mg t):FnOk P w K mg base CX0 4 t.f_qbd t.d_qbd ["signs","mates"] (AeW):=by
 refine T.F_qbd.ok sc_qbd (fun vs H Q E h=>?_) (fun cdv A outer s H vs Q E hr h=>?_)
 ·obtain ⟨a,b,xs,ys,signs,mates,rfl,ha,hb,ls,lm,so,mo,nd,hl,q⟩:=h
  rfl
 ·obtain ⟨a,b,xs,ys,signs,mates,rfl,ha,hb,ls,lm,so,mo,nd,hl,q⟩:=h
  have hu:=Co hr
  have hu64:=hr.units
  refine ⟨_,(Bf (Bu (i:=2) sc_qbd.nd rfl (Or.inl rfl) Qs)
   (Bf (Dl PassesOwn.never rfl (Dd (pv 0)) (Qp rfl (Cq (By (i:=3) sc_qbd.nd rfl (Or.inl rfl)) (Cq (By (i:=4) sc_qbd.nd rfl (Or.inl rfl)) (Cq (By (i:=5) sc_qbd.nd rfl (Or.inl rfl)) Fh))))
    (Bf (Cs (Bm (Jf T) (hr.mono (by decide)) rfl T.m_qg T.F_qg.kp (Jy T) .nil Bs (Ba (Bm (Am8 T) (hr.mono (by decide)) rfl T.m_qk T.F_qk.kp (Anp T) .nil Bs (Ba (pv 4) Bd)) (Ba Bx Bd))))
   (Bf (Cs (Bm (Jf T) (hr.mono (by decide)) rfl T.m_qg T.F_qg.kp (Jy T) .nil Bs (Ba (Bm (Ajy T) (hr.mono (by decide)) rfl T.m_qbb T.F_qbb.kp (AmB T) .nil Bs (Ba (pv 4) (Ba (pv 5) Bd))) (Ba Bx Bd))))
   (Bi (Cs (Bm (Aa5 T) (hr.mono (by decide)) rfl T.m_qbw T.F_qbw.kp (Acm T) .nil Bs (Ba (pv 2) (Ba (pv 3) (Ba (pv 4) Bd)))))))))
   (Bf (Dl PassesOwn.never rfl (Dd (pv 1)) (Qp rfl (Cq (By (i:=6) sc_qbd.nd rfl (Or.inl rfl)) (Cq (By (i:=7) sc_qbd.nd rfl (Or.inl rfl)) Fh)))
    (Bf (Cs (Bm (Aa5 T) (hr.mono (by decide)) rfl T.m_qbw T.F_qbw.kp (Acm T) .nil Bs (Ba (pv 2) (Ba (pv 6) (Ba Bx Bd)))))
   (Bi (Cs (Bm (Aa5 T) (hr.mono (by decide)) rfl T.m_qbw T.F_qbw.kp (Acm T) .nil Bs (Ba (pv 2) (Ba (pv 7) (Ba Bx Bd))))))))
   (Bi (Cd (pv 2)))))),?_⟩
  try dsimp only [Cg,Bw]
  walk_at "rd"
  intro d hd
  walk_at "rd"
  have nda:a ≠ d:=Cb ha hd
  have ndb:b ≠ d:=Cb hb hd
  have ndk:((kK signs ++ kM mates).map (·.1)).Nodup:=by rw [map_append,Xi,show (kK signs).map (·.1) = (signs.map (·.1)).map Sum.inl by simp [kK],<- map_append]; exact Uc nd
  refine Ly rfl (SqL.of (xs:=xs) (by rw [Bl nda]; exact ha)) (fun i σ H'=>∃ v3 v4 v5,σ = [some (.ref a),some (.ref b),some (.ref d),v3,v4,v5,none,none]/\H' = upd H d (.dK (kK (signs.take i)))) ⟨none,none,none,rfl,rfl⟩ (fun i σ H' _ ⟨_,_,_,_,e⟩=>by subst e; exact SqL.of (by rw [Bl nda]; exact ha)) ?_ ?_
  ·rintro i x σ H' hi ⟨v3,v4,v5,rfl,rfl⟩
   obtain ⟨s,es,p,rfl,hp⟩:=ls.get hi
   have hp':(upd H d (.dK (kK (signs.take i)))) p = some (.tup [.int s.1,.str s.2.1,.int s.2.2]):=by rw [Bl (Cb hp hd)]; exact hp
   have hd':(upd H d (.dK (kK (signs.take i)))) d = some (.dK (kK (signs.take i))):=Bt
   have ok:=so s (mem_of_getElem? es)
   have et:=Dv es
   have hlt:i < signs.length:=(List.getElem?_eq_some_iff.mp es).1
   walk_at "rd"
   ·refine ⟨_,_,_,rfl,?_⟩
    rw [Fy,et]
    simp [kK]
   ·exact ok.nn
   ·refine Lh fun m=>?_
    have q1:(kK signs ++ kM mates) = kK (signs.take i) ++ ((Sum.inl s.1,V.str s.2.1) :: (kK (signs.drop (i + 1)) ++ kM mates)):=by
     rw [<- cons_append,<- append_assoc]
     congr 1
     rw [show ((Sum.inl s.1,V.str s.2.1) :: kK (signs.drop (i + 1)):List (Key × V)) = kK (s :: signs.drop (i + 1)) from rfl,kK,kK,kK,<- map_append]
     congr 1
     rw [<- take_append_drop i signs]
     congr 1
     ·simp
     ·rw [take_append_drop,drop_eq_getElem_cons hlt]
      have:=getElem?_eq_getElem hlt
      rw [es] at this
      rw [Option.some.inj this]
    rw [q1,map_append,map_cons] at ndk
    exact (nodup_append.mp ndk).2.2 _ m _ mem_cons_self rfl
   ·have:(kK (signs.take i)).length <= signs.length:=by simp [kK]; omega
    omega
   ·exact ok.rk
   ·exact ok.kd
  ·rintro σ H' ⟨v3,v4,v5,rfl,rfl⟩
   rw [ls.1,take_length]
   refine Ab9 ?_
   refine Ly rfl (SqL.of (xs:=ys) (by rw [Bl ndb]; exact hb)) (fun i σ H'=>∃ v3 v4 v5 v6 v7,σ = [some (.ref a),some (.ref b),some (.ref d),v3,v4,v5,v6,v7]/\H' = upd H d (.dK (kK signs ++ kM (mates.take i)))) ⟨_,_,_,_,_,rfl,by simp [kM]⟩ (fun i σ H' _ ⟨_,_,_,_,_,_,e⟩=>by subst e; exact SqL.of (by rw [Bl ndb]; exact hb)) ?_ ?_
   ·rintro i x σ H' hi ⟨v3,v4,v5,v6,v7,rfl,rfl⟩
    obtain ⟨m,em,p,rfl,hp⟩:=lm.get hi
    have hp':(upd H d (.dK (kK signs ++ kM (mates.take i)))) p = some (.tup [.int m.1,.int m.2]):=by rw [Bl (Cb hp hd)]; exact hp
    have hd':(upd H d (.dK (kK signs ++ kM (mates.take i)))) d = some (.dK (kK signs ++ kM (mates.take i))):=Bt
    have ok:=mo m (mem_of_getElem? em)
    have et:=Dv em
    have hlt:i < mates.length:=(List.getElem?_eq_some_iff.mp em).1
    have q1:kK signs ++ kM mates = kK signs ++ kM (mates.take i) ++ ((Sum.inl m.1,V.str "open") :: (Sum.inl m.2,V.str "shut") :: kM (mates.drop (i + 1))):=by
     rw [append_assoc]
     congr 1
     rw [show ((Sum.inl m.1,V.str "open") :: (Sum.inl m.2,V.str "shut") :: kM (mates.drop (i + 1)):List (Key × V)) = kM (m :: mates.drop (i + 1)) from rfl,<- Yq]
     congr 1
     have:=getElem?_eq_getElem hlt
     rw [em] at this
     rw [Option.some.inj this,<- drop_eq_getElem_cons hlt,take_append_drop]
    rw [q1,map_append,map_cons,map_cons] at ndk
    have nd1:=(nodup_append.mp ndk).2.2
    have nd2:=(nodup_append.mp ndk).2.1
    have hlen:(kK signs ++ kM (mates.take i)).length + 1 <= 1000:=by
     rw [length_append,Alr,length_take]; simp only [kK,length_map]; omega
    walk_at "rd"
    have hd2:(upd (upd H d (.dK (kK signs ++ kM (mates.take i)))) d (.dK (kK signs ++ kM (mates.take i) ++ [(Sum.inl m.1,.str "open")]))) d = some (.dK (kK signs ++ kM (mates.take i) ++ [(Sum.inl m.1,.str "open")])):=Bt
    walk_at "rd"
    ·refine ⟨_,_,_,_,_,rfl,?_⟩
     rw [Fy,Fy,et,Yq]
     simp [kM]
    ·exact ok.2
    ·refine Lh fun z=>?_
     rw [map_append,mem_append] at z
     rcases z with z | z
     ·exact nd1 _ z _ (mem_cons_of_mem _ mem_cons_self) rfl
     ·have e:(Sum.inl m.2:Key) = Sum.inl m.1:=mem_singleton.mp z
      have nd3:=(nodup_cons.mp nd2).1
      exact nd3 (mem_cons.mpr (.inl e.symm))
    ·rw [length_append]; exact hlen
    ·exact ok.1
    ·exact Lh fun z=>nd1 _ z _ mem_cons_self rfl
    ·omega
   ·rintro σ H' ⟨v3,v4,v5,v6,v7,rfl,rfl⟩
    rw [lm.1,take_length]
    walk_at "rd"
    exact q d hd
def AfW:Sp:=fun vs H Q _=>∃ a xs signs,vs = [.ref a]/\H a = some (.lst xs)/\LAt TripAt H xs signs/\(signs.map (·.1)).Nodup/\signs.length <= 900/\∀ d,H d = none->Q (.ref d) (upd H d (.dK (kR signs)))
theorem AmQ (T:Txt K mg t):Binds K t.d_qbg ["signs"] []:=T.F_qbg.binds fun _ _ _ _ _ _ us hl=>match us,hl with | [_],_=>rfl
theorem AkU (T:Txt K mg t):FnOk P w K mg base CX0 1 t.f_qbg t.d_qbg ["signs"] (AfW):=by
 refine T.F_qbg.ok sc_qbg (fun vs H Q E h=>?_) (fun cdv A outer s H vs Q E hr h=>?_)
 ·obtain ⟨a,xs,signs,rfl,ha,ls,nd,hl,q⟩:=h
  rfl
 ·obtain ⟨a,xs,signs,rfl,ha,ls,nd,hl,q⟩:=h
  have hu:=Co hr
  have hu64:=hr.units
  refine ⟨_,(Bf (Bu (i:=1) sc_qbg.nd rfl (Or.inl rfl) Qs)
   (Bf (Dl PassesOwn.never rfl (Dd (pv 0)) (Qp rfl (Cq (By (i:=2) sc_qbg.nd rfl (Or.inl rfl)) (Cq (By (i:=3) sc_qbg.nd rfl (Or.inl rfl)) (Cq (By (i:=4) sc_qbg.nd rfl (Or.inl rfl)) Fh))))
    (Bi (Lb hu (pv 1) (pv 2) (pv 4) rfl)))
   (Bi (Cd (pv 1))))),?_⟩
  try dsimp only [Cg,Bw]
  walk_at "rd"
  intro d hd
  walk_at "rd"
  have nda:a ≠ d:=Cb ha hd
  have ndk:((kR signs).map (·.1)).Nodup:=by rw [show (kR signs).map (·.1) = (signs.map (·.1)).map Sum.inl by simp [kR]]; exact Uc nd
  refine Ly rfl (SqL.of (xs:=xs) (by rw [Bl nda]; exact ha)) (fun i σ H'=>∃ v3 v4 v5,σ = [some (.ref a),some (.ref d),v3,v4,v5]/\H' = upd H d (.dK (kR (signs.take i)))) ⟨none,none,none,rfl,rfl⟩ (fun i σ H' _ ⟨_,_,_,_,e⟩=>by subst e; exact SqL.of (by rw [Bl nda]; exact ha)) ?_ ?_
  ·rintro i x σ H' hi ⟨v3,v4,v5,rfl,rfl⟩
   obtain ⟨s,es,p,rfl,hp⟩:=ls.get hi
   have hp':(upd H d (.dK (kR (signs.take i)))) p = some (.tup [.int s.1,.str s.2.1,.int s.2.2]):=by rw [Bl (Cb hp hd)]; exact hp
   have hd':(upd H d (.dK (kR (signs.take i)))) d = some (.dK (kR (signs.take i))):=Bt
   have et:=Dv es
   have hlt:i < signs.length:=(List.getElem?_eq_some_iff.mp es).1
   have hno:Cv (kR (signs.take i)) (Sum.inl s.1) = none:=by
    refine Lh fun m=>?_
    have q1:kR signs = kR (signs.take i) ++ ((Sum.inl s.1,V.int s.2.2) :: kR (signs.drop (i + 1))):=by
     rw [show ((Sum.inl s.1,V.int s.2.2) :: kR (signs.drop (i + 1)):List (Key × V)) = kR (s :: signs.drop (i + 1)) from rfl,kR,kR,kR,<- map_append]
     congr 1
     have:=getElem?_eq_getElem hlt
     rw [es] at this
     rw [Option.some.inj this,<- drop_eq_getElem_cons hlt,take_append_drop]
    rw [q1,map_append,map_cons] at ndk
    exact (nodup_append.mp ndk).2.2 _ m _ mem_cons_self rfl
   walk_at "rd"
   ·refine ⟨_,_,_,rfl,?_⟩
    rw [Fy,et,Lc _ hno]
    simp [kR]
   ·have:(kR (signs.take i)).length <= signs.length:=by simp [kR]; omega
    exact Gn (by omega)
  ·rintro σ H' ⟨v3,v4,v5,rfl,rfl⟩
   rw [ls.1,take_length]
   walk_at "rd"
   exact q d hd
def Ais:Sp:=fun vs H Q _=>∃ b ys mates,vs = [.ref b]/\H b = some (.lst ys)/\LAt PairAt H ys mates/\(Nb mates).Nodup/\mates.length <= 400/\∀ d,H d = none->Q (.ref d) (upd H d (.dK (kB mates)))
theorem Ams (T:Txt K mg t):Binds K t.d_qbm ["mates"] []:=T.F_qbm.binds fun _ _ _ _ _ _ us hl=>match us,hl with | [_],_=>rfl
theorem Ak9 (T:Txt K mg t):FnOk P w K mg base CX0 1 t.f_qbm t.d_qbm ["mates"] (Ais):=by
 refine T.F_qbm.ok sc_qbm (fun vs H Q E h=>?_) (fun cdv A outer s H vs Q E hr h=>?_)
 ·obtain ⟨b,ys,mates,rfl,hb,lm,nd,hl,q⟩:=h
  rfl
 ·obtain ⟨b,ys,mates,rfl,hb,lm,nd,hl,q⟩:=h
  have hu:=Co hr
  have hu64:=hr.units
  refine ⟨_,(Bf (Bu (i:=1) sc_qbm.nd rfl (Or.inl rfl) Qs)
   (Bf (Dl PassesOwn.never rfl (Dd (pv 0)) (Qp rfl (Cq (By (i:=2) sc_qbm.nd rfl (Or.inl rfl)) (Cq (By (i:=3) sc_qbm.nd rfl (Or.inl rfl)) Fh)))
    (Bf (Lb hu (pv 1) (pv 2) (pv 3) rfl)
   (Bi (Lb hu (pv 1) (pv 3) (pv 2) rfl))))
   (Bi (Cd (pv 1))))),?_⟩
  try dsimp only [Cg,Bw]
  walk_at "rd"
  intro d hd
  walk_at "rd"
  have ndb:b ≠ d:=Cb hb hd
  have ndk:((kB mates).map (·.1)).Nodup:=by rw [Ah2]; exact Uc nd
  refine Ly rfl (SqL.of (xs:=ys) (by rw [Bl ndb]; exact hb)) (fun i σ H'=>∃ v3 v4,σ = [some (.ref b),some (.ref d),v3,v4]/\H' = upd H d (.dK (kB (mates.take i)))) ⟨none,none,rfl,rfl⟩ (fun i σ H' _ ⟨_,_,_,e⟩=>by subst e; exact SqL.of (by rw [Bl ndb]; exact hb)) ?_ ?_
  ·rintro i x σ H' hi ⟨v3,v4,rfl,rfl⟩
   obtain ⟨m,em,p,rfl,hp⟩:=lm.get hi
   have hp':(upd H d (.dK (kB (mates.take i)))) p = some (.tup [.int m.1,.int m.2]):=by rw [Bl (Cb hp hd)]; exact hp
   have hd':(upd H d (.dK (kB (mates.take i)))) d = some (.dK (kB (mates.take i))):=Bt
   have et:=Dv em
   have hlt:i < mates.length:=(List.getElem?_eq_some_iff.mp em).1
   have q1:kB mates = kB (mates.take i) ++ ((Sum.inl m.1,V.int m.2) :: (Sum.inl m.2,V.int m.1) :: kB (mates.drop (i + 1))):=by
    rw [show ((Sum.inl m.1,V.int m.2) :: (Sum.inl m.2,V.int m.1) :: kB (mates.drop (i + 1)):List (Key × V)) = kB (m :: mates.drop (i + 1)) from rfl,<- Yy]
    congr 1
    have:=getElem?_eq_getElem hlt
    rw [em] at this
    rw [Option.some.inj this,<- drop_eq_getElem_cons hlt,take_append_drop]
   rw [q1,map_append,map_cons,map_cons] at ndk
   have nd1:=(nodup_append.mp ndk).2.2
   have nd2:=(nodup_append.mp ndk).2.1
   have hlen:(kB (mates.take i)).length + 1 <= 1000:=by
    rw [Alb,length_take]; omega
   have n1:Cv (kB (mates.take i)) (Sum.inl m.1) = none:=Lh fun z=>nd1 _ z _ mem_cons_self rfl
   have n2:Cv (kB (mates.take i) ++ [(Sum.inl m.1,V.int m.2)]) (Sum.inl m.2) = none:=by
    refine Lh fun z=>?_
    rw [map_append,mem_append] at z
    rcases z with z | z
    ·exact nd1 _ z _ (mem_cons_of_mem _ mem_cons_self) rfl
    ·have e:(Sum.inl m.2:Key) = Sum.inl m.1:=mem_singleton.mp z
     have nd3:=(nodup_cons.mp nd2).1
     exact nd3 (mem_cons.mpr (.inl e.symm))
   walk_at "rd"
   ·rw [Lc _ n1]
    have hd2:(upd (upd H d (.dK (kB (mates.take i)))) d (.dK (kB (mates.take i) ++ [(Sum.inl m.1,.int m.2)]))) d = some (.dK (kB (mates.take i) ++ [(Sum.inl m.1,.int m.2)])):=Bt
    walk_at "rd"
    ·refine ⟨_,_,rfl,?_⟩
     rw [Fy,Fy,et,Yy,Lc _ n2]
     simp [kB]
    ·rw [length_append]; exact Gn hlen
   ·exact Gn (by omega)
  ·rintro σ H' ⟨v3,v4,rfl,rfl⟩
   rw [lm.1,take_length]
   walk_at "rd"
   exact q d hd
theorem AeO {k:Str} (h:k ∈ joinedK):inV (V.str k) [V.str "fore",V.str "back",V.str "num",V.str "blank",V.str "plain"] = true:=by
 have e:inV (V.str k) (joinedK.map V.str) = true:=by
  unfold inV
  rw [any_map]
  exact any_eq_true.mpr ⟨k,h,by show (k == k) = true; exact beq_self_eq_true k⟩
 exact e
def Ah6:Sp:=fun vs H Q _=>∃ d kk w b m k,vs = [.ref d,.int w,.int b,.int m]/\H d = some (.dK kk)/\0 <= w/\0 <= b/\0 <= m/\knd kk m = .str "mark"/\k ∈ joinedK/\knd kk w = .str k/\knd kk b = .str k/\Q .non H
theorem AnB (T:Txt K mg t):Binds K t.d_qz ["kinds","whole","base","mark"] []:=T.F_qz.binds fun _ _ _ _ _ _ us hl=>match us,hl with | [_,_,_,_],_=>rfl
theorem Am4 (T:Txt K mg t):FnOk P w K mg base CX0 3 t.f_qz t.d_qz ["kinds","whole","base","mark"] (Ah6):=by
 refine T.F_qz.ok sc_qz (fun vs H Q E h=>?_) (fun cdv A outer s H vs Q E hr h=>?_)
 ·obtain ⟨d,kk,w,b,m,k,rfl,hd,w0,b0,m0,hm,hk,hw,hb,q⟩:=h
  rfl
 ·obtain ⟨d,kk,w,b,m,k,rfl,hd,w0,b0,m0,hm,hk,hw,hb,q⟩:=h
  have hu:=Co hr
  have hu64:=hr.units
  refine ⟨_,(Bf (Cs (Bm (Jf T) (hr.mono (by decide)) rfl T.m_qg T.F_qg.kp (Jy T) .nil Bs (Ba (Lu (Bm (Ub T) (hr.mono (by decide)) rfl T.m_qcg T.F_qcg.kp (Xf T) .nil Bs (Ba (pv 1) Bd)) (Lu (Bm (Ub T) (hr.mono (by decide)) rfl T.m_qcg T.F_qcg.kp (Xf T) .nil Bs (Ba (pv 2) Bd)) (Qw (Bm (Ub T) (hr.mono (by decide)) rfl T.m_qcg T.F_qcg.kp (Xf T) .nil Bs (Ba (pv 3) Bd))))) (Ba Bx Bd))))
   (Bf (Cs (Bm (Jf T) (hr.mono (by decide)) rfl T.m_qg T.F_qg.kp (Jy T) .nil Bs (Ba (Fx Dq (Bm (Xh T) (hr.mono (by decide)) rfl T.m_qbc T.F_qbc.kp (Zp T) .nil Bs (Ba (pv 0) (Ba (pv 3) Bd))) Bx (Ck _)) (Ba Bx Bd))))
   (Bf (Bu (i:=4) sc_qz.nd rfl (Or.inl rfl) (Bm (Xh T) (hr.mono (by decide)) rfl T.m_qbc T.F_qbc.kp (Zp T) .nil Bs (Ba (pv 0) (Ba (pv 1) Bd))))
   (Bf (Cs (Bm (Jf T) (hr.mono (by decide)) rfl T.m_qg T.F_qg.kp (Jy T) .nil Bs (Ba (Fx (Up) (pv 4) (Qd (v:=.ref t.a_JOINED_KINDS) rfl T.g_JOINED_KINDS rfl) rfl) (Ba Bx Bd))))
   (Bi (Cs (Bm (Jf T) (hr.mono (by decide)) rfl T.m_qg T.F_qg.kp (Jy T) .nil Bs (Ba (Fx Dq (Bm (Xh T) (hr.mono (by decide)) rfl T.m_qbc T.F_qbc.kp (Zp T) .nil Bs (Ba (pv 0) (Ba (pv 2) Bd))) (pv 4) (Ck _)) (Ba Bx Bd))))))))),?_⟩
  try dsimp only [Cg,Bw]
  unfold knd at hm hw hb
  walk_at "rd"
  refine Ak2 w0 ?_
  walk_at "rd"
  refine Ak2 b0 ?_
  walk_at "rd"
  ·rw [hm]
   walk_at "rd"
   ·rw [hw]
    walk_at "rd"
    refine ⟨_,_,rfl,.inr (T.q_JOINED_KINDS _),rfl,rfl,?_⟩
    rw [show (if false = true then !inV (V.str k) _ else inV (V.str k) [V.str "fore",V.str "back",V.str "num",V.str "blank",V.str "plain"]) = true from AeO hk]
    walk_at "rd"
    rw [hb]
    walk_at "rd"
    ·exact q
    ·exact decide_eq_true rfl
   ·exact decide_eq_true rfl
  ·exact decide_eq_true m0
def AiW:Sp:=fun vs H Q _=>∃ d kvs J n,vs = [.ref d,.int n]/\Rd H d (.dK kvs)/\LAt KvAt H kvs J/\Q (.bl (!(Fu J (jGo J 7 n)).isSome)) H
theorem AnD (T:Txt K mg t):Binds K t.d_qi ["pairs","whole"] []:=T.F_qi.binds fun _ _ _ _ _ _ us hl=>match us,hl with | [_,_],_=>rfl
theorem AmU (T:Txt K mg t):FnOk P w K mg base CX0 1 t.f_qi t.d_qi ["pairs","whole"] (AiW):=by
 refine T.F_qi.ok sc_qi (fun vs H Q E h=>?_) (fun cdv A outer s H vs Q E hr h=>?_)
 ·obtain ⟨d,kvs,J,n,rfl,hd,lj,q⟩:=h
  rfl
 ·obtain ⟨d,kvs,J,n,rfl,hd,lj,q⟩:=h
  have hu:=Co hr
  have hu64:=hr.units
  refine ⟨_,(Bf (Bu (i:=2) sc_qi.nd rfl (Or.inl rfl) (pv 1))
   (Bf (Dl PassesOwn.never rfl (Uq rfl T.z_range (Ba (Qd rfl T.g_MOST_GOINGS.choose_spec.1 T.g_MOST_GOINGS.choose_spec.2) Bd)) (By (i:=3) sc_qi.nd rfl (Or.inl rfl))
    (Bi (De (Gb (Akk hu (pv 2) (pv 0)))
    (Bi (Bu (i:=2) sc_qi.nd rfl (Or.inl rfl) (Cl (Aan) (Va hu (pv 0) (pv 2) (fun _ _=>rfl)) Be (fun _ _=>rfl))))
    Cy)))
   (Bi (Cd (Us (Rf hu (pv 2) (pv 0))))))),?_⟩
  try dsimp only [Cg,Bw]
  walk_at "rd"
  refine Aip (hi:=7) (n:=7) (fun R q'=>by walk_at "rd"; exact q') ⟨by decide,by decide⟩ rfl (fun i σ H'=>∃ v3,σ = [some (.ref d),some (.int n),some (.int (jGo J i n)),v3]/\H' = H) ⟨none,rfl,rfl⟩ ?_ ?_
  ·rintro i σ H' hi ⟨v3,rfl,rfl⟩
   walk_at "rd"
   refine ⟨d,_,rfl,.inl ⟨kvs,Sum.inl (jGo J i n),hd,rfl,rfl⟩,?_⟩
   walk_at "rd"
   rcases Aaj lj (jGo J i n) with ⟨h1,h2⟩ | ⟨m,p,h1,h2,hp⟩
   ·rw [h2]
    refine Jo ?_
    walk_at "rd"
    exact ⟨_,by show _ = [_,_,some (V.int (Jt J (jGo J i n))),_]; unfold Jt; rw [h1],rfl⟩
   ·rw [h2]
    refine Ji ?_
    walk_at "rd"
    refine ⟨d,.ref p,rfl,.inl ⟨kvs,Sum.inl (jGo J i n),hd,rfl,h2.symm⟩,?_⟩
    walk_at "rd"
    refine AgX hp ?_ rfl
    walk_at "rd"
    exact ⟨_,by show _ = [_,_,some (V.int (Jt J (jGo J i n))),_]; unfold Jt; rw [h1],rfl⟩
  ·rintro σ H' ⟨v3,rfl,rfl⟩
   walk_at "rd"
   refine ⟨d,_,rfl,.inl ⟨kvs,Sum.inl (jGo J 7 n),hd,rfl,rfl⟩,?_⟩
   rcases Aaj lj (jGo J 7 n) with ⟨h1,h2⟩ | ⟨m,p,h1,h2,hp⟩
   ·rw [h2]; rw [h1] at q; exact q
   ·rw [h2]; rw [h1] at q; exact q
def AfR:Sp:=fun vs H Q _=>∃ d b kk xs J,vs = [.ref d,.ref b]/\H d = some (.dK kk)/\H b = some (.lst xs)/\LAt TrjAt H xs J/\Acf kk J/\∀ p kvs H',H p = none->Same H H'->H' p = some (.dK kvs)->LAt KvAt H' kvs J->Q (.ref p) H'
theorem Amy (T:Txt K mg t):Binds K t.d_qbf ["kinds","joins"] []:=T.F_qbf.binds fun _ _ _ _ _ _ us hl=>match us,hl with | [_,_],_=>rfl
theorem Ajn (T:Txt K mg t):FnOk P w K mg base CX0 4 t.f_qbf t.d_qbf ["kinds","joins"] (AfR):=by
 refine T.F_qbf.ok sc_qbf (fun vs H Q E h=>?_) (fun cdv A outer s H vs Q E hr h=>?_)
 ·obtain ⟨d,b,kk,xs,J,rfl,hd,hb,lj,jo,q⟩:=h
  rfl
 ·obtain ⟨d,b,kk,xs,J,rfl,hd,hb,lj,jo,q⟩:=h
  have hu:=Co hr
  have hu64:=hr.units
  refine ⟨_,(Bf (Bu (i:=2) sc_qbf.nd rfl (Or.inl rfl) Qs)
   (Bf (Dl PassesOwn.never rfl (Dd (pv 1)) (Qp rfl (Cq (By (i:=3) sc_qbf.nd rfl (Or.inl rfl)) (Cq (By (i:=4) sc_qbf.nd rfl (Or.inl rfl)) (Cq (By (i:=5) sc_qbf.nd rfl (Or.inl rfl)) Fh))))
    (Bf (Cs (Bm (Am4 T) (hr.mono (by decide)) rfl T.m_qz T.F_qz.kp (AnB T) .nil Bs (Ba (pv 0) (Ba (pv 3) (Ba (pv 4) (Ba (pv 5) Bd))))))
   (Bf (Cs (Bm (Jf T) (hr.mono (by decide)) rfl T.m_qg T.F_qg.kp (Jy T) .nil Bs (Ba (Us (Rf hu (pv 3) (pv 2))) (Ba Bx Bd))))
   (Bi (Lb hu (pv 2) (pv 3) (Alv (Ba (pv 4) (Ba (pv 5) Bd))) rfl)))))
   (Bf (Aay (Dl PassesOwn.never rfl (Aak (pv 2)) (By (i:=3) sc_qbf.nd rfl (Or.inl rfl))
    (Bi (Cs (Bm (Jf T) (hr.mono (by decide)) rfl T.m_qg T.F_qg.kp (Jy T) .nil Bs (Ba (Bm (AmU T) (hr.mono (by decide)) rfl T.m_qi T.F_qi.kp (AnD T) .nil Bs (Ba (pv 2) (Ba (pv 3) Bd))) (Ba Bx Bd)))))))
   (Bi (Cd (pv 2)))))),?_⟩
  try dsimp only [Cg,Bw]
  walk_at "rd"
  intro p hp
  have s0:Same H (upd H p (.dK [])):=Same.new hp
  have e0:(upd H p (.dK [])) p = some (.dK []):=Bt
  generalize upd H p (.dK []) = H0 at s0 e0
  walk_at "rd"
  refine Ly (i:=1) rfl (SqL.of (s0 _ _ hb)) (fun i σ H'=>∃ v3 v4 v5 kvs,σ = [some (.ref d),some (.ref b),some (.ref p),v3,v4,v5]/\Same H H'/\H' p = some (.dK kvs)/\LAt KvAt H' kvs (J.take i)) ⟨none,none,none,[],rfl,s0,e0,LAt.nil⟩ (fun i σ H' _ ⟨_,_,_,_,_,s,_⟩=>SqL.of (s _ _ hb)) ?_ ?_
  ·rintro i x σ H' hi ⟨v3,v4,v5,kvs,rfl,s,e,lk⟩
   obtain ⟨j,ej,a,rfl,ha⟩:=lj.get hi
   have hj:=mem_of_getElem? ej
   have ha':=s _ _ ha
   obtain ⟨k,hk,hw,hb'⟩:=jo.kd j hj
   obtain ⟨n1,n2,n3⟩:=jo.nn j hj
   have hlen:kvs.length <= 400:=by
    rw [lk.1,length_take]
    have:=jo.ln
    omega
   have hno:Cv kvs (Sum.inl j.1) = none:=by
    rcases Aaj lk j.1 with ⟨_,h2⟩ | ⟨m,_,h1,_,_⟩
    ·exact h2
    ·exact absurd (show j.1 ∈ (J.take i).map (·.1) from mem_map.mpr ⟨_,AcJ h1,rfl⟩) (Ug (f:=(·.1)) jo.nw ej)
   walk_at "rd"
   refine ⟨d,kk,j.1,j.2.1,j.2.2,k,rfl,s _ _ hd,n1,n2,n3,jo.mr j hj,hk,hw,hb',?_⟩
   walk_at "rd"
   ·refine ⟨by show 2 <= sizeLine; decide,fun t ht=>?_⟩
    walk_at "rd"
    refine AdQ (Same.new ht _ _ e) ?_ (Gn (by omega))
    rw [Lc _ hno]
    have ntp:t ≠ p:=(Cb e ht).symm
    have kt:∀ q' zs,H' q' = some (.tup zs)->(upd (upd H' t (.tup [.int j.2.1,.int j.2.2])) p (.dK (kvs ++ [(Sum.inl j.1,V.ref t)]))) q' = some (.tup zs):=fun q' zs z=>by
     rw [Bl (Fe z e (by intro w; cases w)),Bl (Cb z ht)]; exact z
    refine ⟨_,_,_,_,rfl,fun q' o z=>?_,Bt,?_⟩
    ·rw [Bl (Cb z hp),Bl (Cb (s _ _ z) ht)]; exact s _ _ z
    ·rw [Dv ej]
     exact LAt.snoc (lk.mono fun x y h=>h.mono kt) ⟨rfl,t,rfl,by rw [Bl ntp,Bt]⟩
   ·rw [hno]; rfl
  ·rintro σ H' ⟨v3,v4,v5,kvs,rfl,s,e,lk⟩
   rw [lj.1,take_length] at lk
   dsimp only
   with_reducible refine Ab9 ?_
   refine AlE (i:=2) (a:=p) (kvs:=kvs) rfl e (fun i σ H''=>∃ v3 v4 v5,σ = [some (.ref d),some (.ref b),some (.ref p),v3,v4,v5]/\H'' = H') ⟨_,_,_,rfl,rfl⟩ (fun i σ H' _ ⟨_,_,_,_,z⟩=>by subst z; exact e) ?_ ?_
   ·rintro o i kv σ H'' hi ⟨v3,v4,v5,rfl,rfl⟩
    obtain ⟨j,ej,e1,_⟩:=lk.get hi
    have hj:=mem_of_getElem? ej
    obtain ⟨key,val⟩:=kv
    dsimp only at e1
    subst e1
    show Gf _ (.int j.1) _ _ _
    walk_at "rd"
    refine ⟨p,kvs,J,j.1,rfl,AkC,lk.mono fun x y h=>h.mono fun q' zs z=>?_,?_⟩
    ·rw [Bl (Fe z e (by intro w; cases w))]; exact z
    ·walk_at "rd"
     ·exact ⟨Bt,_,_,_,rfl,AfJ e⟩
     ·rw [jo.en j hj]; rfl
   ·rintro σ H'' ⟨v3,v4,v5,rfl,rfl⟩
    walk_at "rd"
    exact q p kvs _ hp s e lk
def Ade:Sp:=fun vs H Q _=>∃ d kvs J,vs = [.ref d]/\H d = some (.dK kvs)/\LAt KvAt H kvs J/\(J.map (·.2)).Nodup/\J.length <= 400/\∀ p H',H p = none->Same H H'->H' p = some (.dT (kW J))->Q (.ref p) H'
theorem Anm (T:Txt K mg t):Binds K t.d_qx ["pairs"] []:=T.F_qx.binds fun _ _ _ _ _ _ us hl=>match us,hl with | [_],_=>rfl
theorem Al2 (T:Txt K mg t):FnOk P w K mg base CX0 2 t.f_qx t.d_qx ["pairs"] (Ade):=by
 refine T.F_qx.ok sc_qx (fun vs H Q E h=>?_) (fun cdv A outer s H vs Q E hr h=>?_)
 ·obtain ⟨d,kvs,J,rfl,hd,lk,np,ln,q⟩:=h
  rfl
 ·obtain ⟨d,kvs,J,rfl,hd,lk,np,ln,q⟩:=h
  have hu:=Co hr
  have hu64:=hr.units
  refine ⟨_,(Bf (Bu (i:=1) sc_qx.nd rfl (Or.inl rfl) AfL)
   (Bf (Aay (Dl PassesOwn.never rfl (Adh (pv 0)) (Qp rfl (Cq (By (i:=2) sc_qx.nd rfl (Or.inl rfl)) (Cq (By (i:=3) sc_qx.nd rfl (Or.inl rfl)) Fh)))
    (Bf (Cs (Bm (Jf T) (hr.mono (by decide)) rfl T.m_qg T.F_qg.kp (Jy T) .nil Bs (Ba (Us (Rf hu (pv 3) (pv 1))) (Ba Bx Bd))))
   (Bi (Lb hu (pv 1) (pv 3) (pv 2) rfl)))))
   (Bi (Cd (pv 1))))),?_⟩
  try dsimp only [Cg,Bw]
  walk_at "rd"
  intro p hp
  have s0:Same H (upd H p (.dT [])):=Same.new hp
  have e0:(upd H p (.dT [])) p = some (.dT []):=Bt
  generalize upd H p (.dT []) = H0 at s0 e0
  have ndp:d ≠ p:=Cb hd hp
  walk_at "rd"
  refine AlQ (i:=0) (a:=d) (kvs:=kvs) rfl (s0 _ _ hd) (fun i σ H'=>∃ v2 v3,σ = [some (.ref d),some (.ref p),v2,v3]/\Same H H'/\H' p = some (.dT (kW (J.take i)))) ⟨none,none,rfl,s0,e0⟩ ?_ ?_
  ·rintro o i kv t σ H' hi ht ntd ⟨v2,v3,rfl,s,e⟩
   obtain ⟨j,ej,e1,a,e2,ha⟩:=lk.get hi
   obtain ⟨key,val⟩:=kv
   dsimp only at e1 e2
   subst e1 e2
   have ntp:p ≠ t:=Cb e ht
   have had:a ≠ d:=Fe ha hd (by intro w; cases w)
   have hat:a ≠ t:=Cb (s _ _ ha) ht
   have hap:a ≠ p:=Cb ha hp
   have ep:(upd (upd H' d (.frz o (.dK kvs))) t (.tup [.int j.1,.ref a])) p = some (.dT (kW (J.take i))):=by rw [Bl ntp,Bl ndp.symm]; exact e
   have ea:(upd (upd H' d (.frz o (.dK kvs))) t (.tup [.int j.1,.ref a])) a = some (.tup ([Sum.inl j.2.1,Sum.inl j.2.2].map kV)):=by rw [Bl hat,Bl had]; exact s _ _ ha
   have et:(upd (upd H' d (.frz o (.dK kvs))) t (.tup [.int j.1,.ref a])) t = some (.tup [.int j.1,.ref a]):=Bt
   have ed:(upd (upd H' d (.frz o (.dK kvs))) t (.tup [.int j.1,.ref a])) d = some (.frz o (.dK kvs)):=by rw [Bl ntd.symm,Bt]
   have back:∀ q' u,H q' = some u->q' ≠ d->(upd (upd H' d (.frz o (.dK kvs))) t (.tup [.int j.1,.ref a])) q' = some u:=fun q' u z nz=>by
    rw [Bl (Cb (s _ _ z) ht),Bl nz]; exact s _ _ z
   show Xk _ _ _ _ _ (upd (upd H' d (.frz o (.dK kvs))) t (.tup [.int j.1,.ref a])) _
   generalize upd (upd H' d (.frz o (.dK kvs))) t (.tup [.int j.1,.ref a]) = H2 at ep ea et ed back
   have hno:Cv (kW (J.take i)) [Sum.inl j.2.1,Sum.inl j.2.2] = none:=Ane (Ug (f:=(·.2)) np ej)
   have hlen:(kW (J.take i)).length <= 400:=by unfold kW; rw [length_map,length_take]; omega
   walk_at "rd"
   refine ⟨p,_,rfl,DGet.t ep ea,?_⟩
   rw [hno]
   walk_at "rd"
   rotate_left
   ·rfl
   refine ⟨p,_,rfl,DPut.t ep ea (Gn (by omega)),?_⟩
   rw [Lc _ hno]
   refine ⟨by rw [Bl ndp]; exact ed,_,_,rfl,fun q' u z=>?_,?_⟩
   ·by_cases hq:q' = d
    ·subst hq
     rw [Bt]
     rw [hd] at z; exact z
    ·rw [Bl hq,Bl (Cb z hp)]; exact back _ _ z hq
   ·rw [Bl ndp.symm,Bt,Dv ej]
    simp [kW]
  ·rintro σ H' ⟨v2,v3,rfl,s,e⟩
   rw [lk.1,take_length] at e
   walk_at "rd"
   exact q p _ hp s e
theorem Am7 (T:Txt K mg t):Binds K t.d_qbi ["self","signs","mates","joins"] []:=T.F_qbi.binds fun _ _ _ _ _ _ us hl=>match us,hl with | [_,_,_,_],_=>rfl
theorem Ai1 (T:Txt K mg t):FnOk P w K mg base CX0 5 t.f_qbi t.d_qbi ["self","signs","mates","joins"] (Abj t.C_Book):=by
 refine T.F_qbi.ok Ai3 (fun vs H Q E h=>?_) (fun cdv A outer s H vs Q E hr h=>?_)
 ·obtain ⟨p,dx,a,b,cc,xs,ys,zs,signs,mates,J,rfl,hp,ha,hb,hc,ls,lm,lj,so,mo,nd,jo,hl,q⟩:=h
  rfl
 ·obtain ⟨p,dx,a,b,cc,xs,ys,zs,signs,mates,J,rfl,hp,ha,hb,hc,ls,lm,lj,so,mo,nd,jo,hl,q⟩:=h
  have hu:=Co hr
  have hu64:=hr.units
  refine ⟨_,(Bf (Cs (Bm (AbV T) (hr.mono (by decide)) rfl T.m_qh T.F_qh.kp (Afr T) .nil Bs (Ba (pv 1) (Ba Be Bd))))
   (Bf (Cs (Bm (AbV T) (hr.mono (by decide)) rfl T.m_qh T.F_qh.kp (Afr T) .nil Bs (Ba (pv 2) (Ba Be Bd))))
   (Bf (Cs (Bm (AbV T) (hr.mono (by decide)) rfl T.m_qh T.F_qh.kp (Afr T) .nil Bs (Ba (pv 3) (Ba Be Bd))))
   (Bf (Tz (pv 0) (Bm (Alf T) (hr.mono (by decide)) rfl T.m_qbd T.F_qbd.kp (AmO T) .nil Bs (Ba (pv 1) (Ba (pv 2) Bd))) rfl)
   (Bf (Tz (pv 0) (Bm (AkU T) (hr.mono (by decide)) rfl T.m_qbg T.F_qbg.kp (AmQ T) .nil Bs (Ba (pv 1) Bd)) rfl)
   (Bf (Tz (pv 0) (Bm (Ak9 T) (hr.mono (by decide)) rfl T.m_qbm T.F_qbm.kp (Ams T) .nil Bs (Ba (pv 2) Bd)) rfl)
   (Bf (Tz (pv 0) (Bm (Ajn T) (hr.mono (by decide)) rfl T.m_qbf T.F_qbf.kp (Amy T) .nil Bs (Ba (Wu (pv 0) rfl) (Ba (pv 3) Bd))) rfl)
   (Bi (Tz (pv 0) (Bm (Al2 T) (hr.mono (by decide)) rfl T.m_qx T.F_qx.kp (Anm T) .nil Bs (Ba (Wu (pv 0) rfl) Bd)) rfl))))))))),?_⟩
  try dsimp only [Cg,Bw]
  have nt:∀ q' zs,H q' = some (.tup zs)->q' ≠ p:=fun q' zs h=>Fe h hp (by intro z; cases z)
  have nap:a ≠ p:=Fe ha hp (by intro z; cases z)
  have nbp:b ≠ p:=Fe hb hp (by intro z; cases z)
  have ncp:cc ≠ p:=Fe hc hp (by intro z; cases z)
  have c3:∀ x ∈ xs,∃ b ys,x = V.ref b/\H b = some (.tup ys)/\((ys.length:Nat):Int) = 3:=fun x hx=>by
   obtain ⟨i,hi⟩:=getElem?_of_mem hx
   obtain ⟨s,_,q',e,h⟩:=ls.get hi
   exact ⟨q',_,e,h,rfl⟩
  have c2:∀ x ∈ ys,∃ b ys,x = V.ref b/\H b = some (.tup ys)/\((ys.length:Nat):Int) = 2:=fun x hx=>by
   obtain ⟨i,hi⟩:=getElem?_of_mem hx
   obtain ⟨s,_,q',e,h⟩:=lm.get hi
   exact ⟨q',_,e,h,rfl⟩
  have c3j:∀ x ∈ zs,∃ b ys,x = V.ref b/\H b = some (.tup ys)/\((ys.length:Nat):Int) = 3:=fun x hx=>by
   obtain ⟨i,hi⟩:=getElem?_of_mem hx
   obtain ⟨s,_,q',e,h⟩:=lj.get hi
   exact ⟨q',_,e,h,rfl⟩
  have mJ:∀ {H'},Keep p H H'->LAt TrjAt H' zs J:=fun k=>lj.mono fun x y h=>h.mono fun q' zs e=>k q' _ e (nt q' zs e)
  have mT:∀ {H'},Keep p H H'->LAt TripAt H' xs signs:=fun k=>ls.mono fun x y h=>h.mono fun q' zs e=>k q' _ e (nt q' zs e)
  have mP:∀ {H'},Keep p H H'->LAt PairAt H' ys mates:=fun k=>lm.mono fun x y h=>h.mono fun q' zs e=>k q' _ e (nt q' zs e)
  have nd1:=(nodup_append.mp nd).1
  have nd2:=(nodup_append.mp nd).2.1
  walk_at "rd"
  refine ⟨a,xs,_,rfl,ha,c3,?_⟩
  walk_at "rd"
  refine ⟨b,ys,_,rfl,hb,c2,?_⟩
  walk_at "rd"
  refine ⟨cc,zs,_,rfl,hc,c3j,?_⟩
  walk_at "rd"
  refine ⟨a,b,xs,ys,signs,mates,rfl,ha,hb,ls,lm,so,mo,nd,by omega,fun dk hk=>?_⟩
  have fk:H dk = none:=hk
  walk_at "rd"
  have k1:Keep p H (upd H dk (.dK (kK signs ++ kM mates))):=Keep.new hk
  have p1:(upd H dk (.dK (kK signs ++ kM mates))) p = some (.ins t.C_Book dx []):=by rw [Bl (Cb hp hk)]; exact hp
  have e1:(upd H dk (.dK (kK signs ++ kM mates))) dk = some (.dK (kK signs ++ kM mates)):=Bt
  generalize upd H dk (.dK (kK signs ++ kM mates)) = H1 at k1 p1 e1
  refine ⟨p,_,_,_,rfl,p1,T.cl_Book,T.n_Book_kinds,by show 0 < 1000; decide,?_⟩
  have k2:Keep p H (upd H1 p (.ins t.C_Book dx (Ce "kinds" (.ref dk) []))):=k1.trans Keep.put
  have p2:(upd H1 p (.ins t.C_Book dx (Ce "kinds" (.ref dk) []))) p = some (.ins t.C_Book dx (Ce "kinds" (.ref dk) [])):=Bt
  have e2:(upd H1 p (.ins t.C_Book dx (Ce "kinds" (.ref dk) []))) dk = some (.dK (kK signs ++ kM mates)):=by rw [Bl (Fe e1 p1 (by intro z; cases z))]; exact e1
  generalize upd H1 p (.ins t.C_Book dx (Ce "kinds" (.ref dk) [])) = H2 at k2 p2 e2
  walk_at "rd"
  refine ⟨a,xs,signs,rfl,k2 _ _ ha nap,mT k2,nd1,by omega,fun dr hk=>?_⟩
  have fr':H dr = none:=k2.free p2 hk
  walk_at "rd"
  have k3:Keep p H (upd H2 dr (.dK (kR signs))):=k2.trans (Keep.new hk)
  have p3:(upd H2 dr (.dK (kR signs))) p = some (.ins t.C_Book dx (Ce "kinds" (.ref dk) [])):=by rw [Bl (Cb p2 hk)]; exact p2
  have e3:(upd H2 dr (.dK (kR signs))) dk = some (.dK (kK signs ++ kM mates)):=by rw [Bl (Cb e2 hk)]; exact e2
  have r3:(upd H2 dr (.dK (kR signs))) dr = some (.dK (kR signs)):=Bt
  generalize upd H2 dr (.dK (kR signs)) = H3 at k3 p3 e3 r3
  refine ⟨p,_,_,_,rfl,p3,T.cl_Book,T.n_Book_ranks,Nat.lt_of_le_of_lt (Dx _ _ _) (by show 0 + 1 < 1000; decide),?_⟩
  have k4:Keep p H (upd H3 p (.ins t.C_Book dx (Ce "ranks" (.ref dr) (Ce "kinds" (.ref dk) [])))):=k3.trans Keep.put
  have p4:(upd H3 p (.ins t.C_Book dx (Ce "ranks" (.ref dr) (Ce "kinds" (.ref dk) [])))) p = some (.ins t.C_Book dx (Ce "ranks" (.ref dr) (Ce "kinds" (.ref dk) []))):=Bt
  have e4:(upd H3 p (.ins t.C_Book dx (Ce "ranks" (.ref dr) (Ce "kinds" (.ref dk) [])))) dk = some (.dK (kK signs ++ kM mates)):=by rw [Bl (Fe e3 p3 (by intro z; cases z))]; exact e3
  have r4:(upd H3 p (.ins t.C_Book dx (Ce "ranks" (.ref dr) (Ce "kinds" (.ref dk) [])))) dr = some (.dK (kR signs)):=by rw [Bl (Fe r3 p3 (by intro z; cases z))]; exact r3
  generalize upd H3 p (.ins t.C_Book dx (Ce "ranks" (.ref dr) (Ce "kinds" (.ref dk) []))) = H4 at k4 p4 e4 r4
  walk_at "rd"
  refine ⟨b,ys,mates,rfl,k4 _ _ hb nbp,mP k4,nd2,by omega,fun dm hk=>?_⟩
  have fm:H dm = none:=k4.free p4 hk
  walk_at "rd"
  have k5:Keep p H (upd H4 dm (.dK (kB mates))):=k4.trans (Keep.new hk)
  have p5:(upd H4 dm (.dK (kB mates))) p = some (.ins t.C_Book dx (Ce "ranks" (.ref dr) (Ce "kinds" (.ref dk) []))):=by rw [Bl (Cb p4 hk)]; exact p4
  have e5:(upd H4 dm (.dK (kB mates))) dk = some (.dK (kK signs ++ kM mates)):=by rw [Bl (Cb e4 hk)]; exact e4
  have r5:(upd H4 dm (.dK (kB mates))) dr = some (.dK (kR signs)):=by rw [Bl (Cb r4 hk)]; exact r4
  have m5:(upd H4 dm (.dK (kB mates))) dm = some (.dK (kB mates)):=Bt
  generalize upd H4 dm (.dK (kB mates)) = H5 at k5 p5 e5 r5 m5
  refine ⟨p,_,_,_,rfl,p5,T.cl_Book,T.n_Book_mates,Nat.lt_of_le_of_lt (Dx _ _ _) (Nat.lt_of_le_of_lt (succ_le_succ (Dx _ _ _)) (by show 0 + 1 + 1 < 1000; decide)),?_⟩
  have k6:Keep p H (upd H5 p (.ins t.C_Book dx (Ce "mates" (.ref dm) (Ce "ranks" (.ref dr) (Ce "kinds" (.ref dk) []))))):=k5.trans Keep.put
  have p6:(upd H5 p (.ins t.C_Book dx (Ce "mates" (.ref dm) (Ce "ranks" (.ref dr) (Ce "kinds" (.ref dk) []))))) p = some (.ins t.C_Book dx (Ce "mates" (.ref dm) (Ce "ranks" (.ref dr) (Ce "kinds" (.ref dk) [])))):=Bt
  have e6:(upd H5 p (.ins t.C_Book dx (Ce "mates" (.ref dm) (Ce "ranks" (.ref dr) (Ce "kinds" (.ref dk) []))))) dk = some (.dK (kK signs ++ kM mates)):=by rw [Bl (Fe e5 p5 (by intro z; cases z))]; exact e5
  have r6:(upd H5 p (.ins t.C_Book dx (Ce "mates" (.ref dm) (Ce "ranks" (.ref dr) (Ce "kinds" (.ref dk) []))))) dr = some (.dK (kR signs)):=by rw [Bl (Fe r5 p5 (by intro z; cases z))]; exact r5
  have m6:(upd H5 p (.ins t.C_Book dx (Ce "mates" (.ref dm) (Ce "ranks" (.ref dr) (Ce "kinds" (.ref dk) []))))) dm = some (.dK (kB mates)):=by rw [Bl (Fe m5 p5 (by intro z; cases z))]; exact m5
  generalize upd H5 p (.ins t.C_Book dx (Ce "mates" (.ref dm) (Ce "ranks" (.ref dr) (Ce "kinds" (.ref dk) [])))) = H6 at k6 p6 e6 r6 m6
  walk_at "rd"
  refine ⟨p,_,_,_,_,rfl,p6,T.cl_Book,T.n_Book_kinds,by rw [Da,if_neg (by decide +kernel),Da,if_neg (by decide +kernel),Da,if_pos rfl],?_⟩
  walk_at "rd"
  refine ⟨dk,cc,_,zs,J,rfl,e6,k6 _ _ hc ncp,mJ k6,jo,fun dp kvs H7 hk s7 q7 lk7=>?_⟩
  have fp:H dp = none:=k6.free p6 hk
  walk_at "rd"
  have k7:Keep p H H7:=fun q' o e n=>s7 _ _ (k6 _ _ e n)
  have p7:=s7 _ _ p6
  have e7:=s7 _ _ e6
  have r7:=s7 _ _ r6
  have m7:=s7 _ _ m6
  clear k6 p6 e6 r6 m6 s7
  refine ⟨p,_,_,_,rfl,p7,T.cl_Book,T.n_Book_pairs,Nat.lt_of_le_of_lt (Dx _ _ _) (Nat.lt_of_le_of_lt (succ_le_succ (Nat.le_trans (Dx _ _ _) (succ_le_succ (Dx _ _ _)))) (by show 0 + 1 + 1 + 1 < 1000; decide)),?_⟩
  have k8:Keep p H (upd H7 p (.ins t.C_Book dx (Ce "pairs" (.ref dp) (Ce "mates" (.ref dm) (Ce "ranks" (.ref dr) (Ce "kinds" (.ref dk) [])))))):=k7.trans Keep.put
  have p8:(upd H7 p (.ins t.C_Book dx (Ce "pairs" (.ref dp) (Ce "mates" (.ref dm) (Ce "ranks" (.ref dr) (Ce "kinds" (.ref dk) [])))))) p = some (.ins t.C_Book dx (Ce "pairs" (.ref dp) (Ce "mates" (.ref dm) (Ce "ranks" (.ref dr) (Ce "kinds" (.ref dk) []))))):=Bt
  have e8:(upd H7 p (.ins t.C_Book dx (Ce "pairs" (.ref dp) (Ce "mates" (.ref dm) (Ce "ranks" (.ref dr) (Ce "kinds" (.ref dk) [])))))) dk = some (.dK (kK signs ++ kM mates)):=by rw [Bl (Fe e7 p7 (by intro z; cases z))]; exact e7
  have r8:(upd H7 p (.ins t.C_Book dx (Ce "pairs" (.ref dp) (Ce "mates" (.ref dm) (Ce "ranks" (.ref dr) (Ce "kinds" (.ref dk) [])))))) dr = some (.dK (kR signs)):=by rw [Bl (Fe r7 p7 (by intro z; cases z))]; exact r7
  have m8:(upd H7 p (.ins t.C_Book dx (Ce "pairs" (.ref dp) (Ce "mates" (.ref dm) (Ce "ranks" (.ref dr) (Ce "kinds" (.ref dk) [])))))) dm = some (.dK (kB mates)):=by rw [Bl (Fe m7 p7 (by intro z; cases z))]; exact m7
  have q8:(upd H7 p (.ins t.C_Book dx (Ce "pairs" (.ref dp) (Ce "mates" (.ref dm) (Ce "ranks" (.ref dr) (Ce "kinds" (.ref dk) [])))))) dp = some (.dK kvs):=by rw [Bl (Fe q7 p7 (by intro z; cases z))]; exact q7
  have lk8:LAt KvAt (upd H7 p (.ins t.C_Book dx (Ce "pairs" (.ref dp) (Ce "mates" (.ref dm) (Ce "ranks" (.ref dr) (Ce "kinds" (.ref dk) [])))))) kvs J:=lk7.mono fun x y h=>h.mono fun q' zs z=>by rw [Bl (Fe z p7 (by intro z; cases z))]; exact z
  generalize upd H7 p (.ins t.C_Book dx (Ce "pairs" (.ref dp) (Ce "mates" (.ref dm) (Ce "ranks" (.ref dr) (Ce "kinds" (.ref dk) []))))) = H8 at k8 p8 e8 r8 m8 q8 lk8
  clear k7 p7 e7 r7 m7 q7 lk7
  walk_at "rd"
  refine ⟨p,_,_,_,_,rfl,p8,T.cl_Book,T.n_Book_pairs,by rw [Da,if_pos rfl],?_⟩
  walk_at "rd"
  refine ⟨dp,kvs,J,rfl,q8,lk8,jo.np,jo.ln,fun dw H9 hk s9 w9=>?_⟩
  have fw:H dw = none:=k8.free p8 hk
  walk_at "rd"
  have p9:=s9 _ _ p8
  refine ⟨p,_,_,_,rfl,p9,T.cl_Book,T.n_Book_wholes,Nat.lt_of_le_of_lt (Dx _ _ _) (Nat.lt_of_le_of_lt (succ_le_succ (Nat.le_trans (Dx _ _ _) (succ_le_succ (Nat.le_trans (Dx _ _ _) (succ_le_succ (Dx _ _ _)))))) (by show 0 + 1 + 1 + 1 + 1 < 1000; decide)),?_⟩
  refine q _ kvs dx dk dr dm dp dw (fun q' o e n=>by rw [Bl n]; exact s9 _ _ (k8 _ _ e n)) fk fr' fm fp fw Bt ?_ ?_ ?_ ?_ ?_ ?_
  ·rw [Bl (Fe e8 p8 (by intro z; cases z))]; exact s9 _ _ e8
  ·rw [Bl (Fe r8 p8 (by intro z; cases z))]; exact s9 _ _ r8
  ·rw [Bl (Fe m8 p8 (by intro z; cases z))]; exact s9 _ _ m8
  ·rw [Bl (Fe q8 p8 (by intro z; cases z))]; exact s9 _ _ q8
  ·rw [Bl (Fe w9 p9 (by intro z; cases z))]; exact w9
  ·exact lk8.mono fun x y h=>h.mono fun q' zs z=>by rw [Bl (Fe z p8 (by intro z; cases z))]; exact s9 _ _ z
local macro_rules | `(tactic| walk_at "u")=>`(tactic| with_reducible refine Adb (by assumption) ?_)
local macro_rules | `(tactic| walk_at "u")=>`(tactic| with_reducible refine AaF (by assumption) AaV ?_)
theorem Ahd (T:Txt K mg t):Binds K t.d_qbj ["self","sign"] []:=T.F_qbj.binds fun _ _ _ _ _ _ us hl=>match us,hl with | [_,_],_=>rfl
theorem AdY (T:Txt K mg t):FnOk P w K mg base CX0 2 t.f_qbj t.d_qbj ["self","sign"] (Xs t.C_Book):=by
 refine T.F_qbj.ok Ajx (fun vs H Q E h=>?_) (fun cdv A outer s H vs Q E hr h=>?_)
 ·obtain ⟨b,n,k,r,m,p,w,rfl,⟨dx,dk,dr,dm,dp,dw,h1,h2,h3,h4,h5,h6⟩,q⟩:=h
  rfl
 ·obtain ⟨b,n,k,r,m,p,w,rfl,⟨dx,dk,dr,dm,dp,dw,h1,h2,h3,h4,h5,h6⟩,q⟩:=h
  have hu:=Co hr
  have hu64:=hr.units
  refine ⟨_,(Bi (Cd (Bm (Xh T) (hr.mono (by decide)) rfl T.m_qbc T.F_qbc.kp (Zp T) .nil Bs (Ba (Wu (pv 0) rfl) (Ba (pv 1) Bd))))),?_⟩
  try dsimp only [Cg,Bw]
  walk_at "rd"
  refine ⟨b,_,_,_,_,rfl,h1,T.cl_Book,T.n_Book_kinds,AeK,?_⟩
  walk_at "rd"
  exact q
local macro_rules | `(tactic| walk_at "u")=>`(tactic| with_reducible refine u_sp_mate (by assumption) ?_)
local macro_rules | `(tactic| walk_at "u")=>`(tactic| with_reducible refine AaF (by assumption) Aae ?_)
theorem AmD (T:Txt K mg t):Binds K t.d_qbk ["self","sign"] []:=T.F_qbk.binds fun _ _ _ _ _ _ us hl=>match us,hl with | [_,_],_=>rfl
theorem Ai0 (T:Txt K mg t):FnOk P w K mg base CX0 1 t.f_qbk t.d_qbk ["self","sign"] (Abz t.C_Book):=by
 refine T.F_qbk.ok AlL (fun vs H Q E h=>?_) (fun cdv A outer s H vs Q E hr h=>?_)
 ·obtain ⟨b,n,k,r,m,p,w,rfl,⟨dx,dk,dr,dm,dp,dw,h1,h2,h3,h4,h5,h6⟩,q⟩:=h
  rfl
 ·obtain ⟨b,n,k,r,m,p,w,rfl,⟨dx,dk,dr,dm,dp,dw,h1,h2,h3,h4,h5,h6⟩,q⟩:=h
  have hu:=Co hr
  have hu64:=hr.units
  refine ⟨_,(Bi (Cd (Afp hu (Wu (pv 0) rfl) (pv 1) ⟨rfl,rfl,rfl,rfl⟩))),?_⟩
  try dsimp only [Cg,Bw]
  walk_at "rd"
  refine ⟨b,_,_,_,_,rfl,h1,T.cl_Book,T.n_Book_mates,Aeh,?_⟩
  walk_at "rd"
  exact q
def Ac1 (K:Frag) (C:Addr):Sp:=fun vs H Q _=>∃ b l U M r m p w ts,vs = [.ref b,.ref l]/\BookAt C H b (kK U ++ kM M) r m p w/\SqL K H l (map V.int ts)/\ts.length <= 300 /\
 ∀ (wl:Addr) (xs:List V) (H':Hp),H wl = none->Same H H'->(∀ x ∈ xs,∃ p,x = V.ref p/\H p = none)->LLat H' wl xs (grp (Df U M) ts)->Q (.ref wl) H'
-- EU_WOF
def Ah4:PSp:=fun ps P=>∃ U M J ts,ps = [.bk U M J,.lst (map .int ts)]/\ts.length <= 300/\P (.lst (map (fun g=>PV.lst (map .int g)) (grp (Df U M) ts)))
theorem Aav {C:Addr} {ω:Om} {E:XK} {m n:Bool} {t:TA} {u:UA} (ha:AU K C ω [m,n] t u):EU K C ω (Ll (Ac1 K C) [] E t) (Su Ah4 u) :=
 fun B G0 H0 own G σ H ρ P Q S hu k=>ha B G0 H0 own G σ H ρ _ _ S hu fun vs ps G1 H1 w1 ok ⟨U,M,J,ts,e,hl,h⟩=>by
  obtain ⟨v,w,p,q,rfl,e2,r1,r2⟩:=Tq ok
  rw [e] at e2; cases e2
  obtain ⟨b,kvs,rfl,bk,_⟩:=r1.bk
  obtain ⟨a,xs,rfl,ea,l⟩:=r2.lst w1.i
  rw [Rh l] at ea
  refine ⟨b,a,U,M,_,_,_,_,ts,rfl,bk.mono fun _ _ e _=>w1.i _ _ e,SqL.of ea,hl,fun wl xs H2 hwl s2 fx ll=>?_⟩
  refine k _ _ _ H2 (w1.trans (No w1.i s2)) (Rep.ofL (Ff hwl ll.li) ⟨by rw [ll.at'.1,length_map],fun i x y hx hy=>?_⟩) h
  rw [getElem?_map] at hy
  obtain ⟨g,hg,rfl⟩:=map_eq_some_iff.mp hy
  obtain ⟨p,e1,hp⟩:=ll.at'.2 i x g hx hg
  obtain ⟨p',e2,hn⟩:=fx x (mem_of_getElem? hx)
  subst e1
  cases e2
  exact Rep.ofL (Ff hn hp) (Fi g)
theorem Ab5 (T:Txt K mg t):Binds K t.d_qbv ["book","text"] []:=T.F_qbv.binds fun _ _ _ _ _ _ us hl=>match us,hl with | [_,_],_=>rfl
theorem Aaf (T:Txt K mg t):FnOk P w K mg base CX0 3 t.f_qbv t.d_qbv ["book","text"] (Ac1 K t.C_Book):=by
 refine T.F_qbv.ok sc_qbv (fun vs H Q E h=>?_) (fun cdv A outer s H vs Q E hr h=>?_)
 ·obtain ⟨b,l,U,M,r,m,pp,w,ts,rfl,hB,hT,hl,q⟩:=h
  rfl
 ·obtain ⟨b,l,U,M,r,m,pp,w,ts,rfl,hB,hT,hl,q⟩:=h
  have hu:=Co hr
  have hu64:=hr.units
  refine ⟨_,(Bf (Bu (i:=2) sc_qbv.nd rfl (Or.inl rfl) (Cr Bd))
   (Bf (Dl PassesOwn.never rfl (Dd (pv 1)) (By (i:=3) sc_qbv.nd rfl (Or.inl rfl))
    (Bf (De (PW.pt (Rn (Cf Dq (Ct (Qn) rfl T.z_len PySem.boot_len (Ba (pv 2) Bd)) Be (Ck _)) (Qq (Cf Vi (Xq (pv 0) T.cl_Book T.M_qbj (AdY T) (hr.mono (by decide)) (Ahd T) .nil Bs (Ba (pv 3) Bd)) Bx (Ck _)))))
    (Bi (Cs (Fv plainAttrs_list PySem.F.slot_list_append PySem.F.type_list_append Dn (pv 2) (Ba (Cr Bd) Bd))))
    Cy)
   (Bi (Cs (Fv plainAttrs_list PySem.F.slot_list_append PySem.F.type_list_append Dn (Cl (Ya) (pv 2) (Ra Ls Be) (fun _ _=>rfl)) (Ba (pv 3) Bd))))))
   (Bi (Cd (pv 2))))),?_⟩
  try dsimp only [Cg,Bw]
  walk_at "rd"
  refine ⟨by decide,fun wl H0 hwl s0 e0=>?_⟩
  walk_at "rd"
  refine Ly (i:=1) rfl (s0.seq hT) (fun i σ H'=>∃ v3 xs,σ = [some (.ref b),some (.ref l),some (.ref wl),v3]/\Same H H'/\(∀ x ∈ xs,∃ p,x = V.ref p/\H p = none)/\LLat H' wl xs (grp (Df U M) (ts.take i))) ⟨none,[],rfl,s0,(fun x h=>by cases h),⟨e0,LAt.nil,nodup_nil,by simp⟩⟩ (fun i σ H' _ ⟨_,_,_,s,_⟩=>s.seq hT) ?_ ?_
  ·rintro i x σ H' hi ⟨v3,xs,rfl,s,fx,ll⟩
   obtain ⟨n,en,rfl⟩:=AaU hi
   have hlt:=(List.getElem?_eq_some_iff.mp en).1
   have eg:grp (Df U M) (ts.take (i + 1)) = Ro (Df U M) (grp (Df U M) (ts.take i)) n:=by rw [Dv en,AaA]
   have hli:=ll.li
   have hxl:xs.length <= 300:=by
    have:=(Gm (Df U M) (ts.take i)).ln
    rw [<- ll.at'.1,length_take] at this
    omega
   have hB':=hB.mono (H':=H') fun _ _ e _=>s _ _ e
   walk_at "rd"
   refine Yg (fun h=>?_) (fun h=>?_)
   ·have hz:grp (Df U M) (ts.take i) = []\/Df U M n = false:=.inl (List.eq_nil_of_length_eq_zero (by
     have h':((xs.length:Nat):Int) = 0:=of_decide_eq_true h
     rw [<- ll.at'.1]; omega))
    refine Ji ?_
    walk_at "rd"
    refine ⟨by decide,fun p H2 hp s2 e2=>?_⟩
    walk_at "rd"
    walk_at "rd"
    refine Gd (s2 _ _ hli) (Gn (by omega)) fun H3 c3 e3=>?_
    have npw:p ≠ wl:=(Cb hli hp).symm
    have e2':=c3 _ _ e2 npw
    walk_at "rd"
    refine Zz (SqL.of e3) ?_ (Gy _ _)
    walk_at "rd"
    walk_at "rd"
    refine Gd e2' (by decide) fun H4 c4 e4=>?_
    walk_at "rd"
    refine ⟨_,_,rfl,((s.trans s2).chg c3 hwl).chg c4 (s.free hp),fun x hx=>?_,by rw [eg,Tr (by assumption)]; exact ll.push hp s2 c3 e3 c4 e4⟩
    rcases mem_append.mp hx with w | w
    ·exact fx x w
    ·exact ⟨p,mem_singleton.mp w,s.free hp⟩
   ·have h':¬ ((xs.length:Nat):Int) = 0:=fun z=>h (decide_eq_true z)
    walk_at "rd"
    rw [Ahm]
    walk_at "rd"
    refine Yg (fun h2=>?_) (fun h2=>?_)
    ·have hz:grp (Df U M) (ts.take i) = []\/Df U M n = false:=.inr (by
      unfold Df
      simpa using h2)
     walk_at "rd"
     refine ⟨by decide,fun p H2 hp s2 e2=>?_⟩
     walk_at "rd"
     walk_at "rd"
     refine Gd (s2 _ _ hli) (Gn (by omega)) fun H3 c3 e3=>?_
     have npw:p ≠ wl:=(Cb hli hp).symm
     have e2':=c3 _ _ e2 npw
     walk_at "rd"
     refine Zz (SqL.of e3) ?_ (Gy _ _)
     walk_at "rd"
     walk_at "rd"
     refine Gd e2' (by decide) fun H4 c4 e4=>?_
     walk_at "rd"
     refine ⟨_,_,rfl,((s.trans s2).chg c3 hwl).chg c4 (s.free hp),fun x hx=>?_,by rw [eg,Tr (by assumption)]; exact ll.push hp s2 c3 e3 c4 e4⟩
     rcases mem_append.mp hx with w | w
     ·exact fx x w
     ·exact ⟨p,mem_singleton.mp w,s.free hp⟩
    ·have hm:Df U M n = true:=by
      unfold Df
      simpa using h2
     obtain ⟨xs',p,gs',g,rfl,eg',hp⟩:=ll.last (fun z=>h' (by rw [ll.at'.1,z]; rfl))
     rw [eg'] at ll eg
     have hgl:g.length <= 300:=by
      have z:=(Gm (Df U M) (ts.take i)).fl
      rw [eg'] at z
      have:=congrArg length z
      simp at this
      omega
     walk_at "rd"
     refine Zz (SqL.of hli) ?_ (Gy _ _)
     walk_at "rd"
     walk_at "rd"
     refine Gd hp (Gn (by rw [length_map]; omega)) fun H4 c4 e4=>?_
     walk_at "rd"
     have fp:H p = none:=by
      obtain ⟨p',e,z⟩:=fx _ (mem_append_right _ mem_cons_self)
      cases e; exact z
     exact ⟨_,_,rfl,s.chg c4 fp,fx,by rw [eg,Vm hm]; exact ll.add c4 e4⟩
  ·rintro σ H' ⟨v3,xs,rfl,s,fx,ll⟩
   rw [length_map,take_length] at ll
   walk_at "rd"
   exact q wl xs H' hwl s fx ll
def Akx:PSp:=fun ps P=>∃ U M J n r,ps = [.bk U M J,.lst (map .int (n :: r))]/\P (.str (knW U M (n :: r)))
theorem AlT (T:Txt K mg t):Binds K t.d_qe ["book","whole"] []:=T.F_qe.binds fun _ _ _ _ _ _ us hl=>match us,hl with | [_,_],_=>rfl
theorem Ahy (T:Txt K mg t):FnOk P w K mg base CX0 3 t.f_qe t.d_qe ["book","whole"] (spOf K t.C_Book [false,false] .sh Akx):=by
 refine T.F_qe.ok sc_qe (fun vs H Q E h=>h.len) (fun cdv A outer s H vs Q E hr h=>?_)
 have hu:=Co hr
 have hu64:=hr.units
 refine ⟨_,(Bf (Bu (i:=2) sc_qe.nd rfl (Or.inl rfl) (Xq (pv 0) T.cl_Book T.M_qbj (AdY T) (hr.mono (by decide)) (Ahd T) .nil Bs (Ba (Cl (Cu K) (pv 1) Be (fun _ _=>rfl)) Bd)))
   (Bf (De (Cf Dq (pv 2) Bx (Ck _))
    (Bi (Cd Bx))
    Cy)
   (Bi (Cd (pv 2))))),?_⟩
 try dsimp only [Cg,Bw]
 refine Cm h (by decide) (Br (Cc (Ah8 Bb (EU.eb (Do Bb (EU.eb Bg)))))
   (Br (Dp (Cw (EU.eb (Fb Bb (EU.eb Ch))))
    (Dm Ch)
    Dg)
   (Dm Bv))) (fun ps P hp=>?_)
 clear h hu hu64 hr
 obtain ⟨U,M,J,n,r,rfl,q⟩:=hp
 walk_at "s"
 walk_at "pr"
 refine Fp (l:=n :: r) (j:=0) (a:=n) rfl rfl ?_
 walk_at "pr"
 refine Yg (fun h=>?_) (fun h=>?_)
 ·walk_at "pr"
  have e:knW U M (n :: r) = "plain":=if_pos h
  rw [e] at q
  exact q
 ·walk_at "pr"
  have e:knW U M (n :: r) = Li U M n:=if_neg h
  rw [e] at q
  exact q
def Aeo:PSp:=fun ps P=>∃ U M J ts,ps = [.bk U M J,.lst (map .int ts)]/\ts.length <= 300/\P (.lst (map (fun w=>PV.str (knW U M w)) (grp (Df U M) ts)))
theorem Zs (T:Txt K mg t):Binds K t.d_qby ["book","text"] []:=T.F_qby.binds fun _ _ _ _ _ _ us hl=>match us,hl with | [_,_],_=>rfl
theorem Xc (T:Txt K mg t):FnOk P w K mg base CX0 4 t.f_qby t.d_qby ["book","text"] (spOf K t.C_Book [false,false] .fr Aeo):=by
 refine T.F_qby.ok Alk (fun vs H Q E h=>h.len) (fun cdv A outer s H vs Q E hr h=>?_)
 have hu:=Co hr
 have hu64:=hr.units
 refine ⟨_,(Bi (Cd (Jp 1 [0] ["whole","book"] ["book"] rfl (Dd (Bm (Aaf T) (hr.mono (by decide)) rfl T.m_qbv T.F_qbv.kp (Ab5 T) .nil Bs (Ba (pv 0) (Ba (pv 1) Bd)))) rfl (fun j y e1 i e2=>match j,e1,e2 with | 0,e1,e2=>by cases e1; cases e2; exact ⟨rfl,rfl,rfl,by decide +kernel⟩ | _ + 1,_,e2=>by simp at e2) (forall_mem_cons.mpr ⟨rfl,fun _ h=>nomatch h⟩) (by decide +kernel) (fun _ _ _ _=>(By (i:=0) (show Nodup (["whole","book"]:List Str) by decide +kernel) rfl (Or.inl rfl))) (fun _ _ _ _=>Gr) (fun _ _ _ _=>(Bm (Ahy T) (hr.mono (by decide)) rfl T.m_qe T.F_qe.kp (AlT T) .nil Bs (Ba (pv 1) (Ba (pv 0) Bd)))) rfl (by decide +kernel) rfl (by decide +kernel)))),?_⟩
 try dsimp only [Cg,Bw]
 refine Cm h (by decide) (Je (Fr (EU.eb (Aav (Bo Bb (Bo Bb Bh)))) (Cn (top:=1)) Ja (Ci (Bo Bb (Bo Bb Bh))))) (fun ps P hp=>?_)
 clear h hu hu64 hr
 obtain ⟨U,M,J,ts,rfl,hl,q⟩:=hp
 walk_at "s"
 have gl:=(Gm (Df U M) ts).ln
 walk_at "pr"
 refine ⟨U,M,J,ts,rfl,hl,?_⟩
 walk_at "pr"
 refine ⟨by rw [length_map]; omega,?_⟩
 refine Fj (f:=fun w:List Int=>some (.str (knW U M w))) ?_ (fun d hd Z hZ=>?_)
 rotate_left
 ·obtain ⟨n,r,rfl,hr⟩:=(Gm (Df U M) ts).ne d hd
  walk_at "pr"
  refine ⟨U,M,J,n,r,rfl,?_⟩
  exact hZ
 rw [show (grp (Df U M) ts).filterMap (fun w=>some (PV.str (knW U M w))) = (grp (Df U M) ts).map fun w=>PV.str (knW U M w) from congrFun (List.filterMap_eq_map (f:=fun w=>PV.str (knW U M w))) _]
 exact q
theorem Tx {C:Addr} {G:Hp} (T:Txt K mg t):Rep K C G (.ref t.a_BEGINNINGS) (.ctp [.str "forein",.str "backin"]):=.ctp T.q_BEGINNINGS rfl fun i v p h1 h2=>by
 match i,h1,h2 with
 | 0,h1,h2=>cases h1; cases h2; exact .str _
 | 1,h1,h2=>cases h1; cases h2; exact .str _
 | _ + 2,h1,_=>simp at h1
theorem AcB (T:Txt K mg t):Binds K t.d_qce ["book","text"] []:=T.F_qce.binds fun _ _ _ _ _ _ us hl=>match us,hl with | [_,_],_=>rfl
theorem AaQ (T:Txt K mg t):FnOk P w K mg base CX0 5 t.f_qce t.d_qce ["book","text"] (spOf K t.C_Book [false,false] .sh Aja):=by
 refine T.F_qce.ok sc_qce (fun vs H Q E h=>h.len) (fun cdv A outer s H vs Q E hr h=>?_)
 have hu:=Co hr
 have hu64:=hr.units
 refine ⟨_,(Bf (Bu (i:=2) sc_qce.nd rfl (Or.inl rfl) Be)
   (Bf (Dl PassesOwn.never rfl (Dd (Bm (Xc T) (hr.mono (by decide)) rfl T.m_qby T.F_qby.kp (Zs T) .nil Bs (Ba (pv 0) (Ba (pv 1) Bd)))) (By (i:=3) sc_qce.nd rfl (Or.inl rfl))
    (Bi (De (Cf (Nx K) (pv 3) (Qd (v:=.ref t.a_BEGINNINGS) rfl T.g_BEGINNINGS rfl) rfl)
    (Bi (Aa1 (i:=2) sc_qce.nd rfl (Or.inl rfl) Be Adq))
    (Bi (De (Cf Dq (pv 3) Bx (Ck _))
    (Bi (Bu (i:=2) sc_qce.nd rfl (Or.inl rfl) (Ct (AdN rfl) rfl T.z_max boot_max (Ba Be (Ba (Ca Lz (pv 2) Be) Bd)))))
    (Bi (De (PW.pt (Qv (Cf Dq (pv 2) Be (Ck _)) (Lf (Cf Dq (pv 3) Bx (Ck _)))))
    (Bi (Cd Be))
    (Bi (De (PW.pt (Qv (Cf Dq (pv 2) Be (Ck _)) (Lf (Cf Dq (pv 3) Bx (Ck _)))))
    (Bi (Cd Be))
    Cy)))))))))
   (Bi (Cd Be)))),?_⟩
 try dsimp only [Cg,Bw]
 refine Cm h (by decide) (Br (Cc Bg)
   (Br (Ww (EF.eu (Dk (Bo Bb (Bo Bb Bh)))) (Cn (top:=4))
    (Dp (Cw (EU.eb (Wy Bv (EU.eb (Vs fun G=>Tx T)))))
    (Aaw (EU.eb Bg))
    (Dp (Cw (EU.eb (Fb Bb (EU.eb Ch))))
    (Cc (Ale (Bo (EU.eb Bg) (Bo (EU.eb (Dc (fun _ _ _=>.int _) Bb (EU.eb Bg))) Bh))))
    (Dp (Qo (Cw (EU.eb (Fb Bb (EU.eb Bg)))) (Cw (EU.eb (Fb Bb (EU.eb Ch)))))
    (Dm Bg)
    (Dp (Qo (Cw (EU.eb (Fb Bb (EU.eb Bg)))) (Cw (EU.eb (Fb Bb (EU.eb Ch)))))
    (Dm Bg)
    Dg)))))
   (Dm Bg))) (fun ps P hp=>?_)
 clear h hu hu64 hr
 obtain ⟨U,M,J,ts,rfl,hl,q⟩:=hp
 walk_at "s"
 walk_at "pr"
 refine ⟨U,M,J,ts,rfl,hl,?_⟩
 rw [show (map (fun w=>PV.str (knW U M w)) (grp (Df U M) ts)) = (knL U M ts).map .str by unfold knL; rw [map_map]; rfl]
 generalize knL U M ts = kn at q
 walk_at "pr"
 refine ⟨fun k ρ=>∃ (d:Nat) (v3:Sl),ρ = [.bo (.bk U M J),.bo (.lst (map .int ts)),.sh (.int d),v3]/\obF d (kn.drop k) = obF 0 kn,⟨0,_,rfl,rfl⟩,?_,?_⟩
 ·rintro k p ρ hp ⟨d,v3,rfl,ho⟩
  rw [getElem?_map] at hp
  obtain ⟨w,hk,rfl⟩:=map_eq_some_iff.mp hp
  have hkl:k < kn.length:=(List.getElem?_eq_some_iff.mp hk).1
  have ed:kn.drop k = w :: kn.drop (k + 1):=by
   rw [drop_eq_getElem_cons hkl]
   rw [getElem?_eq_getElem hkl] at hk
   rw [Option.some.inj hk]
  rw [ed,obF] at ho
  walk_at "pr"
  refine Aal (L:=bgK) (x:=w) ?_
  walk_at "pr"
  by_cases h1:w ∈ bgK
  ·rw [decide_eq_true h1]
   rw [if_pos h1] at ho
   walk_at "pr"
   exact ⟨d + 1,_,by rw [Int.natCast_add]; rfl,ho⟩
  rw [decide_eq_false h1]
  rw [if_neg h1] at ho
  walk_at "pr"
  by_cases h2:w = "out"
  ·rw [decide_eq_true h2]
   rw [if_pos h2] at ho
   walk_at "pr"
   refine ⟨d - 1,.sh (.str w),?_,ho⟩
   have ez:(if (d:Int) - 1 > 0 then (d:Int) - 1 else 0) = ((d - 1:Nat):Int):=by split <;> omega
   have ez2:max (0:Int) ((d:Int) - 1) = ((d - 1:Nat):Int):=by omega
   first | rw [ez] | rw [ez2] | (rw [show (if (0:Int) < (d:Int) - 1 then (d:Int) - 1 else 0) = ((d - 1:Nat):Int) from ez])
  rw [decide_eq_false h2]
  rw [if_neg h2] at ho
  walk_at "pr"
  by_cases hd:d = 0
  ·rw [decide_eq_true (by omega)]
   subst hd
   walk_at "pr"
   by_cases hb:w = "back"
   ·rw [decide_eq_true hb]
    rw [if_pos ⟨rfl,hb⟩] at ho
    walk_at "pr"
    rw [<- ho] at q
    exact q
   rw [decide_eq_false hb]
   rw [if_neg (fun z=>hb z.2)] at ho
   walk_at "pr"
   rw [decide_eq_true (show ((0:Nat):Int) = 0 from rfl)]
   walk_at "pr"
   by_cases hb2:w = "fore"
   ·rw [decide_eq_true hb2]
    rw [if_pos ⟨rfl,hb2⟩] at ho
    walk_at "pr"
    rw [<- ho] at q
    exact q
   rw [decide_eq_false hb2]
   rw [if_neg (fun z=>hb2 z.2)] at ho
   walk_at "pr"
   exact ⟨0,_,rfl,ho⟩
  ·rw [decide_eq_false (by omega)]
   rw [if_neg (fun z=>hd z.1),if_neg (fun z=>hd z.1)] at ho
   walk_at "pr"
   rw [decide_eq_false (by omega)]
   walk_at "pr"
   exact ⟨d,_,rfl,ho⟩
 rintro ρ ⟨d,v3,rfl,ho⟩
 rw [length_map,drop_length,obF] at ho
 walk_at "pr"
 rw [<- ho] at q
 exact q
def opP:Option Int->PV
 | none=>.non
 | some l=>.int l
def Akm:PSp:=fun ps P=>∃ k l m,ps = [.str k,.int l,.int m]/\P (opP (lvF k l m))
theorem Anx (T:Txt K mg t):Binds K t.d_qn ["kind","level","most"] []:=T.F_qn.binds fun _ _ _ _ _ _ us hl=>match us,hl with | [_,_,_],_=>rfl
theorem AmK (T:Txt K mg t):FnOk P w K mg base CX0 1 t.f_qn t.d_qn ["kind","level","most"] (spOf K t.C_Book [false,false,false] .sh Akm):=by
 refine T.F_qn.ok sc_qn (fun vs H Q E h=>h.len) (fun cdv A outer s H vs Q E hr h=>?_)
 have hu:=Co hr
 have hu64:=hr.units
 refine ⟨_,(Bf (Bu (i:=3) sc_qn.nd rfl (Or.inl rfl) (Gi (Cf Dq (pv 0) Bx (Ck _)) Be Be))
   (Bf (Bu (i:=4) sc_qn.nd rfl (Or.inl rfl) (Ca Dz (pv 1) Be))
   (Bf (De (Cf Vi (Ca Dr (pv 4) Be) (pv 3) (Ck _))
    (Bi (Aa1 (i:=4) sc_qn.nd rfl (Or.inl rfl) Be Adq))
    Cy)
   (Bi (Cd (Gi (Cf AcG (pv 4) (pv 2) (Ck _)) (pv 4) Rr)))))),?_⟩
 try dsimp only [Cg,Bw]
 refine Cm h (by decide) (Br (Cc (Ov (Cw (EU.eb (Fb Bb (EU.eb Ch)))) Bg Bg))
   (Br (Cc (Dc (fun _ _ _=>.int _) Bb (EU.eb Bg)))
   (Br (Dp (Cw (EU.eb (Aab (EU.eb (Dh (fun _ _ _=>.int _) Bb (EU.eb Bg))) Bb)))
    (Aaw (EU.eb Bg))
    Dg)
   (Dm (Ov (Cw (EU.eb (Dc (fun _ _ _=>.bl _) Bb Bb))) Bv Rw))))) (fun ps P hp=>?_)
 clear h hu hu64 hr
 obtain ⟨k,l,m,rfl,q⟩:=hp
 walk_at "s"
 walk_at "px"
 refine Jr (fun ρ=>ρ = [.bo (.str k),.bo (.int l),.bo (.int m),.sh (.int (if k = "forein" then 0 else 1)),.un]) (fun ρ h=>?_) ?_
 rotate_left
 ·walk_at "pr"
  by_cases h1:k = "forein"
  ·rw [decide_eq_true h1,if_pos h1]
   walk_at "pr"
   exact .inl rfl
  ·rw [decide_eq_false h1,if_neg h1]
   walk_at "pr"
   exact .inl rfl
 subst h
 unfold lvF at q
 generalize (if k = "forein" then (0:Int) else 1) = r at q
 walk_at "px"
 refine Gg ?_
 walk_at "px"
 refine Jr (fun ρ=>ρ = [.bo (.str k),.bo (.int l),.bo (.int m),.sh (.int r),.sh (.int (if (l + 1) % 2 = r then l + 1 else l + 2))]) (fun ρ h=>?_) ?_
 rotate_left
 ·walk_at "pr"
  all_goals try decide
  by_cases h1:(l + 1) % 2 = r
  ·rw [decide_eq_true h1,if_pos h1]
   walk_at "pr"
   exact .inl rfl
  ·rw [decide_eq_false h1,if_neg h1]
   walk_at "pr"
   exact .inl (by rw [Int.add_assoc]; rfl)
 subst h
 generalize (if (l + 1) % 2 = r then l + 1 else l + 2) = z at q
 walk_at "pr"
 by_cases h1:z <= m
 ·rw [decide_eq_true h1]
  rw [if_pos h1] at q
  walk_at "pr"
  exact q
 ·rw [decide_eq_false h1]
  rw [if_neg h1] at q
  walk_at "pr"
  exact q
def nPn (L n:Nat) (x:Nst):PV:=.tup [.int x.1,.int (if x.2.1 < n then x.2.1 else L:Nat),opP x.2.2]
def nP (x:Nst):PV:=.tup [.int x.1,.int x.2.1,opP x.2.2]
theorem Vg {n j:Nat} (h:j < n):ixN n (j:Int) = some j:=by
 unfold ixN
 rw [if_pos (show (0:Int) <= (j:Int) by omega),if_pos (show (j:Int) < (n:Int) by omega),toNat_natCast]
theorem AeE {L n:Nat} {D:List Nst} (h:∀ x ∈ D,x.2.1 = n->False):D.map (nPn L n) = D.map (nPn L (n + 1)):=List.map_congr_left fun x hx=>by
 unfold nPn
 have:¬ x.2.1 = n:=h x hx
 by_cases z:x.2.1 < n
 ·rw [if_pos z,if_pos (by omega)]
 ·rw [if_neg z,if_neg (by omega)]
theorem AhL {kn:List Str} {b m:Int} {L n:Nat} {s:Nat × Nst} (hs:(dF kn b m n)[s.1]? = some s.2) (es:s.2.2.1 = n) (one:∀ x ∈ dF kn b m n,x.2.1 = n->x = s.2) :
  ((dF kn b m n).map fun x:Nst=>PV.tup [.int x.1,.int (if x.2.1 < n then x.2.1 else L:Nat),opP x.2.2]).set s.1 (.tup [.int s.2.1,.int n,opP s.2.2.2]) = (dF kn b m n).map (nPn L (n + 1)):=by
 refine ext_getElem? fun i=>?_
 rw [getElem?_set,getElem?_map,getElem?_map,length_map]
 by_cases z:s.1 = i
 ·subst z
  have:=(List.getElem?_eq_some_iff.mp hs).1
  rw [if_pos rfl,if_pos this,hs]
  show _ = some (PV.tup [.int s.2.1,.int ((if s.2.2.1 < n + 1 then s.2.2.1 else L:Nat):Int),opP s.2.2.2])
  rw [if_pos (show s.2.2.1 < n + 1 by omega),es]
 ·rw [if_neg z]
  cases e:(dF kn b m n)[i]? with
  | none=>rfl
  | some x =>
   have ne:¬ x.2.1 = n:=fun h=>by
    have:=one x (mem_of_getElem? e) h
    subst this
    exact z (Ala hs e rfl)
   show some (PV.tup [.int x.1,.int ((if x.2.1 < n then x.2.1 else L:Nat):Int),opP x.2.2]) = some (PV.tup [.int x.1,.int ((if x.2.1 < n + 1 then x.2.1 else L:Nat):Int),opP x.2.2])
   by_cases w:x.2.1 < n
   ·rw [if_pos w,if_pos (by omega)]
   ·rw [if_neg w,if_neg (by omega)]
def wP (w:Nat × Int):PV:=.tup [.int w.1,.int w.2]
def AhJ:PSp:=fun ps P=>∃ U M J ts b m,ps = [.bk U M J,.lst (map .int ts),.int b,.int m]/\ts.length <= 300/\P (.lst ((dF (knL U M ts) b m (knL U M ts).length).map nP))
theorem AlX (T:Txt K mg t):Binds K t.d_qcd ["book","text","base","most"] [t.v_nests_of_0]:=T.F_qcd.binds 3 rfl fun _ _ _ _ _ _ us hl=>match us,hl with | [_,_,_],_=>⟨_,rfl,rfl⟩
theorem Am0 (T:Txt K mg t):Binds K t.d_qcd ["book","text","base","most"] []:=T.F_qcd.binds 4 rfl fun _ _ _ _ _ _ us hl=>match us,hl with | [_,_,_,_],_=>⟨_,rfl,rfl⟩
theorem AlI (T:Txt K mg t):FnOk P w K mg base CX0 5 t.f_qcd t.d_qcd ["book","text","base","most"] (spOf K t.C_Book [false,false,true,false] .fr AhJ):=by
 refine T.F_qcd.ok sc_qcd (fun vs H Q E h=>h.len) (fun cdv A outer s H vs Q E hr h=>?_)
 have hu:=Co hr
 have hu64:=hr.units
 refine ⟨_,(Bf (Bu (i:=4) sc_qcd.nd rfl (Or.inl rfl) (Bm (Xc T) (hr.mono (by decide)) rfl T.m_qby T.F_qby.kp (Zs T) .nil Bs (Ba (pv 0) (Ba (pv 1) Bd))))
   (Bf (Bu (i:=5) sc_qcd.nd rfl (Or.inl rfl) (Cr Bd))
   (Bf (Bu (i:=6) sc_qcd.nd rfl (Or.inl rfl) (Cr Bd))
   (Bf (Bu (i:=7) sc_qcd.nd rfl (Or.inl rfl) (pv 2))
   (Bf (Dl PassesOwn.never rfl (Rq (pv 4) rfl T.z_enumerate) (Gp (K':=K) (n:=2) rfl rfl (Cq (By (i:=8) sc_qcd.nd rfl (Or.inl rfl)) (Cq (By (i:=9) sc_qcd.nd rfl (Or.inl rfl)) Fh)))
    (Bi (De (Cf (Nx K) (pv 9) (Qd (v:=.ref t.a_BEGINNINGS) rfl T.g_BEGINNINGS rfl) rfl)
    (Bf (Cs (Fv plainAttrs_list PySem.F.slot_list_append PySem.F.type_list_append Dn (pv 6) (Ba (Dt (Ba (Ct (Cp K) rfl T.z_len PySem.boot_len (Ba (pv 5) Bd)) (Ba (pv 7) Bd))) Bd)))
   (Bf (Bu (i:=10) sc_qcd.nd rfl (Or.inl rfl) (Bm (AmK T) (hr.mono (by decide)) rfl T.m_qn T.F_qn.kp (Anx T) .nil Bs (Ba (pv 9) (Ba (pv 7) (Ba (pv 3) Bd)))))
   (Bf (Cs (Fv plainAttrs_list PySem.F.slot_list_append PySem.F.type_list_append Dn (pv 5) (Ba (Dt (Ba (pv 8) (Ba (Ct (Cp K) rfl T.z_len PySem.boot_len (Ba (pv 4) Bd)) (Ba (pv 10) Bd)))) Bd)))
   (Bi (De (Gb (Ox (pv 10)))
    (Bi (Bu (i:=7) sc_qcd.nd rfl (Or.inl rfl) (pv 10)))
    Cy)))))
    (Bi (De (PW.pt (Qv (Cf Dq (pv 9) Bx (Ck _)) (Lf (Cf Zt (Ct (Cp K) rfl T.z_len PySem.boot_len (Ba (pv 6) Bd)) Be (Ck _)))))
    (Bf (Bu (i:=11) sc_qcd.nd rfl (Or.inl rfl) (Ajh plainAttrs_list PySem.F.slot_list_pop PySem.F.type_list_pop AiN (pv 6)))
   (Bf (Bu (i:=12) sc_qcd.nd rfl (Or.inl rfl) (Cl (Cu K) (pv 5) (Cl (Cz K) (pv 11) Be (fun _ _=>rfl)) (fun _ _=>rfl)))
   (Bf (Uk (Dt (Ba (Cl (Cz K) (pv 12) Be (fun _ _=>rfl)) (Ba (pv 8) (Ba (Cl (Cz K) (pv 12) Be (fun _ _=>rfl)) Bd)))) (Ui (pv 5) (Cl (Cz K) (pv 11) Be (fun _ _=>rfl)) Lq))
   (Bi (Bu (i:=7) sc_qcd.nd rfl (Or.inl rfl) (Cl (Cz K) (pv 11) Be (fun _ _=>rfl)))))))
    Cy)))))
   (Bi (Cd (pv 5)))))))),?_⟩
 try dsimp only [Cg,Bw]
 refine Cm h (by decide) (Br (Cc (EF.eu (Dk (Bo Bb (Bo Bb Bh)))))
   (Br (Fc (Db 0 Bh))
   (Br (Fc (Db 0 Bh))
   (Br (Cc Bv)
   (Br (Yc Bv (Ju (Du (Cn (top:=13)) (Du (Cn (top:=13)) Jb)))
    (Dp (Cw (EU.eb (Wy Bv (EU.eb (Vs fun G=>Tx T)))))
    (Br (Gk (Bn (Fd 2 (Bn (Dy (Bo Bb Bh)) (Bn Bv Bh))) Bh))
   (Br (Cc (Ci (Bo Bb (Bo Bb (Bo Bb Bh)))))
   (Br (Gk (Bn (Fd 3 (Bn Bv (Bn (Dy (Bo Bb Bh)) (Bn Bv Bh)))) Bh))
   (Dp (Cw (EU.eb (Oz Bb)))
    (Cc Bv)
    Dg))))
    (Dp (Qo (Cw (EU.eb (Fb Bb (EU.eb Ch)))) (Cw (EU.eb (Dc (fun _ _ _=>.bl _) (EU.eb (Dy (Bo Bb Bh))) (EU.eb Bg)))))
    (Br Aj4
   (Br (Cc (Do Bb (EU.eb (Di Bb (EU.eb Bg)))))
   (Br (Um (EU.eb (Di Bb (EU.eb Bg))) (Fd 3 (Bn (Di Bb (EU.eb Bg)) (Bn Bv (Bn (Di Bb (EU.eb Bg)) Bh)))))
   (Cc (Di Bb (EU.eb Bg))))))
    Dg)))
   Gq))))) (fun ps P hp=>?_)
 clear h hu hu64 hr
 obtain ⟨U,M,J,ts,b,m,rfl,hl,q⟩:=hp
 walk_at "s"
 have gl:=(Gm (Df U M) ts).ln
 walk_at "pr"
 refine ⟨U,M,J,ts,rfl,hl,?_⟩
 rw [show (map (fun w=>PV.str (knW U M w)) (grp (Df U M) ts)) = (knL U M ts).map .str by unfold knL; rw [map_map]; rfl]
 have kl:(knL U M ts).length <= 300:=by unfold knL; rw [length_map]; omega
 generalize knL U M ts = kn at q kl
 walk_at "pr"
 refine ⟨fun n ρ=>∃ (S:Stk) (v8 v9 v10 v11 v12:Sl),NI kn b m n S/\ρ = [.bo (.bk U M J),.bo (.lst (map .int ts)),.sh (.int b),.bo (.int m),.sh (.lst (kn.map .str)),.ow (.lst ((dF kn b m n).map (nPn kn.length n))),.ow (.lst ((wtF b S).map wP)),.sh (.int (chF b S)),v8,v9,v10,v11,v12],⟨[],_,_,_,_,_,.zero,rfl⟩,?_,?_⟩
 ·rintro n p ρ hp ⟨S,v8,v9,v10,v11,v12,hN,rfl⟩
  rw [Qb,getElem?_map,Option.map_map] at hp
  obtain ⟨k,hk,rfl⟩:=map_eq_some_iff.mp hp
  have hn:n < kn.length:=(List.getElem?_eq_some_iff.mp hk).1
  have dl:=AaM (kn:=kn) (b:=b) (m:=m) n
  have sl:S.length <= 300:=by
   have:=congrArg length hN.fil
   rw [length_map] at this
   have:=length_filter_le (fun x:Nst=>decide (n <= x.2.1)) (dF kn b m n)
   omega
  dsimp only [Function.comp]
  walk_at "pr"
  refine Aal (L:=bgK) (x:=k) ?_
  walk_at "pr"
  by_cases h1:k ∈ bgK
  ·rw [decide_eq_true h1]
   obtain ⟨e1,hN2⟩:=hN.beg hk h1
   have fin:(dF kn b m n).map (nPn kn.length n) ++ [.tup [.int n,.int (kn.length:Nat),opP (lvF k (chF b S) m)]] = (dF kn b m (n + 1)).map (nPn kn.length (n + 1)):=by
    rw [e1,map_append,AeE fun x hx e=>by have:=hN.later hk (Aad h1) x (mem_filter.mpr ⟨hx,decide_eq_true (by omega)⟩); omega]
    have:¬ Lj kn n < n + 1:=by
     unfold Lj
     rw [Jq hk,show (0:Int) = ((0:Nat):Int) from rfl,Ve h1]; omega
    show _ = _ ++ [PV.tup [.int n,.int ((if Lj kn n < n + 1 then Lj kn n else kn.length:Nat):Int),opP (lvF k (chF b S) m)]]
    rw [if_neg this]
   have wt:(wtF b S).map wP ++ [.tup [.int ((dF kn b m n).length:Nat),.int (chF b S)]] = (wtF b (S ++ [((dF kn b m n).length,(n,Lj kn n,lvF k (chF b S) m))])).map wP:=by
    rw [Vy,map_append]; rfl
   have ch:=Wa b S ((dF kn b m n).length,(n,Lj kn n,lvF k (chF b S) m))
   walk_at "pr"
   rotate_left
   ·rw [length_map,Xy]; omega
   rw [length_map,wt]
   refine ⟨k,chF b S,m,rfl,?_⟩
   walk_at "pr"
   rotate_left
   ·rw [length_map]; omega
   rw [length_map,fin]
   cases e:lvF k (chF b S) m with
   | none =>
    rw [e] at ch hN2
    refine Jd (by decide) ?_
    walk_at "pr"
    exact ⟨_,_,_,_,_,_,hN2,by rw [ch]; rfl⟩
   | some l =>
    rw [e] at ch hN2
    refine Gu rfl ?_
    walk_at "pr"
    exact ⟨_,_,_,_,_,_,hN2,by rw [ch]; rfl⟩
  rw [decide_eq_false h1]
  walk_at "pr"
  have keep:(∀ x ∈ dF kn b m n,x.2.1 = n->False)->dF kn b m (n + 1) = dF kn b m n->(dF kn b m n).map (nPn kn.length n) = (dF kn b m (n + 1)).map (nPn kn.length (n + 1)):=fun h e=>by
   rw [e,AeE h]
  by_cases h2:k = "out"
  ·subst h2
   rw [decide_eq_true rfl]
   walk_at "pr"
   rw [length_map,Xy]
   rcases eq_nil_or_concat S with e | ⟨S',s,e⟩
   ·rw [decide_eq_false (by rw [e]; exact Int.lt_irrefl 0)]
    walk_at "pr"
    obtain ⟨e1,hN2⟩:=hN.oth hk h1 fun _=>e
    rw [keep (fun x hx z=>by
     have:=hN.fil
     rw [e] at this
     exact List.filter_eq_nil_iff.mp this x hx (decide_eq_true (by omega))) e1]
    exact ⟨S,_,_,_,_,_,hN2,rfl⟩
   ·rw [concat_eq_append] at e
    subst e
    rw [decide_eq_true (by rw [length_append,length_singleton]; omega)]
    obtain ⟨e1,hN2,es,one⟩:=hN.out hk
    have hs:=hN.ix s (mem_append_right _ (.head _))
    rw [Vy,map_append,Wa]
    walk_at "pr"
    refine Al1 (ps:=(wtF b S').map wP) (q:=wP (s.1,chF b S')) rfl ?_
    unfold wP
    walk_at "pr"
    refine Fp (l:=dF kn b m n) (f:=nPn kn.length n) (j:=s.1) (a:=s.2) hs rfl ?_
    unfold nPn
    walk_at "pr"
    refine Wm rfl (Vg (by rw [length_map]; exact (List.getElem?_eq_some_iff.mp hs).1)) ?_
    walk_at "pr"
    rw [show ((dF kn b m n).map fun x:Nst=>PV.tup [.int x.1,.int (if x.2.1 < n then x.2.1 else kn.length:Nat),opP x.2.2]).set s.1 (.tup [.int s.2.1,.int n,opP s.2.2.2]) = (dF kn b m (n + 1)).map (nPn kn.length (n + 1)) by rw [e1]; exact AhL hs es one]
    exact ⟨S',_,_,_,_,_,hN2,rfl⟩
  ·rw [decide_eq_false h2]
   walk_at "pr"
   obtain ⟨e1,hN2⟩:=hN.oth hk h1 fun z=>absurd z h2
   rw [keep (fun x hx z=>by have:=hN.later hk h2 x (mem_filter.mpr ⟨hx,decide_eq_true (by omega)⟩); omega) e1]
   exact ⟨S,_,_,_,_,_,hN2,rfl⟩
 rintro ρ ⟨S,v8,v9,v10,v11,v12,hN,rfl⟩
 rw [Rt,length_map] at hN ⊢
 walk_at "pr"
 rw [show (dF kn b m kn.length).map (nPn kn.length kn.length) = (dF kn b m kn.length).map nP from List.map_congr_left fun x hx=>by
  have:=hN.end x hx
  unfold nPn nP
  by_cases z:x.2.1 < kn.length
  ·rw [if_pos z]
  ·rw [if_neg z,show x.2.1 = kn.length by omega]]
 exact q
def Ajb:PSp:=fun ps P=>∃ U M J ts o,ps = [.bk U M J,.lst (map .int ts),opP o]/\ts.length <= 300/\P (.int (o.getD (obF 0 (knL U M ts))))
theorem AkN (T:Txt K mg t):Binds K t.d_qr ["book","text","base"] []:=T.F_qr.binds fun _ _ _ _ _ _ us hl=>match us,hl with | [_,_,_],_=>rfl
theorem AgI (T:Txt K mg t):FnOk P w K mg base CX0 6 t.f_qr t.d_qr ["book","text","base"] (spOf K t.C_Book [false,false,true] .sh Ajb):=by
 refine T.F_qr.ok AlY (fun vs H Q E h=>h.len) (fun cdv A outer s H vs Q E hr h=>?_)
 have hu:=Co hr
 have hu64:=hr.units
 refine ⟨_,(Bi (Cd (Gi (Gb (Qf (pv 2))) (Bm (AaQ T) (hr.mono (by decide)) rfl T.m_qce T.F_qce.kp (AcB T) .nil Bs (Ba (pv 0) (Ba (pv 1) Bd))) (pv 2)))),?_⟩
 try dsimp only [Cg,Bw]
 refine Cm h (by decide) (Dm (Ov (Cw (EU.eb (Qi Bb))) (Ci (Bo Bb (Bo Bb Bh))) Bv)) (fun ps P hp=>?_)
 clear h hu hu64 hr
 obtain ⟨U,M,J,ts,o,rfl,hl,q⟩:=hp
 walk_at "s"
 cases o with
 | none =>
  rw [show opP none = .non from rfl]
  walk_at "pr"
  refine Gu rfl ?_
  walk_at "pr"
  refine ⟨U,M,J,ts,rfl,hl,?_⟩
  exact q
 | some b =>
  rw [show opP (some b) = .int b from rfl]
  walk_at "pr"
  refine Jd (fun z=>Bool.noConfusion z) ?_
  walk_at "pr"
  exact q
def Akf:PSp:=fun ps P=>∃ v:Int,ps = [.int v]/\P (.str (wyF v))
theorem Aj1 (T:Txt K mg t):Binds K t.d_qp ["level"] []:=T.F_qp.binds fun _ _ _ _ _ _ us hl=>match us,hl with | [_],_=>rfl
theorem Ag1 (T:Txt K mg t):FnOk P w K mg base CX0 1 t.f_qp t.d_qp ["level"] (spOf K t.C_Book [false] .sh Akf):=by
 refine T.F_qp.ok AmI (fun vs H Q E h=>h.len) (fun cdv A outer s H vs Q E hr h=>?_)
 have hu:=Co hr
 have hu64:=hr.units
 refine ⟨_,(Bi (Cd (Gi (Cf Dq (Ca Dr (pv 0) Be) Be (Ck _)) Bx Bx))),?_⟩
 try dsimp only [Cg,Bw]
 refine Cm h (by decide) (Dm (Ov (Cw (EU.eb (Fb (EU.eb (Dh (fun _ _ _=>.int _) Bb (EU.eb Bg))) (EU.eb Bg)))) Ch Ch)) (fun ps P hp=>?_)
 clear h hu hu64 hr
 obtain ⟨v,rfl,q⟩:=hp
 walk_at "s"
 unfold wyF at q
 walk_at "pr"
 all_goals try decide
 by_cases h:v % 2 = 0
 ·rw [decide_eq_true h]
  rw [if_pos h] at q
  walk_at "pr"
  exact q
 ·rw [decide_eq_false h]
  rw [if_neg h] at q
  walk_at "pr"
  exact q
theorem Aiq {n:Nat} {z:Int} (h0:0 <= z) (h:z < n):ixN n z = some z.toNat:=by
 unfold ixN
 rw [if_pos h0,if_pos h]
def AkE:PSp:=fun ps P=>∃ (N:List Nst) (n:Nat) (b:Int),ps = [.lst (N.map nP),.int n,.int b]/\N.length <= 300/\n <= 300/\(∀ x ∈ N,x.1 <= n/\x.2.1 <= n)/\P (.lst ((rsF (stF N n b) (hmF (stF N n b) n (stF N n b).length)).map rsP))
theorem AnE (T:Txt K mg t):Binds K t.d_qo ["nests","number","base"] []:=T.F_qo.binds fun _ _ _ _ _ _ us hl=>match us,hl with | [_,_,_],_=>rfl
theorem Anl (T:Txt K mg t):FnOk P w K mg base CX0 1 t.f_qo t.d_qo ["nests","number","base"] (spOf K t.C_Book [false,true,true] .sh AkE):=by
 refine T.F_qo.ok sc_qo (fun vs H Q E h=>h.len) (fun cdv A outer s H vs Q E hr h=>?_)
 have hu:=Co hr
 have hu64:=hr.units
 refine ⟨_,(Bf (Bu (i:=3) sc_qo.nd rfl (Or.inl rfl) (Ca Jx (Cr (Ba (Dt (Ba (Ra Ls Be) (Ba (pv 1) (Ba (pv 2) Bd)))) Bd)) (Vr 1 ["nest"] rfl rfl (Dd (pv 0)) (fun _ _ _ _=>(By (i:=0) (show Nodup (["nest"]:List Str) by decide +kernel) rfl (Or.inl rfl))) (fun _ _ _ _=>(Le (Gb (Ox (Cl (Cz K) (pv 0) Be (fun _ _=>rfl)))))) (fun _ _ _ _=>(pv 0)) (by decide +kernel) (by decide +kernel) rfl (by decide +kernel))))
   (Bf (Bu (i:=4) sc_qo.nd rfl (Or.inl rfl) (Ca Vb (Cr (Ba Be Bd)) (pv 1)))
   (Bf (Dl PassesOwn.never rfl (Rq (pv 3) rfl T.z_enumerate) (Gp (K':=K) (n:=2) rfl rfl (Cq (By (i:=5) sc_qo.nd rfl (Or.inl rfl)) (Cq (By (i:=6) sc_qo.nd rfl (Or.inl rfl)) Fh)))
    (Bi (Dl PassesOwn.never rfl (Re rfl T.z_range (Ba (Ca Dz (Cl (Cz K) (pv 6) Be (fun _ _=>rfl)) Be) (Ba (Cl (Cz K) (pv 6) Be (fun _ _=>rfl)) Bd))) (By (i:=7) sc_qo.nd rfl (Or.inl rfl))
    (Bi (Uk (pv 5) (Ui (pv 4) (pv 7) Lq))))))
   (Bf (Se 1 ["stretch"] rfl rfl (Dd (pv 3)) (fun _ _ _ _=>(By (i:=0) (show Nodup (["stretch"]:List Str) by decide +kernel) rfl (Or.inl rfl))) (fun _ _ _ _=>Gr) (fun _ _ _ _=>(Dt (Ba (Cl (Cz K) (pv 0) Be (fun _ _=>rfl)) (Ba (Cr Bd) Bd)))) (by decide +kernel) (by decide +kernel) rfl (by decide +kernel) (fun _=>rfl) (i:=8) sc_qo.nd rfl (Or.inl rfl) rfl)
   (Bf (Dl PassesOwn.never rfl (Rq (pv 4) rfl T.z_enumerate) (Gp (K':=K) (n:=2) rfl rfl (Cq (By (i:=7) sc_qo.nd rfl (Or.inl rfl)) (Cq (By (i:=5) sc_qo.nd rfl (Or.inl rfl)) Fh)))
    (Bi (Cs (Fv plainAttrs_list PySem.F.slot_list_append PySem.F.type_list_append Dn (Cl (Cz K) (Cl (Cu K) (pv 8) (pv 5) (fun _ _=>rfl)) Be (fun _ _=>rfl)) (Ba (pv 7) Bd)))))
   (Bi (Cd (pv 8)))))))),?_⟩
 try dsimp only [Cg,Bw]
 refine Cm h (by decide) (Br (Cc (EF.eu (Qe (EF.eb (Db 1 (Bn (Fd 3 (Bn (Xx (fun _ _=>.int _) (EU.eb Bg)) (Bn Bv (Bn Bv Bh)))) Bh))) (EF.eb (Fr Bb (Cn (top:=1)) (Cw (EU.eb (Oz (EU.eb (Di Bb (EU.eb Bg)))))) Bv)))))
   (Br (Fc (Wx (EF.eb (Db 1 (Bn Bg Bh))) Bb))
   (Br (Yc Bv (Ju (Du (Cn (top:=9)) (Du (Cn (top:=9)) Jb)))
    (Xz (Bo (EU.eb (Dc (fun _ _ _=>.int _) (EU.eb (Di Bb (EU.eb Bg))) (EU.eb Bg))) (Bo (EU.eb (Di Bb (EU.eb Bg))) Bh)) (Cn (top:=9))
    (Um Bb Bv)))
   AiR))) (fun ps P hp=>?_)
 clear h hu hu64 hr
 obtain ⟨N,n,b,rfl,hl,hn,hN,q⟩:=hp
 walk_at "s"
 walk_at "pr"
 refine ⟨by rw [length_map]; omega,?_⟩
 refine Fj (S:=N) (enc:=nP) (f:=fun x=>(x.2.2.map fun l=>((x.1:Int),(x.2.1:Int),l)).map stP) ?_ (fun d hd Z hZ=>?_)
 rotate_left
 ·walk_at "cp"
  rw [show nP d = .tup [.int d.1,.int d.2.1,opP d.2.2] from rfl]
  walk_at "pr"
  cases el:d.2.2 with
  | none =>
   rw [el] at hZ
   refine Jd (by decide) ?_
   exact hZ
  | some l =>
   rw [el] at hZ
   refine Gu rfl ?_
   walk_at "pr"
   exact hZ
 rw [show N.filterMap (fun x=>(x.2.2.map fun l=>((x.1:Int),(x.2.1:Int),l)).map stP) = (N.filterMap fun x=>x.2.2.map fun l=>((x.1:Int),(x.2.1:Int),l)).map stP from (List.map_filterMap ..).symm]
 have sl:(stF N n b).length <= 301:=by
  unfold stF
  have:=List.length_filterMap_le (fun x:Nst=>x.2.2.map fun l=>((x.1:Int),(x.2.1:Int),l)) N
  rw [length_cons]; omega
 have sb:∀ s ∈ stF N n b,(-1 <= s.1/\s.1 <= n)/\-1 <= s.2.1/\s.2.1 <= (n:Int):=fun s hs=>by
  unfold stF at hs
  rcases mem_cons.mp hs with rfl | hs
  ·exact ⟨⟨Int.le_refl _,by show (-1:Int) <= n; omega⟩,by show (-1:Int) <= n; omega,Int.le_refl _⟩
  ·obtain ⟨x,hx,e⟩:=mem_filterMap.mp hs
   obtain ⟨l,_,rfl⟩:=map_eq_some_iff.mp e
   have:=hN x hx
   exact ⟨⟨by show (-1:Int) <= (x.1:Int); omega,by show (x.1:Int) <= n; omega⟩,by show (-1:Int) <= (x.2.1:Int); omega,by show (x.2.1:Int) <= n; omega⟩
 have sp:0 < (stF N n b).length:=Nat.succ_pos _
 walk_at "px"
 rotate_left
 ·rw [length_map]
  unfold stF at sl
  rw [length_cons] at sl
  show 1 + _ <= _
  omega
 rw [show PV.tup [PV.int (-1),PV.int (n:Int),PV.int b] :: (N.filterMap fun x=>x.2.2.map fun l=>((x.1:Int),(x.2.1:Int),l)).map stP = (stF N n b).map stP from rfl]
 generalize stF N n b = St at q sl sb sp
 refine Gg ?_
 walk_at "px"
 rotate_left
 ·exact ⟨by omega,by omega⟩
 rw [toNat_natCast]
 refine Gg ?_
 walk_at "pr"
 refine ⟨fun j ρ=>∃ v5 v6 v7,ρ = [.bo (.lst (N.map nP)),.sh (.int n),.sh (.int b),.sh (.lst (St.map stP)),.ow (.lst ((hmF St n j).map fun k:Nat=>.int k)),v5,v6,v7,.un],⟨_,_,_,by rw [hmF,List.map_replicate]; rfl⟩,?_,?_⟩
 ·rintro j p ρ hp ⟨v5,v6,v7,rfl⟩
  rw [Qb,getElem?_map,Option.map_map] at hp
  obtain ⟨s,hs,rfl⟩:=map_eq_some_iff.mp hp
  obtain ⟨⟨s1,s1'⟩,s2',s2⟩:=sb s (mem_of_getElem? hs)
  have hj:=(List.getElem?_eq_some_iff.mp hs).1
  have hm:hmF St n (j + 1) = hmS (hmF St n j) j s.1 s.2.1:=by rw [hmF,hs]
  have hlen:=Rv St n j
  dsimp only [Function.comp]
  rw [show stP s = .tup [.int s.1,.int s.2.1,.int s.2.2] from rfl]
  walk_at "pr"
  all_goals try exact ⟨by omega,by omega,by omega,by omega⟩
  rw [hm]
  generalize hmF St n j = hh at hlen
  refine ⟨fun i ρ=>∃ v7,ρ = [.bo (.lst (N.map nP)),.sh (.int n),.sh (.int b),.sh (.lst (St.map stP)),.ow (.lst ((hh.mapIdx fun k x=>if s.1 < (k:Int)/\(k:Int) < s.1 + 1 + i then j else x).map fun k:Nat=>.int k)),.sh (.int j),.sh (.tup [.int s.1,.int s.2.1,.int s.2.2]),v7,.un],⟨_,by rw [Abd hh _ (fun k x _=>if_neg (by omega))]⟩,?_,?_⟩
  ·rintro i ρ hi ⟨v7,rfl⟩
   walk_at "pr"
   refine Wm rfl (Aiq (by omega) (by rw [length_map,length_mapIdx]; omega)) ?_
   walk_at "pr"
   rw [<- map_set,AiF s1 (by omega)]
   exact ⟨_,rfl⟩
  ·rintro ρ ⟨v7,rfl⟩
   rw [show (hh.mapIdx fun k x=>if s.1 < (k:Int)/\(k:Int) < s.1 + 1 + ((s.2.1 - (s.1 + 1)).toNat:Int) then j else x) = hmS hh j s.1 s.2.1 by
    unfold hmS
    congr 1
    funext k x
    by_cases z:s.1 < (k:Int)/\(k:Int) < s.2.1
    ·rw [if_pos z,if_pos (by omega)]
    ·rw [if_neg z,if_neg (by omega)]]
   exact ⟨_,_,_,rfl⟩
 ·rintro ρ ⟨v5,v6,v7,rfl⟩
  rw [Rt,length_map]
  exact ⟨St,_,rfl,rfl,rfl,by omega,by rw [Rv]; omega,AaC St n sp _,q⟩
theorem We {C:Addr} {G:Hp} (T:Txt K mg t):Rep K C G (.ref t.a_LEADING_KINDS) (.ctp [.str "fore",.str "back",.str "num"]):=.ctp T.q_LEADING_KINDS rfl fun i v p h1 h2=>by
 match i,h1,h2 with
 | 0,h1,h2=>cases h1; cases h2; exact .str _
 | 1,h1,h2=>cases h1; cases h2; exact .str _
 | 2,h1,h2=>cases h1; cases h2; exact .str _
 | _ + 3,h1,_=>simp at h1
def Akq:PSp:=fun ps P=>∃ (ks:List Str) (own:Str),ps = [.lst (ks.map .str),.str own]/\ks.length <= 1000/\P (.lst ((ldF own ks).map osP))
theorem Anz (T:Txt K mg t):Binds K t.d_ql ["kinds","own"] []:=T.F_ql.binds fun _ _ _ _ _ _ us hl=>match us,hl with | [_,_],_=>rfl
theorem AmJ (T:Txt K mg t):FnOk P w K mg base CX0 1 t.f_ql t.d_ql ["kinds","own"] (spOf K t.C_Book [false,true] .fr Akq):=by
 refine T.F_ql.ok sc_ql (fun vs H Q E h=>h.len) (fun cdv A outer s H vs Q E hr h=>?_)
 have hu:=Co hr
 have hu64:=hr.units
 refine ⟨_,(Bf (Bu (i:=2) sc_ql.nd rfl (Or.inl rfl) (Cr Bd))
   (Bf (Bu (i:=3) sc_ql.nd rfl (Or.inl rfl) (pv 1))
   (Bf (Dl PassesOwn.never rfl (Dd (pv 0)) (By (i:=4) sc_ql.nd rfl (Or.inl rfl))
    (Bf (De (PW.pt (Rn (Cf Dq (pv 4) Bx (Ck _)) (Qq (Cf Dq (pv 4) Bx (Ck _)))))
    (Bi (Bu (i:=3) sc_ql.nd rfl (Or.inl rfl) (pv 4)))
    Cy)
   (Bi (Cs (Fv plainAttrs_list PySem.F.slot_list_append PySem.F.type_list_append Dn (pv 2) (Ba (Gi (Cf (Nx K) (pv 4) (Qd (v:=.ref t.a_LEADING_KINDS) rfl T.g_LEADING_KINDS rfl) rfl) (pv 3) Rr) Bd))))))
   (Bi (Cd (pv 2)))))),?_⟩
 try dsimp only [Cg,Bw]
 refine Cm h (by decide) (Br (Fc (Db 0 Bh))
   (Br (Cc Bv)
   (Br (Yb (Cn (top:=5))
    (Br (Dp (Uy (Cw (EU.eb (Fb Bb (EU.eb Ch)))) (Cw (EU.eb (Fb Bb (EU.eb Ch)))))
    (Cc Bv)
    Dg)
   (Gk (Bn (Ov (Cw (EU.eb (Wy Bv (EU.eb (Vs fun G=>We T))))) Bv Rw) Bh))))
   Gq))) (fun ps P hp=>?_)
 clear h hu hu64 hr
 obtain ⟨ks,own,rfl,hl,q⟩:=hp
 walk_at "s"
 walk_at "pr"
 refine ⟨fun n ρ=>∃ (A:List (Option Str)) (l:Str) (v4:Sl),ρ = [.bo (.lst (ks.map .str)),.sh (.str own),.ow (.lst (A.map osP)),.sh (.str l),v4]/\A.length = n/\A ++ ldF l (ks.drop n) = ldF own ks,⟨[],own,_,rfl,rfl,rfl⟩,?_,?_⟩
 ·rintro n p ρ hp ⟨A,l,v4,rfl,al,he⟩
  rw [getElem?_map] at hp
  obtain ⟨k,hk,rfl⟩:=map_eq_some_iff.mp hp
  have hn:n < ks.length:=(List.getElem?_eq_some_iff.mp hk).1
  rw [Jq hk,ldF] at he
  walk_at "px"
  refine Jr (fun ρ=>ρ = [.bo (.lst (ks.map .str)),.sh (.str own),.ow (.lst (A.map osP)),.sh (.str (if k = "fore"\/k = "back" then k else l)),.sh (.str k)]) (fun ρ h=>?_) ?_
  rotate_left
  ·walk_at "pr"
   by_cases h1:k = "fore"
   ·rw [decide_eq_true h1,show (if k = "fore"\/k = "back" then k else l) = k from if_pos (.inl h1)]
    walk_at "pr"
    exact .inl rfl
   ·rw [decide_eq_false h1]
    walk_at "pr"
    by_cases h2:k = "back"
    ·rw [decide_eq_true h2,show (if k = "fore"\/k = "back" then k else l) = k from if_pos (.inr h2)]
     walk_at "pr"
     exact .inl rfl
    ·rw [decide_eq_false h2,show (if k = "fore"\/k = "back" then k else l) = l from if_neg (fun z=>z.elim h1 h2)]
     walk_at "pr"
     exact .inl rfl
  subst h
  generalize (if k = "fore"\/k = "back" then k else l) = l' at he
  walk_at "pr"
  refine Aal (L:=ldK) (x:=k) ?_
  walk_at "pr"
  by_cases h1:k ∈ ldK
  ·rw [decide_eq_true h1]
   rw [if_pos h1] at he
   walk_at "pr"
   rotate_left
   ·rw [length_map]; omega
   exact ⟨A ++ [some l'],l',_,by rw [map_append]; rfl,by rw [length_append,al]; rfl,by rw [append_assoc]; exact he⟩
  ·rw [decide_eq_false h1]
   rw [if_neg h1] at he
   walk_at "pr"
   rotate_left
   ·rw [length_map]; omega
   exact ⟨A ++ [none],l',_,by rw [map_append]; rfl,by rw [length_append,al]; rfl,by rw [append_assoc]; exact he⟩
 rintro ρ ⟨A,l,v4,rfl,al,he⟩
 rw [length_map,drop_length,ldF,append_nil] at he
 walk_at "pr"
 rw [he]
 exact q
def mtF (M:List (Int × Int)) (n:Int):Option Int:=match Ua M n with
 | .int z=>some z
 | _=>none
theorem AdO:∀ (M:List (Int × Int)),∀ kv ∈ kB M,∃ z:Int,kv.2 = .int z
 | [],kv,h=>by cases h
 | m :: r,kv,h=>by
  rcases mem_cons.mp h with rfl | h
  ·exact ⟨_,rfl⟩
  ·rcases mem_cons.mp h with rfl | h
   ·exact ⟨_,rfl⟩
   ·exact AdO r kv h
theorem Ah9 (M:List (Int × Int)) (n:Int):Ua M n = opP (mtF M n):=by
 have:Ua M n = .non\/∃ z,Ua M n = .int z:=by
  unfold Ua Cv
  cases e:(kB M).find? (fun kv=>decide (kv.1 = Sum.inl n)) with
  | none=>exact .inl rfl
  | some kv =>
   obtain ⟨z,hz⟩:=AdO M kv (List.mem_of_find?_eq_some e)
   refine .inr ⟨z,?_⟩
   show vP kv.2 = _
   rw [hz]; rfl
 unfold mtF
 rcases this with h | ⟨z,h⟩ <;> rw [h] <;> rfl
theorem Ajq {o:Option Int} {b:Int} {P:PV->Prop} (q:P (.bl (decide (o = some b)))):AfC false (opP o) (.int b) P:=by
 cases o with
 | none=>exact ⟨false,.ni,q⟩
 | some c =>
  refine ⟨_,.ii,?_⟩
  rw [show decide (c = b) = decide (some c = some b) from decide_eq_decide.mpr ⟨fun z=>by rw [z],fun z=>Option.some.inj z⟩]
  exact q
def ppP (p:Nat × Nat):PV:=.tup [.int p.1,.int p.2]
theorem Aiy (w:List Nat):enP (w.map fun a:Nat=>PV.int a) = (w.mapIdx fun j a=>(j,a)).map fun q:Nat × Nat=>PV.tup [.int q.1,.int q.2]:=by
 refine ext_getElem? fun i=>?_
 rw [Qb,getElem?_map,getElem?_map,getElem?_mapIdx,Option.map_map,Option.map_map]
 rfl
theorem Aec {mt:Int->Option Int} {bs:List Int} {w:List Nat} {b:Int}:∀ j ∈ Vn mt bs w b,j < w.length:=fun j hj=>by
 unfold Vn at hj
 obtain ⟨q,hq,h⟩:=mem_filterMap.mp hj
 obtain ⟨i,hi⟩:=getElem?_of_mem hq
 rw [getElem?_mapIdx] at hi
 obtain ⟨a,ha,rfl⟩:=map_eq_some_iff.mp hi
 split at h
 ·cases h; exact (List.getElem?_eq_some_iff.mp ha).1
 ·cases h
theorem Aau {mt:Int->Option Int} {ks:List Str} {bs:List Int}:∀ n,(∀ p ∈ (prF mt ks bs n).1,p.1 < n/\p.2 < n)/\(∀ a ∈ (prF mt ks bs n).2,a < n)/\(prF mt ks bs n).2.length <= n/\(prF mt ks bs n).1.length <= n
 | 0=>⟨fun p h=>(by cases h),fun p h=>(by cases h),Nat.le_refl _,Nat.le_refl _⟩
 | n + 1=>by
  obtain ⟨h1,h2,h3,h4⟩:=Aau (mt:=mt) (ks:=ks) (bs:=bs) n
  have same:(∀ p ∈ (prF mt ks bs n).1,p.1 < n + 1/\p.2 < n + 1)/\(∀ a ∈ (prF mt ks bs n).2,a < n + 1)/\(prF mt ks bs n).2.length <= n + 1/\(prF mt ks bs n).1.length <= n + 1:=⟨fun p hp=>by have:=h1 p hp; omega,fun a ha=>by have:=h2 a ha; omega,by omega,by omega⟩
  rw [prF]
  split
  ·refine ⟨same.1,fun a ha=>?_,by rw [length_append,length_singleton]; omega,same.2.2.2⟩
   rcases mem_append.mp ha with ha | ha
   ·exact same.2.1 a ha
   ·rw [mem_singleton.mp ha]; omega
  ·split
   ·split
    ·exact same
    ·rename_i j hj
     have hj2:=Aec (mt:=mt) (bs:=bs) (w:=(prF mt ks bs n).2) (b:=(bs[n]?).getD 0) j (List.mem_of_getLast? hj)
     refine ⟨fun p hp=>?_,fun a ha=>same.2.1 a (List.mem_of_mem_take ha),by rw [length_take]; omega,by rw [length_append,length_singleton]; omega⟩
     rcases mem_append.mp hp with hp | hp
     ·exact same.1 p hp
     ·rw [mem_singleton.mp hp,getElem?_eq_getElem hj2]
      have:=h2 _ (getElem_mem hj2)
      exact ⟨by show (prF mt ks bs n).2[j] < n + 1; omega,lt_succ_self _⟩
   ·exact same
def AkF:PSp:=fun ps P=>∃ U M J ks bs,ps = [.bk U M J,.lst (map .str ks),.lst (map .int bs)]/\ks.length = bs.length/\bs.length <= 1000/\P (.lst ((prF (mtF M) ks bs ks.length).1.map ppP))
theorem Am2 (T:Txt K mg t):Binds K t.d_qcf ["book","kinds","bases"] []:=T.F_qcf.binds fun _ _ _ _ _ _ us hl=>match us,hl with | [_,_,_],_=>rfl
theorem Aln (T:Txt K mg t):FnOk P w K mg base CX0 2 t.f_qcf t.d_qcf ["book","kinds","bases"] (spOf K t.C_Book [false,true,false] .fr AkF):=by
 refine T.F_qcf.ok sc_qcf (fun vs H Q E h=>h.len) (fun cdv A outer s H vs Q E hr h=>?_)
 have hu:=Co hr
 have hu64:=hr.units
 refine ⟨_,(Bf (Bu (i:=3) sc_qcf.nd rfl (Or.inl rfl) (Cr Bd))
   (Bf (Bu (i:=4) sc_qcf.nd rfl (Or.inl rfl) (Cr Bd))
   (Bf (Dl PassesOwn.never rfl (Rq (pv 1) rfl T.z_enumerate) (Gp (K':=K) (n:=2) rfl rfl (Cq (By (i:=5) sc_qcf.nd rfl (by first | exact Or.inl rfl | exact Or.inr rfl)) (Cq (By (i:=6) sc_qcf.nd rfl (Or.inl rfl)) Fh)))
    (Bi (De (Cf Dq (pv 6) Bx (Ck _))
    (Bi (Cs (Fv plainAttrs_list PySem.F.slot_list_append PySem.F.type_list_append Dn (pv 4) (Ba (pv 5) Bd))))
    (Bi (De (Cf Dq (pv 6) Bx (Ck _))
    (Bf (Wc 2 [0,2,5] ["place","at","book","bases","k"] ["k","book","bases"] rfl (Rq (pv 4) rfl T.z_enumerate) rfl (fun j y e1 i e2=>match j,e1,e2 with | 0,e1,e2=>by cases e1; cases e2; exact ⟨rfl,rfl,rfl,by decide +kernel⟩ | 1,e1,e2=>by cases e1; cases e2; exact ⟨rfl,rfl,rfl,by decide +kernel⟩ | 2,e1,e2=>by cases e1; cases e2; exact ⟨rfl,rfl,rfl,by decide +kernel⟩ | _ + 3,_,e2=>by simp at e2) (forall_mem_cons.mpr ⟨rfl,forall_mem_cons.mpr ⟨rfl,forall_mem_cons.mpr ⟨rfl,fun _ h=>nomatch h⟩⟩⟩) (by decide +kernel) (fun _ _ _ _=>(Gp (K':=K) (n:=2) rfl rfl (Cq (By (i:=0) (show Nodup (["place","at","book","bases","k"]:List Str) by decide +kernel) rfl (Or.inl rfl)) (Cq (By (i:=1) (show Nodup (["place","at","book","bases","k"]:List Str) by decide +kernel) rfl (Or.inl rfl)) Fh)))) (fun _ _ _ _=>(Le (Cf (AlV K hu64) (Xq (pv 2) T.cl_Book T.M_qbk (Ai0 T) (hr.mono (by decide)) (AmD T) .nil Bs (Ba (Cl (Cu K) (pv 3) (pv 1) (fun _ _=>rfl)) Bd)) (Cl (Cu K) (pv 3) (pv 4) (fun _ _=>rfl)) (Ck _)))) (fun _ _ _ _=>(pv 0)) rfl (by decide +kernel) rfl (by decide +kernel) (fun _=>rfl) (i:=7) sc_qcf.nd rfl (Or.inl rfl) rfl)
   (Bi (De (Cf Zt (Ct (Cp K) rfl T.z_len PySem.boot_len (Ba (pv 7) Bd)) Be (Ck _))
    (Bf (Cs (Fv plainAttrs_list PySem.F.slot_list_append PySem.F.type_list_append Dn (pv 3) (Ba (Dt (Ba (Cl (Cu K) (pv 4) (Cl (Cu K) (pv 7) (Ra Ls Be) (fun _ _=>rfl)) (fun _ _=>rfl)) (Ba (pv 5) Bd))) Bd)))
   (Bi (Bu (i:=4) sc_qcf.nd rfl (Or.inl rfl) (Gz (Gx K) (pv 4) Yk (Fm (Cl (Cu K) (pv 7) (Ra Ls Be) (fun _ _=>rfl)))))))
    Cy)))
    Cy)))))
   (Bi (Cd (pv 3)))))),?_⟩
 try dsimp only [Cg,Bw]
 refine Cm h (by decide) (Br (Fc (Db 0 Bh))
   (Br (Fc (Db 0 Bh))
   (Br (Yc Bv (Ju (Du (Cn (top:=8)) (Du (Cn (top:=8)) Jb)))
    (Dp (Cw (EU.eb (Fb Bb (EU.eb Ch))))
    (Gk (Bn Bv Bh))
    (Dp (Cw (EU.eb (Fb Bb (EU.eb Ch))))
    (Br (Cc (EF.eu (Ae2 Bb (Ju (Du (Cn (top:=2)) (Du (Cn (top:=2)) Jb))) (Cw (EU.eb (Aj0 (EU.eb (Aie Bb (EU.eb (Do Bb Bb)))) (EU.eb (Do Bb Bb))))) Bv)))
   (Dp (Cw (EU.eb (Dc (fun _ _ _=>.bl _) (EU.eb (Dy (Bo Bb Bh))) (EU.eb Bg))))
    (Br (Gk (Bn (Fd 2 (Bn (Do Bb (EU.eb (Do Bb (EU.eb (Xx (fun _ _=>.int _) (EU.eb Bg)))))) (Bn Bv Bh))) Bh))
   (Fc (Lv Bb Yf (Fn (EU.eb (Do Bb (EU.eb (Xx (fun _ _=>.int _) (EU.eb Bg)))))))))
    Dg))
    Dg)))
   Gq))) (fun ps P hp=>?_)
 clear h hu hu64 hr
 obtain ⟨U,M,J,ks,bs,rfl,hl,hb,q⟩:=hp
 walk_at "s"
 walk_at "pr"
 refine ⟨fun n ρ=>∃ (v5 v6 v7:Sl),ρ = [.bo (.bk U M J),.sh (.lst (ks.map .str)),.bo (.lst (bs.map .int)),.ow (.lst ((prF (mtF M) ks bs n).1.map ppP)),.ow (.lst ((prF (mtF M) ks bs n).2.map fun a:Nat=>.int a)),v5,v6,v7],⟨_,_,_,rfl⟩,?_,?_⟩
 ·rintro n p ρ hp ⟨v5,v6,v7,rfl⟩
  rw [Qb,getElem?_map,Option.map_map] at hp
  obtain ⟨k,hk,rfl⟩:=map_eq_some_iff.mp hp
  have hn:n < ks.length:=(List.getElem?_eq_some_iff.mp hk).1
  obtain ⟨b,hbn⟩:∃ b,bs[n]? = some b:=⟨_,getElem?_eq_getElem (by omega)⟩
  obtain ⟨w1,w2,w3⟩:=Aau (mt:=mtF M) (ks:=ks) (bs:=bs) n
  have e:=AeY (mtF M) ks bs n
  rw [hk] at e
  generalize prF (mtF M) ks bs n = X at w1 w2 w3 e
  obtain ⟨pp,w⟩:=X
  dsimp only [Function.comp] at *
  walk_at "pr"
  by_cases h1:k = "open"
  ·rw [if_pos (by rw [h1])] at e
   rw [decide_eq_true h1]
   walk_at "pr"
   rotate_left
   ·rw [length_map]; omega
   exact ⟨_,_,_,by rw [e,map_append]; rfl⟩
  rw [if_neg (fun z=>h1 (Option.some.inj z))] at e
  rw [decide_eq_false h1]
  walk_at "pr"
  by_cases h2:k = "shut"
  ·rw [if_pos (by rw [h2]),hbn] at e
   rw [decide_eq_true h2]
   walk_at "px"
   refine Gg ?_
   walk_at "px"
   refine ⟨by rw [length_map]; omega,?_⟩
   rw [Aiy]
   refine Fj (S:=w.mapIdx fun j a=>(j,a)) (enc:=fun q:Nat × Nat=>PV.tup [.int q.1,.int q.2]) (f:=fun q=>if (bs[q.2]?).bind (mtF M) = some b then some (.int q.1) else none) ?_ (fun d hd Z hZ=>?_)
   rotate_left
   ·obtain ⟨j,hj⟩:=getElem?_of_mem hd
    rw [getElem?_mapIdx] at hj
    obtain ⟨a,ha,rfl⟩:=map_eq_some_iff.mp hj
    have han:=w2 a (mem_of_getElem? ha)
    obtain ⟨c,hc⟩:∃ c,bs[a]? = some c:=⟨_,getElem?_eq_getElem (by omega)⟩
    have hZ2:Z (if mtF M c = some b then some (.int (j:Nat)) else none):=by
     have:((bs[(j,a).2]?).bind (mtF M)) = mtF M c:=by show (bs[a]?).bind _ = _; rw [hc]; rfl
     rw [this] at hZ; exact hZ
    walk_at "cp"
    walk_at "pr"
    refine Fp (l:=bs) (f:=PV.int) (j:=a) (a:=c) hc rfl ?_
    walk_at "pr"
    refine Fp (l:=bs) (f:=PV.int) (j:=n) (a:=b) hbn rfl ?_
    rw [Ah9]
    refine Ajq ?_
    by_cases h3:mtF M c = some b
    ·rw [decide_eq_true h3]
     rw [if_pos h3] at hZ2
     walk_at "pr"
     exact hZ2
    ·rw [decide_eq_false h3]
     rw [if_neg h3] at hZ2
     walk_at "pr"
     exact hZ2
   rw [show (w.mapIdx fun j a=>(j,a)).filterMap (fun q=>if (bs[q.2]?).bind (mtF M) = some b then some (PV.int (q.1:Nat)) else none) = (Vn (mtF M) bs w b).map fun a:Nat=>PV.int a by
    unfold Vn
    rw [List.map_filterMap]
    congr 1
    funext q
    split <;> rfl]
   have ft:=Aec (mt:=mtF M) (bs:=bs) (w:=w) (b:=b)
   rw [show (some b).getD 0 = b from rfl] at e
   generalize Vn (mtF M) bs w b = fit at ft e
   walk_at "pr"
   rcases eq_nil_or_concat fit with z | ⟨f',j,z⟩
   ·subst z
    rw [decide_eq_false (by simp)]
    walk_at "pr"
    have e2:prF (mtF M) ks bs (n + 1) = (pp,w):=e
    exact ⟨_,_,_,by rw [e2]⟩
   ·rw [concat_eq_append] at z
    subst z
    have hj:=ft j (mem_append_right _ (.head _))
    obtain ⟨a,ha⟩:∃ a,w[j]? = some a:=⟨_,getElem?_eq_getElem hj⟩
    rw [List.getLast?_concat] at e
    dsimp only at e
    rw [ha] at e
    rw [decide_eq_true (by rw [length_map,length_append,length_singleton]; omega)]
    walk_at "pr"
    refine Ln (by rw [map_append]; exact Gy _ _) ?_
    refine Fp (l:=w) (f:=fun a:Nat=>PV.int a) (j:=j) (a:=a) ha rfl ?_
    walk_at "pr"
    rotate_left
    ·rw [length_map]; omega
    refine Ln (by rw [map_append]; exact Gy _ _) ?_
    walk_at "pr"
    rw [Gw,Acx]
    have e1:(prF (mtF M) ks bs (n + 1)).1.map ppP = pp.map ppP ++ [.tup [.int (a:Nat),.int (n:Nat)]]:=by rw [e,map_append]; rfl
    have e2:(prF (mtF M) ks bs (n + 1)).2 = w.take j:=by rw [e]
    exact ⟨_,_,_,by rw [e1,e2]⟩
  ·rw [if_neg (fun z=>h2 (Option.some.inj z))] at e
   rw [decide_eq_false h2]
   walk_at "pr"
   exact ⟨_,_,_,by rw [e]⟩
 rintro ρ ⟨v5,v6,v7,rfl⟩
 rw [Rt,length_map]
 walk_at "pr"
 exact q
theorem Wv {α:Type} (xs:List α) (p q:Nat):Gh xs (some (p:Int)) (some (q:Int)) = (xs.take q).drop p:=by
 unfold Gh
 rw [HT.sIx_nat,HT.sIx_nat,List.drop_take]
 by_cases h:p <= xs.length
 ·rw [Nat.min_eq_left h]
  by_cases h2:q <= xs.length
  ·rw [Nat.min_eq_left h2]
  ·rw [Nat.min_eq_right (by omega),List.take_of_length_le (by rw [length_drop]; omega),List.take_of_length_le (by rw [length_drop]; omega)]
 ·rw [Nat.min_eq_right (show xs.length <= p by omega),List.drop_of_length_le (Nat.le_refl _),List.drop_of_length_le (by omega),take_nil,take_nil]
theorem Zm:∀ l:List (Option Str),l.filterMap (fun o=>o.map PV.str) = (l.filterMap id).map .str
 | []=>rfl
 | none :: r=>Zm r
 | some s :: r=>by
  show PV.str s :: r.filterMap (fun o=>o.map PV.str) = _
  rw [Zm r]; rfl
def AlD:PSp:=fun ps P=>∃ (ws:List (Option Str)) (p:Nat × Nat) (own:Str),ps = [.lst (ws.map osP),ppP p,.str own]/\ws.length <= 1000/\P (osP (wpF ws p own))
theorem AnL (T:Txt K mg t):Binds K t.d_qu ["ways","pair","own"] []:=T.F_qu.binds fun _ _ _ _ _ _ us hl=>match us,hl with | [_,_,_],_=>rfl
theorem Amv (T:Txt K mg t):FnOk P w K mg base CX0 1 t.f_qu t.d_qu ["ways","pair","own"] (spOf K t.C_Book [false,false,true] .sh AlD):=by
 refine T.F_qu.ok sc_qu (fun vs H Q E h=>h.len) (fun cdv A outer s H vs Q E hr h=>?_)
 have hu:=Co hr
 have hu64:=hr.units
 refine ⟨_,(Bf (Se 1 ["way"] rfl rfl (Dd (Gz (Gx K) (pv 0) (Fm (Ca Dz (Cl (Cz K) (pv 1) Be (fun _ _=>rfl)) Be)) (Fm (Cl (Cz K) (pv 1) Be (fun _ _=>rfl))))) (fun _ _ _ _=>(By (i:=0) (show Nodup (["way"]:List Str) by decide +kernel) rfl (Or.inl rfl))) (fun _ _ _ _=>(Le (Gb (Ox (pv 0))))) (fun _ _ _ _=>(pv 0)) (by decide +kernel) (by decide +kernel) rfl (by decide +kernel) (fun _=>rfl) (i:=3) sc_qu.nd rfl (Or.inl rfl) rfl)
   (Bf (De (Cf Dq (Ct (Cp K) rfl T.z_len PySem.boot_len (Ba (pv 3) Bd)) Be (Ck _))
    (Bi (Cd Rr))
    Cy)
   (Bf (De (Cf (Nx K) (pv 2) (pv 3) rfl)
    (Bi (Cd (pv 2)))
    Cy)
   (Bf (Se 1 ["way"] rfl rfl (Dd (Gz (Gx K) (pv 0) Yk (Fm (Cl (Cz K) (pv 1) Be (fun _ _=>rfl))))) (fun _ _ _ _=>(By (i:=0) (show Nodup (["way"]:List Str) by decide +kernel) rfl (Or.inl rfl))) (fun _ _ _ _=>(Le (Gb (Ox (pv 0))))) (fun _ _ _ _=>(pv 0)) (by decide +kernel) (by decide +kernel) rfl (by decide +kernel) (fun _=>rfl) (i:=4) sc_qu.nd rfl (Or.inl rfl) rfl)
   (Bi (Cd (Gi (Cf Zt (Ct (Cp K) rfl T.z_len PySem.boot_len (Ba (pv 4) Bd)) Be (Ck _)) (Cl (Cu K) (pv 4) (Ra Ls Be) (fun _ _=>rfl)) (pv 2)))))))),?_⟩
 try dsimp only [Cg,Bw]
 refine Cm h (by decide) (Br (Cc (EF.eu (Fr (EF.eb (Lv Bb (Fn (EU.eb (Dc (fun _ _ _=>.int _) (EU.eb (Di Bb (EU.eb Bg))) (EU.eb Bg)))) (Fn (EU.eb (Di Bb (EU.eb Bg)))))) (Cn (top:=1)) (Cw (EU.eb (Oz Bb))) Bv)))
   (Br (Dp (Cw (EU.eb (Fb (EU.eb (Dy (Bo Bb Bh))) (EU.eb Bg))))
    (Dm Rw)
    Dg)
   (Br (Dp (Cw (EU.eb (Wy Bv Bb)))
    (Dm Bv)
    Dg)
   (Br (Cc (EF.eu (Fr (EF.eb (Lv Bb Yf (Fn (EU.eb (Di Bb (EU.eb Bg)))))) (Cn (top:=1)) (Cw (EU.eb (Oz Bb))) Bv)))
   (Dm (Ov (Cw (EU.eb (Dc (fun _ _ _=>.bl _) (EU.eb (Dy (Bo Bb Bh))) (EU.eb Bg)))) (Do Bb (EU.eb (Xx (fun _ _=>.int _) (EU.eb Bg)))) Bv)))))) (fun ps P hp=>?_)
 clear h hu hu64 hr
 obtain ⟨ws,p,own,rfl,hl,q⟩:=hp
 walk_at "s"
 have cl:=Vx ws (some ((p.1:Int) + 1)) (some (p.2:Int))
 have cl2:=Vx ws none (some (p.1:Int))
 unfold wpF at q
 rw [show ppP p = .tup [.int p.1,.int p.2] from rfl]
 walk_at "pr"
 rw [Gw]
 refine ⟨by rw [length_map]; omega,?_⟩
 rw [show (some ((p.1:Int) + 1)) = some (((p.1 + 1:Nat):Int)) by rw [Int.natCast_add]; rfl,Wv]
 generalize (ws.take p.2).drop (p.1 + 1) = wi at q
 refine Fj (S:=wi) (enc:=osP) (f:=fun o=>o.map .str) ?_ (fun d hd Z hZ=>?_)
 rotate_left
 ·walk_at "cp"
  walk_at "pr"
  cases d with
  | none =>
   refine Jd (by decide) ?_
   exact hZ
  | some s =>
   refine Gu rfl ?_
   walk_at "pr"
   exact hZ
 rw [Zm]
 generalize wi.filterMap id = w2 at q
 walk_at "pr"
 rw [length_map]
 by_cases h1:w2 = []
 ·rw [if_pos h1] at q
  rw [decide_eq_true (by rw [h1]; rfl)]
  walk_at "pr"
  exact q
 rw [if_neg h1] at q
 rw [decide_eq_false (by have:=List.length_pos_iff.mpr h1; omega)]
 walk_at "pr"
 refine AjA (L:=w2) (x:=own) ?_
 walk_at "pr"
 by_cases h2:own ∈ w2
 ·rw [if_pos h2] at q
  rw [decide_eq_true h2]
  walk_at "pr"
  exact q
 rw [if_neg h2] at q
 rw [decide_eq_false h2]
 walk_at "pr"
 rw [Gw,Acx]
 refine ⟨by rw [length_map,length_take]; omega,?_⟩
 generalize ws.take p.1 = wa at q
 refine Fj (S:=wa) (enc:=osP) (f:=fun o=>o.map .str) ?_ (fun d hd Z hZ=>?_)
 rotate_left
 ·walk_at "cp"
  walk_at "pr"
  cases d with
  | none =>
   refine Jd (by decide) ?_
   exact hZ
  | some s =>
   refine Gu rfl ?_
   walk_at "pr"
   exact hZ
 rw [Zm]
 generalize wa.filterMap id = w3 at q
 walk_at "pr"
 rcases eq_nil_or_concat w3 with z | ⟨w4,s,z⟩
 ·subst z
  rw [decide_eq_false (by simp)]
  walk_at "pr"
  exact q
 ·rw [concat_eq_append] at z
  subst z
  rw [List.getLast?_concat] at q
  rw [decide_eq_true (by rw [length_map,length_append,length_singleton]; omega)]
  walk_at "pr"
  refine Ln (by rw [map_append]; exact Gy _ _) ?_
  exact q
def AiO:PSp:=fun ps P=>∃ (ws:List (Option Str)) (pp:List (Nat × Nat)) (own:Str),ps = [.lst (ws.map osP),.lst (pp.map ppP),.str own]/\ws.length <= 1000/\(∀ p ∈ pp,p.1 < ws.length/\p.2 < ws.length)/\P (.lst ((wwF ws pp own).map osP))
theorem Anv (T:Txt K mg t):Binds K t.d_qc ["ways","pairs","own"] []:=T.F_qc.binds fun _ _ _ _ _ _ us hl=>match us,hl with | [_,_,_],_=>rfl
theorem Ami (T:Txt K mg t):FnOk P w K mg base CX0 2 t.f_qc t.d_qc ["ways","pairs","own"] (spOf K t.C_Book [false,false,true] .fr AiO):=by
 refine T.F_qc.ok sc_qc (fun vs H Q E h=>h.len) (fun cdv A outer s H vs Q E hr h=>?_)
 have hu:=Co hr
 have hu64:=hr.units
 refine ⟨_,(Bf (Bu (i:=3) sc_qc.nd rfl (Or.inl rfl) (Lo (Tw K) rfl T.z_list PyProof.Rows.boot_list (Ba (pv 0) Bd)))
   (Bf (Dl PassesOwn.never rfl (Dd (pv 1)) (By (i:=4) sc_qc.nd rfl (Or.inl rfl))
    (Bf (Bu (i:=5) sc_qc.nd rfl (Or.inl rfl) (Bm (Amv T) (hr.mono (by decide)) rfl T.m_qu T.F_qu.kp (AnL T) .nil Bs (Ba (pv 0) (Ba (pv 4) (Ba (pv 2) Bd)))))
   (Bf (Uk (pv 5) (Ui (pv 3) (Cl (Cz K) (pv 4) Be (fun _ _=>rfl)) Lq))
   (Bi (Uk (pv 5) (Ui (pv 3) (Cl (Cz K) (pv 4) Be (fun _ _=>rfl)) Lq))))))
   (Bi (Cd (pv 3))))),?_⟩
 try dsimp only [Cg,Bw]
 refine Cm h (by decide) (Br (Fc (AbU (Bo Bb Bh)))
   (Br (Yb (Cn (top:=6))
    (Br (Cc (Ci (Bo Bb (Bo Bb (Bn Bv Bh)))))
   (Br (Um (EU.eb (Di Bb (EU.eb Bg))) Bv)
   (Um (EU.eb (Di Bb (EU.eb Bg))) Bv))))
   Gq)) (fun ps P hp=>?_)
 clear h hu hu64 hr
 obtain ⟨ws,pp,own,rfl,hl,hp,q⟩:=hp
 walk_at "s"
 unfold wwF at q
 walk_at "pr"
 refine ⟨fun n ρ=>∃ (f:List (Option Str)) (v4 v5:Sl),ρ = [.bo (.lst (ws.map osP)),.bo (.lst (pp.map ppP)),.sh (.str own),.ow (.lst (f.map osP)),v4,v5]/\f.length = ws.length/\(pp.drop n).foldl (fun f p=>(f.set p.1 (wpF ws p own)).set p.2 (wpF ws p own)) f = pp.foldl (fun f p=>(f.set p.1 (wpF ws p own)).set p.2 (wpF ws p own)) ws,⟨ws,_,_,rfl,rfl,rfl⟩,?_,?_⟩
 ·rintro n p ρ hpn ⟨f,v4,v5,rfl,fl,he⟩
  rw [getElem?_map] at hpn
  obtain ⟨x,hx,rfl⟩:=map_eq_some_iff.mp hpn
  obtain ⟨x1,x2⟩:=hp x (mem_of_getElem? hx)
  obtain ⟨hi,rfl⟩:=List.getElem?_eq_some_iff.mp hx
  rw [drop_eq_getElem_cons hi,foldl_cons] at he
  generalize pp[n] = x at *
  walk_at "pr"
  refine ⟨ws,x,own,rfl,hl,?_⟩
  rw [show ppP x = .tup [.int x.1,.int x.2] from rfl]
  walk_at "pr"
  refine Wm rfl (Vg (j:=x.1) (by rw [length_map]; omega)) ?_
  walk_at "pr"
  refine Wm rfl (Vg (j:=x.2) (by rw [length_set,length_map]; omega)) ?_
  walk_at "pr"
  rw [<- map_set,<- map_set]
  exact ⟨_,_,_,rfl,by rw [length_set,length_set,fl],he⟩
 rintro ρ ⟨f,v4,v5,rfl,fl,he⟩
 rw [length_map,drop_length,foldl_nil] at he
 walk_at "pr"
 rw [he]
 exact q
def Ajf:PSp:=fun ps P=>∃ (ws:List (Option Str)) (own:Str),ps = [.lst (ws.map osP),.str own]/\ws.length <= 1000/\P (.lst ((laF own ws).map .str))
theorem AgM (T:Txt K mg t):Binds K t.d_qbo ["ways","own"] []:=T.F_qbo.binds fun _ _ _ _ _ _ us hl=>match us,hl with | [_,_],_=>rfl
theorem Ad8 (T:Txt K mg t):FnOk P w K mg base CX0 1 t.f_qbo t.d_qbo ["ways","own"] (spOf K t.C_Book [false,true] .fr Ajf):=by
 refine T.F_qbo.ok sc_qbo (fun vs H Q E h=>h.len) (fun cdv A outer s H vs Q E hr h=>?_)
 have hu:=Co hr
 have hu64:=hr.units
 refine ⟨_,(Bf (Bu (i:=2) sc_qbo.nd rfl (Or.inl rfl) (Cr Bd))
   (Bf (Bu (i:=3) sc_qbo.nd rfl (Or.inl rfl) (pv 1))
   (Bf (Dl PassesOwn.never rfl (Dd (pv 0)) (By (i:=4) sc_qbo.nd rfl (Or.inl rfl))
    (Bf (De (Gb (Ox (pv 4)))
    (Bi (Bu (i:=3) sc_qbo.nd rfl (Or.inl rfl) (pv 4)))
    Cy)
   (Bi (Cs (Fv plainAttrs_list PySem.F.slot_list_append PySem.F.type_list_append Dn (pv 2) (Ba (pv 3) Bd))))))
   (Bi (Cd (pv 2)))))),?_⟩
 try dsimp only [Cg,Bw]
 refine Cm h (by decide) (Br (Fc (Db 0 Bh))
   (Br (Cc Bv)
   (Br (Yb (Cn (top:=5))
    (Br (Dp (Cw (EU.eb (Oz Bb)))
    (Cc Bv)
    Dg)
   (Gk (Bn Bv Bh))))
   Gq))) (fun ps P hp=>?_)
 clear h hu hu64 hr
 obtain ⟨ws,own,rfl,hl,q⟩:=hp
 walk_at "s"
 walk_at "pr"
 refine ⟨fun n ρ=>∃ (A:List Str) (l:Str) (v4:Sl),ρ = [.bo (.lst (ws.map osP)),.sh (.str own),.ow (.lst (A.map .str)),.sh (.str l),v4]/\A.length = n/\A ++ laF l (ws.drop n) = laF own ws,⟨[],own,_,rfl,rfl,rfl⟩,?_,?_⟩
 ·rintro n p ρ hp ⟨A,l,v4,rfl,al,he⟩
  rw [getElem?_map] at hp
  obtain ⟨w,hw,rfl⟩:=map_eq_some_iff.mp hp
  obtain ⟨hi,rfl⟩:=List.getElem?_eq_some_iff.mp hw
  rw [drop_eq_getElem_cons hi,laF] at he
  generalize ws[n] = w at *
  walk_at "pr"
  cases w with
  | none =>
   refine Jd (by decide) ?_
   walk_at "pr"
   rotate_left
   ·rw [length_map]; omega
   exact ⟨A ++ [l],l,_,by rw [map_append]; rfl,by rw [length_append,al]; rfl,by rw [append_assoc]; exact he⟩
  | some s =>
   refine Gu rfl ?_
   walk_at "pr"
   rotate_left
   ·rw [length_map]; omega
   exact ⟨A ++ [s],s,_,by rw [map_append]; rfl,by rw [length_append,al]; rfl,by rw [append_assoc]; exact he⟩
 rintro ρ ⟨A,l,v4,rfl,al,he⟩
 rw [length_map,drop_length,laF,append_nil] at he
 walk_at "pr"
 rw [he]
 exact q
def Akj:PSp:=fun ps P=>∃ (ws:List (Option Str)) (own:Str),ps = [.lst (ws.map osP),.str own]/\ws.length <= 1000/\P (.lst ((flF own ws).map .str))
theorem Ann (T:Txt K mg t):Binds K t.d_qv ["ways","own"] []:=T.F_qv.binds fun _ _ _ _ _ _ us hl=>match us,hl with | [_,_],_=>rfl
theorem Anf (T:Txt K mg t):FnOk P w K mg base CX0 2 t.f_qv t.d_qv ["ways","own"] (spOf K t.C_Book [true,true] .fr Akj):=by
 refine T.F_qv.ok sc_qv (fun vs H Q E h=>h.len) (fun cdv A outer s H vs Q E hr h=>?_)
 have hu:=Co hr
 have hu64:=hr.units
 refine ⟨_,(Bf (Bu (i:=2) sc_qv.nd rfl (Or.inl rfl) (Bm (Ad8 T) (hr.mono (by decide)) rfl T.m_qbo T.F_qbo.kp (AgM T) .nil Bs (Ba (pv 0) (Ba (pv 1) Bd))))
   (Bf (Bu (i:=3) sc_qv.nd rfl (Or.inl rfl) (AdP (Bm (Ad8 T) (hr.mono (by decide)) rfl T.m_qbo T.F_qbo.kp (AgM T) .nil Bs (Ba (AdP (pv 0) rfl rfl T.z_list rfl T.z_reversed) (Ba (pv 1) Bd))) rfl rfl T.z_list rfl T.z_reversed))
   (Bi (Cd (Jp 2 [1] ["one","other","own"] ["own"] rfl (Yh K (pv 2) (pv 3) rfl T.z_zip) rfl (fun j y e1 i e2=>match j,e1,e2 with | 0,e1,e2=>by cases e1; cases e2; exact ⟨rfl,rfl,rfl,by decide +kernel⟩ | _ + 1,_,e2=>by simp at e2) (forall_mem_cons.mpr ⟨rfl,fun _ h=>nomatch h⟩) (by decide +kernel) (fun _ _ _ _=>(Gp (K':=K) (n:=2) rfl rfl (Cq (By (i:=0) (show Nodup (["one","other","own"]:List Str) by decide +kernel) rfl (Or.inl rfl)) (Cq (By (i:=1) (show Nodup (["one","other","own"]:List Str) by decide +kernel) rfl (Or.inl rfl)) Fh)))) (fun _ _ _ _=>Gr) (fun _ _ _ _=>(Gi (Cf Dq (pv 0) (pv 1) (Ck _)) (pv 0) (pv 2))) rfl (by decide +kernel) rfl (by decide +kernel)))))),?_⟩
 try dsimp only [Cg,Bw]
 refine Cm h (by decide) (Br (Cc (EF.eu (Dk (Bo Bb (Bn Bv Bh)))))
   (Br (Cc (EF.eu (Ad2 (EF.eb (Dk (Bo (EF.eb (Ad2 Bb)) (Bn Bv Bh)))))))
   (Je (AaH Bb Bb (Ju (Du (Cn (top:=2)) (Du (Cn (top:=2)) Jb))) Ja (Ov (Cw (EU.eb (Fb Bb Bb))) Bv Bv))))) (fun ps P hp=>?_)
 clear h hu hu64 hr
 obtain ⟨ws,own,rfl,hl,q⟩:=hp
 walk_at "s"
 unfold flF at q
 walk_at "pr"
 refine ⟨ws,own,rfl,hl,?_⟩
 walk_at "pr"
 rw [<- List.map_reverse]
 refine ⟨ws.reverse,own,rfl,by rw [length_reverse]; exact hl,?_⟩
 walk_at "pr"
 rw [<- List.map_reverse]
 refine ⟨by rw [length_map,Abg]; omega,?_⟩
 rw [Xp]
 refine Fj (S:=(laF own ws).zip (laF own ws.reverse).reverse) (enc:=fun z:Str × Str=>PV.tup [.str z.1,.str z.2]) (f:=fun z=>some (.str (if z.1 = z.2 then z.1 else own))) ?_ (fun d hd Z hZ=>?_)
 rotate_left
 ·walk_at "cp"
  walk_at "pr"
  by_cases h:d.1 = d.2
  ·rw [decide_eq_true h]
   rw [if_pos h] at hZ
   walk_at "pr"
   exact hZ
  ·rw [decide_eq_false h]
   rw [if_neg h] at hZ
   walk_at "pr"
   exact hZ
 generalize (laF own ws).zip (laF own ws.reverse).reverse = Z at q
 rw [show Z.filterMap (fun z:Str × Str=>some (PV.str (if z.1 = z.2 then z.1 else own))) = (Z.map fun z=>if z.1 = z.2 then z.1 else own).map .str by rw [map_map]; exact congrFun (filterMap_eq_map' (f:=fun z:Str × Str=>PV.str (if z.1 = z.2 then z.1 else own))) _]
 exact q
def Aj8:PSp:=fun ps P=>∃ U M J ks bs own,ps = [.bk U M J,.lst (map .str ks),.lst (map .int bs),.str own]/\ks.length = bs.length/\bs.length <= 1000/\P (.lst ((wrF (mtF M) ks bs own).map .str))
theorem AnV (T:Txt K mg t):Binds K t.d_qw ["book","kinds","bases","own"] []:=T.F_qw.binds fun _ _ _ _ _ _ us hl=>match us,hl with | [_,_,_,_],_=>rfl
theorem AlZ (T:Txt K mg t):FnOk P w K mg base CX0 3 t.f_qw t.d_qw ["book","kinds","bases","own"] (spOf K t.C_Book [false,true,false,true] .fr Aj8):=by
 refine T.F_qw.ok sc_qw (fun vs H Q E h=>h.len) (fun cdv A outer s H vs Q E hr h=>?_)
 have hu:=Co hr
 have hu64:=hr.units
 refine ⟨_,(Bf (Bu (i:=4) sc_qw.nd rfl (Or.inl rfl) (Bm (AmJ T) (hr.mono (by decide)) rfl T.m_ql T.F_ql.kp (Anz T) .nil Bs (Ba (pv 1) (Ba (pv 3) Bd))))
   (Bf (Bu (i:=5) sc_qw.nd rfl (Or.inl rfl) (Bm (Aln T) (hr.mono (by decide)) rfl T.m_qcf T.F_qcf.kp (Am2 T) .nil Bs (Ba (pv 0) (Ba (pv 1) (Ba (pv 2) Bd)))))
   (Bi (Cd (Bm (Anf T) (hr.mono (by decide)) rfl T.m_qv T.F_qv.kp (Ann T) .nil Bs (Ba (Bm (Ami T) (hr.mono (by decide)) rfl T.m_qc T.F_qc.kp (Anv T) .nil Bs (Ba (pv 4) (Ba (pv 5) (Ba (pv 3) Bd)))) (Ba (pv 3) Bd))))))),?_⟩
 try dsimp only [Cg,Bw]
 refine Cm h (by decide) (Br (Cc (EF.eu (Dk (Bo Bb (Bn Bv Bh)))))
   (Br (Cc (EF.eu (Dk (Bo Bb (Bn Bv (Bo Bb Bh))))))
   (Je (Dk (Bn (EF.eu (Dk (Bo Bb (Bo Bb (Bn Bv Bh))))) (Bn Bv Bh)))))) (fun ps P hp=>?_)
 clear h hu hu64 hr
 obtain ⟨U,M,J,ks,bs,own,rfl,hl,hb,q⟩:=hp
 walk_at "s"
 unfold wrF at q
 walk_at "pr"
 refine ⟨ks,own,rfl,by omega,?_⟩
 walk_at "pr"
 refine ⟨U,M,J,ks,bs,rfl,hl,hb,?_⟩
 walk_at "pr"
 refine ⟨_,_,own,rfl,by rw [Vh]; omega,fun p hp=>?_,?_⟩
 ·have:=(Aau (mt:=mtF M) (ks:=ks) (bs:=bs) ks.length).1 p hp
  rw [Vh]; exact this
 walk_at "pr"
 refine ⟨_,own,rfl,by rw [AhB,Vh]; omega,?_⟩
 exact q
def AhW:PSp:=fun ps P=>∃ k w v,ps = [.str k,.str w,.int v]/\P (.int (lwF k w v))
theorem AnU (T:Txt K mg t):Binds K t.d_qm ["kind","way","level"] []:=T.F_qm.binds fun _ _ _ _ _ _ us hl=>match us,hl with | [_,_,_],_=>rfl
theorem AmN (T:Txt K mg t):FnOk P w K mg base CX0 2 t.f_qm t.d_qm ["kind","way","level"] (spOf K t.C_Book [false,false,true] .sh AhW):=by
 refine T.F_qm.ok Amx (fun vs H Q E h=>h.len) (fun cdv A outer s H vs Q E hr h=>?_)
 have hu:=Co hr
 have hu64:=hr.units
 refine ⟨_,(Bf (De (Cf Dq (pv 0) Bx (Ck _))
    (Bf (De (Cf Dq (Ca Dr (pv 2) Be) Be (Ck _))
    (Bi (Cd (Ca Dz (pv 2) Be)))
    Cy)
   (Bi (Cd (Gi (Cf Dq (pv 1) Bx (Ck _)) (pv 2) (Ca Dz (pv 2) Be)))))
    Cy)
   (Bi (Cd (Gi (Cf Dq (pv 1) (Bm (Ag1 T) (hr.mono (by decide)) rfl T.m_qp T.F_qp.kp (Aj1 T) .nil Bs (Ba (pv 2) Bd)) (Ck _)) (pv 2) (Ca Dz (pv 2) Be))))),?_⟩
 try dsimp only [Cg,Bw]
 refine Cm h (by decide) (Br (Dp (Cw (EU.eb (Fb Bb (EU.eb Ch))))
    (Br (Dp (Cw (EU.eb (Fb (EU.eb (Dh (fun _ _ _=>.int _) Bb (EU.eb Bg))) (EU.eb Bg))))
    (Dm (Dc (fun _ _ _=>.int _) Bb (EU.eb Bg)))
    Dg)
   (Dm (Ov (Cw (EU.eb (Fb Bb (EU.eb Ch)))) Bv (Dc (fun _ _ _=>.int _) Bb (EU.eb Bg)))))
    Dg)
   (Dm (Ov (Cw (EU.eb (Fb Bb (EU.eb (Ci (Bo Bb Bh)))))) Bv (Dc (fun _ _ _=>.int _) Bb (EU.eb Bg))))) (fun ps P hp=>?_)
 clear h hu hu64 hr
 obtain ⟨k,w,v,rfl,q⟩:=hp
 walk_at "s"
 unfold lwF at q
 walk_at "pr"
 by_cases h1:k = "num"
 ·rw [decide_eq_true h1]
  rw [if_pos h1] at q
  walk_at "pr"
  all_goals try decide
  by_cases h2:v % 2 = 1
  ·rw [decide_eq_true h2]
   rw [if_pos h2] at q
   walk_at "pr"
   exact q
  ·rw [decide_eq_false h2]
   rw [if_neg h2] at q
   walk_at "pr"
   by_cases h3:w = "fore"
   ·rw [decide_eq_true h3]
    rw [if_pos h3] at q
    walk_at "pr"
    exact q
   ·rw [decide_eq_false h3]
    rw [if_neg h3] at q
    walk_at "pr"
    exact q
 ·rw [decide_eq_false h1]
  rw [if_neg h1] at q
  walk_at "pr"
  refine ⟨v,rfl,?_⟩
  walk_at "pr"
  by_cases h3:w = wyF v
  ·rw [decide_eq_true h3]
   rw [if_pos h3] at q
   walk_at "pr"
   exact q
  ·rw [decide_eq_false h3]
   rw [if_neg h3] at q
   walk_at "pr"
   exact q
def Aio:PSp:=fun ps P=>∃ (U:List Sg) (M:List (Int × Int)) (J:List Jn) (ws:List (List Int)) (v:Int),ps = [.bk U M J,.lst (ws.map fun g:List Int=>PV.lst (g.map .int)),.int v]/\(∀ w ∈ ws,∃ n r,w = n :: r)/\ws.length <= 1000/\P (.lst ((rwF (mtF M) (ws.map (knW U M)) (ws.map hdF) v).map .int))
theorem AnP (T:Txt K mg t):Binds K t.d_qf ["book","row","level"] []:=T.F_qf.binds fun _ _ _ _ _ _ us hl=>match us,hl with | [_,_,_],_=>rfl
theorem Amk (T:Txt K mg t):FnOk P w K mg base CX0 4 t.f_qf t.d_qf ["book","row","level"] (spOf K t.C_Book [false,false,true] .fr Aio):=by
 refine T.F_qf.ok sc_qf (fun vs H Q E h=>h.len) (fun cdv A outer s H vs Q E hr h=>?_)
 have hu:=Co hr
 have hu64:=hr.units
 refine ⟨_,(Bf (Wc 1 [0] ["whole","book"] ["book"] rfl (Dd (pv 1)) rfl (fun j y e1 i e2=>match j,e1,e2 with | 0,e1,e2=>by cases e1; cases e2; exact ⟨rfl,rfl,rfl,by decide +kernel⟩ | _ + 1,_,e2=>by simp at e2) (forall_mem_cons.mpr ⟨rfl,fun _ h=>nomatch h⟩) (by decide +kernel) (fun _ _ _ _=>(By (i:=0) (show Nodup (["whole","book"]:List Str) by decide +kernel) rfl (Or.inl rfl))) (fun _ _ _ _=>Gr) (fun _ _ _ _=>(Bm (Ahy T) (hr.mono (by decide)) rfl T.m_qe T.F_qe.kp (AlT T) .nil Bs (Ba (pv 1) (Ba (pv 0) Bd)))) rfl (by decide +kernel) rfl (by decide +kernel) (fun _=>rfl) (i:=3) sc_qf.nd rfl (Or.inl rfl) rfl)
   (Bf (Se 1 ["whole"] rfl rfl (Dd (pv 1)) (fun _ _ _ _=>(By (i:=0) (show Nodup (["whole"]:List Str) by decide +kernel) rfl (Or.inl rfl))) (fun _ _ _ _=>Gr) (fun _ _ _ _=>(Cl (Cu K) (pv 0) Be (fun _ _=>rfl))) (by decide +kernel) (by decide +kernel) rfl (by decide +kernel) (fun _=>rfl) (i:=4) sc_qf.nd rfl (Or.inl rfl) rfl)
   (Bf (Bu (i:=5) sc_qf.nd rfl (Or.inl rfl) (Bm (AlZ T) (hr.mono (by decide)) rfl T.m_qw T.F_qw.kp (AnV T) .nil Bs (Ba (pv 0) (Ba (pv 3) (Ba (pv 4) (Ba (Bm (Ag1 T) (hr.mono (by decide)) rfl T.m_qp T.F_qp.kp (Aj1 T) .nil Bs (Ba (pv 2) Bd)) Bd))))))
   (Bi (Cd (Jp 2 [2] ["kind","way","level"] ["level"] rfl (Yh K (pv 3) (pv 5) rfl T.z_zip) rfl (fun j y e1 i e2=>match j,e1,e2 with | 0,e1,e2=>by cases e1; cases e2; exact ⟨rfl,rfl,rfl,by decide +kernel⟩ | _ + 1,_,e2=>by simp at e2) (forall_mem_cons.mpr ⟨rfl,fun _ h=>nomatch h⟩) (by decide +kernel) (fun _ _ _ _=>(Gp (K':=K) (n:=2) rfl rfl (Cq (By (i:=0) (show Nodup (["kind","way","level"]:List Str) by decide +kernel) rfl (Or.inl rfl)) (Cq (By (i:=1) (show Nodup (["kind","way","level"]:List Str) by decide +kernel) rfl (Or.inl rfl)) Fh)))) (fun _ _ _ _=>Gr) (fun _ _ _ _=>(Bm (AmN T) (hr.mono (by decide)) rfl T.m_qm T.F_qm.kp (AnU T) .nil Bs (Ba (pv 0) (Ba (pv 1) (Ba (pv 2) Bd))))) rfl (by decide +kernel) rfl (by decide +kernel))))))),?_⟩
 try dsimp only [Cg,Bw]
 refine Cm h (by decide) (Br (Cc (EF.eu (Fr Bb (Cn (top:=1)) Ja (Ci (Bo Bb (Bo Bb Bh))))))
   (Br (Cc (EF.eu (Fr Bb (Cn (top:=1)) Ja (Do Bb (EU.eb Bg)))))
   (Br (Cc (EF.eu (Dk (Bo Bb (Bn Bv (Bo Bb (Bn (Ci (Bo Bb Bh)) Bh)))))))
   (Je (AaH Bb Bb (Ju (Du (Cn (top:=2)) (Du (Cn (top:=2)) Jb))) Ja (Ci (Bo Bb (Bo Bb (Bn Bv Bh))))))))) (fun ps P hp=>?_)
 clear h hu hu64 hr
 obtain ⟨U,M,J,ws,v,rfl,hw,hl,q⟩:=hp
 walk_at "s"
 unfold rwF at q
 walk_at "pr"
 refine ⟨by rw [length_map]; omega,?_⟩
 refine Fj (S:=ws) (enc:=fun g:List Int=>PV.lst (g.map .int)) (f:=fun g=>some (.str (knW U M g))) ?_ (fun d hd Z hZ=>?_)
 rotate_left
 ·obtain ⟨n,r,rfl⟩:=hw d hd
  walk_at "cp"
  walk_at "pr"
  refine ⟨U,M,J,n,r,rfl,?_⟩
  exact hZ
 rw [show ws.filterMap (fun g=>some (PV.str (knW U M g))) = (ws.map (knW U M)).map .str by rw [map_map]; exact congrFun (filterMap_eq_map' (f:=fun g=>PV.str (knW U M g))) _]
 walk_at "pr"
 refine ⟨by rw [length_map]; omega,?_⟩
 refine Fj (S:=ws) (enc:=fun g:List Int=>PV.lst (g.map .int)) (f:=fun g=>some (.int (hdF g))) ?_ (fun d hd Z hZ=>?_)
 rotate_left
 ·obtain ⟨n,r,rfl⟩:=hw d hd
  walk_at "cp"
  walk_at "pr"
  refine Fp (l:=n :: r) (f:=PV.int) (j:=0) (a:=n) rfl rfl ?_
  exact hZ
 rw [show ws.filterMap (fun g=>some (PV.int (hdF g))) = (ws.map hdF).map .int by rw [map_map]; exact congrFun (filterMap_eq_map' (f:=fun g=>PV.int (hdF g))) _]
 walk_at "pr"
 refine ⟨v,rfl,?_⟩
 walk_at "pr"
 refine ⟨U,M,J,ws.map (knW U M),ws.map hdF,wyF v,rfl,by rw [length_map,length_map],by rw [length_map]; omega,?_⟩
 walk_at "pr"
 refine ⟨by rw [length_map,length_map]; omega,?_⟩
 rw [Xp]
 refine Fj (S:=(ws.map (knW U M)).zip (wrF (mtF M) (ws.map (knW U M)) (ws.map hdF) (wyF v))) (enc:=fun z:Str × Str=>PV.tup [.str z.1,.str z.2]) (f:=fun z=>some (.int (lwF z.1 z.2 v))) ?_ (fun d hd Z hZ=>?_)
 rotate_left
 ·walk_at "cp"
  walk_at "pr"
  refine ⟨d.1,d.2,v,rfl,?_⟩
  exact hZ
 generalize (ws.map (knW U M)).zip (wrF (mtF M) (ws.map (knW U M)) (ws.map hdF) (wyF v)) = Z at q
 rw [show Z.filterMap (fun z:Str × Str=>some (PV.int (lwF z.1 z.2 v))) = (Z.map fun z=>lwF z.1 z.2 v).map .int by rw [map_map]; exact congrFun (filterMap_eq_map' (f:=fun z:Str × Str=>PV.int (lwF z.1 z.2 v))) _]
 exact q
def Alj:PSp:=fun ps P=>∃ U M J ts o m,ps = [.bk U M J,.lst (map .int ts),opP o,.int m]/\ts.length <= 300/\P (.lst ((Qj (mtF M) (knL U M ts) (bsL U M ts) (o.getD (obF 0 (knL U M ts))) m).map .int))
theorem Ai4 (T:Txt K mg t):Binds K t.d_qbu ["book","text","base","most"] [t.v_levels_of_0,t.v_levels_of_1]:=T.F_qbu.binds 2 rfl fun _ _ _ _ _ _ us hl=>match us,hl with | [_,_],_=>⟨_,rfl,rfl⟩
theorem AjG (T:Txt K mg t):Binds K t.d_qbu ["book","text","base","most"] [t.v_levels_of_1]:=T.F_qbu.binds 3 rfl fun _ _ _ _ _ _ us hl=>match us,hl with | [_,_,_],_=>⟨_,rfl,rfl⟩
theorem Ahk (T:Txt K mg t):Binds K t.d_qbu ["book","text","base","most"] []:=T.F_qbu.binds 4 rfl fun _ _ _ _ _ _ us hl=>match us,hl with | [_,_,_,_],_=>⟨_,rfl,rfl⟩
theorem Aei (T:Txt K mg t):FnOk P w K mg base CX0 7 t.f_qbu t.d_qbu ["book","text","base","most"] (spOf K t.C_Book [false,false,true,false] .fr Alj):=by
 refine T.F_qbu.ok sc_qbu (fun vs H Q E h=>h.len) (fun cdv A outer s H vs Q E hr h=>?_)
 have hu:=Co hr
 have hu64:=hr.units
 refine ⟨_,(Bf (Bu (i:=4) sc_qbu.nd rfl (by first | exact Or.inl rfl | exact Or.inr rfl) (Bm (Aaf T) (hr.mono (by decide)) rfl T.m_qbv T.F_qbv.kp (Ab5 T) .nil Bs (Ba (pv 0) (Ba (pv 1) Bd))))
   (Bf (Bu (i:=5) sc_qbu.nd rfl (Or.inl rfl) (Bm (AgI T) (hr.mono (by decide)) rfl T.m_qr T.F_qr.kp (AkN T) .nil Bs (Ba (pv 0) (Ba (pv 1) (Ba (pv 2) Bd)))))
   (Bf (Bu (i:=6) sc_qbu.nd rfl (Or.inl rfl) (Ca Vb (Cr (Ba (pv 5) Bd)) (Ct (Cp K) rfl T.z_len PySem.boot_len (Ba (pv 4) Bd))))
   (Bf (Bu (i:=7) sc_qbu.nd rfl (Or.inl rfl) (Bm (AlI T) (hr.mono (by decide)) rfl T.m_qcd T.F_qcd.kp (Am0 T) .nil Bs (Ba (pv 0) (Ba (pv 1) (Ba (pv 5) (Ba (pv 3) Bd))))))
   (Bf (Dl PassesOwn.never rfl (Dd (Bm (Anl T) (hr.mono (by decide)) rfl T.m_qo T.F_qo.kp (AnE T) .nil Bs (Ba (pv 7) (Ba (Ct (Cp K) rfl T.z_len PySem.boot_len (Ba (pv 4) Bd)) (Ba (pv 5) Bd))))) (Gp (K':=K) (n:=2) rfl rfl (Cq (By (i:=8) sc_qbu.nd rfl (Or.inl rfl)) (Cq (By (i:=9) sc_qbu.nd rfl (Or.inl rfl)) Fh)))
    (Bf (Bu (i:=10) sc_qbu.nd rfl (Or.inl rfl) (Bm (Amk T) (hr.mono (by decide)) rfl T.m_qf T.F_qf.kp (AnP T) .nil Bs (Ba (pv 0) (Ba (Jp 1 [4] ["k","wholes"] ["wholes"] rfl (Dd (pv 9)) rfl (fun j y e1 i e2=>match j,e1,e2 with | 0,e1,e2=>by cases e1; cases e2; exact ⟨rfl,rfl,rfl,by decide +kernel⟩ | _ + 1,_,e2=>by simp at e2) (forall_mem_cons.mpr ⟨rfl,fun _ h=>nomatch h⟩) (by decide +kernel) (fun _ _ _ _=>(By (i:=0) (show Nodup (["k","wholes"]:List Str) by decide +kernel) rfl (Or.inl rfl))) (fun _ _ _ _=>Gr) (fun _ _ _ _=>(Cl (Cu K) (pv 1) (pv 0) (fun _ _=>rfl))) rfl (by decide +kernel) rfl (by decide +kernel)) (Ba (pv 8) Bd)))))
   (Bi (Dl PassesOwn.never rfl (Yh K (pv 9) (pv 10) rfl T.z_zip) (Gp (K':=K) (n:=2) rfl rfl (Cq (By (i:=11) sc_qbu.nd rfl (Or.inl rfl)) (Cq (By (i:=12) sc_qbu.nd rfl (Or.inl rfl)) Fh)))
    (Bi (Uk (pv 12) (Ui (pv 6) (pv 11) Lq)))))))
   (Bi (Cd (pv 6)))))))),?_⟩
 try dsimp only [Cg,Bw]
 refine Cm h (by decide) (Br (Cc (Aav (Bo Bb (Bo Bb Bh))))
   (Br (Cc (Ci (Bo Bb (Bo Bb (Bn Bv Bh)))))
   (Br (Fc (Wx (EF.eb (Db 1 (Bn Bv Bh))) (EU.eb (Dy (Bo Bb Bh)))))
   (Br (Cc (EF.eu (Dk (Bo Bb (Bo Bb (Bn Bv (Bo Bb Bh)))))))
   (Br (Ww (Ci (Bo Bb (Bn (Dy (Bo Bb Bh)) (Bn Bv Bh)))) (Ju (Du (Cn (top:=13)) (Du (Cn (top:=13)) Jb)))
    (Br (Cc (EF.eu (Dk (Bo Bb (Bo (EF.eb (Fr Bb (Cn (top:=1)) Ja (Do Bb Bb))) (Bn Bv Bh))))))
   (AiV Bv Bv (Ju (Du (Cn (top:=13)) (Du (Cn (top:=13)) Jb)))
    (Um Bb Bv))))
   Gq))))) (fun ps P hp=>?_)
 clear h hu hu64 hr
 obtain ⟨U,M,J,ts,o,m,rfl,hl,q⟩:=hp
 walk_at "s"
 have go:=Gm (Df U M) ts
 have gl:=go.ln
 walk_at "pr"
 refine ⟨U,M,J,ts,rfl,hl,?_⟩
 walk_at "pr"
 refine ⟨U,M,J,ts,o,rfl,hl,?_⟩
 walk_at "px"
 have kl:(knL U M ts).length = (grp (Df U M) ts).length:=by unfold knL; rw [length_map]
 unfold Qj bsL at q
 have ne:∀ w ∈ grp (Df U M) ts,∃ n r,w = n :: r:=fun w hw=>by
  obtain ⟨n,r,e,_⟩:=go.ne w hw
  exact ⟨n,r,e⟩
 have kn:knL U M ts = (grp (Df U M) ts).map (knW U M):=rfl
 generalize o.getD (obF 0 (knL U M ts)) = b at q
 refine Gg ?_
 walk_at "px"
 all_goals try (first | exact ⟨by rw [length_map]; omega,by rw [length_map]; omega⟩ | decide)
 refine Gg ?_
 walk_at "px"
 refine ⟨U,M,J,ts,b,m,rfl,hl,?_⟩
 walk_at "pr"
 rw [length_map,toNat_natCast]
 obtain ⟨S,hS⟩:=NI.all (kn:=knL U M ts) (b:=b) (m:=m) (fun _ _=>trivial) (knL U M ts).length (Nat.le_refl _)
 have nend:=hS.end
 have dl:=AaM (kn:=knL U M ts) (b:=b) (m:=m) (knL U M ts).length
 refine ⟨dF (knL U M ts) b m (knL U M ts).length,(grp (Df U M) ts).length,b,rfl,by omega,by omega,fun x hx=>by rw [<- kl]; exact ⟨Nat.le_of_lt ((Acz _).1 x hx),nend x hx⟩,?_⟩
 rw [<- kl]
 have rk:rsF (stF (dF (knL U M ts) b m (knL U M ts).length) (knL U M ts).length b) (hmF (stF (dF (knL U M ts) b m (knL U M ts).length) (knL U M ts).length b) (knL U M ts).length (stF (dF (knL U M ts) b m (knL U M ts).length) (knL U M ts).length b).length) = AbZ (knL U M ts) b m:=rfl
 have rok:=Aki (St:=stF (dF (knL U M ts) b m (knL U M ts).length) (knL U M ts).length b) (hs:=hmF (stF (dF (knL U M ts) b m (knL U M ts).length) (knL U M ts).length b) (knL U M ts).length (stF (dF (knL U M ts) b m (knL U M ts).length) (knL U M ts).length b).length)
 have stl:=AhM (dF (knL U M ts) b m (knL U M ts).length) (knL U M ts).length b
 rw [rk,Rv] at rok
 rw [rk]
 generalize AbZ (knL U M ts) b m = rows at q rok
 rw [kl] at rok stl dl q
 generalize dF (knL U M ts) b m (knL U M ts).length = DD at *
 rw [kl]
 rw [kn] at q
 generalize grp (Df U M) ts = ws at *
 clear rk hS nend
 unfold lvA at q
 walk_at "pr"
 refine ⟨fun j ρ=>∃ (acc:List Int) (v8 v9 v10 v11 v12:Sl),ρ = [.bo (.bk U M J),.bo (.lst (ts.map .int)),.sh (opP o),.bo (.int m),.sh (.lst (ws.map fun g:List Int=>PV.lst (g.map .int))),.sh (.int b),.ow (.lst (acc.map .int)),.sh (.lst (DD.map nP)),v8,v9,v10,v11,v12]/\acc.length = ws.length/\(rows.drop j).foldl (fun l r=>lpF l r.2 (rwF (mtF M) (pkF (ws.map (knW U M)) r.2) (pkF (ws.map hdF) r.2) r.1)) acc = rows.foldl (fun l r=>lpF l r.2 (rwF (mtF M) (pkF (ws.map (knW U M)) r.2) (pkF (ws.map hdF) r.2) r.1)) (replicate ws.length b),⟨replicate ws.length b,_,_,_,_,_,by rw [List.map_replicate],length_replicate,rfl⟩,?_,?_⟩
 ·rintro j p ρ hp ⟨acc,v8,v9,v10,v11,v12,rfl,al,he⟩
  rw [getElem?_map] at hp
  obtain ⟨r,hr,rfl⟩:=map_eq_some_iff.mp hp
  obtain ⟨hi,rfl⟩:=List.getElem?_eq_some_iff.mp hr
  rw [drop_eq_getElem_cons hi,foldl_cons] at he
  obtain ⟨rk1,rk2⟩:=rok.2 _ (getElem_mem hi)
  generalize rows[j] = r at *
  rw [AeB _ ws _ rk2,AeB _ ws _ rk2] at he
  rw [show rsP r = .tup [.int r.1,.lst (r.2.map fun k:Nat=>.int k)] from rfl]
  walk_at "pr"
  refine ⟨by rw [length_map]; omega,?_⟩
  refine Fj (S:=r.2) (enc:=fun k:Nat=>PV.int k) (f:=fun k=>some (.lst (((ws[k]?).getD default).map .int))) ?_ (fun d hd Z hZ=>?_)
  rotate_left
  ·have hdl:=rk2 d hd
   rw [getElem?_eq_getElem hdl] at hZ
   walk_at "cp"
   walk_at "pr"
   refine Fp (l:=ws) (f:=fun g:List Int=>PV.lst (g.map .int)) (j:=d) (a:=ws[d]) (getElem?_eq_getElem hdl) rfl ?_
   exact hZ
  rw [show r.2.filterMap (fun k=>some (PV.lst (((ws[k]?).getD default).map .int))) = (pkF ws r.2).map (fun g:List Int=>PV.lst (g.map .int)) by unfold pkF; rw [map_map]; exact congrFun (filterMap_eq_map' (f:=fun k:Nat=>PV.lst (((ws[k]?).getD default).map .int))) _]
  walk_at "pr"
  refine ⟨U,M,J,pkF ws r.2,r.1,rfl,fun w hw=>?_,by unfold pkF; rw [length_map]; omega,?_⟩
  ·unfold pkF at hw
   obtain ⟨k,hk,rfl⟩:=mem_map.mp hw
   have hkl:=rk2 k hk
   rw [getElem?_eq_getElem hkl]
   exact ne _ (getElem_mem hkl)
  generalize rwF (mtF M) ((pkF ws r.2).map (knW U M)) ((pkF ws r.2).map hdF) r.1 = vals at he
  walk_at "pr"
  rw [Xp]
  unfold lpF at he
  have zk:∀ z ∈ r.2.zip vals,z.1 < ws.length:=fun z hz=>rk2 _ (of_mem_zip hz).1
  generalize r.2.zip vals = zs at he zk
  refine ⟨fun i ρ=>∃ (ac:List Int) (v11 v12:Sl),ρ = [.bo (.bk U M J),.bo (.lst (ts.map .int)),.sh (opP o),.bo (.int m),.sh (.lst (ws.map fun g:List Int=>PV.lst (g.map .int))),.sh (.int b),.ow (.lst (ac.map .int)),.sh (.lst (DD.map nP)),.sh (.int r.1),.sh (.lst (r.2.map fun k:Nat=>.int k)),.sh (.lst (vals.map .int)),v11,v12]/\ac.length = ws.length/\(zs.drop i).foldl (fun l p=>l.set p.1 p.2) ac = zs.foldl (fun l p=>l.set p.1 p.2) acc,⟨acc,_,_,rfl,al,rfl⟩,?_,?_⟩
  ·rintro i p ρ hp ⟨ac,v11,v12,rfl,al2,he2⟩
   rw [getElem?_map] at hp
   obtain ⟨z,hz,rfl⟩:=map_eq_some_iff.mp hp
   obtain ⟨hi2,rfl⟩:=List.getElem?_eq_some_iff.mp hz
   rw [drop_eq_getElem_cons hi2,foldl_cons] at he2
   have zk2:=zk _ (getElem_mem hi2)
   generalize zs[i] = z at *
   walk_at "pr"
   refine Wm rfl (Vg (j:=z.1) (by rw [length_map]; omega)) ?_
   walk_at "pr"
   rw [<- map_set]
   exact ⟨_,_,_,rfl,by rw [length_set,al2],he2⟩
  ·rintro ρ ⟨ac,v11,v12,rfl,al2,he2⟩
   rw [length_map,drop_length,foldl_nil] at he2
   rw [<- he2] at he
   exact ⟨ac,_,_,_,_,_,rfl,al2,he⟩
 ·rintro ρ ⟨acc,v8,v9,v10,v11,v12,rfl,al,he⟩
  rw [length_map,drop_length,foldl_nil] at he
  walk_at "pr"
  rw [he]
  exact q
theorem Na (T:Txt K mg t):Binds K t.d_qt ["_law_script","_law_k"] []:=T.F_qt.binds fun _ _ _ _ _ _ us hl=>match us,hl with | [_,_],_=>rfl
theorem Jl (T:Txt K mg t):FnOk P w K mg base CX0 1 t.f_qt t.d_qt ["_law_script","_law_k"] (spOf K t.C_Book [false,false] .sh AkK):=by
 refine T.F_qt.ok Amh (fun vs H Q E h=>h.len) (fun cdv A outer s H vs Q E hr h=>?_)
 have hu:=Co hr
 have hu64:=hr.units
 refine ⟨_,(Bf (De (Cf Ace (pv 1) (Ct (Cp K) rfl T.z_len PySem.boot_len (Ba (pv 0) Bd)) (Ck _))
    (Bi (Cd (Ca Dr (Cl (Cu K) (pv 0) (pv 1) (fun _ _=>rfl)) (Ca Ur Be Be))))
    Cy)
   (Bi (Cd Be))),?_⟩
 try dsimp only [Cg,Bw]
 refine Cm h (by decide) (Br (Dp (Cw (EU.eb (Dc (fun _ _ _=>.bl _) Bb (EU.eb (Dy (Bo Bb Bh))))))
    (Dm (Dh (fun _ _ _=>.int _) (EU.eb (Do Bb Bb)) (EU.eb (Dh (fun _ _ _=>.int _) (EU.eb Bg) (EU.eb Bg)))))
    Dg)
   (Dm Bg)) (fun ps P hp=>?_)
 clear h hu hu64 hr
 obtain ⟨ns,k,rfl,hl,q⟩:=hp
 walk_at "s"
 unfold cM at q
 walk_at "pr"
 by_cases hk:k < ns.length
 ·rw [decide_eq_true (by omega:(k:Int) < (ns.length:Int))]
  rw [if_pos hk,getElem?_eq_getElem hk] at q
  walk_at "pr"
  refine AmG (n:=ns[k]) (Fo (getElem?_eq_getElem hk)) ?_
  walk_at "pr"
  rotate_left
  ·decide
  ·exact ⟨by decide,by decide,by decide⟩
  ·exact q
 ·rw [decide_eq_false (by omega:¬ (k:Int) < (ns.length:Int))]
  rw [if_neg hk] at q
  walk_at "pr"
  exact q
theorem Lm (T:Txt K mg t):Binds K t.d_qca ["_law_script","_law_k"] []:=T.F_qca.binds fun _ _ _ _ _ _ us hl=>match us,hl with | [_,_],_=>rfl
theorem Jj (T:Txt K mg t):FnOk P w K mg base CX0 2 t.f_qca t.d_qca ["_law_script","_law_k"] (spOf K t.C_Book [false,false] .sh Aij):=by
 refine T.F_qca.ok sc_qca (fun vs H Q E h=>h.len) (fun cdv A outer s H vs Q E hr h=>?_)
 have hu:=Co hr
 have hu64:=hr.units
 refine ⟨_,(Bf (Bu (i:=2) sc_qca.nd rfl (Or.inl rfl) (Ca Dr (Bm (Jl T) (hr.mono (by decide)) rfl T.m_qt T.F_qt.kp (Na T) .nil Bs (Ba (pv 0) (Ba Be Bd))) (Ca Ur Be Be)))
   (Bf (Bu (i:=3) sc_qca.nd rfl (Or.inl rfl) (Ca Dz Be (Ca Dr (Bm (Jl T) (hr.mono (by decide)) rfl T.m_qt T.F_qt.kp (Na T) .nil Bs (Ba (pv 0) (Ba Be Bd))) (Ca Ur Be Be))))
   (Bi (Cd (Ca Dz (pv 2) (Ca Aa0 (Ca Dr (Ca Aa0 (Ca Dz Be (Ca Dr (Bm (Jl T) (hr.mono (by decide)) rfl T.m_qt T.F_qt.kp (Na T) .nil Bs (Ba (pv 0) (Ba Be Bd))) Be)) (pv 1)) Be) (pv 3))))))),?_⟩
 try dsimp only [Cg,Bw]
 refine Cm h (by decide) (Br (Cc (Dh (fun _ _ _=>.int _) (EU.eb (Ci (Bo Bb (Bo (EU.eb Bg) Bh)))) (EU.eb (Dh (fun _ _ _=>.int _) (EU.eb Bg) (EU.eb Bg)))))
   (Br (Cc (Dc (fun _ _ _=>.int _) (EU.eb Bg) (EU.eb (Dh (fun _ _ _=>.int _) (EU.eb (Ci (Bo Bb (Bo (EU.eb Bg) Bh)))) (EU.eb (Dh (fun _ _ _=>.int _) (EU.eb Bg) (EU.eb Bg)))))))
   (Dm (Dc (fun _ _ _=>.int _) Bb (EU.eb (Dh (fun _ _ _=>.int _) (EU.eb (Dh (fun _ _ _=>.int _) (EU.eb (Dh (fun _ _ _=>.int _) (EU.eb (Dc (fun _ _ _=>.int _) (EU.eb Bg) (EU.eb (Dh (fun _ _ _=>.int _) (EU.eb (Ci (Bo Bb (Bo (EU.eb Bg) Bh)))) (EU.eb Bg))))) Bb)) (EU.eb Bg))) Bb)))))) (fun ps P hp=>?_)
 clear h hu hu64 hr
 obtain ⟨ns,k,rfl,hl,hk,q⟩:=hp
 walk_at "s"
 unfold sgF at q
 walk_at "pr"
 refine ⟨ns,0,rfl,hl,?_⟩
 walk_at "pr"
 refine ⟨ns,1,rfl,hl,?_⟩
 walk_at "pr"
 refine ⟨ns,1,rfl,hl,?_⟩
 walk_at "pr"
 all_goals try (first | decide | exact ⟨by decide,by decide,by decide⟩ | (show CMul _ _; first | exact .inl ⟨by omega,by omega⟩ | exact .inr ⟨by omega,by omega⟩))
 exact q
theorem Agp (T:Txt K mg t):Binds K t.d_qcc ["_law_script"] []:=T.F_qcc.binds fun _ _ _ _ _ _ us hl=>match us,hl with | [_],_=>rfl
theorem AeR (T:Txt K mg t):FnOk P w K mg base CX0 3 t.f_qcc t.d_qcc ["_law_script"] (spOf K t.C_Book [false] .fr Ah1):=by
 refine T.F_qcc.ok sc_qcc (fun vs H Q E h=>h.len) (fun cdv A outer s H vs Q E hr h=>?_)
 have hu:=Co hr
 have hu64:=hr.units
 refine ⟨_,(@Bf _ _ _ _ _ (Bu (i:=1) sc_qcc.nd rfl (Or.inl rfl) (Bm (Jl T) (hr.mono (by decide)) rfl T.m_qt T.F_qt.kp (Na T) .nil Bs (@Ba _ _ _ _ _ (pv 0) (@Bq _ _ _ _ _ _ _ Be Bd) rfl)))
   (@Bf _ _ _ _ _ (@Bu _ _ 2 _ _ _ _ sc_qcc.nd rfl (Or.inl rfl) (@Cr _ _ _ _ (@Bq _ _ _ _ _ _ _ Be (@Ba _ _ _ _ _ (Ca Dz Be (Ca Dr (Bm (Jl T) (hr.mono (by decide)) rfl T.m_qt T.F_qt.kp (Na T) .nil Bs (@Ba _ _ _ _ _ (pv 0) (@Bq _ _ _ _ _ _ _ Be Bd) rfl)) Be)) (@Ba _ _ _ _ _ (Ca Dz Be (Ca Dr (Ca Fs (Bm (Jl T) (hr.mono (by decide)) rfl T.m_qt T.F_qt.kp (Na T) .nil Bs (@Ba _ _ _ _ _ (pv 0) (@Bq _ _ _ _ _ _ _ Be Bd) rfl)) Be) (Ca Lz (Ca Ur Be Be) Be))) Bd rfl) rfl))) rfl (by first | exact .inl rfl | exact .inr rfl))
   (@Bf _ _ _ _ _ (@Bu _ _ 3 _ _ _ _ sc_qcc.nd rfl (Or.inl rfl) (@Cr _ _ _ _ (@Bq _ _ _ _ _ _ _ Bx (@Bq _ _ _ _ _ _ _ Bx (@Bq _ _ _ _ _ _ _ Bx (@Bq _ _ _ _ _ _ _ Bx (@Bq _ _ _ _ _ _ _ Bx (@Bq _ _ _ _ _ _ _ Bx (@Bq _ _ _ _ _ _ _ Bx (@Bq _ _ _ _ _ _ _ Bx (@Bq _ _ _ _ _ _ _ Bx Bd)))))))))) rfl (by first | exact .inl rfl | exact .inr rfl))
   (@Bf _ _ _ _ _ (Dl PassesOwn.never rfl (Uq rfl T.z_range (@Bq _ _ _ _ _ _ _ Be Bd)) (By (i:=4) sc_qcc.nd rfl (Or.inl rfl))
    (@Bf _ _ _ _ _ (@Bu _ _ 5 _ _ _ _ sc_qcc.nd rfl (Or.inl rfl) (@Cr _ _ _ _ (@Bq _ _ _ _ _ _ _ Bx (@Bq _ _ _ _ _ _ _ Bx (@Bq _ _ _ _ _ _ _ Bx (@Bq _ _ _ _ _ _ _ Bx (@Bq _ _ _ _ _ _ _ Bx (@Bq _ _ _ _ _ _ _ Bx (@Bq _ _ _ _ _ _ _ Bx (@Bq _ _ _ _ _ _ _ Bx (@Bq _ _ _ _ _ _ _ Bx (@Bq _ _ _ _ _ _ _ Bx Bd))))))))))) rfl (by first | exact .inl rfl | exact .inr rfl))
   (@Bf _ _ _ _ _ (Cs (Fv plainAttrs_list PySem.F.slot_list_append PySem.F.type_list_append Dn (pv 3) (@Ba _ _ _ _ _ (@Cl _ _ _ _ _ _ _ (Cu K) (pv 5) (Ca Dr (pv 1) Be) (fun _ _=>rfl)) Bd rfl)))
   (@Bi _ _ _ (Bu (i:=1) sc_qcc.nd rfl (Or.inl rfl) (Ca Fs (pv 1) Be))))))
   (@Bf _ _ _ _ _ (Bu (i:=3) sc_qcc.nd rfl (Or.inl rfl) (Ca Jx (pv 3) (@Cr _ _ _ _ (@Bq _ _ _ _ _ _ _ Bx (@Bq _ _ _ _ _ _ _ Bx (@Bq _ _ _ _ _ _ _ Bx (@Bq _ _ _ _ _ _ _ Bx (@Bq _ _ _ _ _ _ _ Bx (@Bq _ _ _ _ _ _ _ Bx (@Bq _ _ _ _ _ _ _ Bx (@Bq _ _ _ _ _ _ _ Bx (@Bq _ _ _ _ _ _ _ Bx (@Bq _ _ _ _ _ _ _ Bx (@Bq _ _ _ _ _ _ _ Bx (@Bq _ _ _ _ _ _ _ Bx Bd)))))))))))))))
   (@Bf _ _ _ _ _ (Bu (i:=6) sc_qcc.nd rfl (Or.inl rfl) Qs)
   (@Bf _ _ _ _ _ (Bu (i:=7) sc_qcc.nd rfl (Or.inl rfl) Be)
   (@Bf _ _ _ _ _ (Dl PassesOwn.never rfl (Uq rfl T.z_range (@Bq _ _ _ _ _ _ _ Be Bd)) (By (i:=4) sc_qcc.nd rfl (Or.inl rfl))
    (@Bf _ _ _ _ _ (Bu (i:=8) sc_qcc.nd rfl (Or.inl rfl) Be)
   (@Bf _ _ _ _ _ (De (Cf Dq (@Cl _ _ _ _ _ _ _ (Cu K) (pv 3) (pv 4) (fun _ _=>rfl)) Bx (Ck _))
    (@Bf _ _ _ _ _ (Bu (i:=8) sc_qcc.nd rfl (Or.inl rfl) (@Cl _ _ _ _ _ _ _ (Cu K) (pv 2) (Ca Dr (pv 7) Be) (fun _ _=>rfl)))
   (@Bi _ _ _ (Bu (i:=7) sc_qcc.nd rfl (Or.inl rfl) (Ca Dz (pv 7) Be))))
    Cy)
   (@Bi _ _ _ (Lb hu (pv 6) (Bm (Jj T) (hr.mono (by decide)) rfl T.m_qca T.F_qca.kp (Lm T) .nil Bs (@Ba _ _ _ _ _ (pv 0) (@Ba _ _ _ _ _ (pv 4) Bd rfl) rfl)) (@Dt _ _ _ _ _ (@Ba _ _ _ _ _ (@Cl _ _ _ _ _ _ _ (Cu K) (pv 3) (pv 4) (fun _ _=>rfl)) (@Ba _ _ _ _ _ (pv 8) Bd rfl) rfl)) rfl)))))
   (@Bi _ _ _ (@Cd _ _ _ _ (pv 6))))))))))),?_⟩
 try dsimp only [Cg,Bw]
 refine Cm h (by decide) (Br (Cc (Ci (Bo Bb (Bo (EU.eb Bg) Bh))))
   (Br (Cc (EF.eu (Db 3 (Bn Bg (Bn (Dc (fun _ _ _=>.int _) (EU.eb Bg) (EU.eb (Dh (fun _ _ _=>.int _) (EU.eb (Ci (Bo Bb (Bo (EU.eb Bg) Bh)))) (EU.eb Bg)))) (Bn (Dc (fun _ _ _=>.int _) (EU.eb Bg) (EU.eb (Dh (fun _ _ _=>.int _) (EU.eb (Dh (fun _ _ _=>.int _) (EU.eb (Ci (Bo Bb (Bo (EU.eb Bg) Bh)))) (EU.eb Bg))) (EU.eb (Dc (fun _ _ _=>.int _) (EU.eb (Dh (fun _ _ _=>.int _) (EU.eb Bg) (EU.eb Bg))) (EU.eb Bg)))))) Bh))))))
   (Br (Fc (Db 9 (Bn Ch (Bn Ch (Bn Ch (Bn Ch (Bn Ch (Bn Ch (Bn Ch (Bn Ch (Bn Ch Bh)))))))))))
   (Br (Abu (Bo (EU.eb Bg) Bh) (Cn (top:=9))
    (Br (Cc (EF.eu (Db 10 (Bn Ch (Bn Ch (Bn Ch (Bn Ch (Bn Ch (Bn Ch (Bn Ch (Bn Ch (Bn Ch (Bn Ch Bh)))))))))))))
   (Br (Gk (Bn (Do Bb (EU.eb (Dh (fun _ _ _=>.int _) Bb (EU.eb Bg)))) Bh))
   (Cc (Dh (fun _ _ _=>.int _) Bb (EU.eb Bg))))))
   (Br (Fc (Qe Bb (EF.eb (Db 12 (Bn Ch (Bn Ch (Bn Ch (Bn Ch (Bn Ch (Bn Ch (Bn Ch (Bn Ch (Bn Ch (Bn Ch (Bn Ch (Bn Ch Bh))))))))))))))))
   (Br (Fc AhI)
   (Br (Cc Bg)
   (Br (Abu (Bo (EU.eb Bg) Bh) (Cn (top:=9))
    (Br (Cc Bg)
   (Br (Dp (Cw (EU.eb (Fb (EU.eb (Do Bb Bb)) (EU.eb Ch))))
    (Br (Cc (Do Bb (EU.eb (Dh (fun _ _ _=>.int _) Bb (EU.eb Bg)))))
   (Cc (Dc (fun _ _ _=>.int _) Bb (EU.eb Bg))))
    Dg)
   (AhR (EU.eb (Ci (Bo Bb (Bo Bb Bh)))) (Fd 2 (Bn (Do Bb Bb) (Bn Bv Bh)))))))
   Gq)))))))) (fun ps P hp=>?_)
 clear h hu hu64 hr
 obtain ⟨ns,rfl,hl,q⟩:=hp
 walk_at "s"
 walk_at "pr"
 refine ⟨ns,2,rfl,hl,?_⟩
 walk_at "pr"
 refine ⟨ns,3,rfl,hl,?_⟩
 walk_at "pr"
 refine ⟨ns,3,rfl,hl,?_⟩
 walk_at "pr"
 all_goals try (first | decide | exact ⟨by decide,by decide,by decide⟩ | exact ⟨by decide,by decide⟩ | (show (0:Int) < _; decide))
 have eR:([PV.int 1,PV.int (1 + cM ns 3 % 3),PV.int (1 + cM ns 3 / 3 % (10 ^ Int.toNat 30 - 1))]:List PV) = (Qu ns).map .int:=rfl
 rw [eR]
 refine ⟨fun k ρ=>∃ (c:Int) (ds:List Str) (v4 v5:Sl),ρ = [.bo (.scr ns),.sh (.int c),.sh (.lst ((Qu ns).map .int)),.ow (.lst ((kdH ++ ds).map .str)),v4,v5,.un,.un,.un]/\k <= 7/\ds.length = k/\ds ++ Fq (7 - k) c = Fq 7 (cM ns 2),⟨cM ns 2,[],_,_,rfl,by omega,rfl,rfl⟩,?_,?_⟩
 ·rintro k ρ hk ⟨c,ds,v4,v5,rfl,hk7,ld,ed⟩
  have hk':k < 7:=hk
  have h1:=emod_nonneg c (show (10:Int) ≠ 0 by decide)
  have h2:=emod_lt_of_pos c (show (0:Int) < 10 by decide)
  have hi:(c % 10).toNat < menuK.length:=by show _ < 10; omega
  rw [show 7 - k = (7 - (k + 1)) + 1 by omega,Fq,getElem?_eq_getElem hi] at ed
  walk_at "pr"
  all_goals try (first | decide | exact ⟨by decide,by decide⟩ | (rw [length_map,length_append]; show 9 + _ < _; omega))
  refine Fp (l:=menuK) (f:=PV.str) (j:=(c % 10).toNat) (a:=menuK[(c % 10).toNat]) (getElem?_eq_getElem hi) (by omega) ?_
  walk_at "pr"
  all_goals try (first | decide | exact ⟨by decide,by decide⟩ | (rw [length_map,length_append]; show 9 + _ < _; omega))
  rw [show (kdH ++ ds).map PV.str ++ [PV.str menuK[(c % 10).toNat]] = (kdH ++ (ds ++ [menuK[(c % 10).toNat]])).map PV.str by simp]
  exact ⟨c / 10,ds ++ [menuK[(c % 10).toNat]],_,_,rfl,by omega,by simp [ld],by rw [append_assoc]; exact ed⟩
 rintro ρ ⟨c,ds,v4,v5,rfl,hk7,ld,ed⟩
 have ed':ds = Fq 7 (cM ns 2):=by
  have:ds ++ Fq 0 c = Fq 7 (cM ns 2):=ed
  rw [Fq,append_nil] at this
  exact this
 subst ed'
 walk_at "pr"
 all_goals try (first | decide | exact ⟨by decide,by decide⟩ | (rw [length_map,length_append,Ge]; decide))
 have eK:((kdH ++ Fq 7 (cM ns 2)).map PV.str ++ ([PV.str "open",PV.str "shut",PV.str "open",PV.str "shut",PV.str "fore",PV.str "fore",PV.str "back",PV.str "plain",PV.str "num",PV.str "blank",PV.str "plain",PV.str "plain"]:List PV)) = (kdL ns).map PV.str:=by
  unfold kdL
  rw [map_append (l₁:=kdH ++ Fq 7 (cM ns 2))]; rfl
 rw [eK]
 refine ⟨fun k ρ=>∃ (v4 v8:Sl),k <= 28/\ρ = [.bo (.scr ns),.sh (.int c),.sh (.lst ((Qu ns).map .int)),.ow (.lst ((kdL ns).map .str)),v4,v5,.ow (.dk (tdD ns k)),.sh (.int (mkN ns k)),v8],⟨_,_,zero_le _,rfl⟩,?_,?_⟩
 ·rintro k ρ hk ⟨v4,v8,hk28,rfl⟩
  have hk':k < 28:=hk
  have gk:(kdL ns)[k]? = some (kdF ns k):=by
   unfold kdF
   rw [getElem?_eq_getElem (by rw [Ah3]; exact hk')]; rfl
  rw [Int.zero_add]
  walk_at "px"
  refine Gg ?_
  walk_at "px"
  refine Jr (fun ρ=>ρ = [.bo (.scr ns),.sh (.int c),.sh (.lst ((Qu ns).map .int)),.ow (.lst ((kdL ns).map .str)),.sh (.int k),v5,.ow (.dk (tdD ns k)),.sh (.int (mkN ns (k + 1))),.sh (.int (rkF ns k))]) (fun ρ h=>?_) ?_
  rotate_left
  ·walk_at "pr"
   refine Fp gk rfl ?_
   walk_at "pr"
   by_cases h:kdF ns k = "mark"
   ·rw [decide_eq_true h]
    have hm:mkN ns (k + 1) = mkN ns k + 1:=by
     unfold mkN
     rw [Dv gk,filter_append,length_append]
     simp [h]
    have h3:mkN ns k % 3 < (Qu ns).length:=by show _ < 3; omega
    walk_at "pr"
    all_goals try decide
    refine Fp (l:=Qu ns) (f:=PV.int) (j:=mkN ns k % 3) (a:=(Qu ns)[mkN ns k % 3]) (getElem?_eq_getElem h3) (by omega) ?_
    walk_at "pr"
    refine .inl ?_
    rw [hm]
    unfold rkF
    rw [if_pos h,getElem?_eq_getElem h3]
    simp
   ·rw [decide_eq_false h]
    have hm:mkN ns (k + 1) = mkN ns k:=by
     unfold mkN
     rw [Dv gk,filter_append,length_append]
     simp [h]
    walk_at "pr"
    refine .inl ?_
    rw [hm]
    unfold rkF
    rw [if_neg h]
  subst h
  walk_at "pr"
  refine Fp gk rfl ?_
  walk_at "pr"
  refine ⟨ns,k,rfl,hl,hk',?_⟩
  walk_at "pr"
  rotate_left
  ·unfold tdD; rw [length_map,length_range]; omega
  rw [Abx ns hk']
  exact ⟨_,_,by omega,rfl⟩
 rintro ρ ⟨v4,v8,hk28,rfl⟩
 walk_at "pr"
 exact q
def AhD:PSp:=fun ps P=>∃ ns,ps = [.scr ns]/\ns.length <= 63/\P (.lst ((mtL ns).map prP))
theorem AmV (T:Txt K mg t):Binds K t.d_qbs ["_law_script"] []:=T.F_qbs.binds fun _ _ _ _ _ _ us hl=>match us,hl with | [_],_=>rfl
theorem Ajj (T:Txt K mg t):FnOk P w K mg base CX0 3 t.f_qbs t.d_qbs ["_law_script"] (spOf K t.C_Book [false] .fr AhD):=by
 refine T.F_qbs.ok AjV (fun vs H Q E h=>h.len) (fun cdv A outer s H vs Q E hr h=>?_)
 have hu:=Co hr
 have hu64:=hr.units
 refine ⟨_,(Bi (Cd (Cr (Ba (Dt (Ba (Bm (Jj T) (hr.mono (by decide)) rfl T.m_qca T.F_qca.kp (Lm T) .nil Bs (Ba (pv 0) (Ba Be Bd))) (Ba (Bm (Jj T) (hr.mono (by decide)) rfl T.m_qca T.F_qca.kp (Lm T) .nil Bs (Ba (pv 0) (Ba Be Bd))) Bd))) (Ba (Dt (Ba (Bm (Jj T) (hr.mono (by decide)) rfl T.m_qca T.F_qca.kp (Lm T) .nil Bs (Ba (pv 0) (Ba Be Bd))) (Ba (Bm (Jj T) (hr.mono (by decide)) rfl T.m_qca T.F_qca.kp (Lm T) .nil Bs (Ba (pv 0) (Ba Be Bd))) Bd))) Bd))))),?_⟩
 try dsimp only [Cg,Bw]
 refine Cm h (by decide) (Je (Db 2 (Bn (Fd 2 (Bn (Ci (Bo Bb (Bo (EU.eb Bg) Bh))) (Bn (Ci (Bo Bb (Bo (EU.eb Bg) Bh))) Bh))) (Bn (Fd 2 (Bn (Ci (Bo Bb (Bo (EU.eb Bg) Bh))) (Bn (Ci (Bo Bb (Bo (EU.eb Bg) Bh))) Bh))) Bh)))) (fun ps P hp=>?_)
 clear h hu hu64 hr
 obtain ⟨ns,rfl,hl,q⟩:=hp
 walk_at "s"
 walk_at "pr"
 refine ⟨ns,16,rfl,hl,by decide,?_⟩
 walk_at "pr"
 refine ⟨ns,17,rfl,hl,by decide,?_⟩
 walk_at "pr"
 refine ⟨ns,18,rfl,hl,by decide,?_⟩
 walk_at "pr"
 refine ⟨ns,19,rfl,hl,by decide,?_⟩
 walk_at "pr"
 exact q
abbrev jnE (t:Nat × Nat × Nat):PV:=.tup [.int (t.1:Int),.int (t.2.1:Int),.int (t.2.2:Int)]
def Ah7:PSp:=fun ps P=>∃ ns,ps = [.scr ns]/\ns.length <= 63/\P (.lst ((jnL ns).map jnP))
theorem Ame (T:Txt K mg t):Binds K t.d_qbq ["_law_script"] []:=T.F_qbq.binds fun _ _ _ _ _ _ us hl=>match us,hl with | [_],_=>rfl
theorem AlF (T:Txt K mg t):FnOk P w K mg base CX0 3 t.f_qbq t.d_qbq ["_law_script"] (spOf K t.C_Book [false] .fr Ah7):=by
 refine T.F_qbq.ok sc_qbq (fun vs H Q E h=>h.len) (fun cdv A outer s H vs Q E hr h=>?_)
 have hu:=Co hr
 have hu64:=hr.units
 refine ⟨_,(@Bf _ _ _ _ _ (@Bu _ _ 1 _ _ _ _ sc_qbq.nd rfl (Or.inl rfl) (@Cr _ _ _ _ (@Jz _ _ _ _ _ _ _ (@Dt _ _ _ _ _ (@Bq _ _ _ _ _ _ _ Be (@Bq _ _ _ _ _ _ _ Be (@Bq _ _ _ _ _ _ _ Be Bd)))) (@Jz _ _ _ _ _ _ _ (@Dt _ _ _ _ _ (@Bq _ _ _ _ _ _ _ Be (@Bq _ _ _ _ _ _ _ Be (@Bq _ _ _ _ _ _ _ Be Bd)))) (@Jz _ _ _ _ _ _ _ (@Dt _ _ _ _ _ (@Bq _ _ _ _ _ _ _ Be (@Bq _ _ _ _ _ _ _ Be (@Bq _ _ _ _ _ _ _ Be Bd)))) (@Jz _ _ _ _ _ _ _ (@Dt _ _ _ _ _ (@Bq _ _ _ _ _ _ _ Be (@Bq _ _ _ _ _ _ _ Be (@Bq _ _ _ _ _ _ _ Be Bd)))) (@Jz _ _ _ _ _ _ _ (@Dt _ _ _ _ _ (@Bq _ _ _ _ _ _ _ Be (@Bq _ _ _ _ _ _ _ Be (@Bq _ _ _ _ _ _ _ Be Bd)))) (@Jz _ _ _ _ _ _ _ (@Dt _ _ _ _ _ (@Bq _ _ _ _ _ _ _ Be (@Bq _ _ _ _ _ _ _ Be (@Bq _ _ _ _ _ _ _ Be Bd)))) Bd))))))) rfl (by first | exact .inl rfl | exact .inr rfl))
   (@Bi _ _ _ (@Cd _ _ _ _ (Jp 3 [0] ["_law_a","_law_b","_law_c","_law_script"] ["_law_script"] rfl (Dd (pv 1)) rfl (fun j y e1 i e2=>match j,e1,e2 with | 0,e1,e2=>by cases e1; cases e2; exact ⟨rfl,rfl,rfl,by decide +kernel⟩ | _ + 1,_,e2=>by simp at e2) (forall_mem_cons.mpr ⟨rfl,fun _ h=>nomatch h⟩) (by decide +kernel) (fun _ _ _ _=>(Gp (K':=K) (n:=3) rfl rfl (Cq (By (i:=0) (show Nodup (["_law_a","_law_b","_law_c","_law_script"]:List Str) by decide +kernel) rfl (Or.inl rfl)) (Cq (By (i:=1) (show Nodup (["_law_a","_law_b","_law_c","_law_script"]:List Str) by decide +kernel) rfl (Or.inl rfl)) (Cq (By (i:=2) (show Nodup (["_law_a","_law_b","_law_c","_law_script"]:List Str) by decide +kernel) rfl (Or.inl rfl)) Fh))))) (fun _ _ _ _=>Gr) (fun _ _ _ _=>(@Dt _ _ _ _ _ (@Ba _ _ _ _ _ (Bm (Jj T) (hr.mono (by decide)) rfl T.m_qca T.F_qca.kp (Lm T) .nil Bs (@Ba _ _ _ _ _ (pv 3) (@Ba _ _ _ _ _ (pv 0) Bd rfl) rfl)) (@Ba _ _ _ _ _ (Bm (Jj T) (hr.mono (by decide)) rfl T.m_qca T.F_qca.kp (Lm T) .nil Bs (@Ba _ _ _ _ _ (pv 3) (@Ba _ _ _ _ _ (pv 1) Bd rfl) rfl)) (@Ba _ _ _ _ _ (Bm (Jj T) (hr.mono (by decide)) rfl T.m_qca T.F_qca.kp (Lm T) .nil Bs (@Ba _ _ _ _ _ (pv 3) (@Ba _ _ _ _ _ (pv 2) Bd rfl) rfl)) Bd rfl) rfl) rfl))) rfl (by decide +kernel) rfl (by decide +kernel))))),?_⟩
 try dsimp only [Cg,Bw]
 refine Cm h (by decide) (Br (Cc (EF.eu (Db 6 (Bn (Fd 3 (Bn Bg (Bn Bg (Bn Bg Bh)))) (Bn (Fd 3 (Bn Bg (Bn Bg (Bn Bg Bh)))) (Bn (Fd 3 (Bn Bg (Bn Bg (Bn Bg Bh)))) (Bn (Fd 3 (Bn Bg (Bn Bg (Bn Bg Bh)))) (Bn (Fd 3 (Bn Bg (Bn Bg (Bn Bg Bh)))) (Bn (Fd 3 (Bn Bg (Bn Bg (Bn Bg Bh)))) Bh)))))))))
   (Je (Fr Bb (Ju (Du (Cn (top:=3)) (Du (Cn (top:=3)) (Du (Cn (top:=3)) Jb)))) Ja (Fd 3 (Bn (Ci (Bo Bb (Bo Bb Bh))) (Bn (Ci (Bo Bb (Bo Bb Bh))) (Bn (Ci (Bo Bb (Bo Bb Bh))) Bh))))))) (fun ps P hp=>?_)
 clear h hu hu64 hr
 obtain ⟨ns,rfl,hl,q⟩:=hp
 walk_at "s"
 walk_at "pr"
 refine ⟨by decide,?_⟩
 refine Fj (S:=jnI) (enc:=jnE) (f:=fun t=>some (jnP (sgF ns t.1,sgF ns t.2.1,sgF ns t.2.2))) ?_ (fun d hd Z hZ=>?_)
 rotate_left
 ·obtain ⟨h1,h2,h3⟩:=Ut d hd
  walk_at "cp"
  walk_at "pr"
  refine ⟨ns,d.1,rfl,hl,h1,?_⟩
  walk_at "pr"
  refine ⟨ns,d.2.1,rfl,hl,h2,?_⟩
  walk_at "pr"
  refine ⟨ns,d.2.2,rfl,hl,h3,?_⟩
  walk_at "pr"
  exact hZ
 rw [show (fun t:Nat × Nat × Nat=>some (jnP (sgF ns t.1,sgF ns t.2.1,sgF ns t.2.2))) = fun t=>some ((jnP ∘ fun t:Nat × Nat × Nat=>(sgF ns t.1,sgF ns t.2.1,sgF ns t.2.2)) t) from rfl,filterMap_eq_map',<- map_map]
 exact q
theorem Amj {neg:Bool} {L:List Str} {x:Str} {P:PV->Prop} (q:P (.bl (if neg then !decide (x ∈ L) else decide (x ∈ L)))):bIn neg (.str x) (.lst (L.map .str)) P:=by
 refine ⟨L.map .str,rfl,rfl,fun y hy=>by obtain ⟨z,_,rfl⟩:=mem_map.mp hy; rfl,fun b hb=>?_⟩
 have:b = decide (x ∈ L):=Ga (by
  rw [hb,decide_eq_true_iff]
  constructor
  ·intro h
   obtain ⟨z,hz,e⟩:=mem_map.mp h
   injection e with e'
   rwa [<- e']
  ·intro h
   exact mem_map.mpr ⟨x,h,rfl⟩)
 rw [this]; exact q
theorem AbF (ns:List Int) (n:Nat):(tdD ns n).length = n:=by unfold tdD; rw [length_map,length_range]
theorem AiS {ns:List Int} {k:Nat} {kv:Key × PV} (h:(tdD ns 28)[k]? = some kv):k < 28/\kv = (Sum.inl (sgF ns k),.tup [.str (kdF ns k),.int (rkF ns k)]):=by
 have hk:k < 28:=by have:=(List.getElem?_eq_some_iff.mp h).1; rwa [AbF] at this
 refine ⟨hk,?_⟩
 unfold tdD at h
 rw [getElem?_map,getElem?_range hk] at h
 exact (Option.some.inj h).symm
theorem Vf (ns:List Int) {k:Nat} (hk:k < 28):Gc (tdD ns 28) (.inl (sgF ns k)) = some (.tup [.str (kdF ns k),.int (rkF ns k)]):=by
 have e:∀ n,n <= 28->k < n->Gc (tdD ns n) (.inl (sgF ns k)) = some (.tup [.str (kdF ns k),.int (rkF ns k)]):=by
  intro n
  induction n with
  | zero=>intro _ h; omega
  | succ n ih =>
   intro hn h
   rw [<- Abx ns (show n < 28 by omega),Af5]
   by_cases z:k = n
   ·subst z; rw [if_pos rfl]
   ·rw [if_neg (fun w=>z (Ld ns (by omega) hk (Sum.inl.inj w)).symm)]
    exact ih (by omega) (by omega)
 exact e 28 (Nat.le_refl _) hk
def Aiw:PSp:=fun ps P=>∃ ns,ps = [.scr ns]/\ns.length <= 63/\P (.bk (usL ns 28) (mtL ns) (jnL ns))
theorem Ank (T:Txt K mg t):Binds K t.d_qbz ["_law_script"] []:=T.F_qbz.binds fun _ _ _ _ _ _ us hl=>match us,hl with | [_],_=>rfl
theorem Ai2 (T:Txt K mg t):FnOk P w K mg base CX0 7 t.f_qbz t.d_qbz ["_law_script"] (spOf K t.C_Book [false] .sh Aiw):=by
 refine T.F_qbz.ok sc_qbz (fun vs H Q E h=>h.len) (fun cdv A outer s H vs Q E hr h=>?_)
 have hu:=Co hr
 have hu64:=hr.units
 refine ⟨_,(Bf (Bu (i:=1) sc_qbz.nd rfl (Or.inl rfl) (Bm (AeR T) (hr.mono (by decide)) rfl T.m_qcc T.F_qcc.kp (Agp T) .nil Bs (Ba (pv 0) Bd)))
   (Bf (Bu (i:=2) sc_qbz.nd rfl (Or.inl rfl) (Cr Bd))
   (Bf (Aay (Dl PassesOwn.never rfl (Aak (pv 1)) (By (i:=3) sc_qbz.nd rfl (Or.inl rfl))
    (Bi (De (Cf (Zk K) (Cl (Cz K) (Va hu (pv 1) (pv 3) (fun _ _=>rfl)) Be (fun _ _=>rfl)) (Cr (Ba Bx (Ba Bx (Ba Bx Bd)))) rfl)
    (Bi (Cs (Fv plainAttrs_list PySem.F.slot_list_append PySem.F.type_list_append Dn (pv 2) (Ba (Dt (Ba (pv 3) (Ba (Cl (Cz K) (Va hu (pv 1) (pv 3) (fun _ _=>rfl)) Be (fun _ _=>rfl)) (Ba (Cl (Cz K) (Va hu (pv 1) (pv 3) (fun _ _=>rfl)) Be (fun _ _=>rfl)) Bd)))) Bd))))
    Cy))))
   (Bi (Cd (AiA T.K_Book (Ai1 T) (hr.mono (by decide)) rfl T.m_Book (Am7 T) .nil Bs (Ba (pv 2) (Ba (Bm (Ajj T) (hr.mono (by decide)) rfl T.m_qbs T.F_qbs.kp (AmV T) .nil Bs (Ba (pv 0) Bd)) (Ba (Bm (AlF T) (hr.mono (by decide)) rfl T.m_qbq T.F_qbq.kp (Ame T) .nil Bs (Ba (pv 0) Bd)) Bd))))))))),?_⟩
 try dsimp only [Cg,Bw]
 refine Cm h (by decide) (Br (Fc (Dk (Bo Bb Bh)))
   (Br (Fc (Db 0 Bh))
   (Br (Alt (i:=1) (Af4 (Cn (top:=4))
    (Dp (Cw (EU.eb (Wy (Di (EU.eb (Vv Bb)) (EU.eb Bg)) (EF.eb (Db 3 (Bn Ch (Bn Ch (Bn Ch Bh))))))))
    (Gk (Bn (Fd 3 (Bn Bv (Bn (Di (EU.eb (Vv Bb)) (EU.eb Bg)) (Bn (Di (EU.eb (Vv Bb)) (EU.eb Bg)) Bh)))) Bh))
    Dg)))
   (Dm (Al7 (Bo Bb (Bo (EF.eb (Dk (Bo Bb Bh))) (Bo (EF.eb (Dk (Bo Bb Bh))) Bh)))))))) (fun ps P hp=>?_)
 clear h hu hu64 hr
 obtain ⟨ns,rfl,hl,q⟩:=hp
 walk_at "s"
 walk_at "pr"
 refine ⟨ns,rfl,hl,?_⟩
 walk_at "pr"
 rename_i z
 refine Ah5 rfl ⟨fun k ρ=>∃ v,k <= 28/\ρ = [.bo (.scr ns),.fz z (tdD ns 28),.ow (.lst ((usL ns k).map sgP)),v],⟨_,zero_le _,rfl⟩,?_,?_,?_⟩
 ·rintro k ρ ⟨v,_,rfl⟩; rfl
 ·rintro k kv ρ hk ⟨v,hk28,rfl⟩
  obtain ⟨hk',e⟩:=AiS hk
  subst e
  have hv:=Vf ns hk'
  walk_at "pr"
  refine Aag hv ?_
  walk_at "pr"
  refine Amj (L:=unK) (x:=kdF ns k) ?_
  walk_at "pr"
  have hs:=Afs ns k
  by_cases h:kdF ns k ∈ unK
  ·rw [decide_eq_true h]
   rw [if_pos h,append_nil] at hs
   rw [show (if true = true then !true else true) = false from rfl]
   walk_at "pr"
   exact ⟨_,by omega,by unfold usL; rw [hs]⟩
  ·rw [decide_eq_false h]
   rw [if_neg h] at hs
   rw [show (if true = true then !false else false) = true from rfl]
   walk_at "pr"
   refine Aag hv ?_
   walk_at "pr"
   refine Aag hv ?_
   walk_at "pr"
   rotate_left
   ·rw [length_map]; unfold usL; rw [length_map]; have:=AbN ns k; omega
   refine ⟨.sh (.int (sgF ns k)),by omega,?_⟩
   unfold usL
   rw [hs,map_append,map_append]; rfl
 ·rintro ρ ⟨v,_,rfl⟩
  refine ⟨rfl,?_⟩
  walk_at "pr"
  refine ⟨ns,rfl,hl,?_⟩
  walk_at "pr"
  refine ⟨ns,rfl,hl,?_⟩
  walk_at "pr"
  rw [AbF]
  have bk:=Al5 ns
  exact ⟨usL ns 28,mtL ns,jnL ns,rfl,bk.so,bk.mo,bk.nd,bk.jo,by have:=bk.ln; omega,q⟩
def mnF:List (List Nat):=[range 28 ++ [0,1,0,1,4,4,5,2,3,6,7,8],[0,1,2,4,5,16,17,26],[0,1,4,4,5,6,7,8,8,16,17,18,19,23]]
theorem Akn:∀ m ∈ mnF,0 < m.length/\m.length <= 40/\∀ k ∈ m,k < 28:=by decide +kernel
theorem Zc {α:Type} {ns:List α} {lo hi:Option Int}:(Gh ns lo hi).length <= ns.length:=by
 unfold Gh
 simp
 omega
def AhU:PSp:=fun ps P=>∃ ns,∃ a b:Nat,ps = [.scr ns,.int a,.int b]/\ns.length <= 63/\∀ ks:List Nat,(∀ k ∈ ks,k < 28)->ks.length <= 120->P (.lst (ks.map fun k=>.int (sgF ns k)))
theorem Amz (T:Txt K mg t):Binds K t.d_qcb ["_law_script","_law_start","_law_most"] []:=T.F_qcb.binds fun _ _ _ _ _ _ us hl=>match us,hl with | [_,_,_],_=>rfl
theorem Ajk (T:Txt K mg t):FnOk P w K mg base CX0 3 t.f_qcb t.d_qcb ["_law_script","_law_start","_law_most"] (spOf K t.C_Book [false,false,false] .fr AhU):=by
 refine T.F_qcb.ok sc_qcb (fun vs H Q E h=>h.len) (fun cdv A outer s H vs Q E hr h=>?_)
 have hu:=Co hr
 have hu64:=hr.units
 refine ⟨_,(@Bf _ _ _ _ _ (@Bu _ _ 3 _ _ _ _ sc_qcb.nd rfl (Or.inl rfl) (@Cr _ _ _ _ (@Ba _ _ _ _ _ (Ca Jx (Ada rfl rfl T.z_list rfl T.z_range (@Bq _ _ _ _ _ _ _ Be Bd)) (@Cr _ _ _ _ (@Bq _ _ _ _ _ _ _ Be (@Bq _ _ _ _ _ _ _ Be (@Bq _ _ _ _ _ _ _ Be (@Bq _ _ _ _ _ _ _ Be (@Bq _ _ _ _ _ _ _ Be (@Bq _ _ _ _ _ _ _ Be (@Bq _ _ _ _ _ _ _ Be (@Bq _ _ _ _ _ _ _ Be (@Bq _ _ _ _ _ _ _ Be (@Bq _ _ _ _ _ _ _ Be (@Bq _ _ _ _ _ _ _ Be (@Bq _ _ _ _ _ _ _ Be Bd)))))))))))))) (@AaE _ _ _ _ _ _ (@Cr _ _ _ _ (@Bq _ _ _ _ _ _ _ Be (@Bq _ _ _ _ _ _ _ Be (@Bq _ _ _ _ _ _ _ Be (@Bq _ _ _ _ _ _ _ Be (@Bq _ _ _ _ _ _ _ Be (@Bq _ _ _ _ _ _ _ Be (@Bq _ _ _ _ _ _ _ Be (@Bq _ _ _ _ _ _ _ Be Bd))))))))) Bd) rfl)) rfl (by first | exact .inl rfl | exact .inr rfl))
   (@Bf _ _ _ _ _ (Bu (i:=4) sc_qcb.nd rfl (by first | exact Or.inl rfl | exact Or.inr rfl) (@Cl _ _ _ _ _ _ _ (Cu K) (Ca Jx (pv 3) (@Cr _ _ _ _ (@AaE _ _ _ _ _ _ (@Cr _ _ _ _ (@Bq _ _ _ _ _ _ _ Be (@Bq _ _ _ _ _ _ _ Be (@Bq _ _ _ _ _ _ _ Be (@Bq _ _ _ _ _ _ _ Be (@Bq _ _ _ _ _ _ _ Be (@Bq _ _ _ _ _ _ _ Be (@Bq _ _ _ _ _ _ _ Be (@Bq _ _ _ _ _ _ _ Be (@Bq _ _ _ _ _ _ _ Be (@Bq _ _ _ _ _ _ _ Be (@Bq _ _ _ _ _ _ _ Be (@Bq _ _ _ _ _ _ _ Be (@Bq _ _ _ _ _ _ _ Be (@Bq _ _ _ _ _ _ _ Be Bd))))))))))))))) Bd))) (Ca Dr (Ca Fs (Bm (Jl T) (hr.mono (by decide)) rfl T.m_qt T.F_qt.kp (Na T) .nil Bs (@Ba _ _ _ _ _ (pv 0) (@Bq _ _ _ _ _ _ _ Be Bd) rfl)) Be) Be) (fun _ _=>rfl)))
   (@Bf _ _ _ _ _ (Bu (i:=5) sc_qcb.nd rfl (Or.inl rfl) (Ca Fs (Bm (Jl T) (hr.mono (by decide)) rfl T.m_qt T.F_qt.kp (Na T) .nil Bs (@Ba _ _ _ _ _ (pv 0) (@Bq _ _ _ _ _ _ _ Be Bd) rfl)) Be))
   (@Bf _ _ _ _ _ (Bu (i:=6) sc_qcb.nd rfl (Or.inl rfl) (Ca Vb (@Cr _ _ _ _ (@Ba _ _ _ _ _ (Bm (Jj T) (hr.mono (by decide)) rfl T.m_qca T.F_qca.kp (Lm T) .nil Bs (@Ba _ _ _ _ _ (pv 0) (@Bq _ _ _ _ _ _ _ Be Bd) rfl)) Bd rfl)) (Ca Aa0 (Lo Uo rfl T.z_int boot_int (@Ba _ _ _ _ _ (Fx Dq (Ca Dr (pv 5) Be) Be (Ck _)) Bd rfl)) (Ca Dz Be (Ca Dr (Ca Fs (pv 5) Be) Be)))))
   (@Bi _ _ _ (@Cd _ _ _ _ (Ca Jx (pv 6) (Jp 1 [0,4] ["_law_cell","_law_script","_law_some"] ["_law_some","_law_script"] rfl (Dd (Gz (Gx K) (pv 0) (Fm (pv 1)) (Fm (Ca Dz (pv 1) (pv 2))))) rfl (fun j y e1 i e2=>match j,e1,e2 with | 0,e1,e2=>by cases e1; cases e2; exact ⟨rfl,rfl,rfl,by decide +kernel⟩ | 1,e1,e2=>by cases e1; cases e2; exact ⟨rfl,rfl,rfl,by decide +kernel⟩ | _ + 2,_,e2=>by simp at e2) (forall_mem_cons.mpr ⟨rfl,forall_mem_cons.mpr ⟨rfl,fun _ h=>nomatch h⟩⟩) (by decide +kernel) (fun _ _ _ _=>(By (i:=0) (show Nodup (["_law_cell","_law_script","_law_some"]:List Str) by decide +kernel) rfl (Or.inl rfl))) (fun _ _ _ _=>Gr) (fun _ _ _ _=>(Bm (Jj T) (hr.mono (by decide)) rfl T.m_qca T.F_qca.kp (Lm T) .nil Bs (@Ba _ _ _ _ _ (pv 1) (@Ba _ _ _ _ _ (@Cl _ _ _ _ _ _ _ (Cu K) (pv 2) (Ca Dr (Ca Dr (pv 0) (Ca Ur Be Be)) (Ct (Cp K) rfl T.z_len PySem.boot_len (@Ba _ _ _ _ _ (pv 2) Bd rfl))) (fun _ _=>rfl)) Bd rfl) rfl))) rfl (by decide +kernel) rfl (by decide +kernel))))))))),?_⟩
 try dsimp only [Cg,Bw]
 refine Cm h (by decide) (Br (Cc (EF.eu (Db 2 (Bn (EF.eu (Qe (EF.eb (Ajg (Bo (EU.eb Bg) Bh))) (EF.eb (Db 12 (Bn Bg (Bn Bg (Bn Bg (Bn Bg (Bn Bg (Bn Bg (Bn Bg (Bn Bg (Bn Bg (Bn Bg (Bn Bg (Bn Bg Bh)))))))))))))))) (Bn (EF.eu (Db 8 (Bn Bg (Bn Bg (Bn Bg (Bn Bg (Bn Bg (Bn Bg (Bn Bg (Bn Bg Bh)))))))))) Bh)))))
   (Br (Cc (Do (EF.eb (Qe Bb (EF.eb (Db 1 (Bn (EF.eu (Db 14 (Bn Bg (Bn Bg (Bn Bg (Bn Bg (Bn Bg (Bn Bg (Bn Bg (Bn Bg (Bn Bg (Bn Bg (Bn Bg (Bn Bg (Bn Bg (Bn Bg Bh)))))))))))))))) Bh))))) (EU.eb (Dh (fun _ _ _=>.int _) (EU.eb (Dh (fun _ _ _=>.int _) (EU.eb (Ci (Bo Bb (Bo (EU.eb Bg) Bh)))) (EU.eb Bg))) (EU.eb Bg)))))
   (Br (Cc (Dh (fun _ _ _=>.int _) (EU.eb (Ci (Bo Bb (Bo (EU.eb Bg) Bh)))) (EU.eb Bg)))
   (Br (Cc (EF.eu (Wx (EF.eb (Db 1 (Bn (Ci (Bo Bb (Bo (EU.eb Bg) Bh))) Bh))) (EU.eb (Dh (fun _ _ _=>.int _) (EU.eb (Xm (Bo (EU.eb (Fb (EU.eb (Dh (fun _ _ _=>.int _) Bb (EU.eb Bg))) (EU.eb Bg))) Bh))) (EU.eb (Dc (fun _ _ _=>.int _) (EU.eb Bg) (EU.eb (Dh (fun _ _ _=>.int _) (EU.eb (Dh (fun _ _ _=>.int _) Bb (EU.eb Bg))) (EU.eb Bg))))))))))
   (Je (Qe Bb (EF.eb (Fr (EF.eb (Lv Bb (Fn Bb) (Fn (EU.eb (Dc (fun _ _ _=>.int _) Bb Bb))))) (Cn (top:=1)) Ja (Ci (Bo Bb (Bo (EU.eb (Do Bb (EU.eb (Dh (fun _ _ _=>.int _) (EU.eb (Dh (fun _ _ _=>.int _) Bb (EU.eb (Dh (fun _ _ _=>.int _) (EU.eb Bg) (EU.eb Bg))))) (EU.eb (Dy (Bo Bb Bh))))))) Bh))))))))))) (fun ps P hp=>?_)
 clear h hu hu64 hr
 obtain ⟨ns,a,b,rfl,hl,q⟩:=hp
 walk_at "s"
 walk_at "pr"
 all_goals try (first | decide | exact ⟨by decide,by decide⟩ | (show _ + _ <= _; decide +kernel))
 refine ⟨ns,3,rfl,hl,?_⟩
 walk_at "pr"
 all_goals try (first | decide | exact ⟨by decide,by decide⟩)
 have h1:=emod_nonneg (cM ns 3 / 7) (show (3:Int) ≠ 0 by decide)
 have h2:=emod_lt_of_pos (cM ns 3 / 7) (show (0:Int) < 3 by decide)
 have hj:(cM ns 3 / 7 % 3).toNat < mnF.length:=by show _ < 3; omega
 obtain ⟨hm1,hm2,hm3⟩:=Akn _ (getElem_mem hj)
 generalize em:mnF[(cM ns 3 / 7 % 3).toNat] = m at hm1 hm2 hm3
 refine Fp (l:=mnF) (f:=fun l:List Nat=>PV.lst (l.map fun k:Nat=>PV.int (k:Int))) (j:=(cM ns 3 / 7 % 3).toNat) (a:=m) (by rw [getElem?_eq_getElem hj,em]) (by omega) ?_
 walk_at "pr"
 refine ⟨ns,2,rfl,hl,?_⟩
 walk_at "pr"
 all_goals try (first | decide | exact ⟨by decide,by decide⟩)
 generalize cM ns 2 / 7 = dp
 obtain ⟨r,hr,hr2⟩:∃ r:Nat,(if decide (dp % 8 = 5) = true then (1:Int) else 0) * (8 + dp / 8 % 6) = (r:Int)/\r <= 13:=by
  have g1:=emod_nonneg (dp / 8) (show (6:Int) ≠ 0 by decide)
  have g2:=emod_lt_of_pos (dp / 8) (show (0:Int) < 6 by decide)
  by_cases z:dp % 8 = 5
  ·rw [decide_eq_true z,if_pos rfl,Int.one_mul]
   exact ⟨(8 + dp / 8 % 6).toNat,by omega,by omega⟩
  ·rw [decide_eq_false z,if_neg (by decide),Int.zero_mul]
   exact ⟨0,rfl,by decide⟩
 refine ⟨ns,6,rfl,hl,by decide,?_⟩
 walk_at "pr"
 all_goals try (first | decide | exact ⟨by decide,by decide⟩)
 all_goals try (by_cases z:dp % 8 = 5; (rw [decide_eq_true z]; exact .inl ⟨by decide,by decide⟩); (rw [decide_eq_false z]; exact .inl ⟨by decide,by decide⟩); done)
 all_goals try (rw [hr]; exact ⟨by omega,by omega⟩)
 rw [hr,toNat_natCast]
 refine ⟨by rw [length_map]; have:=Zc (ns:=ns) (lo:=some (a:Int)) (hi:=some ((a:Int) + (b:Int))); omega,?_⟩
 refine Fj (enc:=PV.int) (f:=fun c=>some (.int (sgF ns ((m[(c % 10 ^ 62 % (m.length:Int)).toNat]?).getD 0)))) ?_ (fun d hd Z hZ=>?_)
 rotate_left
 ·walk_at "cp"
  walk_at "pr"
  all_goals try (first | decide | exact ⟨by decide,by decide,by decide⟩ | (rw [length_map]; omega))
  have g1:=emod_nonneg (d % 10 ^ 62) (show (m.length:Int) ≠ 0 by omega)
  have g2:=emod_lt_of_pos (d % 10 ^ 62) (show (0:Int) < (m.length:Int) by omega)
  have hk:(d % 10 ^ 62 % (m.length:Int)).toNat < m.length:=by omega
  rw [getElem?_eq_getElem hk] at hZ
  refine Fp (l:=m) (f:=fun k:Nat=>PV.int (k:Int)) (j:=(d % 10 ^ 62 % (m.length:Int)).toNat) (a:=m[(d % 10 ^ 62 % (m.length:Int)).toNat]) (getElem?_eq_getElem hk) (by rw [length_map]; exact (Int.toNat_of_nonneg g1).symm) ?_
  walk_at "pr"
  refine ⟨ns,_,rfl,hl,hm3 _ (getElem_mem hk),?_⟩
  exact hZ
 have eF:∀ l:List Int,l.filterMap (fun c=>some (PV.int (sgF ns ((m[(c % 10 ^ 62 % (m.length:Int)).toNat]?).getD 0)))) = (l.map fun c=>(m[(c % 10 ^ 62 % (m.length:Int)).toNat]?).getD 0).map fun k=>.int (sgF ns k):=fun l=>by
  rw [map_map]
  exact congrFun (filterMap_eq_map' (f:=fun c=>PV.int (sgF ns ((m[(c % 10 ^ 62 % (m.length:Int)).toNat]?).getD 0)))) l
 rw [eF]
 have cl:=Zc (ns:=ns) (lo:=some (a:Int)) (hi:=some ((a:Int) + (b:Int)))
 walk_at "pr"
 rotate_left
 ·rw [length_replicate,length_map,length_map]; omega
 have q2:=q (replicate r 6 ++ (Gh ns (some (a:Int)) (some ((a:Int) + (b:Int)))).map fun c=>(m[(c % 10 ^ 62 % (m.length:Int)).toNat]?).getD 0) (fun k hk=>by
  rcases mem_append.mp hk with hk | hk
  ·rw [List.eq_of_mem_replicate hk]; decide
  ·obtain ⟨c,_,rfl⟩:=mem_map.mp hk
   cases e:m[(c % 10 ^ 62 % (m.length:Int)).toNat]? with
   | none=>show 0 < 28; omega
   | some x=>exact hm3 x (mem_of_getElem? e)) (by rw [length_append,length_replicate,length_map]; omega)
 rw [map_append,List.map_replicate] at q2
 exact q2
def MkD (H:Hp) (kvs:List (Key × V)) (m:Int->Bool) (n:Int):Prop:=(Cv kvs (Sum.inl n) = none/\m n = false)\/∃ p x r,Cv kvs (Sum.inl n) = some (.ref p)/\H p = some (.tup [.str x,.int r])/\m n = decide (x = "mark")
theorem MkD.same {H H':Hp} {kvs:List (Key × V)} {m:Int->Bool} {n:Int} (h:MkD H kvs m n) (s:Same H H'):MkD H' kvs m n:=by
 rcases h with h | ⟨p,x,r,h1,h2,h3⟩
 ·exact .inl h
 ·exact .inr ⟨p,x,r,h1,s _ _ h2,h3⟩
def Ym (K:Frag):Sp:=fun vs H Q _=>∃ l d m kvs ts,vs = [.ref d,.ref l]/\H d = some (.dK kvs)/\SqL K H l (map V.int ts)/\ts.length <= 300/\(∀ n ∈ ts,MkD H kvs m n) /\
 ∀ (wl:Addr) (xs:List V) (H':Hp),H wl = none->Same H H'->(∀ x ∈ xs,∃ p,x = V.ref p/\H p = none)->LLat H' wl xs (grp m ts)->Q (.ref wl) H'
def mkG (ns:List Int):Int->Bool:=Df (usL ns 28) (mtL ns)
theorem AdK (ns:List Int) {k:Nat} (hk:k < 28):Li (usL ns 28) (mtL ns) (sgF ns k) = kdF ns k:=by
 have:=Zn ns hk
 unfold knd at this
 exact AhV this
def Acr:PSp:=fun ps P=>∃ ns ks,ps = [.dk (tdD ns 28),.lst (map (fun k=>.int (sgF ns k)) ks)]/\(∀ k ∈ ks,k < 28)/\ks.length <= 300/\P (.lst (map (fun g=>PV.lst (map .int g)) (grp (mkG ns) (ks.map (sgF ns)))))
theorem AeS {C:Addr} {ω:Om} {E:XK} {m n:Bool} {t:TA} {u:UA} (ha:AU K C ω [m,n] t u):EU K C ω (Ll (Ym K) [] E t) (Su Acr u) :=
 fun B G0 H0 own G σ H ρ P Q S hu k=>ha B G0 H0 own G σ H ρ _ _ S hu fun vs ps G1 H1 w1 ok ⟨ns,ks,e,hks,hl,h⟩=>by
  obtain ⟨v,w,p,q,rfl,e2,r2,r1⟩:=Tq ok
  rw [e] at e2; cases e2
  rw [show (map (fun k=>PV.int (sgF ns k)) ks) = map .int (ks.map (sgF ns)) by rw [map_map]; rfl] at r1
  obtain ⟨a,xs,rfl,ea,l⟩:=r1.lst w1.i
  rw [Rh l] at ea
  obtain ⟨d,kvs,rfl,ed,ld⟩:=r2.dk w1.i
  refine ⟨a,d,mkG ns,kvs,ks.map (sgF ns),rfl,ed,SqL.of ea,by rw [length_map]; exact hl,fun n hn=>?_,fun wl xs H2 hwl s2 fx ll=>?_⟩
  ·obtain ⟨j,hj,rfl⟩:=mem_map.mp hn
   have hj':=hks j hj
   rcases Wp (Sum.inl (sgF ns j)) ld with ⟨h1,h2⟩ | ⟨x,p,h1,h2,h3⟩
   ·rw [Vf ns hj'] at h2; cases h2
   ·rw [Vf ns hj'] at h2; cases h2
    cases h3 with
    | tup et lt rt =>
     rename_i pa us
     obtain ⟨u1,u2,eu,q1,q2⟩:∃ u1 u2,us = [u1,u2]/\Rep K C G1 u1 (.str (kdF ns j))/\Rep K C G1 u2 (.int (rkF ns j)):=by
      match us,lt,rt with
      | [u1,u2],_,rt=>exact ⟨u1,u2,rfl,rt 0 u1 _ rfl rfl,rt 1 u2 _ rfl rfl⟩
     subst eu
     cases q1
     cases q2
     exact .inr ⟨pa,kdF ns j,rkF ns j,h1,w1.i _ _ et,by unfold mkG Df; rw [AdK ns hj']⟩
  ·refine k _ _ _ H2 (w1.trans (No w1.i s2)) (Rep.ofL (Ff hwl ll.li) ⟨by rw [ll.at'.1,length_map],fun i x y hx hy=>?_⟩) h
   rw [getElem?_map] at hy
   obtain ⟨g,hg,rfl⟩:=map_eq_some_iff.mp hy
   obtain ⟨p,e1,hp⟩:=ll.at'.2 i x g hx hg
   obtain ⟨p',e2,hn⟩:=fx x (mem_of_getElem? hx)
   subst e1
   cases e2
   exact Rep.ofL (Ff hn hp) (Fi g)
theorem Ani (T:Txt K mg t):Binds K t.d_qbe ["_law_told_here","_law_text_here"] []:=T.F_qbe.binds fun _ _ _ _ _ _ us hl=>match us,hl with | [_,_],_=>rfl
theorem Ak4 (T:Txt K mg t):FnOk P w K mg base CX0 1 t.f_qbe t.d_qbe ["_law_told_here","_law_text_here"] (Ym K):=by
 refine T.F_qbe.ok sc_qbe (fun vs H Q E h=>?_) (fun cdv A outer s H vs Q E hr h=>?_)
 ·obtain ⟨l,d,m,kvs,ts,rfl,hD,hT,hl,hm,q⟩:=h
  rfl
 ·obtain ⟨l,d,m,kvs,ts,rfl,hD,hT,hl,hm,q⟩:=h
  have hu:=Co hr
  have hu64:=hr.units
  refine ⟨_,(Bf (Bu (i:=2) sc_qbe.nd rfl (Or.inl rfl) (Cr Bd))
   (Bf (Dl PassesOwn.never rfl (Dd (pv 1)) (By (i:=3) sc_qbe.nd rfl (Or.inl rfl))
    (Bi (De (PW.pt (Rn (Cf (Ado hu64) (pv 2) (Cr Bd) (Ck _)) (Qq (Cf Vi (Cl (Aan) (Vq hu (pv 0) (pv 3) (Dt (Ba Bx (Ba Be Bd))) ⟨rfl,rfl,rfl,rfl⟩) Be (fun _ _=>rfl)) Bx (Ck _)))))
    (Bi (Cs (Fv plainAttrs_list PySem.F.slot_list_append PySem.F.type_list_append Dn (pv 2) (Ba (Cr (Ba (pv 3) Bd)) Bd))))
    (Bi (Cs (Fv plainAttrs_list PySem.F.slot_list_append PySem.F.type_list_append Dn (Cl (Ya) (pv 2) (Ra Ls Be) (fun _ _=>rfl)) (Ba (pv 3) Bd)))))))
   (Bi (Cd (pv 2))))),?_⟩
  try dsimp only [Cg,Bw]
  walk_at "rd"
  refine ⟨by decide,fun wl H0 hwl s0 e0=>?_⟩
  walk_at "rd"
  refine Ly (i:=1) rfl (s0.seq hT) (fun i σ H'=>∃ v3 xs,σ = [some (.ref d),some (.ref l),some (.ref wl),v3]/\Same H H'/\(∀ x ∈ xs,∃ p,x = V.ref p/\H p = none)/\LLat H' wl xs (grp m (ts.take i))) ⟨none,[],rfl,s0,(fun x h=>by cases h),⟨e0,LAt.nil,nodup_nil,by simp⟩⟩ (fun i σ H' _ ⟨_,_,_,s,_⟩=>s.seq hT) ?_ ?_
  ·rintro i x σ H' hi ⟨v3,xs,rfl,s,fx,ll⟩
   obtain ⟨n,en,rfl⟩:=AaU hi
   have hlt:=(List.getElem?_eq_some_iff.mp en).1
   have eg:grp m (ts.take (i + 1)) = Ro m (grp m (ts.take i)) n:=by rw [Dv en,AaA]
   have hli:=ll.li
   have hxl:xs.length <= 300:=by
    have:=(Gm m (ts.take i)).ln
    rw [<- ll.at'.1,length_take] at this
    omega
   walk_at "rd"
   refine ⟨by decide,fun p0 H1 hp0 s1 ep0=>?_⟩
   have ll1:=ll.same s1
   have s':=s.trans s1
   have hli1:=ll1.li
   have hD':H1 d = some (.dK kvs):=s' _ _ hD
   have hMD:MkD H1 kvs m n:=(hm n (mem_of_getElem? en)).same s'
   have push:∀ H2,Same H1 H2->(grp m (ts.take i) = []\/m n = false)->∀ (p:Addr) (H3 H4:Hp),H2 p = none->Same H2 H3->H3 p = some (.lst [V.int n])->Chg wl H3 H4->H4 wl = some (.lst (xs ++ [.ref p]))->∃ v3 xs,[some (V.ref d),some (.ref l),some (.ref wl),some (.int n)] = [some (V.ref d),some (.ref l),some (.ref wl),v3]/\Same H H4/\(∀ x ∈ xs,∃ p,x = V.ref p/\H p = none)/\LLat H4 wl xs (grp m (ts.take (i + 1))):=fun H2 s2 hz p H3 H4 hp s3 e3 c4 e4=>by
    have hli3:=s3 _ _ (s2 _ _ hli1)
    have npw:p ≠ wl:=(Cb (s2 _ _ hli1) hp).symm
    refine ⟨_,_,rfl,((s'.trans s2).trans s3).chg c4 hwl,fun x hx=>?_,by rw [eg,Tr hz]; exact (ll1.same s2).push hp s3 c4 e4 (fun _ _ h _=>h) (c4 _ _ e3 npw)⟩
    rcases mem_append.mp hx with w | w
    ·exact fx x w
    ·exact ⟨p,mem_singleton.mp w,(s'.trans s2).free hp⟩
   refine ⟨wl,p0,xs,[],decide (xs.length = 0),rfl,rfl,SqL.of hli1,SqL.of ep0,?_,?_⟩
   ·by_cases z:xs.length = 0
    ·exact .inr ⟨z,fun _=>true,(fun j x y _ h=>by cases h),by rw [z,decide_eq_true rfl]; rfl⟩
    ·exact .inl ⟨z,decide_eq_false z⟩
   walk_at "rd"
   by_cases hz0:xs.length = 0
   ·rw [decide_eq_true hz0]
    have hz:grp m (ts.take i) = []\/m n = false:=.inl (List.eq_nil_of_length_eq_zero (by rw [<- ll.at'.1]; exact hz0))
    refine Ji ?_
    walk_at "rd"
    refine ⟨(by decide:1 <= sizeLine),fun p H3 hp s3 e3=>?_⟩
    walk_at "rd"
    walk_at "rd"
    refine Gd (s3 _ _ hli1) (Gn (by omega)) fun H4 c4 e4=>?_
    walk_at "rd"
    exact push H1 (Same.refl _) hz p H3 H4 hp s3 e3 c4 e4
   ·rw [decide_eq_false hz0]
    rw [show (if false = true then !false else false) = false from rfl]
    refine Jo ?_
    walk_at "rd"
    refine ⟨(by decide:2 <= sizeLine),fun p2 H2 hp2 s2 e2=>?_⟩
    refine ⟨Cv kvs (Sum.inl n),DGet.k (k:=Sum.inl n) (s2 _ _ hD'),?_⟩
    obtain ⟨p3,x3,r3,e3,h3,hm3⟩:∃ q x r,(Cv kvs (Sum.inl n)).getD (.ref p2) = V.ref q/\H2 q = some (.tup [.str x,.int r])/\m n = decide (x = "mark"):=by
     rcases hMD with ⟨h1,h2⟩ | ⟨q,x,r,h1,h2,h3⟩
     ·exact ⟨p2,_,_,by rw [h1]; rfl,e2,by rw [h2]; rfl⟩
     ·exact ⟨q,x,r,by rw [h1]; rfl,s2 _ _ h2,h3⟩
    rw [e3]
    walk_at "rd"
    refine AgX (i:=0) h3 ?_ rfl
    walk_at "rd"
    by_cases hx:x3 = "mark"
    ·have hmt:m n = true:=by rw [hm3,decide_eq_true hx]
     refine Jd (by simp [hx]) ?_
     obtain ⟨xs',p,gs',g,ex,eg',hp⟩:=(ll1.same s2).last (fun z=>hz0 (by rw [ll.at'.1,z]; rfl))
     have ll2:=ll1.same s2
     rw [eg',ex] at ll2
     rw [eg'] at eg
     have hgl:g.length <= 300:=by
      have z:=(Gm m (ts.take i)).fl
      rw [eg'] at z
      have:=congrArg length z
      simp at this
      omega
     walk_at "rd"
     refine Zz (SqL.of ll2.li) ?_ (Gy _ _)
     walk_at "rd"
     walk_at "rd"
     refine Gd hp (Gn (by rw [length_map]; omega)) fun H4 c4 e4=>?_
     walk_at "rd"
     have fp:H p = none:=by
      obtain ⟨p',e,z⟩:=fx (V.ref p) (by rw [ex]; exact mem_append_right _ mem_cons_self)
      cases e; exact z
     exact ⟨_,_,rfl,(s'.trans s2).chg c4 fp,fun x hx=>fx x (by rw [ex]; exact hx),by rw [eg,Vm hmt]; exact ll2.add c4 e4⟩
    ·have hmt:m n = false:=by rw [hm3,decide_eq_false hx]
     refine Gu (by simp [hx]) ?_
     have hli2:=s2 _ _ hli1
     walk_at "rd"
     refine ⟨(by decide:1 <= sizeLine),fun p H3 hp s3 e3=>?_⟩
     walk_at "rd"
     walk_at "rd"
     refine Gd (s3 _ _ (s2 _ _ hli1)) (Gn (by omega)) fun H4 c4 e4=>?_
     walk_at "rd"
     exact push H2 s2 (.inr hmt) p H3 H4 hp s3 e3 c4 e4
  ·rintro σ H' ⟨v3,xs,rfl,s,fx,ll⟩
   rw [length_map,take_length] at ll
   walk_at "rd"
   exact q wl xs H' hwl s fx ll
def Ae3:PSp:=fun ps P=>∃ ns ks,ps = [.dk (tdD ns 28),.lst (map (fun k=>.int (sgF ns k)) ks)]/\(∀ k ∈ ks,k < 28)/\ks.length <= 300/\P (.lst (map (fun w=>PV.str (knW (usL ns 28) (mtL ns) w)) (grp (mkG ns) (ks.map (sgF ns)))))
theorem AmE (T:Txt K mg t):Binds K t.d_qbr ["_law_told_here","_law_text_here"] []:=T.F_qbr.binds fun _ _ _ _ _ _ us hl=>match us,hl with | [_,_],_=>rfl
theorem AkW (T:Txt K mg t):FnOk P w K mg base CX0 2 t.f_qbr t.d_qbr ["_law_told_here","_law_text_here"] (spOf K t.C_Book [false,false] .fr Ae3):=by
 refine T.F_qbr.ok sc_qbr (fun vs H Q E h=>h.len) (fun cdv A outer s H vs Q E hr h=>?_)
 have hu:=Co hr
 have hu64:=hr.units
 refine ⟨_,(Bf (Bu (i:=2) sc_qbr.nd rfl (Or.inl rfl) (Cr Bd))
   (Bf (Dl PassesOwn.never rfl (Dd (Bm (Ak4 T) (hr.mono (by decide)) rfl T.m_qbe T.F_qbe.kp (Ani T) .nil Bs (Ba (pv 0) (Ba (pv 1) Bd)))) (By (i:=3) sc_qbr.nd rfl (Or.inl rfl))
    (Bf (Bu (i:=4) sc_qbr.nd rfl (Or.inl rfl) (Cl (Cz K) (Vq hu (pv 0) (Cl (Cu K) (pv 3) Be (fun _ _=>rfl)) (Dt (Ba Bx (Ba Be Bd))) ⟨rfl,rfl,rfl,rfl⟩) Be (fun _ _=>rfl)))
   (Bi (Cs (Fv plainAttrs_list PySem.F.slot_list_append PySem.F.type_list_append Dn (pv 2) (Ba (Cl (Cu K) (Cr (Ba (pv 4) (Ba Bx Bd))) (Lo Uo rfl T.z_int boot_int (Ba (Fx Dq (pv 4) Bx (Ck _)) Bd)) (fun _ _=>rfl)) Bd))))))
   (Bi (Cd (pv 2))))),?_⟩
 try dsimp only [Cg,Bw]
 refine Cm h (by decide) (Br (Fc (Db 0 Bh))
   (Br (Ww (AeS (Bo Bb (Bo Bb Bh))) (Cn (top:=5))
    (Br (Cc (Di (EU.eb (AfV (EU.eb (Do Bb (EU.eb Bg))) (Fd 2 (Bn Ch (Bn Bg Bh))))) (EU.eb Bg)))
   (Gk (Bn (Do (EF.eb (Db 2 (Bn Bv (Bn Ch Bh)))) (EU.eb (Xm (Bo (EU.eb (Fb Bb (EU.eb Ch))) Bh)))) Bh))))
   Gq)) (fun ps P hp=>?_)
 clear h hu hu64 hr
 obtain ⟨ns,ks,rfl,hks,hl,q⟩:=hp
 walk_at "s"
 walk_at "pr"
 refine ⟨ns,ks,rfl,hks,hl,?_⟩
 walk_at "pr"
 have go:=Gm (mkG ns) (ks.map (sgF ns))
 have gl:=go.ln
 rw [length_map] at gl
 generalize hgs:grp (mkG ns) (ks.map (sgF ns)) = gs at go gl q
 refine ⟨fun k ρ=>∃ v3 v4,ρ = [.bo (.dk (tdD ns 28)),.bo (.lst (map (fun k=>PV.int (sgF ns k)) ks)),.ow (.lst ((gs.take k).map fun w=>PV.str (knW (usL ns 28) (mtL ns) w))),v3,v4],⟨_,_,rfl⟩,?_,?_⟩
 ·rintro k p ρ hk ⟨v3,v4,rfl⟩
  rw [getElem?_map] at hk
  obtain ⟨g,hg,rfl⟩:=map_eq_some_iff.mp hk
  obtain ⟨n,r,rfl,hr⟩:=go.ne g (mem_of_getElem? hg)
  obtain ⟨j,hj,en⟩:∃ j ∈ ks,sgF ns j = n:=by
   have:n ∈ gs.flatten:=List.mem_flatten.mpr ⟨_,mem_of_getElem? hg,mem_cons_self⟩
   rw [go.fl] at this
   exact mem_map.mp this
  subst en
  have hj':=hks j hj
  have ek:Li (usL ns 28) (mtL ns) (sgF ns j) = kdF ns j:=AdK ns hj'
  have e4:(gs.take k).map (fun w=>PV.str (knW (usL ns 28) (mtL ns) w)) ++ [PV.str (if kdF ns j = "mark" then "plain" else kdF ns j)] = (gs.take (k + 1)).map (fun w=>PV.str (knW (usL ns 28) (mtL ns) w)):=by
   rw [Dv hg,map_append]
   have:knW (usL ns 28) (mtL ns) (sgF ns j :: r) = if kdF ns j = "mark" then ("plain" : Str) else kdF ns j:=by
    rw [<- ek]
    show (if Df (usL ns 28) (mtL ns) (sgF ns j) = true then ("plain" : Str) else Li (usL ns 28) (mtL ns) (sgF ns j)) = _
    unfold Df
    by_cases h:Li (usL ns 28) (mtL ns) (sgF ns j) = "mark"
    ·rw [if_pos h,if_pos (decide_eq_true h)]
    ·rw [if_neg h,if_neg (fun z=>h (of_decide_eq_true z))]
   rw [<- this]; rfl
  have hk64:((gs.take k).map fun w=>PV.str (knW (usL ns 28) (mtL ns) w)).length < 100000:=by
   rw [length_map,length_take]; omega
  walk_at "pr"
  refine Fp (l:=sgF ns j :: r) (j:=0) (a:=sgF ns j) rfl rfl ?_
  walk_at "pr"
  rw [Vf ns hj',getD_some]
  walk_at "pr"
  by_cases h:kdF ns j = "mark"
  ·rw [decide_eq_true h]
   rw [if_pos h] at e4
   rw [if_pos rfl]
   refine AeC ?_
   walk_at "pr"
   rotate_left
   ·exact hk64
   rw [e4]
   exact ⟨_,_,rfl⟩
  ·rw [decide_eq_false h]
   rw [if_neg h] at e4
   rw [if_neg (by decide)]
   refine Aar ?_
   walk_at "pr"
   rotate_left
   ·exact hk64
   rw [e4]
   exact ⟨_,_,rfl⟩
 rintro ρ ⟨v3,v4,rfl⟩
 rw [length_map,take_length]
 walk_at "pr"
 exact q
def Ady:PSp:=fun ps P=>∃ n:Int,ps = [.int n]/\P (.bl true)
theorem Afx {C:Addr} {ω:Om} {E:XK} {m:Bool} {t:TA} {u:UA} (ha:AU K C ω [m] t u):EU K C ω (Ll Vz [] E t) (Su Ady u) :=
 fun B G0 H0 own G σ H ρ P Q S hu k=>ha B G0 H0 own G σ H ρ _ _ S hu fun vs ps G1 H1 w1 ok ⟨n,e,h⟩=>by
  obtain ⟨v,p,rfl,e2,r⟩:=Jw ok
  rw [e] at e2; cases e2
  exact ⟨n,by rw [r.int]; rfl,k _ _ G1 H1 w1 (.bl _) h⟩
def Aii:PSp:=fun ps P=>∃ w:Nat,ps = [.int w]/\1 <= w/\P .non
theorem AnG (T:Txt K mg t):Binds K t.d_qs ["width"] []:=T.F_qs.binds fun _ _ _ _ _ _ us hl=>match us,hl with | [_],_=>rfl
theorem Amu (T:Txt K mg t):FnOk P w K mg base CX0 2 t.f_qs t.d_qs ["width"] (spOf K t.C_Book [false] .sh Aii):=by
 refine T.F_qs.ok Am1 (fun vs H Q E h=>h.len) (fun cdv A outer s H vs Q E hr h=>?_)
 have hu:=Co hr
 have hu64:=hr.units
 refine ⟨_,(Bi (De (PW.pt (Rn (Qk (Lx (Bm (Act T) (hr.mono (by decide)) rfl T.m_qb T.F_qb.kp (Afk T) .nil Bs (Ba (pv 0) Bd)))) (Qq (Cf Ace (pv 0) Be (Ck _)))))
    Rj
    Cy)),?_⟩
 try dsimp only [Cg,Bw]
 refine Cm h (by decide) (Dp (Uy (Uu (Oy (EU.eb (Afx (Bo Bb Bh))))) (Cw (EU.eb (Dc (fun _ _ _=>.bl _) Bb (EU.eb Bg)))))
    Wh
    Dg) (fun ps P hp=>?_)
 clear h hu hu64 hr
 obtain ⟨w,rfl,hw,q⟩:=hp
 walk_at "s"
 walk_at "pr"
 refine ⟨_,rfl,?_⟩
 walk_at "pr"
 rw [decide_eq_false (by omega:¬ (w:Int) < 1)]
 walk_at "pr"
 exact q
def blI (kn:List Str) (a w:Nat):List Nat:=(range w).filter fun k=>decide (kn[a + k]? = some ("blank" : Str))
def reF (kn:List Str) (a w:Nat):Nat:=if kn.length - a <= w then kn.length else match (blI kn a w).getLast? with
 | none=>a + w
 | some k=>a + k + 1
theorem AhZ {kn:List Str} {a w k:Nat} (h:(blI kn a w).getLast? = some k):k < w/\kn[a + k]? = some ("blank" : Str):=by
 have:=List.mem_of_getLast? h
 obtain ⟨h1,h2⟩:=mem_filter.mp this
 exact ⟨mem_range.mp h1,of_decide_eq_true h2⟩
theorem Aa3 {kn:List Str} {a w:Nat} (ha:a <= kn.length) (hw:1 <= w):a <= reF kn a w/\reF kn a w <= kn.length/\reF kn a w <= a + w/\(a < kn.length->a < reF kn a w):=by
 unfold reF
 split
 ·refine ⟨ha,Nat.le_refl _,by omega,fun h=>h⟩
 ·split
  ·refine ⟨by omega,by omega,by omega,fun h=>by omega⟩
  ·rename_i k e
   have:=(AhZ e).1
   refine ⟨by omega,by omega,by omega,fun h=>by omega⟩
theorem AfE {l:List Nat} (pw:l.Pairwise (· < ·)) {x:Nat} (hx:x ∈ l) (hm:∀ y ∈ l,y <= x):l.getLast? = some x:=by
 have ne:l ≠ []:=List.ne_nil_of_mem hx
 obtain ⟨i,z,rfl⟩:∃ i z,l = i ++ [z]:=⟨l.dropLast,l.getLast ne,(List.dropLast_concat_getLast ne).symm⟩
 rw [List.getLast?_concat]
 have h1:=hm z (mem_append_right _ mem_cons_self)
 rcases mem_append.mp hx with h | h
 ·have:=(List.pairwise_append.mp pw).2.2 x h z mem_cons_self
  omega
 ·rw [mem_singleton.mp h]
theorem Ali (kn:List Str) (a w:Nat):(blI kn a w).Pairwise (· < ·):=Pairwise.sublist List.filter_sublist List.pairwise_lt_range
def Af1:PSp:=fun ps P=>∃ (kn:List Str) (a w:Nat),ps = [.lst (kn.map .str),.int a,.int w]/\a <= kn.length/\kn.length <= 300/\1 <= w/\w <= 1000/\P (.int (reF kn a w:Nat))
theorem Adj {ug:PV->Bp->(Bp->Prop)->Prop} {uc:UT} {ue:UE} {ρ':Bp} {P:PV->Prop} {a n:Nat} {f:Nat->Option PV} (ha:a < 100000) (hn:n < 50000) (q:P (.lst ((range n).filterMap f))) (h:∀ k,k < n->∀ Z:Option PV->Prop,Z (f k)->ug (.int ((a:Int) + k)) ρ' fun ρ2=>uc ρ2 fun b=>if b = true then ue ρ2 fun q=>Z (some q) else Z none):Xn ug uc ue ρ' P [.int a,.int ((a:Int) + n)]:=by
 refine ⟨a,(a:Int) + n,rfl,⟨by omega,by omega,by omega,by omega⟩,by omega,fun k rs=>rs = (range k).filterMap f,rfl,fun k rs hk hr=>?_,fun rs hr=>?_⟩
 ·subst hr
  have hk':k < n:=by omega
  refine h k hk' (fun o=>(match o with | some q=>(range k).filterMap f ++ [q] | none=>(range k).filterMap f) = (range (k + 1)).filterMap f) ?_
  rw [List.range_succ,List.filterMap_append]
  cases e:f k with
  | none=>simp [filterMap_cons,e]
  | some x=>simp [filterMap_cons,e]
 ·have:((a:Int) + n - a).toNat = n:=by omega
  rw [this] at hr
  rw [hr]; exact q
theorem AgO (T:Txt K mg t):Binds K t.d_qci ["kinds","start","width"] []:=T.F_qci.binds fun _ _ _ _ _ _ us hl=>match us,hl with | [_,_,_],_=>rfl
theorem Ad1 (T:Txt K mg t):FnOk P w K mg base CX0 1 t.f_qci t.d_qci ["kinds","start","width"] (spOf K t.C_Book [false,false,false] .sh Af1):=by
 refine T.F_qci.ok sc_qci (fun vs H Q E h=>h.len) (fun cdv A outer s H vs Q E hr h=>?_)
 have hu:=Co hr
 have hu64:=hr.units
 refine ⟨_,(Bf (De (Cf AcG (Ca Lz (Ct (Cp K) rfl T.z_len PySem.boot_len (Ba (pv 0) Bd)) (pv 1)) (pv 2) (Ck _))
    (Bi (Cd (Ct (Cp K) rfl T.z_len PySem.boot_len (Ba (pv 0) Bd))))
    Cy)
   (Bf (Wc 1 [0] ["k","kinds"] ["kinds"] rfl (Re rfl T.z_range (Ba (pv 1) (Ba (Ca Dz (pv 1) (pv 2)) Bd))) rfl (fun j y e1 i e2=>match j,e1,e2 with | 0,e1,e2=>by cases e1; cases e2; exact ⟨rfl,rfl,rfl,by decide +kernel⟩ | _ + 1,_,e2=>by simp at e2) (forall_mem_cons.mpr ⟨rfl,fun _ h=>nomatch h⟩) (by decide +kernel) (fun _ _ _ _=>(By (i:=0) (show Nodup (["k","kinds"]:List Str) by decide +kernel) rfl (Or.inl rfl))) (fun _ _ _ _=>(Le (Cf Dq (Cl (Cu K) (pv 1) (pv 0) (fun _ _=>rfl)) Bx (Ck _)))) (fun _ _ _ _=>(pv 0)) rfl (by decide +kernel) rfl (by decide +kernel) (fun _=>rfl) (i:=3) sc_qci.nd rfl (Or.inl rfl) rfl)
   (Bi (Cd (Ca Dz (AhG hr.hd rfl T.z_max (Ba (pv 3) Bd) (Aik (Ca Lz (Ca Dz (pv 1) (pv 2)) Be) Alp)) Be))))),?_⟩
 try dsimp only [Cg,Bw]
 refine Cm h (by decide) (Br (Dp (Cw (EU.eb (Dc (fun _ _ _=>.bl _) (EU.eb (Dc (fun _ _ _=>.int _) (EU.eb (Dy (Bo Bb Bh))) Bb)) Bb)))
    (Dm (Dy (Bo Bb Bh)))
    Dg)
   (Br (Cc (EF.eu (Ac7 (Bo Bb (Bo (EU.eb (Dc (fun _ _ _=>.int _) Bb Bb)) Bh)) (Cn (top:=1)) (Cw (EU.eb (Fb (EU.eb (Do Bb Bb)) (EU.eb Ch)))) Bv)))
   (Dm (Dc (fun _ _ _=>.int _) (EU.eb (AhS (Bo Bb Bh) (Bo (EU.eb (Dc (fun _ _ _=>.int _) (EU.eb (Dc (fun _ _ _=>.int _) Bb Bb)) (EU.eb Bg))) Bh))) (EU.eb Bg))))) (fun ps P hp=>?_)
 clear h hu hu64 hr
 obtain ⟨kn,a,w,rfl,ha,hk,hw,hw2,q⟩:=hp
 walk_at "s"
 unfold reF at q
 walk_at "pr"
 by_cases h:kn.length - a <= w
 ·rw [decide_eq_true (by rw [length_map]; omega)]
  rw [if_pos h] at q
  walk_at "pr"
  rw [length_map]
  exact q
 rw [decide_eq_false (by rw [length_map]; omega)]
 rw [if_neg h] at q
 walk_at "pr"
 refine Adj (f:=fun k=>if kn[a + k]? = some ("blank" : Str) then some (.int ((a:Int) + k)) else none) (by omega) (by omega) ?_ (fun k hk2 Z hZ=>?_)
 rotate_left
 ·have hi:a + k < kn.length:=by omega
  walk_at "cp"
  walk_at "pr"
  refine Fp (l:=kn) (f:=PV.str) (j:=a + k) (a:=kn[a + k]) (getElem?_eq_getElem hi) (by omega) ?_
  walk_at "pr"
  rw [getElem?_eq_getElem hi] at hZ
  by_cases hb:kn[a + k] = "blank"
  ·rw [decide_eq_true hb]
   rw [if_pos (by rw [hb])] at hZ
   walk_at "pr"
   exact hZ
  ·rw [decide_eq_false hb]
   rw [if_neg (fun z=>hb (Option.some.inj z))] at hZ
   walk_at "pr"
   exact hZ
 have eF:(range w).filterMap (fun k=>if kn[a + k]? = some ("blank" : Str) then some (PV.int ((a:Int) + k)) else none) = ((blI kn a w).map fun k:Nat=>(a:Int) + (k:Int)).map PV.int:=by
  unfold blI
  rw [map_map]
  generalize range w = l
  induction l with
  | nil=>rfl
  | cons x r ih =>
   by_cases z:kn[a + x]? = some ("blank" : Str)
   ·rw [List.filterMap_cons_some (by rw [if_pos z]),filter_cons_of_pos (by simp [z]),map_cons,ih]; rfl
   ·rw [List.filterMap_cons_none (by rw [if_neg z]),filter_cons_of_neg (by simp [z]),ih]
 rw [eF]
 walk_at "pr"
 refine AlM (fun h0=>?_) (fun m hm hx=>?_)
 ·have h1:blI kn a w = []:=List.map_eq_nil_iff.mp h0
  rw [h1] at q
  walk_at "pr"
  rw [show (a:Int) + (w:Int) - 1 + 1 = ((a + w:Nat):Int) by omega]
  exact q
 ·obtain ⟨k,hk3,rfl⟩:=mem_map.mp hm
  rw [AfE (Ali kn a w) hk3 (fun y hy=>by have:=hx _ (mem_map.mpr ⟨y,hy,rfl⟩); omega)] at q
  walk_at "pr"
  rw [show (a:Int) + (k:Int) + 1 = ((a + k + 1:Nat):Int) by omega]
  exact q
def crF (kn:List Str) (w:Nat):Nat->Nat->List (Nat × Nat)
 | 0,_=>[]
 | n + 1,a=>(a,reF kn a w) :: (if reF kn a w < kn.length then crF kn w n (reF kn a w) else [])
abbrev nn2 (p:Nat × Nat):PV:=.tup [.int (p.1:Int),.int (p.2:Int)]
def AfQ:PSp:=fun ps P=>∃ (U:List Sg) (M:List (Int × Int)) (J:List Jn) (ts:List Int) (w:Nat),ps = [.bk U M J,.lst (map .int ts),.int w]/\ts.length <= 300/\1 <= w/\w <= 1000/\P (.lst ((crF (knL U M ts) w 301 0).map nn2))
theorem Amf (T:Txt K mg t):Binds K t.d_qbx ["book","text","width"] []:=T.F_qbx.binds fun _ _ _ _ _ _ us hl=>match us,hl with | [_,_,_],_=>rfl
theorem AkP (T:Txt K mg t):FnOk P w K mg base CX0 5 t.f_qbx t.d_qbx ["book","text","width"] (spOf K t.C_Book [false,false,false] .fr AfQ):=by
 refine T.F_qbx.ok sc_qbx (fun vs H Q E h=>h.len) (fun cdv A outer s H vs Q E hr h=>?_)
 have hu:=Co hr
 have hu64:=hr.units
 refine ⟨_,(Bf (Cs (Bm (Amu T) (hr.mono (by decide)) rfl T.m_qs T.F_qs.kp (AnG T) .nil Bs (Ba (pv 2) Bd)))
   (Bf (Bu (i:=3) sc_qbx.nd rfl (Or.inl rfl) (Bm (Xc T) (hr.mono (by decide)) rfl T.m_qby T.F_qby.kp (Zs T) .nil Bs (Ba (pv 0) (Ba (pv 1) Bd))))
   (Bf (Bu (i:=4) sc_qbx.nd rfl (Or.inl rfl) (Cr (Ba (Dt (Ba Be (Ba (Bm (Ad1 T) (hr.mono (by decide)) rfl T.m_qci T.F_qci.kp (AgO T) .nil Bs (Ba (pv 3) (Ba Be (Ba (pv 2) Bd)))) Bd))) Bd)))
   (Bf (AaN PassesOwn.never (Cf Ace (Cl (Cz K) (Cl (Cu K) (pv 4) (Ra Ls Be) (fun _ _=>rfl)) Be (fun _ _=>rfl)) (Ct (Cp K) rfl T.z_len PySem.boot_len (Ba (pv 3) Bd)) (Ck _))
    (Bf (Bu (i:=5) sc_qbx.nd rfl (Or.inl rfl) (Cl (Cz K) (Cl (Cu K) (pv 4) (Ra Ls Be) (fun _ _=>rfl)) Be (fun _ _=>rfl)))
   (Bi (Cs (Fv plainAttrs_list PySem.F.slot_list_append PySem.F.type_list_append Dn (pv 4) (Ba (Dt (Ba (pv 5) (Ba (Bm (Ad1 T) (hr.mono (by decide)) rfl T.m_qci T.F_qci.kp (AgO T) .nil Bs (Ba (pv 3) (Ba (pv 5) (Ba (pv 2) Bd)))) Bd))) Bd))))))
   (Bi (Cd (pv 4))))))),?_⟩
 try dsimp only [Cg,Bw]
 refine Cm h (by decide) (Br (Ye (EU.eb (Ci (Bo Bb Bh))))
   (Br (Cc (EF.eu (Dk (Bo Bb (Bo Bb Bh)))))
   (Br (Fc (Db 1 (Bn (Fd 2 (Bn Bg (Bn (Ci (Bo Bb (Bo (EU.eb Bg) (Bo Bb Bh)))) Bh))) Bh)))
   (Br (AaY (Cw (EU.eb (Dc (fun _ _ _=>.bl _) (EU.eb (Di (EU.eb (Do Bb (EU.eb (Xx (fun _ _=>.int _) (EU.eb Bg))))) (EU.eb Bg))) (EU.eb (Dy (Bo Bb Bh))))))
    (Br (Cc (Di (EU.eb (Do Bb (EU.eb (Xx (fun _ _=>.int _) (EU.eb Bg))))) (EU.eb Bg)))
   (Gk (Bn (Fd 2 (Bn Bv (Bn (Ci (Bo Bb (Bo Bb (Bo Bb Bh)))) Bh))) Bh))))
   Gq)))) (fun ps P hp=>?_)
 clear h hu hu64 hr
 obtain ⟨U,M,J,ts,w,rfl,hl,hw,hw2,q⟩:=hp
 walk_at "s"
 have gl:=(Gm (Df U M) ts).ln
 have kl:(knL U M ts).length = (grp (Df U M) ts).length:=by unfold knL; rw [length_map]
 walk_at "pr"
 refine ⟨w,rfl,hw,?_⟩
 walk_at "pr"
 refine ⟨U,M,J,ts,rfl,hl,?_⟩
 rw [show (map (fun w=>PV.str (knW U M w)) (grp (Df U M) ts)) = (knL U M ts).map .str by unfold knL; rw [map_map]; rfl]
 generalize knL U M ts = kn at kl q
 walk_at "pr"
 refine ⟨kn,0,w,rfl,by omega,by omega,hw,hw2,?_⟩
 walk_at "pr"
 refine ⟨fun m ρ=>∃ (rs:List (Nat × Nat)) (a f:Nat) (v5:Sl),ρ = [.bo (.bk U M J),.bo (.lst (map PV.int ts)),.bo (.int w),.sh (.lst (kn.map .str)),.ow (.lst ((rs ++ [(a,reF kn a w)]).map nn2)),v5]/\m = kn.length - reF kn a w/\a <= kn.length/\rs.length <= a/\kn.length - reF kn a w <= f/\rs ++ [(a,reF kn a w)] ++ (if reF kn a w < kn.length then crF kn w f (reF kn a w) else []) = crF kn w 301 0,⟨kn.length - reF kn 0 w,[],0,300,_,rfl,rfl,by omega,by simp,by omega,rfl⟩,?_⟩
 rintro m ρ ⟨rs,a,f,v5,rfl,rfl,ha,hr,hf,he⟩
 obtain ⟨o1,o2,o3,o4⟩:=Aa3 (kn:=kn) ha hw
 have hat:atI ((rs ++ [(a,reF kn a w)]).map nn2) (-1) = some (nn2 (a,reF kn a w)):=by
  rw [map_append]; exact Gy _ _
 walk_at "pr"
 refine Ln hat ?_
 walk_at "pr"
 rw [length_map]
 by_cases h:reF kn a w < kn.length
 ·rw [decide_eq_true (by omega)]
  rw [if_pos h] at he
  obtain ⟨f',rfl⟩:∃ f',f = f' + 1:=⟨f - 1,by omega⟩
  rw [crF] at he
  obtain ⟨p1,p2,p3,p4⟩:=Aa3 (kn:=kn) (a:=reF kn a w) o2 hw
  have ho:=o4 (by omega)
  walk_at "pr"
  refine Ln hat ?_
  walk_at "pr"
  refine ⟨kn,reF kn a w,w,rfl,o2,by omega,hw,hw2,?_⟩
  walk_at "pr"
  rotate_left
  ·rw [length_map,length_append]; show rs.length + 1 < _; omega
  have hp:=p4 h
  refine ⟨kn.length - reF kn (reF kn a w) w,by omega,rs ++ [(a,reF kn a w)],reF kn a w,f',_,by rw [map_append (l₁:=rs ++ [(a,reF kn a w)])]; rfl,rfl,o2,by rw [length_append]; show rs.length + 1 <= _; omega,by omega,?_⟩
  rw [append_assoc (rs ++ [(a,reF kn a w)])]
  exact he
 ·rw [decide_eq_false (by omega)]
  rw [if_neg h,append_nil] at he
  walk_at "pr"
  rw [he]
  exact q
def AfX:PSp:=fun ps P=>∃ n:Int,ps = [.int n]/\P (.bl (decide (0 <= n)))
theorem AiB {C:Addr} {ω:Om} {E:XK} {m:Bool} {t:TA} {u:UA} (ha:AU K C ω [m] t u):EU K C ω (Ll Yi [] E t) (Su AfX u) :=
 fun B G0 H0 own G σ H ρ P Q S hu k=>ha B G0 H0 own G σ H ρ _ _ S hu fun vs ps G1 H1 w1 ok ⟨n,e,h⟩=>by
  obtain ⟨v,p,rfl,e2,r⟩:=Jw ok
  rw [e] at e2; cases e2
  exact ⟨n,by rw [r.int]; rfl,k _ _ G1 H1 w1 (.bl _) h⟩
def Aif:PSp:=fun ps P=>∃ i g:Int,ps = [.int i,.int g]/\P (.bl (decide (0 <= i) && decide (i <= g)))
theorem Aku (T:Txt K mg t):Binds K t.d_qj ["thing","greatest"] []:=T.F_qj.binds fun _ _ _ _ _ _ us hl=>match us,hl with | [_,_],_=>rfl
theorem Ahi (T:Txt K mg t):FnOk P w K mg base CX0 3 t.f_qj t.d_qj ["thing","greatest"] (spOf K t.C_Book [false,false] .sh Aif):=by
 refine T.F_qj.ok Am9 (fun vs H Q E h=>h.len) (fun cdv A outer s H vs Q E hr h=>?_)
 have hu:=Co hr
 have hu64:=hr.units
 refine ⟨_,(Bi (Cd (Lu (Bm (Ub T) (hr.mono (by decide)) rfl T.m_qcg T.F_qcg.kp (Xf T) .nil Bs (Ba (pv 0) Bd)) (Qw (Fx AcG (pv 0) (pv 1) (Ck _)))))),?_⟩
 try dsimp only [Cg,Bw]
 refine Cm h (by decide) (Dm (Abm (EU.eb (AiB (Bo Bb Bh))) (Dc (fun _ _ _=>.bl _) Bb Bb))) (fun ps P hp=>?_)
 clear h hu hu64 hr
 obtain ⟨i,g,rfl,q⟩:=hp
 walk_at "s"
 walk_at "pr"
 refine ⟨i,rfl,?_⟩
 walk_at "pr"
 by_cases h:0 <= i
 ·rw [decide_eq_true h] at q ⊢
  walk_at "pr"
  rw [Bool.true_and] at q
  exact q
 ·rw [decide_eq_false h] at q ⊢
  walk_at "pr"
  rw [Bool.false_and] at q
  exact q
def Aiz:PSp:=fun ps P=>∃ i j n:Nat,ps = [.int i,.int j,.int n]/\i <= j/\j <= n/\P .non
theorem Anb (T:Txt K mg t):Binds K t.d_qba ["start","end","number"] []:=T.F_qba.binds fun _ _ _ _ _ _ us hl=>match us,hl with | [_,_,_],_=>rfl
theorem Aj3 (T:Txt K mg t):FnOk P w K mg base CX0 4 t.f_qba t.d_qba ["start","end","number"] (spOf K t.C_Book [false,false,false] .sh Aiz):=by
 refine T.F_qba.ok AkG (fun vs H Q E h=>h.len) (fun cdv A outer s H vs Q E hr h=>?_)
 have hu:=Co hr
 have hu64:=hr.units
 refine ⟨_,(Bi (De (PW.pt (Rn (Qk (Lx (Bm (Ahi T) (hr.mono (by decide)) rfl T.m_qj T.F_qj.kp (Aku T) .nil Bs (Ba (pv 1) (Ba (pv 2) Bd))))) (Qq (Qk (Lx (Bm (Ahi T) (hr.mono (by decide)) rfl T.m_qj T.F_qj.kp (Aku T) .nil Bs (Ba (pv 0) (Ba (pv 1) Bd))))))))
    Rj
    Cy)),?_⟩
 try dsimp only [Cg,Bw]
 refine Cm h (by decide) (Dp (Uy (Uu (Oy (EU.eb (Ci (Bo Bb (Bo Bb Bh)))))) (Uu (Oy (EU.eb (Ci (Bo Bb (Bo Bb Bh)))))))
    Wh
    Dg) (fun ps P hp=>?_)
 clear h hu hu64 hr
 obtain ⟨i,j,n,rfl,h1,h2,q⟩:=hp
 walk_at "s"
 walk_at "pr"
 refine ⟨j,n,rfl,?_⟩
 rw [decide_eq_true (show (0:Int) <= j by omega),decide_eq_true (show (j:Int) <= n by omega),Bool.true_and]
 walk_at "pr"
 refine ⟨i,j,rfl,?_⟩
 rw [decide_eq_true (show (0:Int) <= i by omega),decide_eq_true (show (i:Int) <= j by omega),Bool.true_and]
 walk_at "pr"
 exact q
def nnP (p:Nat × Nat):PV:=.tup [.int p.1,.int p.2]
def AhO:PSp:=fun ps P=>∃ i j n:Nat,ps = [nnP (i,j),.int n]/\i <= j/\j <= n/\P .non
theorem Amq (T:Txt K mg t):Binds K t.d_qbn ["row","number"] []:=T.F_qbn.binds fun _ _ _ _ _ _ us hl=>match us,hl with | [_,_],_=>rfl
theorem Alu (T:Txt K mg t):FnOk P w K mg base CX0 5 t.f_qbn t.d_qbn ["row","number"] (spOf K t.C_Book [false,false] .sh AhO):=by
 refine T.F_qbn.ok AkM (fun vs H Q E h=>h.len) (fun cdv A outer s H vs Q E hr h=>?_)
 have hu:=Co hr
 have hu64:=hr.units
 refine ⟨_,(Bf (De (PW.pt (Rn (Qk (Lx (Ct (Jv K) rfl T.z_isinstance boot_isinstance (Ba (pv 0) (Ba (Jh (v:=.ty "tuple") rfl T.z_tuple boot_tuple rfl) Bd))))) (Qq (Cf Vi (Ct (Cp K) rfl T.z_len PySem.boot_len (Ba (pv 0) Bd)) Be (Ck _)))))
    Rj
    Cy)
   (Bi (Cs (Bm (Aj3 T) (hr.mono (by decide)) rfl T.m_qba T.F_qba.kp (Anb T) .nil Bs (Ba (Cl (Cz K) (pv 0) Be (fun _ _=>rfl)) (Ba (Cl (Cz K) (pv 0) Be (fun _ _=>rfl)) (Ba (pv 1) Bd))))))),?_⟩
 try dsimp only [Cg,Bw]
 refine Cm h (by decide) (Br (Dp (Uy (Uu (Oy (EU.eb (Xa Bb)))) (Cw (EU.eb (Aab (EU.eb (Dy (Bo Bb Bh))) (EU.eb Bg)))))
    Wh
    Dg)
   (Ye (EU.eb (Ci (Bo (EU.eb (Di Bb (EU.eb Bg))) (Bo (EU.eb (Di Bb (EU.eb Bg))) (Bo Bb Bh))))))) (fun ps P hp=>?_)
 clear h hu hu64 hr
 obtain ⟨i,j,n,rfl,h1,h2,q⟩:=hp
 walk_at "s"
 rw [show nnP (i,j) = .tup [.int i,.int j] from rfl]
 walk_at "pr"
 rw [decide_eq_true (show ((([PV.int (i:Int),PV.int (j:Int)]:List PV).length:Nat):Int) = 2 from rfl)]
 walk_at "pr"
 refine ⟨i,j,n,rfl,h1,h2,?_⟩
 walk_at "pr"
 exact q
def lsF (ks:List Str):Nat->Nat
 | 0=>0
 | n + 1=>if ks[n]? = some ("blank" : Str) then lsF ks n else n + 1
def blF (ks:List Str) (vs:List Int) (b:Int):List Int:=vs.take (lsF ks ks.length) ++ replicate (ks.length - lsF ks ks.length) b
def AhF:PSp:=fun ps P=>∃ (ks:List Str) (vs:List Int) (b:Int),ps = [.lst (ks.map .str),.lst (vs.map .int),.int b]/\vs.length = ks.length/\ks.length <= 300/\P (.lst ((blF ks vs b).map .int))
theorem AnA (T:Txt K mg t):Binds K t.d_qa ["kinds","levels","base"] []:=T.F_qa.binds fun _ _ _ _ _ _ us hl=>match us,hl with | [_,_,_],_=>rfl
theorem AmT (T:Txt K mg t):FnOk P w K mg base CX0 1 t.f_qa t.d_qa ["kinds","levels","base"] (spOf K t.C_Book [false,false,true] .fr AhF):=by
 refine T.F_qa.ok sc_qa (fun vs H Q E h=>h.len) (fun cdv A outer s H vs Q E hr h=>?_)
 have hu:=Co hr
 have hu64:=hr.units
 refine ⟨_,(Bf (Bu (i:=3) sc_qa.nd rfl (Or.inl rfl) (Ct (Cp K) rfl T.z_len PySem.boot_len (Ba (pv 0) Bd)))
   (Bf (AaN PassesOwn.never (PW.pt (Qv (Cf Zt (pv 3) Be (Ck _)) (Lf (Cf Dq (Cl (Cu K) (pv 0) (Ca Lz (pv 3) Be) (fun _ _=>rfl)) Bx (Ck _)))))
    (Bi (Aa1 (i:=3) sc_qa.nd rfl (Or.inl rfl) Be Aj9)))
   (Bi (Cd (Ca Jx (Gz (Gx K) (pv 1) Yk (Fm (pv 3))) (Ca Vb (Cr (Ba (pv 2) Bd)) (Ca Lz (Ct (Cp K) rfl T.z_len PySem.boot_len (Ba (pv 0) Bd)) (pv 3)))))))),?_⟩
 try dsimp only [Cg,Bw]
 refine Cm h (by decide) (Br (Cc (Dy (Bo Bb Bh)))
   (Br (AaY (Qo (Cw (EU.eb (Dc (fun _ _ _=>.bl _) Bb (EU.eb Bg)))) (Cw (EU.eb (Fb (EU.eb (Do Bb (EU.eb (Dc (fun _ _ _=>.int _) Bb (EU.eb Bg))))) (EU.eb Ch)))))
    (Aaw (EU.eb Bg)))
   (Je (Qe (EF.eb (Lv Bb Yf (Fn Bb))) (EF.eb (Wx (EF.eb (Db 1 (Bn Bv Bh))) (EU.eb (Dc (fun _ _ _=>.int _) (EU.eb (Dy (Bo Bb Bh))) Bb)))))))) (fun ps P hp=>?_)
 clear h hu hu64 hr
 obtain ⟨ks,vs,b,rfl,hl,hk,q⟩:=hp
 walk_at "s"
 unfold blF at q
 walk_at "pr"
 rw [length_map]
 refine ⟨fun m ρ=>∃ n:Nat,m = n/\n <= ks.length/\ρ = [.bo (.lst (ks.map .str)),.bo (.lst (vs.map .int)),.sh (.int b),.sh (.int n)]/\lsF ks n = lsF ks ks.length,⟨_,ks.length,rfl,Nat.le_refl _,rfl,rfl⟩,?_⟩
 rintro n ρ ⟨_,rfl,hn,rfl,he⟩
 have fin:lsF ks ks.length = n->P (PV.lst (Gh (map PV.int vs) none (some (n:Int)) ++ replicate (((map PV.str ks).length:Int) - (n:Int)).toNat (PV.int b))):=fun h=>by
  rw [h,map_append,List.map_replicate] at q
  rw [length_map,Gw,Acx,show ((ks.length:Int) - (n:Int)).toNat = ks.length - n by omega]
  exact q
 have sz1:(Gh (map PV.int vs) none (some (n:Int))).length + (replicate (((map PV.str ks).length:Int) - (n:Int)).toNat (PV.int b)).length <= 100000:=by
  have:=Vx (map PV.int vs) none (some (n:Int))
  rw [length_map] at this
  rw [length_replicate,length_map]; omega
 have sz2:(((map PV.str ks).length:Int) - (n:Int)) <= 100000/\-(2 ^ 63) <= (((map PV.str ks).length:Int) - (n:Int)):=by rw [length_map]; exact ⟨by omega,by omega⟩
 walk_at "pr"
 by_cases h0:0 < n
 ·rw [decide_eq_true (by omega)]
  obtain ⟨n',rfl⟩:∃ n',n = n' + 1:=⟨n - 1,by omega⟩
  obtain ⟨k,hk1⟩:∃ k,ks[n']? = some k:=⟨_,getElem?_eq_getElem (by omega)⟩
  walk_at "pr"
  refine Fp (l:=ks) (f:=PV.str) (j:=n') (a:=k) hk1 (by omega) ?_
  walk_at "pr"
  by_cases h1:k = "blank"
  ·rw [decide_eq_true h1]
   rw [lsF,hk1,if_pos (by rw [h1])] at he
   walk_at "pr"
   exact ⟨n',lt_succ_self _,n',rfl,by omega,by rw [show ((n' + 1:Nat):Int) - 1 = (n':Int) by omega],he⟩
  ·rw [decide_eq_false h1]
   rw [lsF,hk1,if_neg (fun z=>h1 (Option.some.inj z))] at he
   walk_at "pr"
   all_goals try (first | exact sz1 | exact sz2)
   exact fin he.symm
 ·rw [decide_eq_false (by omega)]
  have:n = 0:=by omega
  subst this
  walk_at "pr"
  all_goals try (first | exact sz1 | exact sz2)
  exact fin he.symm
theorem Xl (W:List Sg) (M:List (Int × Int)) (ts:List Int):(knL W M ts).length = (bsL W M ts).length/\(knL W M ts).length <= ts.length:=by
 have:=(Gm (Df W M) ts).ln
 unfold knL bsL
 rw [length_map,length_map]; exact ⟨rfl,this⟩
theorem Vw (mt:Int->Option Int) (ks:List Str) (bs:List Int) (b m:Int):(Qj mt ks bs b m).length = ks.length:=by
 unfold Qj lvA
 suffices h:∀ (rows:List (Int × List Nat)) (acc:List Int),(rows.foldl (fun l r=>lpF l r.2 (rwF mt (pkF ks r.2) (pkF bs r.2) r.1)) acc).length = acc.length by rw [h,length_replicate]
 intro rows
 induction rows with
 | nil=>intro acc; rfl
 | cons r l ih=>intro acc; rw [foldl_cons,ih,Aic]
def lrF (U:List Sg) (M:List (Int × Int)) (ts:List Int) (o:Option Int) (m:Int) (r:Nat × Nat):List Int:=blF (((knL U M ts).take r.2).drop r.1) (((Qj (mtF M) (knL U M ts) (bsL U M ts) (o.getD (obF 0 (knL U M ts))) m).take r.2).drop r.1) (o.getD (obF 0 (knL U M ts)))
def AiT:PSp:=fun ps P=>∃ (U:List Sg) (M:List (Int × Int)) (J:List Jn) (ts:List Int) (rs:List (Nat × Nat)) (o:Option Int) (m:Int),ps = [.bk U M J,.lst (map .int ts),.lst (rs.map nnP),opP o,.int m]/\ts.length <= 300/\rs.length <= 1000/\True/\P (.lst (rs.map fun r=>.lst ((lrF U M ts o m r).map .int)))
theorem AnX (T:Txt K mg t):Binds K t.d_qd ["book","text","rows","base","most"] []:=T.F_qd.binds fun _ _ _ _ _ _ us hl=>match us,hl with | [_,_,_,_,_],_=>rfl
theorem Ama (T:Txt K mg t):FnOk P w K mg base CX0 8 t.f_qd t.d_qd ["book","text","rows","base","most"] (spOf K t.C_Book [false,false,false,true,false] .fr AiT):=by
 refine T.F_qd.ok sc_qd (fun vs H Q E h=>h.len) (fun cdv A outer s H vs Q E hr h=>?_)
 have hu:=Co hr
 have hu64:=hr.units
 refine ⟨_,(Bf (Bu (i:=5) sc_qd.nd rfl (by first | exact Or.inl rfl | exact Or.inr rfl) (Bm (Xc T) (hr.mono (by decide)) rfl T.m_qby T.F_qby.kp (Zs T) .nil Bs (Ba (pv 0) (Ba (pv 1) Bd))))
   (Bf (Bu (i:=6) sc_qd.nd rfl (by first | exact Or.inl rfl | exact Or.inr rfl) (Bm (AgI T) (hr.mono (by decide)) rfl T.m_qr T.F_qr.kp (AkN T) .nil Bs (Ba (pv 0) (Ba (pv 1) (Ba (pv 3) Bd)))))
   (Bf (Bu (i:=7) sc_qd.nd rfl (by first | exact Or.inl rfl | exact Or.inr rfl) (Bm (Aei T) (hr.mono (by decide)) rfl T.m_qbu T.F_qbu.kp (Ahk T) .nil Bs (Ba (pv 0) (Ba (pv 1) (Ba (pv 6) (Ba (pv 4) Bd))))))
   (Bi (Cd (Jp 1 [5,7,6] ["row","kinds","levels","lowest"] ["lowest","levels","kinds"] rfl (Dd (pv 2)) rfl (fun j y e1 i e2=>match j,e1,e2 with | 0,e1,e2=>by cases e1; cases e2; exact ⟨rfl,rfl,rfl,by decide +kernel⟩ | 1,e1,e2=>by cases e1; cases e2; exact ⟨rfl,rfl,rfl,by decide +kernel⟩ | 2,e1,e2=>by cases e1; cases e2; exact ⟨rfl,rfl,rfl,by decide +kernel⟩ | _ + 3,_,e2=>by simp at e2) (forall_mem_cons.mpr ⟨rfl,forall_mem_cons.mpr ⟨rfl,forall_mem_cons.mpr ⟨rfl,fun _ h=>nomatch h⟩⟩⟩) (by decide +kernel) (fun _ _ _ _=>(By (i:=0) (show Nodup (["row","kinds","levels","lowest"]:List Str) by decide +kernel) rfl (Or.inl rfl))) (fun _ _ _ _=>Gr) (fun _ _ _ _=>(Bm (AmT T) (hr.mono (by decide)) rfl T.m_qa T.F_qa.kp (AnA T) .nil Bs (Ba (Gz (Gx K) (pv 1) (Fm (Cl (Cz K) (pv 0) Be (fun _ _=>rfl))) (Fm (Cl (Cz K) (pv 0) Be (fun _ _=>rfl)))) (Ba (Gz (Gx K) (pv 2) (Fm (Cl (Cz K) (pv 0) Be (fun _ _=>rfl))) (Fm (Cl (Cz K) (pv 0) Be (fun _ _=>rfl)))) (Ba (pv 3) Bd))))) rfl (by decide +kernel) rfl (by decide +kernel))))))),?_⟩
 try dsimp only [Cg,Bw]
 refine Cm h (by decide) (Br (Cc (EF.eu (Dk (Bo Bb (Bo Bb Bh)))))
   (Br (Cc (Ci (Bo Bb (Bo Bb (Bn Bv Bh)))))
   (Br (Cc (EF.eu (Dk (Bo Bb (Bo Bb (Bn Bv (Bo Bb Bh)))))))
   (Je (Fr Bb (Cn (top:=1)) Ja (EF.eu (Dk (Bo (EF.eb (Lv Bb (Fn (EU.eb (Di Bb (EU.eb Bg)))) (Fn (EU.eb (Di Bb (EU.eb Bg)))))) (Bo (EF.eb (Lv Bb (Fn (EU.eb (Di Bb (EU.eb Bg)))) (Fn (EU.eb (Di Bb (EU.eb Bg)))))) (Bn Bv Bh)))))))))) (fun ps P hp=>?_)
 clear h hu hu64 hr
 obtain ⟨U,M,J,ts,rs,o,m,rfl,hl,hr,hr2,q⟩:=hp
 walk_at "s"
 obtain ⟨kl1,kl2⟩:=Xl U M ts
 walk_at "pr"
 refine ⟨U,M,J,ts,rfl,hl,?_⟩
 rw [show (map (fun w=>PV.str (knW U M w)) (grp (Df U M) ts)) = (knL U M ts).map .str by unfold knL; rw [map_map]; rfl]
 walk_at "pr"
 refine ⟨U,M,J,ts,o,rfl,hl,?_⟩
 unfold lrF at q
 generalize o.getD (obF 0 (knL U M ts)) = b at q
 walk_at "pr"
 refine ⟨U,M,J,ts,some b,m,rfl,hl,?_⟩
 rw [show (some b).getD (obF 0 (knL U M ts)) = b from rfl]
 have ll:(Qj (mtF M) (knL U M ts) (bsL U M ts) b m).length = (knL U M ts).length:=Vw ..
 generalize Qj (mtF M) (knL U M ts) (bsL U M ts) b m = lv at q ll
 generalize knL U M ts = kn at q ll kl1 kl2
 walk_at "pr"
 refine ⟨by rw [length_map]; omega,?_⟩
 refine Fj (S:=rs) (enc:=nnP) (f:=fun r=>some (.lst ((blF ((kn.take r.2).drop r.1) ((lv.take r.2).drop r.1) b).map .int))) ?_ (fun d hd Z hZ=>?_)
 rotate_left
 ·walk_at "cp"
  rw [show nnP d = .tup [.int d.1,.int d.2] from rfl]
  walk_at "pr"
  rw [Gw,Gw,Wv,Wv]
  refine ⟨_,_,b,rfl,?_,?_,?_⟩
  ·rw [length_drop,length_drop,length_take,length_take,ll]
  ·rw [length_drop,length_take]; omega
  ·exact hZ
 rw [show rs.filterMap (fun r=>some (PV.lst ((blF ((kn.take r.2).drop r.1) ((lv.take r.2).drop r.1) b).map .int))) = rs.map fun r=>PV.lst ((blF ((kn.take r.2).drop r.1) ((lv.take r.2).drop r.1) b).map .int) from congrFun (filterMap_eq_map' (f:=fun r:Nat × Nat=>PV.lst ((blF ((kn.take r.2).drop r.1) ((lv.take r.2).drop r.1) b).map .int))) _]
 exact q
def AhE:PSp:=fun ps P=>∃ (U:List Sg) (M:List (Int × Int)) (J:List Jn) (ts:List Int) (i j:Nat) (o:Option Int) (m:Int),ps = [.bk U M J,.lst (map .int ts),nnP (i,j),opP o,.int m]/\ts.length <= 300/\i <= j/\j <= (grp (Df U M) ts).length/\P (.lst ((lrF U M ts o m (i,j)).map .int))
theorem Ze (T:Txt K mg t):Binds K t.d_qbh ["book","text","row","base","most"] [t.v_row_levels_0,t.v_row_levels_1]:=T.F_qbh.binds 3 rfl fun _ _ _ _ _ _ us hl=>match us,hl with | [_,_,_],_=>⟨_,rfl,rfl⟩
theorem Zi (T:Txt K mg t):Binds K t.d_qbh ["book","text","row","base","most"] [t.v_row_levels_1]:=T.F_qbh.binds 4 rfl fun _ _ _ _ _ _ us hl=>match us,hl with | [_,_,_,_],_=>⟨_,rfl,rfl⟩
theorem Am3 (T:Txt K mg t):Binds K t.d_qbh ["book","text","row","base","most"] []:=T.F_qbh.binds 5 rfl fun _ _ _ _ _ _ us hl=>match us,hl with | [_,_,_,_,_],_=>⟨_,rfl,rfl⟩
theorem Aac (T:Txt K mg t):FnOk P w K mg base CX0 9 t.f_qbh t.d_qbh ["book","text","row","base","most"] (spOf K t.C_Book [false,false,true,true,false] .sh AhE):=by
 refine T.F_qbh.ok Ajv (fun vs H Q E h=>h.len) (fun cdv A outer s H vs Q E hr h=>?_)
 have hu:=Co hr
 have hu64:=hr.units
 refine ⟨_,(Bf (Cs (Bm (Alu T) (hr.mono (by decide)) rfl T.m_qbn T.F_qbn.kp (Amq T) .nil Bs (Ba (pv 2) (Ba (Ct (Cp K) rfl T.z_len PySem.boot_len (Ba (Bm (Aaf T) (hr.mono (by decide)) rfl T.m_qbv T.F_qbv.kp (Ab5 T) .nil Bs (Ba (pv 0) (Ba (pv 1) Bd))) Bd)) Bd))))
   (Bi (Cd (Cl (Cu K) (Bm (Ama T) (hr.mono (by decide)) rfl T.m_qd T.F_qd.kp (AnX T) .nil Bs (Ba (pv 0) (Ba (pv 1) (Ba (Cr (Ba (pv 2) Bd)) (Ba (pv 3) (Ba (pv 4) Bd)))))) Be (fun _ _=>rfl))))),?_⟩
 try dsimp only [Cg,Bw]
 refine Cm h (by decide) (Br (Ye (EU.eb (Ci (Bo Bb (Bo (EU.eb (Dy (Bo (EU.eb (Aav (Bo Bb (Bo Bb Bh)))) Bh))) Bh)))))
   (Dm (Do (EF.eb (Dk (Bo Bb (Bo Bb (Bo (EF.eb (Db 1 (Bn Bv Bh))) (Bn Bv (Bo Bb Bh))))))) (EU.eb Bg)))) (fun ps P hp=>?_)
 clear h hu hu64 hr
 obtain ⟨U,M,J,ts,i,j,o,m,rfl,hl,h1,h2,q⟩:=hp
 walk_at "s"
 obtain ⟨kl1,kl2⟩:=Xl U M ts
 walk_at "pr"
 refine ⟨U,M,J,ts,rfl,hl,?_⟩
 walk_at "pr"
 rw [length_map]
 refine ⟨i,j,(grp (Df U M) ts).length,rfl,h1,h2,?_⟩
 walk_at "pr"
 refine ⟨U,M,J,ts,[(i,j)],o,m,rfl,hl,(by decide:1 <= 1000),trivial,?_⟩
 refine Ln (Fo (j:=0) rfl) ?_
 exact q
def AiH:PSp:=fun ps P=>∃ n:Int,ps = [.int n]/\P (.bl true)
theorem Amd (T:Txt K mg t):Binds K t.d_qbt ["_law_found_here"] []:=T.F_qbt.binds fun _ _ _ _ _ _ us hl=>match us,hl with | [_],_=>rfl
theorem AjS (T:Txt K mg t):FnOk P w K mg base CX0 1 t.f_qbt t.d_qbt ["_law_found_here"] (spOf K t.C_Book [false] .sh AiH):=by
 refine T.F_qbt.ok AkQ (fun vs H Q E h=>h.len) (fun cdv A outer s H vs Q E hr h=>?_)
 have hu:=Co hr
 have hu64:=hr.units
 refine ⟨_,(Bi (Cd (Lu (Ct (Jv K) rfl T.z_isinstance boot_isinstance (Ba (pv 0) (Ba (Jh (v:=.ty "int") rfl T.z_int boot_int rfl) Bd))) (Qw (AeU (Ct (Jv K) rfl T.z_isinstance boot_isinstance (Ba (pv 0) (Ba (Jh (v:=.ty "bool") rfl T.z_bool boot_bool rfl) Bd)))))))),?_⟩
 try dsimp only [Cg,Bw]
 refine Cm h (by decide) (Dm (Abm (EU.eb (Xa Bb)) (AhX (EU.eb (Xa Bb))))) (fun ps P hp=>?_)
 clear h hu hu64 hr
 obtain ⟨n,rfl,q⟩:=hp
 walk_at "s"
 walk_at "pr"
 exact q
def AiC:PSp:=fun ps P=>∃ (U:List Sg) (M:List (Int × Int)) (J:List Jn) (ts:List Int) (i j:Nat) (o mo:Option Int),ps = [.bk U M J,.lst (map .int ts),nnP (i,j),opP o,opP mo]/\ts.length <= 300/\i <= j/\j <= (grp (Df U M) ts).length/\(∀ m,mo = some m->∃ b,o = some b)/\P (.lst ((lrF U M ts o (mo.getD 20) (i,j)).map .int))
theorem Am6 (T:Txt K mg t):Binds K t.d_qbp ["_law_book_here","_law_text_here","_law_row","_law_base","_law_most"] []:=T.F_qbp.binds fun _ _ _ _ _ _ us hl=>match us,hl with | [_,_,_,_,_],_=>rfl
theorem Aka (T:Txt K mg t):FnOk P w K mg base CX0 10 t.f_qbp t.d_qbp ["_law_book_here","_law_text_here","_law_row","_law_base","_law_most"] (spOf K t.C_Book [false,false,true,true,true] .sh AiC):=by
 refine T.F_qbp.ok Alw (fun vs H Q E h=>h.len) (fun cdv A outer s H vs Q E hr h=>?_)
 have hu:=Co hr
 have hu64:=hr.units
 refine ⟨_,(Bf (De (PW.pt (Qv (Gb (Qf (pv 3))) (Lf (Gb (Qf (pv 4))))))
    (Bi (Cd (Aaz (Aac T) (hr.mono (by decide)) rfl T.m_qbh T.F_qbh.kp (Ze T) (T.w_row_levels_0.append T.w_row_levels_1) Bs (Ba (pv 0) (Ba (pv 1) (Ba (pv 2) Bd))))))
    Cy)
   (Bf (De (Gb (Qf (pv 4)))
    (Bi (Cd (Aaz (Aac T) (hr.mono (by decide)) rfl T.m_qbh T.F_qbh.kp (Zi T) T.w_row_levels_1 Bs (Ba (pv 0) (Ba (pv 1) (Ba (pv 2) (Ba (pv 3) Bd)))))))
    Cy)
   (Bi (Cd (Bm (Aac T) (hr.mono (by decide)) rfl T.m_qbh T.F_qbh.kp (Am3 T) .nil Bs (Ba (pv 0) (Ba (pv 1) (Ba (pv 2) (Ba (pv 3) (Ba (pv 4) Bd)))))))))),?_⟩
 try dsimp only [Cg,Bw]
 refine Cm h (by decide) (Br (Dp (Qo (Cw (EU.eb (Qi Bb))) (Cw (EU.eb (Qi Bb))))
    (Dm (Ci (Ae5 (ms:=[false,false,true]) (m:=true) (m2:=false) (fun _=>.non) (fun _=>.int _) (Bo Bb (Bo Bb (Bn Bv Bh))))))
    Dg)
   (Br (Dp (Cw (EU.eb (Qi Bb)))
    (Dm (Ci (Afi (ms:=[false,false,true,true]) (m:=false) (fun _=>.int _) (Bo Bb (Bo Bb (Bn Bv (Bn Bv Bh)))))))
    Dg)
   (Dm (Ci (Bo Bb (Bo Bb (Bn Bv (Bn Bv (Bo Bb Bh))))))))) (fun ps P hp=>?_)
 clear h hu hu64 hr
 obtain ⟨U,M,J,ts,i,j,o,mo,rfl,hl,h1,h2,hc,q⟩:=hp
 walk_at "s"
 cases mo with
 | none =>
  rw [show opP none = .non from rfl]
  cases o with
  | none =>
   rw [show opP none = .non from rfl]
   walk_at "pr"
   refine Gu rfl ?_
   walk_at "pr"
   refine Gu rfl ?_
   walk_at "pr"
   refine ⟨U,M,J,ts,i,j,none,20,rfl,hl,h1,h2,?_⟩
   exact q
  | some b =>
   rw [show opP (some b) = .int b from rfl]
   walk_at "pr"
   refine Jd (fun z=>Bool.noConfusion z) ?_
   walk_at "pr"
   refine Gu rfl ?_
   walk_at "pr"
   refine ⟨U,M,J,ts,i,j,some b,20,rfl,hl,h1,h2,?_⟩
   exact q
 | some m =>
  obtain ⟨b,rfl⟩:=hc m rfl
  rw [show opP (some b) = .int b from rfl,show opP (some m) = .int m from rfl]
  walk_at "pr"
  refine Jd (fun z=>Bool.noConfusion z) ?_
  walk_at "pr"
  refine Jd (fun z=>Bool.noConfusion z) ?_
  walk_at "pr"
  refine ⟨U,M,J,ts,i,j,some b,m,rfl,hl,h1,h2,?_⟩
  exact q
theorem AaL:∀ kd:List Str,kd.filterMap (fun k:Str=>if ¬ k = "blank" then some (PV.str k) else none) = (kd.filter fun k:Str=>decide (¬ k = "blank")).map .str
 | []=>rfl
 | k :: r=>by
  by_cases z:¬ k = "blank"
  ·rw [List.filterMap_cons_some (by rw [if_pos z]),filter_cons_of_pos (p:=fun k:Str=>decide (¬ k = "blank")) (decide_eq_true z),map_cons,AaL r]
  ·rw [List.filterMap_cons_none (by rw [if_neg z]),filter_cons_of_neg (p:=fun k:Str=>decide (¬ k = "blank")) (by rw [decide_eq_false z]; decide),AaL r]
theorem Aid {xs:List PV} {P:PV->Prop} (h0:xs = []->P (.bl true)) (h1:xs ≠ []->P (.bl false)):AbW false (.lst xs) (.lst []) P:=⟨xs,[],rfl,rfl,(fun _ i x y _ h=>by cases h),fun b hb=>by
 by_cases z:xs = []
 ·rw [hb.mpr z]; exact h0 z
 ·have:b = false:=by
   cases b with
   | false=>rfl
   | true=>exact absurd (hb.mp rfl) z
  rw [this]; exact h1 z⟩
theorem Xb (ks:List Str):∀ n,lsF ks n <= n
 | 0=>Nat.le_refl _
 | n + 1=>by
  rw [lsF]
  split
  ·have:=Xb ks n; omega
  ·exact Nat.le_refl _
theorem Aby (ks:List Str) (x:Nat):∀ n,x < lsF ks n ↔ ∃ y,x <= y/\y < n/\¬ ks[y]? = some ("blank" : Str)
 | 0=>⟨fun h=>(by cases h),fun ⟨y,_,h,_⟩=>(by omega)⟩
 | n + 1=>by
  rw [lsF]
  by_cases h:ks[n]? = some ("blank" : Str)
  ·rw [if_pos h,Aby ks x n]
   constructor
   ·rintro ⟨y,h1,h2,h3⟩; exact ⟨y,h1,by omega,h3⟩
   ·rintro ⟨y,h1,h2,h3⟩
    refine ⟨y,h1,?_,h3⟩
    rcases Nat.lt_or_ge y n with z | z
    ·exact z
    ·have:y = n:=by omega
     subst this; exact absurd h h3
  ·rw [if_neg h]
   constructor
   ·intro hx; exact ⟨n,by omega,by omega,h⟩
   ·rintro ⟨y,h1,h2,_⟩; omega
theorem Ai9 {ks:List Str} {vs:List Int} {b:Int} {x:Nat} (hl:vs.length = ks.length) (hx:x < ks.length):(blF ks vs b)[x]? = some (if ((ks.drop x).filter fun k:Str=>decide (¬ k = "blank")) = [] then b else (vs[x]?).getD 0):=by
 have key:((ks.drop x).filter fun k:Str=>decide (¬ k = "blank")) = [] ↔ ¬ x < lsF ks ks.length:=by
  rw [Aby,List.filter_eq_nil_iff]
  constructor
  ·rintro h ⟨y,h1,h2,h3⟩
   obtain ⟨k,hk⟩:∃ k,ks[y]? = some k:=⟨_,getElem?_eq_getElem h2⟩
   have hm:k ∈ ks.drop x:=mem_of_getElem? (i:=y - x) (by rw [List.getElem?_drop,show x + (y - x) = y by omega]; exact hk)
   exact h k hm (decide_eq_true fun z=>h3 (by rw [hk,z]))
  ·intro h k hk hd
   obtain ⟨i,hi⟩:=getElem?_of_mem hk
   rw [List.getElem?_drop] at hi
   have:=(List.getElem?_eq_some_iff.mp hi).1
   exact h ⟨x + i,by omega,this,fun z=>by rw [hi] at z; exact (of_decide_eq_true hd) (Option.some.inj z)⟩
 have le:=Xb ks ks.length
 unfold blF
 by_cases h:x < lsF ks ks.length
 ·rw [if_neg (fun z=>key.mp z h),getElem?_append_left (by rw [length_take]; omega),getElem?_take,if_pos h,getElem?_eq_getElem (show x < vs.length by omega)]; rfl
 ·rw [if_pos (key.mpr h),getElem?_append_right (by rw [length_take]; omega),length_take,getElem?_replicate,if_pos (by omega)]
def AiP:PSp:=fun ps P=>∃ (U:List Sg) (M:List (Int × Int)) (J:List Jn) (ts:List Int) (i j:Nat) (o mo:Option Int),ps = [.bk U M J,.lst (map .int ts),.lst ((knL U M ts).map .str),nnP (i,j),opP o,opP mo]/\ts.length <= 300/\i <= j/\j <= (grp (Df U M) ts).length/\P (.lst ((lrF U M ts o (mo.getD 20) (i,j)).map .int))
theorem Amp (T:Txt K mg t):Binds K t.d_qch ["_law_book_here","_law_text_here","_law_kinds_here","_law_row","_law_base","_law_most"] []:=T.F_qch.binds fun _ _ _ _ _ _ us hl=>match us,hl with | [_,_,_,_,_,_],_=>rfl
theorem AjD (T:Txt K mg t):FnOk P w K mg base CX0 8 t.f_qch t.d_qch ["_law_book_here","_law_text_here","_law_kinds_here","_law_row","_law_base","_law_most"] (spOf K t.C_Book [false,false,false,true,true,true] .fr AiP):=by
 refine T.F_qch.ok sc_qch (fun vs H Q E h=>h.len) (fun cdv A outer s H vs Q E hr h=>?_)
 have hu:=Co hr
 have hu64:=hr.units
 refine ⟨_,(Bf (Bu (i:=6) sc_qch.nd rfl (Or.inl rfl) (pv 4))
   (Bf (De (Gb (Qf (pv 4)))
    (Bi (Bu (i:=6) sc_qch.nd rfl (Or.inl rfl) (Bm (AaQ T) (hr.mono (by decide)) rfl T.m_qce T.F_qce.kp (AcB T) .nil Bs (Ba (pv 0) (Ba (pv 1) Bd)))))
    Cy)
   (Bf (Bu (i:=7) sc_qch.nd rfl (Or.inl rfl) (Bm (Aei T) (hr.mono (by decide)) rfl T.m_qbu T.F_qbu.kp (Ahk T) .nil Bs (Ba (pv 0) (Ba (pv 1) (Ba (pv 6) (Ba (Cl (Cu K) (Cr (Ba (pv 5) (Ba Be Bd))) (Lo Uo rfl T.z_int boot_int (Ba (Us (Qf (pv 5))) Bd)) (fun _ _=>rfl)) Bd))))))
   (Bf (Bu (i:=8) sc_qch.nd rfl (Or.inl rfl) (Cr Bd))
   (Bf (Dl PassesOwn.never rfl (Re rfl T.z_range (Ba (Cl (Cz K) (pv 3) Be (fun _ _=>rfl)) (Ba (Cl (Cz K) (pv 3) Be (fun _ _=>rfl)) Bd))) (By (i:=9) sc_qch.nd rfl (Or.inl rfl))
    (Bi (De (Cf (AhT K hu64) (Vr 1 ["_law_kind"] rfl rfl (Dd (Gz (Gx K) (pv 2) (Fm (pv 9)) (Fm (Cl (Cz K) (pv 3) Be (fun _ _=>rfl))))) (fun _ _ _ _=>(By (i:=0) (show Nodup (["_law_kind"]:List Str) by decide +kernel) rfl (Or.inl rfl))) (fun _ _ _ _=>(Le (Cf Vi (pv 0) Bx (Ck _)))) (fun _ _ _ _=>(pv 0)) (by decide +kernel) (by decide +kernel) rfl (by decide +kernel)) (Cr Bd) (Ck _))
    (Bi (Cs (Fv plainAttrs_list PySem.F.slot_list_append PySem.F.type_list_append Dn (pv 8) (Ba (pv 6) Bd))))
    (Bi (Cs (Fv plainAttrs_list PySem.F.slot_list_append PySem.F.type_list_append Dn (pv 8) (Ba (Cl (Cu K) (pv 7) (pv 9) (fun _ _=>rfl)) Bd)))))))
   (Bi (Cd (pv 8)))))))),?_⟩
 try dsimp only [Cg,Bw]
 refine Cm h (by decide) (Br (Cc Bv)
   (Br (Dp (Cw (EU.eb (Qi Bb)))
    (Cc (Ci (Bo Bb (Bo Bb Bh))))
    Dg)
   (Br (Cc (EF.eu (Dk (Bo Bb (Bo Bb (Bn Bv (Bo (EU.eb (Do (EF.eb (Db 2 (Bn Bv (Bn Bg Bh)))) (EU.eb (Xm (Bo (EU.eb (Qi Bb)) Bh))))) Bh)))))))
   (Br (Fc (Db 0 Bh))
   (Br (Xz (Bo (EU.eb (Di Bb (EU.eb Bg))) (Bo (EU.eb (Di Bb (EU.eb Bg))) Bh)) (Cn (top:=10))
    (Dp (Cw (EU.eb (AaR (EF.eb (Fr (EF.eb (Lv Bb (Fn Bb) (Fn (EU.eb (Di Bb (EU.eb Bg)))))) (Cn (top:=1)) (Cw (EU.eb (Aab Bb (EU.eb Ch)))) Bv)) (EF.eb (Db 0 Bh)))))
    (Gk (Bn Bv Bh))
    (Gk (Bn (Do Bb Bb) Bh))))
   Gq))))) (fun ps P hp=>?_)
 clear h hu hu64 hr
 obtain ⟨U,M,J,ts,i,j,o,mo,rfl,hl,h1,h2,q⟩:=hp
 walk_at "s"
 obtain ⟨kl1,kl2⟩:=Xl U M ts
 have kg:(knL U M ts).length = (grp (Df U M) ts).length:=by unfold knL; rw [length_map]
 unfold lrF at q
 rw [show nnP (i,j) = .tup [.int i,.int j] from rfl]
 walk_at "px"
 refine Gg ?_
 walk_at "px"
 refine Jr (fun ρ=>ρ = [.bo (.bk U M J),.bo (.lst (ts.map .int)),.bo (.lst ((knL U M ts).map .str)),.sh (.tup [.int i,.int j]),.sh (opP o),.sh (opP mo),.sh (.int (o.getD (obF 0 (knL U M ts)))),.un,.un,.un]) (fun ρ h=>?_) ?_
 rotate_left
 ·cases o with
  | none =>
   rw [show opP none = .non from rfl]
   walk_at "pr"
   refine Gu rfl ?_
   walk_at "pr"
   refine ⟨U,M,J,ts,rfl,hl,?_⟩
   walk_at "pr"
   exact .inl rfl
  | some b =>
   rw [show opP (some b) = .int b from rfl]
   walk_at "pr"
   refine Jd (fun z=>Bool.noConfusion z) ?_
   walk_at "pr"
   exact .inl rfl
 subst h
 generalize o.getD (obF 0 (knL U M ts)) = b at q
 walk_at "px"
 refine Jr (fun ρ=>ρ = [.bo (.bk U M J),.bo (.lst (ts.map .int)),.bo (.lst ((knL U M ts).map .str)),.sh (.tup [.int i,.int j]),.sh (opP o),.sh (opP mo),.sh (.int b),.sh (.lst ((Qj (mtF M) (knL U M ts) (bsL U M ts) b (mo.getD 20)).map .int)),.un,.un]) (fun ρ h=>?_) ?_
 rotate_left
 ·cases mo with
  | none =>
   rw [show opP none = .non from rfl]
   walk_at "pr"
   refine Ln (Fo (j:=1) rfl) ?_
   walk_at "pr"
   refine ⟨U,M,J,ts,some b,20,rfl,hl,?_⟩
   walk_at "pr"
   exact .inl rfl
  | some m =>
   rw [show opP (some m) = .int m from rfl]
   walk_at "pr"
   refine Ln (Fo (j:=0) rfl) ?_
   walk_at "pr"
   refine ⟨U,M,J,ts,some b,m,rfl,hl,?_⟩
   walk_at "pr"
   exact .inl rfl
 subst h
 have ll:(Qj (mtF M) (knL U M ts) (bsL U M ts) b (mo.getD 20)).length = (knL U M ts).length:=Vw ..
 generalize Qj (mtF M) (knL U M ts) (bsL U M ts) b (mo.getD 20) = lv at q ll
 rw [<- kg] at h2
 generalize knL U M ts = kn at q ll kl1 kl2 h2
 walk_at "pr"
 all_goals try exact ⟨by omega,by omega,by omega,by omega⟩
 rw [show ((j:Int) - (i:Int)).toNat = j - i by omega]
 have hkl:((kn.take j).drop i).length = j - i:=by rw [length_drop,length_take]; omega
 have hvl:((lv.take j).drop i).length = ((kn.take j).drop i).length:=by rw [length_drop,length_take,hkl]; omega
 have tl:(blF ((kn.take j).drop i) ((lv.take j).drop i) b).length = j - i:=by
  unfold blF
  have:=Xb ((kn.take j).drop i) ((kn.take j).drop i).length
  rw [length_append,length_take,length_replicate]; omega
 have tat:=fun x (hx:x < j - i)=>Ai9 (b:=b) hvl (x:=x) (by omega)
 generalize blF ((kn.take j).drop i) ((lv.take j).drop i) b = Tt at q tl tat
 refine ⟨fun n ρ=>∃ v9,ρ = [.bo (.bk U M J),.bo (.lst (ts.map .int)),.bo (.lst (kn.map .str)),.sh (.tup [.int i,.int j]),.sh (opP o),.sh (opP mo),.sh (.int b),.sh (.lst (lv.map .int)),.ow (.lst ((Tt.take n).map .int)),v9],⟨_,rfl⟩,?_,?_⟩
 ·rintro n ρ hn ⟨v9,rfl⟩
  have tn:=tat n hn
  rw [List.drop_drop] at tn
  have el:(((lv.take j).drop i)[n]?).getD 0 = (lv[i + n]?).getD 0:=by
   rw [List.getElem?_drop,getElem?_take,if_pos (by omega)]
  rw [el] at tn
  obtain ⟨x,hx⟩:∃ x,lv[i + n]? = some x:=⟨_,getElem?_eq_getElem (by omega)⟩
  rw [hx] at tn
  have et:=Dv tn
  walk_at "pr"
  rw [Gw,show ((i:Int) + (n:Int)) = ((i + n:Nat):Int) by omega,Wv]
  refine ⟨by rw [length_map,length_drop,length_take]; omega,?_⟩
  generalize (kn.take j).drop (i + n) = kd at tn et
  refine Fj (S:=kd) (enc:=PV.str) (f:=fun k=>if ¬ k = "blank" then some (.str k) else none) ?_ (fun d hd Z hZ=>?_)
  rotate_left
  ·walk_at "cp"
   walk_at "pr"
   by_cases hb:d = "blank"
   ·rw [decide_eq_true hb]
    rw [if_neg (fun z=>z hb)] at hZ
    walk_at "pr"
    exact hZ
   ·rw [decide_eq_false hb]
    rw [if_pos hb] at hZ
    walk_at "pr"
    exact hZ
  rw [show kd.filterMap (fun k:Str=>if ¬ k = "blank" then some (PV.str k) else none) = (kd.filter fun k:Str=>decide (¬ k = "blank")).map .str from AaL kd]
  generalize (kd.filter fun k:Str=>decide (¬ k = "blank")) = ke at tn et
  have sz:((Tt.take n).map PV.int).length < 100000:=by rw [length_map,length_take]; omega
  walk_at "pr"
  refine Aid (fun h0=>?_) (fun h0=>?_)
  ·have h0:ke = []:=List.map_eq_nil_iff.mp h0
   rw [if_pos h0] at et
   walk_at "pr"
   rotate_left
   ·exact sz
   exact ⟨_,by rw [et,map_append]; rfl⟩
  ·have h0:¬ ke = []:=fun z=>h0 (by rw [z]; rfl)
   rw [if_neg h0] at et
   walk_at "pr"
   refine Fp (l:=lv) (f:=PV.int) (j:=i + n) (a:=x) hx (by omega) ?_
   walk_at "pr"
   rotate_left
   ·exact sz
   exact ⟨_,by rw [et,map_append]; rfl⟩
 ·rintro ρ ⟨v9,rfl⟩
  walk_at "pr"
  rw [<- tl,take_length]
  exact q
theorem Aed {kn:List Str} {w:Nat} (hw:1 <= w):∀ (n a:Nat),a <= kn.length->∀ p ∈ crF kn w n a,p.1 <= p.2/\p.2 <= kn.length
 | 0,_,_,p,h=>by cases h
 | n + 1,a,ha,p,h=>by
  obtain ⟨o1,o2,o3,o4⟩:=Aa3 (kn:=kn) ha hw
  rw [crF] at h
  rcases mem_cons.mp h with rfl | h
  ·exact ⟨o1,o2⟩
  ·split at h
   ·exact Aed hw n _ o2 p h
   ·cases h
theorem Abr (kn:List Str) (w:Nat):∀ n a,(crF kn w n a).length <= n
 | 0,_=>Nat.le_refl _
 | n + 1,a=>by
  rw [crF,length_cons]
  split
  ·have:=Abr kn w n (reF kn a w); omega
  ·show 0 + 1 <= n + 1; omega
theorem AiM {W:List Sg} {M:List (Int × Int)} {ts:List Int} {o:Option Int} {m:Int} {i j:Nat} (h1:i <= j) (h2:j <= (knL W M ts).length):(lrF W M ts o m (i,j)).length = j - i:=by
 unfold lrF blF
 dsimp only
 have ll:=Vw (mtF M) (knL W M ts) (bsL W M ts) (o.getD (obF 0 (knL W M ts))) m
 have:=Xb (((knL W M ts).take j).drop i) (((knL W M ts).take j).drop i).length
 have e:(((knL W M ts).take j).drop i).length = j - i:=by rw [length_drop,length_take]; omega
 generalize Qj (mtF M) (knL W M ts) (bsL W M ts) (o.getD (obF 0 (knL W M ts))) m = lv at ll ⊢
 have e2:((lv.take j).drop i).length = j - i:=by rw [length_drop,length_take]; omega
 rw [e] at this
 rw [length_append,length_take,length_replicate,e,e2]
 omega
theorem An0 (T:Txt K mg t):Binds K t.d_qck ["_law_script"] []:=T.F_qck.binds fun _ _ _ _ _ _ us hl=>match us,hl with | [_],_=>rfl
theorem Aju (T:Txt K mg t):FnOk P w K mg base CX0 11 t.f_qck t.d_qck ["_law_script"] (spOf K t.C_Book [false] .sh Abi):=by
 refine T.F_qck.ok sc_qck (fun vs H Q E h=>h.len) (fun cdv A outer s H vs Q E hr h=>?_)
 have hu:=Co hr
 have hu64:=hr.units
 refine ⟨_,(Bf (Bu (i:=1) sc_qck.nd rfl (Or.inl rfl) (Bm (Ai2 T) (hr.mono (by decide)) rfl T.m_qbz T.F_qbz.kp (Ank T) .nil Bs (Ba (pv 0) Bd)))
   (Bf (Bu (i:=2) sc_qck.nd rfl (Or.inl rfl) (Bm (Ajk T) (hr.mono (by decide)) rfl T.m_qcb T.F_qcb.kp (Amz T) .nil Bs (Ba (pv 0) (Ba Be (Ba Be Bd)))))
   (Bf (Bu (i:=3) sc_qck.nd rfl (Or.inl rfl) (Bm (AkW T) (hr.mono (by decide)) rfl T.m_qbr T.F_qbr.kp (AmE T) .nil Bs (Ba (Bm (AeR T) (hr.mono (by decide)) rfl T.m_qcc T.F_qcc.kp (Agp T) .nil Bs (Ba (pv 0) Bd)) (Ba (pv 2) Bd))))
   (Bf (Bu (i:=4) sc_qck.nd rfl (Or.inl rfl) (Bm (Jl T) (hr.mono (by decide)) rfl T.m_qt T.F_qt.kp (Na T) .nil Bs (Ba (pv 0) (Ba Be Bd))))
   (Bf (Bu (i:=5) sc_qck.nd rfl (Or.inl rfl) (Cl (Cu K) (Cr (Ba Rr (Ba Rr (Ba (Ca Dr (Ca Fs (pv 4) Be) Be) (Ba (Ca Dr (Ca Fs (pv 4) Be) Be) Bd))))) (Ca Dr (pv 4) Be) (fun _ _=>rfl)))
   (Bf (Bu (i:=6) sc_qck.nd rfl (Or.inl rfl) (Cl (Cu K) (Cr (Ba Rr (Ba Be (Ba (Ca Dr (Ca Fs (pv 4) Be) Be) (Ba (Ca Dr (Ca Fs (pv 4) Be) Be) Bd))))) (Ca Dr (Ca Fs (pv 4) Be) Be) (fun _ _=>rfl)))
   (Bf (De (PW.pt (Qv (Gb (Qf (pv 5))) (Lf (Gb (Ox (pv 6))))))
    (Bi (Bu (i:=5) sc_qck.nd rfl (Or.inl rfl) (Bm (AaQ T) (hr.mono (by decide)) rfl T.m_qce T.F_qce.kp (AcB T) .nil Bs (Ba (pv 1) (Ba (pv 2) Bd)))))
    Cy)
   (Bf (Bu (i:=7) sc_qck.nd rfl (Or.inl rfl) (Ca Dr (Bm (Jl T) (hr.mono (by decide)) rfl T.m_qt T.F_qt.kp (Na T) .nil Bs (Ba (pv 0) (Ba Be Bd))) (Ca Dz (Ct (Cp K) rfl T.z_len PySem.boot_len (Ba (pv 3) Bd)) Be)))
   (Bf (Bu (i:=8) sc_qck.nd rfl (Or.inl rfl) (Ca Dz (pv 7) (Ca Dr (Ca Fs (Bm (Jl T) (hr.mono (by decide)) rfl T.m_qt T.F_qt.kp (Na T) .nil Bs (Ba (pv 0) (Ba Be Bd))) Be) (Ca Lz (Ca Dz (Ct (Cp K) rfl T.z_len PySem.boot_len (Ba (pv 3) Bd)) Be) (pv 7)))))
   (Bf (Dl PassesOwn.never rfl (Re rfl T.z_range (Ba (pv 7) (Ba (Ct (Cp K) rfl T.z_len PySem.boot_len (Ba (pv 3) Bd)) Bd))) (By (i:=9) sc_qck.nd rfl (Or.inl rfl))
    (Bi (De (PW.pt (Qv (Cf Dq (Cl (Cu K) (pv 3) (pv 9) (fun _ _=>rfl)) Bx (Ck _)) (Lf (Cf Dq (Ca Dr (Bm (Jl T) (hr.mono (by decide)) rfl T.m_qt T.F_qt.kp (Na T) .nil Bs (Ba (pv 0) (Ba Be Bd))) Be) Be (Ck _)))))
    (Bi (Bu (i:=8) sc_qck.nd rfl (Or.inl rfl) (Ca Dz (pv 9) Be)))
    Cy)))
   (Bf (Bu (i:=10) sc_qck.nd rfl (Or.inl rfl) (Ca Jx (Cr (Ba (Dt (Ba (pv 7) (Ba (pv 8) Bd))) (Ba (Dt (Ba Be (Ba (Ct (Cp K) rfl T.z_len PySem.boot_len (Ba (pv 3) Bd)) Bd))) Bd))) (Bm (AkP T) (hr.mono (by decide)) rfl T.m_qbx T.F_qbx.kp (Amf T) .nil Bs (Ba (pv 1) (Ba (pv 2) (Ba (Ca Dz Be (Ca Dr (Ca Fs (pv 4) Be) Be)) Bd))))))
   (Bf (Bu (i:=11) sc_qck.nd rfl (Or.inl rfl) (Lo (Tw K) rfl T.z_list PyProof.Rows.boot_list (Ba (pv 2) Bd)))
   (Bf (Dl PassesOwn.never rfl (Dd (pv 10)) (By (i:=12) sc_qck.nd rfl (Or.inl rfl))
    (Bf (Bu (i:=13) sc_qck.nd rfl (Or.inl rfl) (Bm (Aka T) (hr.mono (by decide)) rfl T.m_qbp T.F_qbp.kp (Am6 T) .nil Bs (Ba (pv 1) (Ba (pv 11) (Ba (pv 12) (Ba (pv 5) (Ba (pv 6) Bd)))))))
   (Bf (Bu (i:=14) sc_qck.nd rfl (Or.inl rfl) (Bm (AjD T) (hr.mono (by decide)) rfl T.m_qch T.F_qch.kp (Amp T) .nil Bs (Ba (pv 1) (Ba (pv 2) (Ba (pv 3) (Ba (pv 12) (Ba (pv 5) (Ba (pv 6) Bd))))))))
   (Bf (De (PW.pt (Rn (Qk (Lx (Ct (Jv K) rfl T.z_isinstance boot_isinstance (Ba (pv 13) (Ba (Jh (v:=.ty "list") rfl T.z_list PyProof.Rows.boot_list rfl) Bd))))) (Rn (Cf (AbH K hu64) (pv 13) (pv 14) (Ck _)) (Qq (Cf (AbH K hu64) (pv 11) (pv 2) (Ck _))))))
    (Bi (Cd Zu))
    Cy)
   (Bi (De (Cf Vi (Ct (Cp K) rfl T.z_len PySem.boot_len (Ba (Vr 1 ["_law_one"] rfl rfl (Dd (pv 13)) (fun _ _ _ _=>(By (i:=0) (show Nodup (["_law_one"]:List Str) by decide +kernel) rfl (Or.inl rfl))) (fun _ _ _ _=>(Le (Lx (Bm (AjS T) (hr.mono (by decide)) rfl T.m_qbt T.F_qbt.kp (Amd T) .nil Bs (Ba (pv 0) Bd))))) (fun _ _ _ _=>(pv 0)) (by decide +kernel) (by decide +kernel) rfl (by decide +kernel)) Bd)) (Ca Lz (Cl (Cz K) (pv 12) Be (fun _ _=>rfl)) (Cl (Cz K) (pv 12) Be (fun _ _=>rfl))) (Ck _))
    (Bi (Cd Zu))
    Cy))))))
   (Bi (Cd Zu))))))))))))))),?_⟩
 try dsimp only [Cg,Bw]
 refine Cm h (by decide) (Br (Cc (Ci (Bo Bb Bh)))
   (Br (Cc (EF.eu (Dk (Bo Bb (Bo (EU.eb Bg) (Bo (EU.eb Bg) Bh))))))
   (Br (Cc (EF.eu (Dk (Bo (EF.eb (Dk (Bo Bb Bh))) (Bo Bb Bh)))))
   (Br (Cc (Ci (Bo Bb (Bo (EU.eb Bg) Bh))))
   (Br (Cc (Do (EF.eb (Db 4 (Bn Rw (Bn Rw (Bn (Dh (fun _ _ _=>.int _) (EU.eb (Dh (fun _ _ _=>.int _) Bb (EU.eb Bg))) (EU.eb Bg)) (Bn (Dh (fun _ _ _=>.int _) (EU.eb (Dh (fun _ _ _=>.int _) Bb (EU.eb Bg))) (EU.eb Bg)) Bh)))))) (EU.eb (Dh (fun _ _ _=>.int _) Bb (EU.eb Bg)))))
   (Br (Cc (Do (EF.eb (Db 4 (Bn Rw (Bn Bg (Bn (Dh (fun _ _ _=>.int _) (EU.eb (Dh (fun _ _ _=>.int _) Bb (EU.eb Bg))) (EU.eb Bg)) (Bn (Dh (fun _ _ _=>.int _) (EU.eb (Dh (fun _ _ _=>.int _) Bb (EU.eb Bg))) (EU.eb Bg)) Bh)))))) (EU.eb (Dh (fun _ _ _=>.int _) (EU.eb (Dh (fun _ _ _=>.int _) Bb (EU.eb Bg))) (EU.eb Bg)))))
   (Br (Dp (Qo (Cw (EU.eb (Qi Bb))) (Cw (EU.eb (Oz Bb))))
    (Cc (Ci (Bo Bb (Bo Bb Bh))))
    Dg)
   (Br (Cc (Dh (fun _ _ _=>.int _) (EU.eb (Ci (Bo Bb (Bo (EU.eb Bg) Bh)))) (EU.eb (Dc (fun _ _ _=>.int _) (EU.eb (Dy (Bo Bb Bh))) (EU.eb Bg)))))
   (Br (Cc (Dc (fun _ _ _=>.int _) Bb (EU.eb (Dh (fun _ _ _=>.int _) (EU.eb (Dh (fun _ _ _=>.int _) (EU.eb (Ci (Bo Bb (Bo (EU.eb Bg) Bh)))) (EU.eb Bg))) (EU.eb (Dc (fun _ _ _=>.int _) (EU.eb (Dc (fun _ _ _=>.int _) (EU.eb (Dy (Bo Bb Bh))) (EU.eb Bg))) Bb))))))
   (Br (Xz (Bo Bb (Bo (EU.eb (Dy (Bo Bb Bh))) Bh)) (Cn (top:=15))
    (Dp (Qo (Cw (EU.eb (Fb (EU.eb (Do Bb Bb)) (EU.eb Ch)))) (Cw (EU.eb (Fb (EU.eb (Dh (fun _ _ _=>.int _) (EU.eb (Ci (Bo Bb (Bo (EU.eb Bg) Bh)))) (EU.eb Bg))) (EU.eb Bg)))))
    (Cc (Dc (fun _ _ _=>.int _) Bb (EU.eb Bg)))
    Dg))
   (Br (Cc (EF.eu (Qe (EF.eb (Db 2 (Bn (Fd 2 (Bn Bv (Bn Bv Bh))) (Bn (Fd 2 (Bn Bg (Bn (Dy (Bo Bb Bh)) Bh))) Bh)))) (EF.eb (Dk (Bo Bb (Bo Bb (Bo (EU.eb (Dc (fun _ _ _=>.int _) (EU.eb Bg) (EU.eb (Dh (fun _ _ _=>.int _) (EU.eb (Dh (fun _ _ _=>.int _) Bb (EU.eb Bg))) (EU.eb Bg))))) Bh))))))))
   (Br (Cc (EF.eu (AbU (Bo Bb Bh))))
   (Br (Ww Bv (Cn (top:=15))
    (Br (Cc (Ci (Bo Bb (Bo Bb (Bn Bv (Bn Bv (Bn Bv Bh)))))))
   (Br (Cc (EF.eu (Dk (Bo Bb (Bo Bb (Bo Bb (Bn Bv (Bn Bv (Bn Bv Bh)))))))))
   (Br (Dp (Uy (Uu (Oy (EU.eb (Xa Bb)))) (Uy (Cw (EU.eb (AaR Bb Bb))) (Cw (EU.eb (AaR Bb Bb)))))
    (Dm AcI)
    Dg)
   (Dp (Cw (EU.eb (Aab (EU.eb (Dy (Bo (EF.eb (Fr Bb (Cn (top:=1)) (Oy (EU.eb (Ci (Bo Bb Bh)))) Bv)) Bh))) (EU.eb (Dc (fun _ _ _=>.int _) (EU.eb (Di Bb (EU.eb Bg))) (EU.eb (Di Bb (EU.eb Bg))))))))
    (Dm AcI)
    Dg)))))
   (Dm AcI)))))))))))))) (fun ps P hp=>?_)
 clear h hu hu64 hr
 obtain ⟨ns,rfl,hlen,q⟩:=hp
 walk_at "s"
 walk_at "pr"
 refine ⟨ns,rfl,hlen,?_⟩
 walk_at "pr"
 refine ⟨ns,6,30,rfl,hlen,fun ks hks hkl=>?_⟩
 walk_at "pr"
 refine ⟨ns,rfl,hlen,?_⟩
 walk_at "pr"
 refine ⟨ns,ks,rfl,hks,by omega,?_⟩
 have gl:=(Gm (mkG ns) (ks.map (sgF ns))).ln
 rw [length_map] at gl
 rw [show (map (fun w=>PV.str (knW (usL ns 28) (mtL ns) w)) (grp (mkG ns) (ks.map (sgF ns)))) = (knL (usL ns 28) (mtL ns) (ks.map (sgF ns))).map .str by unfold knL; rw [map_map]; rfl]
 have kl:(knL (usL ns 28) (mtL ns) (ks.map (sgF ns))).length <= 120:=by unfold knL; rw [length_map]; show (grp (mkG ns) _).length <= _; omega
 rw [show (map (fun k=>PV.int (sgF ns k)) ks) = (ks.map (sgF ns)).map .int by rw [map_map]; rfl]
 have tl:(ks.map (sgF ns)).length <= 120:=by rw [length_map]; exact hkl
 generalize ks.map (sgF ns) = ts at kl tl
 clear gl
 walk_at "px"
 refine Gg ?_
 walk_at "px"
 refine ⟨ns,4,rfl,hlen,?_⟩
 walk_at "px"
 have kg:(knL (usL ns 28) (mtL ns) ts).length = (grp (Df (usL ns 28) (mtL ns)) ts).length:=by unfold knL; rw [length_map]
 generalize cM ns 4 = c
 refine Gg ?_
 walk_at "px"
 all_goals try (first | decide | exact ⟨by decide,by decide⟩)
 obtain ⟨o,ho⟩:∃ o,atI [PV.non,PV.non,PV.int (c / 16 % 61),PV.int (c / 16 % 2)] (c % 4) = some (opP o):=by
  rcases (by omega:c % 4 = 0\/c % 4 = 1\/c % 4 = 2\/c % 4 = 3) with e | e | e | e <;> rw [e]
  ·exact ⟨none,rfl⟩
  ·exact ⟨none,rfl⟩
  ·exact ⟨some _,rfl⟩
  ·exact ⟨some _,rfl⟩
 refine Ln ho ?_
 walk_at "px"
 refine Gg ?_
 walk_at "px"
 all_goals try (first | decide | exact ⟨by decide,by decide⟩)
 obtain ⟨mo,hmo⟩:∃ o,atI [PV.non,PV.int 20,PV.int (c / 976 % 61),PV.int (c / 976 % 4)] (c / 4 % 4) = some (opP o):=by
  rcases (by omega:c / 4 % 4 = 0\/c / 4 % 4 = 1\/c / 4 % 4 = 2\/c / 4 % 4 = 3) with e | e | e | e <;> rw [e]
  ·exact ⟨none,rfl⟩
  ·exact ⟨some _,rfl⟩
  ·exact ⟨some _,rfl⟩
  ·exact ⟨some _,rfl⟩
 refine Ln hmo ?_
 walk_at "px"
 generalize usL ns 28 = W at kg kl
 generalize mtL ns = M at kg kl
 generalize jnL ns = J
 refine Jr (fun ρ=>∃ o2:Option Int,(∀ m,mo = some m->∃ b,o2 = some b)/\ρ = [.bo (.scr ns),.sh (.bk W M J),.sh (.lst (ts.map .int)),.sh (.lst ((knL W M ts).map .str)),.sh (.int c),.sh (opP o2),.sh (opP mo),.un,.un,.un,.un,.un,.un,.un,.un]) (fun ρ h=>?_) ?_
 rotate_left
 ·cases o with
  | none =>
   cases mo with
   | none =>
    walk_at "pr"
    refine Gu rfl ?_
    walk_at "pr"
    refine Jd (by decide) ?_
    walk_at "pr"
    exact .inl ⟨none,fun m h=>(by cases h),rfl⟩
   | some m =>
    walk_at "pr"
    refine Gu rfl ?_
    walk_at "pr"
    refine Gu rfl ?_
    walk_at "pr"
    refine ⟨W,M,J,ts,rfl,by omega,?_⟩
    walk_at "pr"
    exact .inl ⟨some _,fun m h=>⟨_,rfl⟩,rfl⟩
  | some b =>
   walk_at "pr"
   refine Jd (fun z=>Bool.noConfusion z) ?_
   walk_at "pr"
   exact .inl ⟨some b,fun m h=>⟨_,rfl⟩,rfl⟩
 obtain ⟨o2,ho2,rfl⟩:=h
 have hl3:ts.length <= 300:=by omega
 clear ho hmo
 walk_at "px"
 refine Gg ?_
 walk_at "px"
 refine ⟨ns,5,rfl,hlen,?_⟩
 walk_at "px"
 all_goals try (rw [length_map]; omega)
 rw [length_map]
 generalize cM ns 5 = d
 obtain ⟨st,hst,hst2⟩:∃ st:Nat,d % (((knL W M ts).length:Int) + 1) = (st:Int)/\st <= (knL W M ts).length:=by
  have g1:=emod_nonneg d (show (((knL W M ts).length:Int) + 1) ≠ 0 by omega)
  have g2:=emod_lt_of_pos d (show (0:Int) < ((knL W M ts).length:Int) + 1 by omega)
  exact ⟨(d % (((knL W M ts).length:Int) + 1)).toNat,by omega,by omega⟩
 rw [hst]
 refine Gg ?_
 walk_at "px"
 refine ⟨ns,5,rfl,hlen,?_⟩
 walk_at "px"
 all_goals try (first | decide | exact ⟨by decide,by decide⟩ | (rw [length_map]; omega))
 rw [length_map]
 generalize cM ns 5 / 101 = d2
 obtain ⟨en,hen,hen1,hen2⟩:∃ en:Nat,(st:Int) + d2 % (((knL W M ts).length:Int) + 1 - (st:Int)) = (en:Int)/\st <= en/\en <= (knL W M ts).length:=by
  have g1:=emod_nonneg d2 (show (((knL W M ts).length:Int) + 1 - (st:Int)) ≠ 0 by omega)
  have g2:=emod_lt_of_pos d2 (show (0:Int) < ((knL W M ts).length:Int) + 1 - (st:Int) by omega)
  exact ⟨((st:Int) + d2 % (((knL W M ts).length:Int) + 1 - (st:Int))).toNat,by omega,by omega,by omega⟩
 rw [hen]
 refine Jr (fun ρ=>∃ (e:Nat) (v9:Sl),st <= e/\e <= (knL W M ts).length/\ρ = [.bo (.scr ns),.sh (.bk W M J),.sh (.lst (ts.map .int)),.sh (.lst ((knL W M ts).map .str)),.sh (.int c),.sh (opP o2),.sh (opP mo),.sh (.int st),.sh (.int e),v9,.un,.un,.un,.un,.un]) (fun ρ h=>?_) ?_
 rotate_left
 ·walk_at "pr"
  all_goals try (rw [length_map]; exact ⟨by omega,by omega,by omega,by omega⟩)
  rw [length_map,show (((knL W M ts).length:Int) - (st:Int)).toNat = (knL W M ts).length - st by omega]
  refine ⟨fun n ρ=>∃ (e:Nat) (v9:Sl),st <= e/\e <= (knL W M ts).length/\ρ = [.bo (.scr ns),.sh (.bk W M J),.sh (.lst (ts.map .int)),.sh (.lst ((knL W M ts).map .str)),.sh (.int c),.sh (opP o2),.sh (opP mo),.sh (.int st),.sh (.int e),v9,.un,.un,.un,.un,.un],⟨en,_,hen1,hen2,rfl⟩,?_,?_⟩
  ·rintro n ρ hn ⟨e,v9,he1,he2,rfl⟩
   obtain ⟨x,hx⟩:∃ x,(knL W M ts)[st + n]? = some x:=⟨_,getElem?_eq_getElem (by omega)⟩
   walk_at "pr"
   refine Fp (l:=knL W M ts) (f:=PV.str) (j:=st + n) (a:=x) hx (by omega) ?_
   walk_at "pr"
   refine Yg (fun h=>?_) (fun h=>?_)
   ·walk_at "pr"
    refine ⟨ns,5,rfl,hlen,?_⟩
    walk_at "pr"
    all_goals try decide
    refine Yg (fun h=>?_) (fun h=>?_)
    ·walk_at "pr"
     exact ⟨st + n + 1,_,by omega,by omega,by rw [show (st:Int) + (n:Int) + 1 = ((st + n + 1:Nat):Int) by omega]⟩
    ·walk_at "pr"
     exact ⟨e,_,he1,he2,rfl⟩
   ·walk_at "pr"
    exact ⟨e,_,he1,he2,rfl⟩
  ·rintro ρ ⟨e,v9,he1,he2,rfl⟩
   exact .inl ⟨e,_,he1,he2,rfl⟩
 obtain ⟨e,v9,he1,he2,rfl⟩:=h
 walk_at "px"
 refine Gg ?_
 walk_at "px"
 all_goals try (first | decide | exact ⟨by decide,by decide⟩)
 obtain ⟨w,hw,hw1,hw2⟩:∃ w:Nat,1 + c / 60000 % 9 = (w:Int)/\1 <= w/\w <= 9:=by
  have g1:=emod_nonneg (c / 60000) (show (9:Int) ≠ 0 by decide)
  have g2:=emod_lt_of_pos (c / 60000) (show (0:Int) < 9 by decide)
  exact ⟨(1 + c / 60000 % 9).toNat,by omega,by omega,by omega⟩
 rw [hw]
 refine ⟨W,M,J,ts,w,rfl,hl3,hw1,by omega,?_⟩
 have rok:=Aed (kn:=knL W M ts) hw1 301 0 (zero_le _)
 have rln:=Abr (knL W M ts) w 301 0
 generalize crF (knL W M ts) w 301 0 = R at rok rln
 walk_at "px"
 rotate_left
 ·simp only [length_map,length_cons,length_nil]; omega
 rw [length_map,show PV.tup [PV.int (st:Int),PV.int (e:Int)] :: PV.tup [PV.int 0,PV.int ((knL W M ts).length:Int)] :: R.map nn2 = ((st,e) :: (0,(knL W M ts).length) :: R).map nnP from rfl]
 have rall:∀ p ∈ (st,e) :: (0,(knL W M ts).length) :: R,p.1 <= p.2/\p.2 <= (knL W M ts).length:=fun p hp=>by
  rcases mem_cons.mp hp with rfl | hp
  ·exact ⟨he1,he2⟩
  ·rcases mem_cons.mp hp with rfl | hp
   ·exact ⟨zero_le _,Nat.le_refl _⟩
   ·exact rok p hp
 generalize (st,e) :: (0,(knL W M ts).length) :: R = Rs at rall
 walk_at "pr"
 refine ⟨fun n ρ=>∃ (v12 v13 v14:Sl),ρ = [.bo (.scr ns),.sh (.bk W M J),.sh (.lst (ts.map .int)),.sh (.lst ((knL W M ts).map .str)),.sh (.int c),.sh (opP o2),.sh (opP mo),.sh (.int st),.sh (.int e),v9,.sh (.lst (Rs.map nnP)),.sh (.lst (ts.map .int)),v12,v13,v14],⟨_,_,_,rfl⟩,?_,?_⟩
 ·rintro n p ρ hp ⟨v12,v13,v14,rfl⟩
  rw [getElem?_map] at hp
  obtain ⟨⟨i,j⟩,hij,rfl⟩:=map_eq_some_iff.mp hp
  obtain ⟨r1,r2⟩:=rall _ (mem_of_getElem? hij)
  have r2':j <= (grp (Df W M) ts).length:=by rw [<- kg]; exact r2
  have fl:=AiM (o:=o2) (m:=mo.getD 20) r1 r2
  walk_at "pr"
  refine ⟨W,M,J,ts,i,j,o2,mo,rfl,hl3,r1,r2',ho2,?_⟩
  walk_at "pr"
  refine ⟨W,M,J,ts,i,j,o2,mo,rfl,hl3,r1,r2',?_⟩
  generalize lrF W M ts o2 (mo.getD 20) (i,j) = fo at fl
  walk_at "pr"
  refine AeF AaW ?_
  walk_at "pr"
  refine AeF AaW ?_
  walk_at "pr"
  refine ⟨by rw [length_map]; omega,?_⟩
  refine Fj (S:=fo) (enc:=PV.int) (f:=fun v=>some (.int v)) ?_ (fun d hd Z hZ=>?_)
  rotate_left
  ·walk_at "cp"
   walk_at "pr"
   refine ⟨_,rfl,?_⟩
   walk_at "pr"
   exact hZ
  rw [show fo.filterMap (fun v=>some (PV.int v)) = fo.map .int from congrFun (filterMap_eq_map' (f:=PV.int)) fo]
  rw [show nnP (i,j) = .tup [.int i,.int j] from rfl]
  walk_at "pr"
  rw [length_map,fl,decide_eq_true (show ((j - i:Nat):Int) = (j:Int) - (i:Int) by omega)]
  walk_at "pr"
  exact ⟨_,_,_,rfl⟩
 ·rintro ρ ⟨v12,v13,v14,rfl⟩
  walk_at "pr"
  exact q
end
def _root_.PySem.W.Fast.tw10294935269819791639:Nat:=0
def _root_.PySem.W.Fast.tw10949424181447562380:Nat:=0
def _root_.PySem.W.Fast.tw11609637436046235425:Nat:=0
def _root_.PySem.W.Fast.tw11819089918546379588:Nat:=0
def _root_.PySem.W.Fast.tw13330934260782865473:Nat:=0
def _root_.PySem.W.Fast.tw13632191076861711697:Nat:=0
def _root_.PySem.W.Fast.tw13743818049835825003:Nat:=0
def _root_.PySem.W.Fast.tw14666850017037581149:Nat:=0
def _root_.PySem.W.Fast.tw14878912923213480890:Nat:=0
def _root_.PySem.W.Fast.tw15281490646156847905:Nat:=0
def _root_.PySem.W.Fast.tw15573526715184725652:Nat:=0
def _root_.PySem.W.Fast.tw15933948668650183531:Nat:=0
def _root_.PySem.W.Fast.tw16091866593807788102:Nat:=0
def _root_.PySem.W.Fast.tw16826367327827874615:Nat:=0
def _root_.PySem.W.Fast.tw16939438977580615082:Nat:=0
def _root_.PySem.W.Fast.tw16974710255986864522:Nat:=0
def _root_.PySem.W.Fast.tw16989807668449601364:Nat:=0
def _root_.PySem.W.Fast.tw17768678961374051821:Nat:=0
def _root_.PySem.W.Fast.tw18034740736778400612:Nat:=0
def _root_.PySem.W.Fast.tw2375781997099471623:Nat:=0
def _root_.PySem.W.Fast.tw3749252787987013257:Nat:=0
def _root_.PySem.W.Fast.tw412949469622013491:Nat:=0
def _root_.PySem.W.Fast.tw4708509937190261378:Nat:=0
def _root_.PySem.W.Fast.tw4980458106342899508:Nat:=0
def _root_.PySem.W.Fast.tw5435947996808653335:Nat:=0
def _root_.PySem.W.Fast.tw605910809809210145:Nat:=0
def _root_.PySem.W.Fast.tw607496591996311931:Nat:=0
def _root_.PySem.W.Fast.tw6452456902239021532:Nat:=0
def _root_.PySem.W.Fast.tw6584922079562597346:Nat:=0
def _root_.PySem.W.Fast.tw6967557030610181975:Nat:=0
def _root_.PySem.W.Fast.tw713677416452656604:Nat:=0
def _root_.PySem.W.Fast.tw7456816472497492663:Nat:=0
def _root_.PySem.W.Fast.tw7786418446612243218:Nat:=0
def _root_.PySem.W.Fast.tw7917314601329097833:Nat:=0
def _root_.PySem.W.Fast.tw877450160880931588:Nat:=0
def _root_.PySem.W.Fast.tw8897303276034041304:Nat:=0
def _root_.PySem.W.Fast.tw8917163090854212589:Nat:=0
def _root_.PySem.W.Fast.tw9570100789275804865:Nat:=0
def _root_.PySem.W.Fast.tw9652592812439863266:Nat:=0
theorem all_mk {l:PySem.W.OpenLaw} {w:World} {K:Frag} {h:Heap} {mg:Str->Option Value} {fa:Addr} (X:K.In h) (G:h.Ns mainGlobals mg) (hfa:mg "law" = some (.ref fa)) {x00 x01 x02 x03 x04 x05 x06 x07 x08 x09 x0a x0b x0c x0d x0e x0f x0g x0h x0i x0j x0k x0l x0m x0n x0o x0p x0q x0r x0s x0t x0u x0v x0w x0x x0y x0z x10 x11 x12 x13 x14 x15 x16 x17 x18 x19 x1a x1b x1c x1d x1e x1f x1g x1h x1i x1j x1k x1l x1m x1n x1o x1p x1q x1r:Addr} {x1s:Addr} {x1t:Value} {x1u:Option Addr} {x1v:Nat} {x1w:Array (Option Value)} {x1x:Addr} {x1y x1z:Value} {x20:Option Addr} {x21:Nat} {x22:Array (Option Value)} {x23:Addr} {x24 x25:Value} {x26:Option Addr} {x27:Nat} {x28:Array (Option Value)} {x29:Option Addr} {x2a:Array Value} {x2b:Nat} {x2c:Array (Option Value)} {x2d:Option Addr} {x2e:Array Value} {x2f:Nat} {x2g:Array (Option Value)} {x2h:Option Addr} {x2i:Array Value} {x2j:Nat} {x2k:Array (Option Value)} {x2l:Value} {x2m:Option Addr} {x2n:Array Value} {x2o:Nat} {x2p:Array (Option Value)} {x2q x2r x2s x2t x2u x2v x2w x2x x2y x2z x30 x31 x32 x33 x34 x35 x36 x37 x38 x39 x3a x3b x3c x3d x3e x3f x3g x3h x3i x3j x3k x3l x3m x3n x3o x3p x3q x3r x3s x3t x3u x3v x3w x3x x3y x3z x40 x41 x42 x43 x44 x45 x46 x47 x48 x49 x4a x4b x4c x4d x4e x4f x4g x4h x4i x4j x4k x4l x4m x4n x4o x4p x4q x4r x4s x4t x4u x4v x4w x4x x4y x4z x50 x51 x52 x53 x54 x55 x56 x57 x58 x59 x5a x5b x5c x5d x5e x5f x5g x5h x5i x5j x5k x5l x5m x5n x5o x5p x5q x5r x5s x5t x5u x5v x5w x5x x5y x5z:Option Addr} {x60 x61 x62 x63 x64 x65 x66 x67 x68 x69 x6a x6b x6c x6d x6e x6f x6g x6h x6i x6j x6k x6l x6m x6n x6o x6p x6q x6r x6s x6t x6u x6v x6w x6x x6y x6z x70 x71 x72 x73 x74 x75 x76 x77 x78 x79 x7a x7b x7c x7d x7e x7f x7g x7h x7i x7j x7k x7l x7m:Array (Option Value)} {x7n x7o x7p x7q x7r x7s x7t x7u x7v x7w x7x x7y x7z x80 x81 x82 x83 x84 x85 x86 x87 x88 x89 x8a x8b x8c x8d x8e x8f x8g x8h x8i x8j x8k x8l x8m x8n x8o x8p x8q x8r x8s x8t x8u x8v x8w x8x x8y x8z x90 x91 x92 x93 x94 x95 x96 x97 x98 x99 x9a x9b x9c x9d x9e x9f x9g x9h x9i x9j x9k x9l x9m x9n x9o x9p x9q x9r x9s x9t x9u x9v x9w x9x x9y x9z xa0 xa1 xa2 xa3 xa4 xa5 xa6 xa7 xa8 xa9 xaa xab xac xad xae xaf xag xah xai xaj xak xal xam xan xao xap xaq xar xas xat xau xav xaw xax xay xaz xb0 xb1 xb2 xb3 xb4 xb5 xb6 xb7 xb8 xb9 xba xbb xbc xbd xbe xbf xbg xbh xbi xbj xbk xbl xbm xbn xbo xbp xbq xbr xbs xbt xbu xbv xbw xbx xby xbz xc0 xc1 xc2 xc3 xc4 xc5 xc6 xc7 xc8 xc9 xca xcb xcc xcd xce xcf xcg xch xci xcj xck xcl xcm xcn xco xcp xcq xcr xcs xct xcu xcv xcw xcx xcy xcz xd0 xd1 xd2 xd3 xd4 xd5 xd6 xd7 xd8 xd9 xda xdb xdc xdd xde xdf xdg xdh xdi xdj xdk xdl xdm xdn xdo xdp xdq xdr xds xdt xdu xdv xdw xdx xdy xdz xe0 xe1 xe2 xe3 xe4 xe5 xe6 xe7 xe8 xe9 xea xeb xec xed xee xef xeg xeh xei xej xek xel xem xen xeo xep xeq xer xes xet xeu xev xew xex xey xez xf0 xf1 xf2 xf3 xf4 xf5 xf6 xf7 xf8 xf9 xfa xfb xfc xfd xfe xff xfg xfh xfi xfj xfk xfl xfm xfn xfo xfp xfq xfr xfs xft xfu xfv xfw xfx xfy xfz xg0 xg1 xg2 xg3 xg4 xg5 xg6 xg7 xg8 xg9 xga xgb xgc xgd xge xgf xgg xgh xgi xgj xgk xgl xgm xgn xgo xgp xgq xgr xgs xgt xgu xgv xgw xgx xgy xgz xh0 xh1 xh2 xh3 xh4 xh5 xh6 xh7 xh8 xh9 xha xhb xhc xhd xhe xhf xhg:Value}
  (xhh:nsIn K mainGlobals "Book" = some (some (.ref x1n)))
  (xhi:nsIn K mainGlobals "_law_cell_at" = some (some (.ref x00)))
  (xhj:K.lookup x00 = some ⟨x7n,x2q,.func (fnOf "_law_cell_at" "_law_cell_at" (Bk Sd) (Bj Sd) (Bc Sd) .none x7o x7p x7q x2r x7r x7s),x60⟩)
  (xhk:codeIn K x7r "_law_cell_at" = true)
  (xhl:keepIn K (.ref x00) = true)
  (xhm:nsIn K mainGlobals "_law_sign" = some (some (.ref x01)))
  (xhn:K.lookup x01 = some ⟨x7t,x2s,.func (fnOf "_law_sign" "_law_sign" (Bk Nd) (Bj Nd) (Bc Nd) .none x7u x7v x7w x2t x7x x7y),x61⟩)
  (xho:codeIn K x7x "_law_sign" = true)
  (xhp:keepIn K (.ref x01) = true)
  (xhq:nsIn K mainGlobals "_law_told" = some (some (.ref x02)))
  (xhr:K.lookup x02 = some ⟨x7z,x2u,.func (fnOf "_law_told" "_law_told" (Bk Nr) (Bj Nr) (Bc Nr) .none x80 x81 x82 x2v x83 x84),x62⟩)
  (xhs:codeIn K x83 "_law_told" = true)
  (xht:keepIn K (.ref x02) = true)
  (xhu:nsIn K mainGlobals "refuse_unless" = some (some (.ref x03)))
  (xhv:K.lookup x03 = some ⟨x85,x2w,.func (fnOf "refuse_unless" "refuse_unless" (Bk Tm) (Bj Tm) (Bc Tm) .none x86 x87 x88 x2x x89 x8a),x63⟩)
  (xhw:codeIn K x89 "refuse_unless" = true)
  (xhx:keepIn K (.ref x03) = true)
  (xhy:nsIn K mainGlobals "check_tuples" = some (some (.ref x04)))
  (xhz:K.lookup x04 = some ⟨x8b,x2y,.func (fnOf "check_tuples" "check_tuples" (Bk Tf) (Bj Tf) (Bc Tf) .none x8c x8d x8e x2z x8f x8g),x64⟩)
  (xi0:codeIn K x8f "check_tuples" = true)
  (xi1:keepIn K (.ref x04) = true)
  (xi2:nsIn K mainGlobals "is_whole_number" = some (some (.ref x05)))
  (xi3:K.lookup x05 = some ⟨x8h,x30,.func (fnOf "is_whole_number" "is_whole_number" (Bk Ta) (Bj Ta) (Bc Ta) .none x8i x8j x8k x31 x8l x8m),x65⟩)
  (xi4:codeIn K x8l "is_whole_number" = true)
  (xi5:keepIn K (.ref x05) = true)
  (xi6:nsIn K mainGlobals "is_sign" = some (some (.ref x06)))
  (xi7:K.lookup x06 = some ⟨x8n,x32,.func (fnOf "is_sign" "is_sign" (Bk Oo) (Bj Oo) (Bc Oo) .none x8o x8p x8q x33 x8r x8s),x66⟩)
  (xi8:codeIn K x8r "is_sign" = true)
  (xi9:keepIn K (.ref x06) = true)
  (xia:nsIn K mainGlobals "add_kind" = some (some (.ref x07)))
  (xib:K.lookup x07 = some ⟨x8t,x34,.func (fnOf "add_kind" "add_kind" (Bk Nf) (Bj Nf) (Bc Nf) .none x8u x8v x8w x35 x8x x8y),x67⟩)
  (xic:codeIn K x8x "add_kind" = true)
  (xid:keepIn K (.ref x07) = true)
  (xie:nsIn K mainGlobals "is_told_kind" = some (some (.ref x08)))
  (xif:K.lookup x08 = some ⟨x8z,x36,.func (fnOf "is_told_kind" "is_told_kind" (Bk Tp) (Bj Tp) (Bc Tp) .none x90 x91 x92 x37 x93 x94),x68⟩)
  (xig:codeIn K x93 "is_told_kind" = true)
  (xih:keepIn K (.ref x08) = true)
  (xii:nsIn K mainGlobals "is_rank_of" = some (some (.ref x09)))
  (xij:K.lookup x09 = some ⟨x95,x38,.func (fnOf "is_rank_of" "is_rank_of" (Bk Nq) (Bj Nq) (Bc Nq) .none x96 x97 x98 x39 x99 x9a),x69⟩)
  (xik:codeIn K x99 "is_rank_of" = true)
  (xil:keepIn K (.ref x09) = true)
  (xim:nsIn K mainGlobals "kinds_told" = some (some (.ref x0a)))
  (xin:K.lookup x0a = some ⟨x9b,x3a,.func (fnOf "kinds_told" "kinds_told" (Bk Oh) (Bj Oh) (Bc Oh) .none x9c x9d x9e x3b x9f x9g),x6a⟩)
  (xio:codeIn K x9f "kinds_told" = true)
  (xip:keepIn K (.ref x0a) = true)
  (xiq:nsIn K mainGlobals "ranks_told" = some (some (.ref x0b)))
  (xir:K.lookup x0b = some ⟨x9h,x3c,.func (fnOf "ranks_told" "ranks_told" (Bk Oi) (Bj Oi) (Bc Oi) .none x9i x9j x9k x3d x9l x9m),x6b⟩)
  (xis:codeIn K x9l "ranks_told" = true)
  (xit:keepIn K (.ref x0b) = true)
  (xiu:nsIn K mainGlobals "both_ways" = some (some (.ref x0c)))
  (xiv:K.lookup x0c = some ⟨x9n,x3e,.func (fnOf "both_ways" "both_ways" (Bk Nu) (Bj Nu) (Bc Nu) .none x9o x9p x9q x3f x9r x9s),x6c⟩)
  (xiw:codeIn K x9r "both_ways" = true)
  (xix:keepIn K (.ref x0c) = true)
  (xiy:nsIn K mainGlobals "kind_among" = some (some (.ref x0d)))
  (xiz:K.lookup x0d = some ⟨x9t,x3g,.func (fnOf "kind_among" "kind_among" (Bk Nw) (Bj Nw) (Bc Nw) .none x9u x9v x9w x3h x9x x9y),x6d⟩)
  (xj0:codeIn K x9x "kind_among" = true)
  (xj1:keepIn K (.ref x0d) = true)
  (xj2:nsIn K mainGlobals "check_join" = some (some (.ref x0e)))
  (xj3:K.lookup x0e = some ⟨x9z,x3i,.func (fnOf "check_join" "check_join" (Bk Tj) (Bj Tj) (Bc Tj) .none xa0 xa1 xa2 x3j xa3 xa4),x6e⟩)
  (xj4:codeIn K xa3 "check_join" = true)
  (xj5:keepIn K (.ref x0e) = true)
  (xj6:nsIn K mainGlobals "ends_in_time" = some (some (.ref x0f)))
  (xj7:K.lookup x0f = some ⟨xa5,x3k,.func (fnOf "ends_in_time" "ends_in_time" (Bk So) (Bj So) (Bc So) .none xa6 xa7 xa8 x3l xa9 xaa),x6f⟩)
  (xj8:codeIn K xa9 "ends_in_time" = true)
  (xj9:keepIn K (.ref x0f) = true)
  (xja:nsIn K mainGlobals "pairs_told" = some (some (.ref x0g)))
  (xjb:K.lookup x0g = some ⟨xab,x3m,.func (fnOf "pairs_told" "pairs_told" (Bk Nh) (Bj Nh) (Bc Nh) .none xac xad xae x3n xaf xag),x6g⟩)
  (xjc:codeIn K xaf "pairs_told" = true)
  (xjd:keepIn K (.ref x0g) = true)
  (xje:nsIn K mainGlobals "wholes_told" = some (some (.ref x0h)))
  (xjf:K.lookup x0h = some ⟨xah,x3o,.func (fnOf "wholes_told" "wholes_told" (Bk Ts) (Bj Ts) (Bc Ts) .none xai xaj xak x3p xal xam),x6h⟩)
  (xjg:codeIn K xal "wholes_told" = true)
  (xjh:keepIn K (.ref x0h) = true)
  (xji:findIn K (.ref x1n) "__init__" = some (some (.ref x0i)))
  (xjj:isFn K (.ref x0i) = true)
  (xjk:K.lookup x0i = some ⟨xan,x3q,.func (fnOf "__init__" "Book.__init__" (Bk Nn) (Bj Nn) (Bc Nn) .none xao xap xaq x3r xar xas),x6i⟩)
  (xjl:codeIn K xar "Book.__init__" = true)
  (xjm:keepIn K (.ref x0i) = true)
  (xjn:nsIn K mainGlobals "_law_mates" = some (some (.ref x0j)))
  (xjo:K.lookup x0j = some ⟨xat,x3s,.func (fnOf "_law_mates" "_law_mates" (Bk Nt) (Bj Nt) (Bc Nt) .none xau xav xaw x3t xax xay),x6j⟩)
  (xjp:codeIn K xax "_law_mates" = true)
  (xjq:keepIn K (.ref x0j) = true)
  (xjr:nsIn K mainGlobals "_law_joins" = some (some (.ref x0k)))
  (xjs:K.lookup x0k = some ⟨xaz,x3u,.func (fnOf "_law_joins" "_law_joins" (Bk Nl) (Bj Nl) (Bc Nl) .none xb0 xb1 xb2 x3v xb3 xb4),x6k⟩)
  (xjt:codeIn K xb3 "_law_joins" = true)
  (xju:keepIn K (.ref x0k) = true)
  (xjv:nsIn K mainGlobals "_law_book" = some (some (.ref x0l)))
  (xjw:K.lookup x0l = some ⟨xb5,x3w,.func (fnOf "_law_book" "_law_book" (Bk Nv) (Bj Nv) (Bc Nv) .none xb6 xb7 xb8 x3x xb9 xba),x6l⟩)
  (xjx:codeIn K xb9 "_law_book" = true)
  (xjy:keepIn K (.ref x0l) = true)
  (xjz:nsIn K mainGlobals "_law_text" = some (some (.ref x0m)))
  (xk0:K.lookup x0m = some ⟨xbb,x3y,.func (fnOf "_law_text" "_law_text" (Bk Nj) (Bj Nj) (Bc Nj) .none xbc xbd xbe x3z xbf xbg),x6m⟩)
  (xk1:codeIn K xbf "_law_text" = true)
  (xk2:keepIn K (.ref x0m) = true)
  (xk3:nsIn K mainGlobals "_law_parted" = some (some (.ref x0n)))
  (xk4:K.lookup x0n = some ⟨xbh,x40,.func (fnOf "_law_parted" "_law_parted" (Bk Ni) (Bj Ni) (Bc Ni) .none xbi xbj xbk x41 xbl xbm),x6n⟩)
  (xk5:codeIn K xbl "_law_parted" = true)
  (xk6:keepIn K (.ref x0n) = true)
  (xk7:nsIn K mainGlobals "_law_kinds" = some (some (.ref x0o)))
  (xk8:K.lookup x0o = some ⟨xbn,x42,.func (fnOf "_law_kinds" "_law_kinds" (Bk Oc) (Bj Oc) (Bc Oc) .none xbo xbp xbq x43 xbr xbs),x6o⟩)
  (xk9:codeIn K xbr "_law_kinds" = true)
  (xka:keepIn K (.ref x0o) = true)
  (xkb:findIn K (.ref x1n) "kind" = some (some (.ref x0p)))
  (xkc:isFn K (.ref x0p) = true)
  (xkd:K.lookup x0p = some ⟨xbt,x44,.func (fnOf "kind" "Book.kind" (Bk Ny) (Bj Ny) (Bc Ny) .none xbu xbv xbw x45 xbx xby),x6p⟩)
  (xke:codeIn K xbx "Book.kind" = true)
  (xkf:keepIn K (.ref x0p) = true)
  (xkg:nsIn K mainGlobals "kind_of_whole" = some (some (.ref x0q)))
  (xkh:K.lookup x0q = some ⟨xbz,x46,.func (fnOf "kind_of_whole" "kind_of_whole" (Bk Tl) (Bj Tl) (Bc Tl) .none xc0 xc1 xc2 x47 xc3 xc4),x6q⟩)
  (xki:codeIn K xc3 "kind_of_whole" = true)
  (xkj:keepIn K (.ref x0q) = true)
  (xkk:nsIn K mainGlobals "wholes_of" = some (some (.ref x0r)))
  (xkl:K.lookup x0r = some ⟨xc5,x48,.func (fnOf "wholes_of" "wholes_of" (Bk Oa) (Bj Oa) (Bc Oa) .none xc6 xc7 xc8 x49 xc9 xca),x6r⟩)
  (xkm:codeIn K xc9 "wholes_of" = true)
  (xkn:keepIn K (.ref x0r) = true)
  (xko:nsIn K mainGlobals "kinds_of" = some (some (.ref x0s)))
  (xkp:K.lookup x0s = some ⟨xcb,x4a,.func (fnOf "kinds_of" "kinds_of" (Bk Np) (Bj Np) (Bc Np) .none xcc xcd xce x4b xcf xcg),x6s⟩)
  (xkq:codeIn K xcf "kinds_of" = true)
  (xkr:keepIn K (.ref x0s) = true)
  (xks:nsIn K mainGlobals "own_base" = some (some (.ref x0t)))
  (xkt:K.lookup x0t = some ⟨xch,x4c,.func (fnOf "own_base" "own_base" (Bk Nz) (Bj Nz) (Bc Nz) .none xci xcj xck x4d xcl xcm),x6t⟩)
  (xku:codeIn K xcl "own_base" = true)
  (xkv:keepIn K (.ref x0t) = true)
  (xkw:nsIn K mainGlobals "check_width" = some (some (.ref x0u)))
  (xkx:K.lookup x0u = some ⟨xcn,x4e,.func (fnOf "check_width" "check_width" (Bk Ti) (Bj Ti) (Bc Ti) .none xco xcp xcq x4f xcr xcs),x6u⟩)
  (xky:codeIn K xcr "check_width" = true)
  (xkz:keepIn K (.ref x0u) = true)
  (xl0:nsIn K mainGlobals "row_end" = some (some (.ref x0v)))
  (xl1:K.lookup x0v = some ⟨xct,x4g,.func (fnOf "row_end" "row_end" (Bk Op) (Bj Op) (Bc Op) .none xcu xcv xcw x4h xcx xcy),x6v⟩)
  (xl2:codeIn K xcx "row_end" = true)
  (xl3:keepIn K (.ref x0v) = true)
  (xl4:nsIn K mainGlobals "cut_rows" = some (some (.ref x0w)))
  (xl5:K.lookup x0w = some ⟨xcz,x4i,.func (fnOf "cut_rows" "cut_rows" (Bk Of) (Bj Of) (Bc Of) .none xd0 xd1 xd2 x4j xd3 xd4),x6w⟩)
  (xl6:codeIn K xd3 "cut_rows" = true)
  (xl7:keepIn K (.ref x0w) = true)
  (xl8:nsIn K mainGlobals "is_number_to" = some (some (.ref x0x)))
  (xl9:K.lookup x0x = some ⟨xd5,x4k,.func (fnOf "is_number_to" "is_number_to" (Bk Sj) (Bj Sj) (Bc Sj) .none xd6 xd7 xd8 x4l xd9 xda),x6x⟩)
  (xla:codeIn K xd9 "is_number_to" = true)
  (xlb:keepIn K (.ref x0x) = true)
  (xlc:nsIn K mainGlobals "check_span" = some (some (.ref x0y)))
  (xld:K.lookup x0y = some ⟨xdb,x4m,.func (fnOf "check_span" "check_span" (Bk Oj) (Bj Oj) (Bc Oj) .none xdc xdd xde x4n xdf xdg),x6y⟩)
  (xle:codeIn K xdf "check_span" = true)
  (xlf:keepIn K (.ref x0y) = true)
  (xlg:nsIn K mainGlobals "check_row" = some (some (.ref x0z)))
  (xlh:K.lookup x0z = some ⟨xdh,x4o,.func (fnOf "check_row" "check_row" (Bk On) (Bj On) (Bc On) .none xdi xdj xdk x4p xdl xdm),x6z⟩)
  (xli:codeIn K xdl "check_row" = true)
  (xlj:keepIn K (.ref x0z) = true)
  (xlk:nsIn K mainGlobals "base_or_own" = some (some (.ref x10)))
  (xll:K.lookup x10 = some ⟨xdn,x4q,.func (fnOf "base_or_own" "base_or_own" (Bk Td) (Bj Td) (Bc Td) .none xdo xdp xdq x4r xdr xds),x70⟩)
  (xlm:codeIn K xdr "base_or_own" = true)
  (xln:keepIn K (.ref x10) = true)
  (xlo:nsIn K mainGlobals "level_within" = some (some (.ref x11)))
  (xlp:K.lookup x11 = some ⟨xdt,x4s,.func (fnOf "level_within" "level_within" (Bk Sv) (Bj Sv) (Bc Sv) .none xdu xdv xdw x4t xdx xdy),x71⟩)
  (xlq:codeIn K xdx "level_within" = true)
  (xlr:keepIn K (.ref x11) = true)
  (xls:nsIn K mainGlobals "nests_of" = some (some (.ref x12)))
  (xlt:K.lookup x12 = some ⟨xdz,x4u,.func (fnOf "nests_of" "nests_of" (Bk Ou) (Bj Ou) (Bc Ou) (.ref x1s) xe0 xe1 xe2 x4v xe3 xe4),x72⟩)
  (xlu:codeIn K xe3 "nests_of" = true)
  (xlv:keepIn K (.ref x12) = true)
  (xlw:K.lookup x1s = some ⟨.type "tuple",x1u,.seq [x1t].toArray x1v,x1w⟩)
  (xlx:Vals [.int 20] [x1t])
  (xly:nsIn K mainGlobals "stretch_rows" = some (some (.ref x13)))
  (xlz:K.lookup x13 = some ⟨xe5,x4w,.func (fnOf "stretch_rows" "stretch_rows" (Bk Sw) (Bj Sw) (Bc Sw) .none xe6 xe7 xe8 x4x xe9 xea),x73⟩)
  (xm0:codeIn K xe9 "stretch_rows" = true)
  (xm1:keepIn K (.ref x13) = true)
  (xm2:nsIn K mainGlobals "leading_ways" = some (some (.ref x14)))
  (xm3:K.lookup x14 = some ⟨xeb,x4y,.func (fnOf "leading_ways" "leading_ways" (Bk Sz) (Bj Sz) (Bc Sz) .none xec xed xee x4z xef xeg),x74⟩)
  (xm4:codeIn K xef "leading_ways" = true)
  (xm5:keepIn K (.ref x14) = true)
  (xm6:findIn K (.ref x1n) "mate" = some (some (.ref x15)))
  (xm7:isFn K (.ref x15) = true)
  (xm8:K.lookup x15 = some ⟨xeh,x50,.func (fnOf "mate" "Book.mate" (Bk Ol) (Bj Ol) (Bc Ol) .none xei xej xek x51 xel xem),x75⟩)
  (xm9:codeIn K xel "Book.mate" = true)
  (xma:keepIn K (.ref x15) = true)
  (xmb:nsIn K mainGlobals "pairs_in" = some (some (.ref x16)))
  (xmc:K.lookup x16 = some ⟨xen,x52,.func (fnOf "pairs_in" "pairs_in" (Bk Ot) (Bj Ot) (Bc Ot) .none xeo xep xeq x53 xer xes),x76⟩)
  (xmd:codeIn K xer "pairs_in" = true)
  (xme:keepIn K (.ref x16) = true)
  (xmf:nsIn K mainGlobals "last_ways" = some (some (.ref x17)))
  (xmg:K.lookup x17 = some ⟨xet,x54,.func (fnOf "last_ways" "last_ways" (Bk Ow) (Bj Ow) (Bc Ow) .none xeu xev xew x55 xex xey),x77⟩)
  (xmh:codeIn K xex "last_ways" = true)
  (xmi:keepIn K (.ref x17) = true)
  (xmj:nsIn K mainGlobals "ways_filled" = some (some (.ref x18)))
  (xmk:K.lookup x18 = some ⟨xez,x56,.func (fnOf "ways_filled" "ways_filled" (Bk Sh) (Bj Sh) (Bc Sh) .none xf0 xf1 xf2 x57 xf3 xf4),x78⟩)
  (xml:codeIn K xf3 "ways_filled" = true)
  (xmm:keepIn K (.ref x18) = true)
  (xmn:nsIn K mainGlobals "way_of_pair" = some (some (.ref x19)))
  (xmo:K.lookup x19 = some ⟨xf5,x58,.func (fnOf "way_of_pair" "way_of_pair" (Bk Tg) (Bj Tg) (Bc Tg) .none xf6 xf7 xf8 x59 xf9 xfa),x79⟩)
  (xmp:codeIn K xf9 "way_of_pair" = true)
  (xmq:keepIn K (.ref x19) = true)
  (xmr:nsIn K mainGlobals "ways_with_pairs" = some (some (.ref x1a)))
  (xms:K.lookup x1a = some ⟨xfb,x5a,.func (fnOf "ways_with_pairs" "ways_with_pairs" (Bk Sm) (Bj Sm) (Bc Sm) .none xfc xfd xfe x5b xff xfg),x7a⟩)
  (xmt:codeIn K xff "ways_with_pairs" = true)
  (xmu:keepIn K (.ref x1a) = true)
  (xmv:nsIn K mainGlobals "ways_in_row" = some (some (.ref x1b)))
  (xmw:K.lookup x1b = some ⟨xfh,x5c,.func (fnOf "ways_in_row" "ways_in_row" (Bk Tu) (Bj Tu) (Bc Tu) .none xfi xfj xfk x5d xfl xfm),x7b⟩)
  (xmx:codeIn K xfl "ways_in_row" = true)
  (xmy:keepIn K (.ref x1b) = true)
  (xmz:nsIn K mainGlobals "way_of_level" = some (some (.ref x1c)))
  (xn0:K.lookup x1c = some ⟨xfn,x5e,.func (fnOf "way_of_level" "way_of_level" (Bk Te) (Bj Te) (Bc Te) .none xfo xfp xfq x5f xfr xfs),x7c⟩)
  (xn1:codeIn K xfr "way_of_level" = true)
  (xn2:keepIn K (.ref x1c) = true)
  (xn3:nsIn K mainGlobals "level_by_way" = some (some (.ref x1d)))
  (xn4:K.lookup x1d = some ⟨xft,x5g,.func (fnOf "level_by_way" "level_by_way" (Bk Sf) (Bj Sf) (Bc Sf) .none xfu xfv xfw x5h xfx xfy),x7d⟩)
  (xn5:codeIn K xfx "level_by_way" = true)
  (xn6:keepIn K (.ref x1d) = true)
  (xn7:nsIn K mainGlobals "levels_in_row" = some (some (.ref x1e)))
  (xn8:K.lookup x1e = some ⟨xfz,x5i,.func (fnOf "levels_in_row" "levels_in_row" (Bk Ss) (Bj Ss) (Bc Ss) .none xg0 xg1 xg2 x5j xg3 xg4),x7e⟩)
  (xn9:codeIn K xg3 "levels_in_row" = true)
  (xna:keepIn K (.ref x1e) = true)
  (xnb:nsIn K mainGlobals "levels_of" = some (some (.ref x1f)))
  (xnc:K.lookup x1f = some ⟨xg5,x5k,.func (fnOf "levels_of" "levels_of" (Bk Od) (Bj Od) (Bc Od) (.ref x1x) xg6 xg7 xg8 x5l xg9 xga),x7f⟩)
  (xnd:codeIn K xg9 "levels_of" = true)
  (xne:keepIn K (.ref x1f) = true)
  (xnf:K.lookup x1x = some ⟨.type "tuple",x20,.seq [x1y,x1z].toArray x21,x22⟩)
  (xng:Vals [.non] [x1y])
  (xnh:Vals [.int 20] [x1z])
  (xni:nsIn K mainGlobals "with_last_blanks" = some (some (.ref x1g)))
  (xnj:K.lookup x1g = some ⟨xgb,x5m,.func (fnOf "with_last_blanks" "with_last_blanks" (Bk Tn) (Bj Tn) (Bc Tn) .none xgc xgd xge x5n xgf xgg),x7g⟩)
  (xnk:codeIn K xgf "with_last_blanks" = true)
  (xnl:keepIn K (.ref x1g) = true)
  (xnm:nsIn K mainGlobals "levels_of_rows" = some (some (.ref x1h)))
  (xnn:K.lookup x1h = some ⟨xgh,x5o,.func (fnOf "levels_of_rows" "levels_of_rows" (Bk Si) (Bj Si) (Bc Si) .none xgi xgj xgk x5p xgl xgm),x7h⟩)
  (xno:codeIn K xgl "levels_of_rows" = true)
  (xnp:keepIn K (.ref x1h) = true)
  (xnq:nsIn K mainGlobals "row_levels" = some (some (.ref x1i)))
  (xnr:K.lookup x1i = some ⟨xgn,x5q,.func (fnOf "row_levels" "row_levels" (Bk Ng) (Bj Ng) (Bc Ng) (.ref x23) xgo xgp xgq x5r xgr xgs),x7i⟩)
  (xns:codeIn K xgr "row_levels" = true)
  (xnt:keepIn K (.ref x1i) = true)
  (xnu:K.lookup x23 = some ⟨.type "tuple",x26,.seq [x24,x25].toArray x27,x28⟩)
  (xnv:Vals [.non] [x24])
  (xnw:Vals [.int 20] [x25])
  (xnx:nsIn K mainGlobals "_law_found" = some (some (.ref x1j)))
  (xny:K.lookup x1j = some ⟨xgt,x5s,.func (fnOf "_law_found" "_law_found" (Bk Oq) (Bj Oq) (Bc Oq) .none xgu xgv xgw x5t xgx xgy),x7j⟩)
  (xnz:codeIn K xgx "_law_found" = true)
  (xo0:keepIn K (.ref x1j) = true)
  (xo1:nsIn K mainGlobals "_law_due" = some (some (.ref x1k)))
  (xo2:K.lookup x1k = some ⟨xgz,x5u,.func (fnOf "_law_due" "_law_due" (Bk Oe) (Bj Oe) (Bc Oe) .none xh0 xh1 xh2 x5v xh3 xh4),x7k⟩)
  (xo3:codeIn K xh3 "_law_due" = true)
  (xo4:keepIn K (.ref x1k) = true)
  (xo5:nsIn K mainGlobals "_law_whole" = some (some (.ref x1l)))
  (xo6:K.lookup x1l = some ⟨xh5,x5w,.func (fnOf "_law_whole" "_law_whole" (Bk Os) (Bj Os) (Bc Os) .none xh6 xh7 xh8 x5x xh9 xha),x7l⟩)
  (xo7:codeIn K xh9 "_law_whole" = true)
  (xo8:keepIn K (.ref x1l) = true)
  (xo9:nsIn K mainGlobals "law" = some (some (.ref x1m)))
  (xoa:K.lookup x1m = some ⟨xhb,x5y,.func (fnOf "law" "law" (Bk Jm) (Bj Jm) (Bc Jm) .none xhc xhd xhe x5z xhf xhg),x7m⟩)
  (xob:codeIn K xhf "law" = true)
  (xoc:keepIn K (.ref x1m) = true)
  (xod:plainGet K x1n Str.empty = true)
  (xoe:hasDictIn K x1n = true)
  (xof:plainOver K x1n = true)
  (xog:findIn K (.ref x1n) "__setattr__" = some (some (.builtin "object.__setattr__")))
  (xoh:makesIn K x1n = true)
  (xoi:keepIn K (.ref x1n) = true)
  (xoj:findIn K (.ref x1n) "kinds" = some none)
  (xok:findIn K (.ref x1n) "ranks" = some none)
  (xol:findIn K (.ref x1n) "mates" = some none)
  (xom:findIn K (.ref x1n) "pairs" = some none)
  (xon:findIn K (.ref x1n) "wholes" = some none)
  (xoo:nsIn K mainGlobals "bool" = some none)
  (xop:nsIn K mainGlobals "enumerate" = some none)
  (xoq:nsIn K mainGlobals "int" = some none)
  (xor:nsIn K mainGlobals "isinstance" = some none)
  (xos:nsIn K mainGlobals "len" = some none)
  (xot:nsIn K mainGlobals "list" = some none)
  (xou:nsIn K mainGlobals "max" = some none)
  (xov:nsIn K mainGlobals "range" = some none)
  (xow:nsIn K mainGlobals "reversed" = some none)
  (xox:nsIn K mainGlobals "str" = some none)
  (xoy:nsIn K mainGlobals "tuple" = some none)
  (xoz:nsIn K mainGlobals "zip" = some none)
  (xp0:nsIn K mainGlobals "BEGINNINGS" = some (some (.ref x1o)))
  (xp1:K.lookup x1o = some ⟨.type "tuple",x29,.seq x2a x2b,x2c⟩)
  (xp2:x2a.size <= sizeLine)
  (xp3:Vals [.str "forein",.str "backin"] x2a.toList)
  (xp4:nsIn K mainGlobals "JOINED_KINDS" = some (some (.ref x1p)))
  (xp5:K.lookup x1p = some ⟨.type "tuple",x2d,.seq x2e x2f,x2g⟩)
  (xp6:x2e.size <= sizeLine)
  (xp7:Vals [.str "fore",.str "back",.str "num",.str "blank",.str "plain"] x2e.toList)
  (xp8:nsIn K mainGlobals "LEADING_KINDS" = some (some (.ref x1q)))
  (xp9:K.lookup x1q = some ⟨.type "tuple",x2h,.seq x2i x2j,x2k⟩)
  (xpa:x2i.size <= sizeLine)
  (xpb:Vals [.str "fore",.str "back",.str "num"] x2i.toList)
  (xpc:nsIn K mainGlobals "MOST_GOINGS" = some (some x2l))
  (xpd:RelV (.int 7) x2l)
  (xpe:nsIn K mainGlobals "TOLD_KINDS" = some (some (.ref x1r)))
  (xpf:K.lookup x1r = some ⟨.type "tuple",x2m,.seq x2n x2o,x2p⟩)
  (xpg:x2n.size <= sizeLine)
  (xph:Vals [.str "fore",.str "back",.str "num",.str "blank",.str "mark",.str "forein",.str "backin",.str "out"] x2n.toList)
  : ∃ fd:FuncData,(∀ (s:Shared) (v:Value),BindsTo s fd ⟨[v],[]⟩ [("_law_script",v)])/\∀ base:Heap,K.In base->base.Ns mainGlobals mg->FnOk l.prog w K mg base CX0 11 fa fd ["_law_script"] (Wr K):=by
 have e:=hfa.symm.trans (mg_of X G xo9)
 cases e
 have T:Txt K mg ⟨x00,fnOf "_law_cell_at" "_law_cell_at" (Bk Sd) (Bj Sd) (Bc Sd) .none x7o x7p x7q x2r x7r x7s,x01,fnOf "_law_sign" "_law_sign" (Bk Nd) (Bj Nd) (Bc Nd) .none x7u x7v x7w x2t x7x x7y,x02,fnOf "_law_told" "_law_told" (Bk Nr) (Bj Nr) (Bc Nr) .none x80 x81 x82 x2v x83 x84,x03,fnOf "refuse_unless" "refuse_unless" (Bk Tm) (Bj Tm) (Bc Tm) .none x86 x87 x88 x2x x89 x8a,x04,fnOf "check_tuples" "check_tuples" (Bk Tf) (Bj Tf) (Bc Tf) .none x8c x8d x8e x2z x8f x8g,x05,fnOf "is_whole_number" "is_whole_number" (Bk Ta) (Bj Ta) (Bc Ta) .none x8i x8j x8k x31 x8l x8m,x06,fnOf "is_sign" "is_sign" (Bk Oo) (Bj Oo) (Bc Oo) .none x8o x8p x8q x33 x8r x8s,x07,fnOf "add_kind" "add_kind" (Bk Nf) (Bj Nf) (Bc Nf) .none x8u x8v x8w x35 x8x x8y,x08,fnOf "is_told_kind" "is_told_kind" (Bk Tp) (Bj Tp) (Bc Tp) .none x90 x91 x92 x37 x93 x94,x09,fnOf "is_rank_of" "is_rank_of" (Bk Nq) (Bj Nq) (Bc Nq) .none x96 x97 x98 x39 x99 x9a,x0a,fnOf "kinds_told" "kinds_told" (Bk Oh) (Bj Oh) (Bc Oh) .none x9c x9d x9e x3b x9f x9g,x0b,fnOf "ranks_told" "ranks_told" (Bk Oi) (Bj Oi) (Bc Oi) .none x9i x9j x9k x3d x9l x9m,x0c,fnOf "both_ways" "both_ways" (Bk Nu) (Bj Nu) (Bc Nu) .none x9o x9p x9q x3f x9r x9s,x0d,fnOf "kind_among" "kind_among" (Bk Nw) (Bj Nw) (Bc Nw) .none x9u x9v x9w x3h x9x x9y,x0e,fnOf "check_join" "check_join" (Bk Tj) (Bj Tj) (Bc Tj) .none xa0 xa1 xa2 x3j xa3 xa4,x0f,fnOf "ends_in_time" "ends_in_time" (Bk So) (Bj So) (Bc So) .none xa6 xa7 xa8 x3l xa9 xaa,x0g,fnOf "pairs_told" "pairs_told" (Bk Nh) (Bj Nh) (Bc Nh) .none xac xad xae x3n xaf xag,x0h,fnOf "wholes_told" "wholes_told" (Bk Ts) (Bj Ts) (Bc Ts) .none xai xaj xak x3p xal xam,x0i,fnOf "__init__" "Book.__init__" (Bk Nn) (Bj Nn) (Bc Nn) .none xao xap xaq x3r xar xas,x0j,fnOf "_law_mates" "_law_mates" (Bk Nt) (Bj Nt) (Bc Nt) .none xau xav xaw x3t xax xay,x0k,fnOf "_law_joins" "_law_joins" (Bk Nl) (Bj Nl) (Bc Nl) .none xb0 xb1 xb2 x3v xb3 xb4,x0l,fnOf "_law_book" "_law_book" (Bk Nv) (Bj Nv) (Bc Nv) .none xb6 xb7 xb8 x3x xb9 xba,x0m,fnOf "_law_text" "_law_text" (Bk Nj) (Bj Nj) (Bc Nj) .none xbc xbd xbe x3z xbf xbg,x0n,fnOf "_law_parted" "_law_parted" (Bk Ni) (Bj Ni) (Bc Ni) .none xbi xbj xbk x41 xbl xbm,x0o,fnOf "_law_kinds" "_law_kinds" (Bk Oc) (Bj Oc) (Bc Oc) .none xbo xbp xbq x43 xbr xbs,x0p,fnOf "kind" "Book.kind" (Bk Ny) (Bj Ny) (Bc Ny) .none xbu xbv xbw x45 xbx xby,x0q,fnOf "kind_of_whole" "kind_of_whole" (Bk Tl) (Bj Tl) (Bc Tl) .none xc0 xc1 xc2 x47 xc3 xc4,x0r,fnOf "wholes_of" "wholes_of" (Bk Oa) (Bj Oa) (Bc Oa) .none xc6 xc7 xc8 x49 xc9 xca,x0s,fnOf "kinds_of" "kinds_of" (Bk Np) (Bj Np) (Bc Np) .none xcc xcd xce x4b xcf xcg,x0t,fnOf "own_base" "own_base" (Bk Nz) (Bj Nz) (Bc Nz) .none xci xcj xck x4d xcl xcm,x0u,fnOf "check_width" "check_width" (Bk Ti) (Bj Ti) (Bc Ti) .none xco xcp xcq x4f xcr xcs,x0v,fnOf "row_end" "row_end" (Bk Op) (Bj Op) (Bc Op) .none xcu xcv xcw x4h xcx xcy,x0w,fnOf "cut_rows" "cut_rows" (Bk Of) (Bj Of) (Bc Of) .none xd0 xd1 xd2 x4j xd3 xd4,x0x,fnOf "is_number_to" "is_number_to" (Bk Sj) (Bj Sj) (Bc Sj) .none xd6 xd7 xd8 x4l xd9 xda,x0y,fnOf "check_span" "check_span" (Bk Oj) (Bj Oj) (Bc Oj) .none xdc xdd xde x4n xdf xdg,x0z,fnOf "check_row" "check_row" (Bk On) (Bj On) (Bc On) .none xdi xdj xdk x4p xdl xdm,x10,fnOf "base_or_own" "base_or_own" (Bk Td) (Bj Td) (Bc Td) .none xdo xdp xdq x4r xdr xds,x11,fnOf "level_within" "level_within" (Bk Sv) (Bj Sv) (Bc Sv) .none xdu xdv xdw x4t xdx xdy,x12,fnOf "nests_of" "nests_of" (Bk Ou) (Bj Ou) (Bc Ou) (.ref x1s) xe0 xe1 xe2 x4v xe3 xe4,x1s,x1t,x13,fnOf "stretch_rows" "stretch_rows" (Bk Sw) (Bj Sw) (Bc Sw) .none xe6 xe7 xe8 x4x xe9 xea,x14,fnOf "leading_ways" "leading_ways" (Bk Sz) (Bj Sz) (Bc Sz) .none xec xed xee x4z xef xeg,x15,fnOf "mate" "Book.mate" (Bk Ol) (Bj Ol) (Bc Ol) .none xei xej xek x51 xel xem,x16,fnOf "pairs_in" "pairs_in" (Bk Ot) (Bj Ot) (Bc Ot) .none xeo xep xeq x53 xer xes,x17,fnOf "last_ways" "last_ways" (Bk Ow) (Bj Ow) (Bc Ow) .none xeu xev xew x55 xex xey,x18,fnOf "ways_filled" "ways_filled" (Bk Sh) (Bj Sh) (Bc Sh) .none xf0 xf1 xf2 x57 xf3 xf4,x19,fnOf "way_of_pair" "way_of_pair" (Bk Tg) (Bj Tg) (Bc Tg) .none xf6 xf7 xf8 x59 xf9 xfa,x1a,fnOf "ways_with_pairs" "ways_with_pairs" (Bk Sm) (Bj Sm) (Bc Sm) .none xfc xfd xfe x5b xff xfg,x1b,fnOf "ways_in_row" "ways_in_row" (Bk Tu) (Bj Tu) (Bc Tu) .none xfi xfj xfk x5d xfl xfm,x1c,fnOf "way_of_level" "way_of_level" (Bk Te) (Bj Te) (Bc Te) .none xfo xfp xfq x5f xfr xfs,x1d,fnOf "level_by_way" "level_by_way" (Bk Sf) (Bj Sf) (Bc Sf) .none xfu xfv xfw x5h xfx xfy,x1e,fnOf "levels_in_row" "levels_in_row" (Bk Ss) (Bj Ss) (Bc Ss) .none xg0 xg1 xg2 x5j xg3 xg4,x1f,fnOf "levels_of" "levels_of" (Bk Od) (Bj Od) (Bc Od) (.ref x1x) xg6 xg7 xg8 x5l xg9 xga,x1x,x1y,x1z,x1g,fnOf "with_last_blanks" "with_last_blanks" (Bk Tn) (Bj Tn) (Bc Tn) .none xgc xgd xge x5n xgf xgg,x1h,fnOf "levels_of_rows" "levels_of_rows" (Bk Si) (Bj Si) (Bc Si) .none xgi xgj xgk x5p xgl xgm,x1i,fnOf "row_levels" "row_levels" (Bk Ng) (Bj Ng) (Bc Ng) (.ref x23) xgo xgp xgq x5r xgr xgs,x23,x24,x25,x1j,fnOf "_law_found" "_law_found" (Bk Oq) (Bj Oq) (Bc Oq) .none xgu xgv xgw x5t xgx xgy,x1k,fnOf "_law_due" "_law_due" (Bk Oe) (Bj Oe) (Bc Oe) .none xh0 xh1 xh2 x5v xh3 xh4,x1l,fnOf "_law_whole" "_law_whole" (Bk Os) (Bj Os) (Bc Os) .none xh6 xh7 xh8 x5x xh9 xha,fa,fnOf "law" "law" (Bk Jm) (Bj Jm) (Bc Jm) .none xhc xhd xhe x5z xhf xhg,x1n,x1o,x1p,x1q,x1r⟩:={
  F_qt:=Cj (st:=Sd) xhj xhk xhl
  m_qt:=mg_of X G xhi
  F_qca:=Cj (st:=Nd) xhn xho xhp
  m_qca:=mg_of X G xhm
  F_qcc:=Cj (st:=Nr) xhr xhs xht
  m_qcc:=mg_of X G xhq
  F_qg:=Cj (st:=Tm) xhv xhw xhx
  m_qg:=mg_of X G xhu
  F_qh:=Cj (st:=Tf) xhz xi0 xi1
  m_qh:=mg_of X G xhy
  F_qb:=Cj (st:=Ta) xi3 xi4 xi5
  m_qb:=mg_of X G xi2
  F_qcg:=Cj (st:=Oo) xi7 xi8 xi9
  m_qcg:=mg_of X G xi6
  F_qbw:=Cj (st:=Nf) xib xic xid
  m_qbw:=mg_of X G xia
  F_qk:=Cj (st:=Tp) xif xig xih
  m_qk:=mg_of X G xie
  F_qbb:=Cj (st:=Nq) xij xik xil
  m_qbb:=mg_of X G xii
  F_qbd:=Cj (st:=Oh) xin xio xip
  m_qbd:=mg_of X G xim
  F_qbg:=Cj (st:=Oi) xir xis xit
  m_qbg:=mg_of X G xiq
  F_qbm:=Cj (st:=Nu) xiv xiw xix
  m_qbm:=mg_of X G xiu
  F_qbc:=Cj (st:=Nw) xiz xj0 xj1
  m_qbc:=mg_of X G xiy
  F_qz:=Cj (st:=Tj) xj3 xj4 xj5
  m_qz:=mg_of X G xj2
  F_qi:=Cj (st:=So) xj7 xj8 xj9
  m_qi:=mg_of X G xj6
  F_qbf:=Cj (st:=Nh) xjb xjc xjd
  m_qbf:=mg_of X G xja
  F_qx:=Cj (st:=Ts) xjf xjg xjh
  m_qx:=mg_of X G xje
  F_qbi:=Cj (st:=Nn) xjk xjl xjm
  F_qbs:=Cj (st:=Nt) xjo xjp xjq
  m_qbs:=mg_of X G xjn
  F_qbq:=Cj (st:=Nl) xjs xjt xju
  m_qbq:=mg_of X G xjr
  F_qbz:=Cj (st:=Nv) xjw xjx xjy
  m_qbz:=mg_of X G xjv
  F_qcb:=Cj (st:=Nj) xk0 xk1 xk2
  m_qcb:=mg_of X G xjz
  F_qbe:=Cj (st:=Ni) xk4 xk5 xk6
  m_qbe:=mg_of X G xk3
  F_qbr:=Cj (st:=Oc) xk8 xk9 xka
  m_qbr:=mg_of X G xk7
  F_qbj:=Cj (st:=Ny) xkd xke xkf
  M_qbj:=⟨xkb,xkc,xkf⟩
  F_qe:=Cj (st:=Tl) xkh xki xkj
  m_qe:=mg_of X G xkg
  F_qbv:=Cj (st:=Oa) xkl xkm xkn
  m_qbv:=mg_of X G xkk
  F_qby:=Cj (st:=Np) xkp xkq xkr
  m_qby:=mg_of X G xko
  F_qce:=Cj (st:=Nz) xkt xku xkv
  m_qce:=mg_of X G xks
  F_qs:=Cj (st:=Ti) xkx xky xkz
  m_qs:=mg_of X G xkw
  F_qci:=Cj (st:=Op) xl1 xl2 xl3
  m_qci:=mg_of X G xl0
  F_qbx:=Cj (st:=Of) xl5 xl6 xl7
  m_qbx:=mg_of X G xl4
  F_qj:=Cj (st:=Sj) xl9 xla xlb
  m_qj:=mg_of X G xl8
  F_qba:=Cj (st:=Oj) xld xle xlf
  m_qba:=mg_of X G xlc
  F_qbn:=Cj (st:=On) xlh xli xlj
  m_qbn:=mg_of X G xlg
  F_qr:=Cj (st:=Td) xll xlm xln
  m_qr:=mg_of X G xlk
  F_qn:=Cj (st:=Sv) xlp xlq xlr
  m_qn:=mg_of X G xlo
  F_qcd:=Yj (st:=Ou) xlt xlu xlv xlw
  w_nests_of_0:=xlx
  m_qcd:=mg_of X G xls
  F_qo:=Cj (st:=Sw) xlz xm0 xm1
  m_qo:=mg_of X G xly
  F_ql:=Cj (st:=Sz) xm3 xm4 xm5
  m_ql:=mg_of X G xm2
  F_qbk:=Cj (st:=Ol) xm8 xm9 xma
  M_qbk:=⟨xm6,xm7,xma⟩
  F_qcf:=Cj (st:=Ot) xmc xmd xme
  m_qcf:=mg_of X G xmb
  F_qbo:=Cj (st:=Ow) xmg xmh xmi
  m_qbo:=mg_of X G xmf
  F_qv:=Cj (st:=Sh) xmk xml xmm
  m_qv:=mg_of X G xmj
  F_qu:=Cj (st:=Tg) xmo xmp xmq
  m_qu:=mg_of X G xmn
  F_qc:=Cj (st:=Sm) xms xmt xmu
  m_qc:=mg_of X G xmr
  F_qw:=Cj (st:=Tu) xmw xmx xmy
  m_qw:=mg_of X G xmv
  F_qp:=Cj (st:=Te) xn0 xn1 xn2
  m_qp:=mg_of X G xmz
  F_qm:=Cj (st:=Sf) xn4 xn5 xn6
  m_qm:=mg_of X G xn3
  F_qf:=Cj (st:=Ss) xn8 xn9 xna
  m_qf:=mg_of X G xn7
  F_qbu:=Yj (st:=Od) xnc xnd xne xnf
  w_levels_of_0:=xng
  w_levels_of_1:=xnh
  m_qbu:=mg_of X G xnb
  F_qa:=Cj (st:=Tn) xnj xnk xnl
  m_qa:=mg_of X G xni
  F_qd:=Cj (st:=Si) xnn xno xnp
  m_qd:=mg_of X G xnm
  F_qbh:=Yj (st:=Ng) xnr xns xnt xnu
  w_row_levels_0:=xnv
  w_row_levels_1:=xnw
  m_qbh:=mg_of X G xnq
  F_qbp:=Cj (st:=Oq) xny xnz xo0
  m_qbp:=mg_of X G xnx
  F_qch:=Cj (st:=Oe) xo2 xo3 xo4
  m_qch:=mg_of X G xo1
  F_qbt:=Cj (st:=Os) xo6 xo7 xo8
  m_qbt:=mg_of X G xo5
  F_qck:=Cj (st:=Jm) xoa xob xoc
  m_qck:=mg_of X G xo9
  m_Book:=mg_of X G xhh
  cl_Book:=⟨xod,xoe,xof,xog⟩
  K_Book:=⟨xoh,xji,xjj,xoi⟩
  n_Book_kinds:=xoj
  n_Book_ranks:=xok
  n_Book_mates:=xol
  n_Book_pairs:=xom
  n_Book_wholes:=xon
  z_bool:=mg_none_of X G xoo
  z_enumerate:=mg_none_of X G xop
  z_int:=mg_none_of X G xoq
  z_isinstance:=mg_none_of X G xor
  z_len:=mg_none_of X G xos
  z_list:=mg_none_of X G xot
  z_max:=mg_none_of X G xou
  z_range:=mg_none_of X G xov
  z_reversed:=mg_none_of X G xow
  z_str:=mg_none_of X G xox
  z_tuple:=mg_none_of X G xoy
  z_zip:=mg_none_of X G xoz
  g_BEGINNINGS:=mg_of X G xp0
  q_BEGINNINGS:=fun _=>.inr ⟨_,_,_,xp1,rfl,rfl,xp2,xp3⟩
  g_JOINED_KINDS:=mg_of X G xp4
  q_JOINED_KINDS:=fun _=>.inr ⟨_,_,_,xp5,rfl,rfl,xp6,xp7⟩
  g_LEADING_KINDS:=mg_of X G xp8
  q_LEADING_KINDS:=fun _=>.inr ⟨_,_,_,xp9,rfl,rfl,xpa,xpb⟩
  g_MOST_GOINGS:=⟨_,mg_of X G xpc,xpd⟩
  g_TOLD_KINDS:=mg_of X G xpe
  q_TOLD_KINDS:=fun _=>.inr ⟨_,_,_,xpf,rfl,rfl,xpg,xph⟩ }
 exact ⟨fnOf "law" "law" (Bk Jm) (Bj Jm) (Bc Jm) .none xhc xhd xhe x5z xhf xhg,fun s v=>.of_eq rfl,fun base _ _=>(Aju T).imp AhH⟩
theorem walk {l:PySem.W.OpenLaw} {q:Program} {loose:List Str} {XP:(Str->Option Value)->Heap->Prop} {YP:World->Heap->Prop} {d:DefRec} {K:Params->Frag} (hn:l.most = some 63) (hdf:d.params.defaults = [])
  (hY:∀ (w:World) (h:Heap),YP w h->(K w.params).In h)
  (F:∀ (w:World) (mg:Str->Option Value) (fa:Addr) (h:Heap),(K w.params).In h->h.Ns mainGlobals mg->mg d.name = some (.ref fa) ->
   ∃ fd:FuncData,(∀ (s:Shared) (u:Value),BindsTo s fd ⟨[u],[]⟩ [("_law_script",u)])/\∀ base:Heap,(K w.params).In base->base.Ns mainGlobals mg->FnOk l.prog w (K w.params) mg base CX0 11 fa fd ["_law_script"] (Wr (K w.params))) :
  PySem.W.WalkO q loose XP YP l.row.toRowW d [] (fun f vs=>PySem.call f vs) :=
 L2.AnY (n:=63) (k:=11) (x:="_law_script") (CX:=fun w=>CX0) (sp:=fun w=>Wr (K w.params)) hn (by decide) hdf ⟨rfl,by decide,by decide⟩ hY F (fun _ _ a ns hl _ hS=>⟨a,ns,rfl,hS,hl,fun _=>rfl⟩) fun _ _ _ _ _ z=>z
end My
open PySem PySem.W PyProof.Rows
set_option maxRecDepth 100000 in
set_option maxHeartbeats 0 in
theorem PySem.Challenge.cw_bothhands_k45_levels_of_rows_holds : PySem.Challenge.rw_bothhands_k45_levels_of_rows.Holds := by
 w_on; o_law; k_head; (case hw=>w_witness2)
 k_fill
 refine My.walk (l:=PySem.Challenge.rw_bothhands_k45_levels_of_rows) rfl rfl (fun w h Y=>kIn_of Y) ?F
 case F =>
  intro w mg fa h KX G hmg
  refine' My.all_mk KX G hmg ?xhh ?xhi ?xhj ?xhk ?xhl ?xhm ?xhn ?xho ?xhp ?xhq ?xhr ?xhs ?xht ?xhu ?xhv ?xhw ?xhx ?xhy ?xhz ?xi0 ?xi1 ?xi2 ?xi3 ?xi4 ?xi5 ?xi6 ?xi7 ?xi8 ?xi9 ?xia ?xib ?xic ?xid ?xie ?xif ?xig ?xih ?xii ?xij ?xik ?xil ?xim ?xin ?xio ?xip ?xiq ?xir ?xis ?xit ?xiu ?xiv ?xiw ?xix ?xiy ?xiz ?xj0 ?xj1 ?xj2 ?xj3 ?xj4 ?xj5 ?xj6 ?xj7 ?xj8 ?xj9 ?xja ?xjb ?xjc ?xjd ?xje ?xjf ?xjg ?xjh ?xji ?xjj ?xjk ?xjl ?xjm ?xjn ?xjo ?xjp ?xjq ?xjr ?xjs ?xjt ?xju ?xjv ?xjw ?xjx ?xjy ?xjz ?xk0 ?xk1 ?xk2 ?xk3 ?xk4 ?xk5 ?xk6 ?xk7 ?xk8 ?xk9 ?xka ?xkb ?xkc ?xkd ?xke ?xkf ?xkg ?xkh ?xki ?xkj ?xkk ?xkl ?xkm ?xkn ?xko ?xkp ?xkq ?xkr ?xks ?xkt ?xku ?xkv ?xkw ?xkx ?xky ?xkz ?xl0 ?xl1 ?xl2 ?xl3 ?xl4 ?xl5 ?xl6 ?xl7 ?xl8 ?xl9 ?xla ?xlb ?xlc ?xld ?xle ?xlf ?xlg ?xlh ?xli ?xlj ?xlk ?xll ?xlm ?xln ?xlo ?xlp ?xlq ?xlr ?xls ?xlt ?xlu ?xlv ?xlw ?xlx ?xly ?xlz ?xm0 ?xm1 ?xm2 ?xm3 ?xm4 ?xm5 ?xm6 ?xm7 ?xm8 ?xm9 ?xma ?xmb ?xmc ?xmd ?xme ?xmf ?xmg ?xmh ?xmi ?xmj ?xmk ?xml ?xmm ?xmn ?xmo ?xmp ?xmq ?xmr ?xms ?xmt ?xmu ?xmv ?xmw ?xmx ?xmy ?xmz ?xn0 ?xn1 ?xn2 ?xn3 ?xn4 ?xn5 ?xn6 ?xn7 ?xn8 ?xn9 ?xna ?xnb ?xnc ?xnd ?xne ?xnf ?xng ?xnh ?xni ?xnj ?xnk ?xnl ?xnm ?xnn ?xno ?xnp ?xnq ?xnr ?xns ?xnt ?xnu ?xnv ?xnw ?xnx ?xny ?xnz ?xo0 ?xo1 ?xo2 ?xo3 ?xo4 ?xo5 ?xo6 ?xo7 ?xo8 ?xo9 ?xoa ?xob ?xoc ?xod ?xoe ?xof ?xog ?xoh ?xoi ?xoj ?xok ?xol ?xom ?xon ?xoo ?xop ?xoq ?xor ?xos ?xot ?xou ?xov ?xow ?xox ?xoy ?xoz ?xp0 ?xp1 ?xp2 ?xp3 ?xp4 ?xp5 ?xp6 ?xp7 ?xp8 ?xp9 ?xpa ?xpb ?xpc ?xpd ?xpe ?xpf ?xpg ?xph
  (case xhh | xhi | xhj | xhk | xhl | xhm | xhn | xho | xhp | xhq | xhr | xhs | xht | xhu | xhv | xhw | xhx | xhy | xhz | xi0 | xi1 | xi2 | xi3 | xi4 | xi5 | xi6 | xi7 | xi8 | xi9 | xia | xib | xic | xid | xie | xif | xig | xih | xii | xij | xik | xil | xim | xin | xio | xip | xiq | xir | xis | xit | xiu | xiv | xiw | xix | xiy | xiz | xj0 | xj1 | xj2 | xj3 | xj4 | xj5 | xj6 | xj7 | xj8 | xj9 | xja | xjb | xjc | xjd | xje | xjf | xjg | xjh | xji | xjj | xjk | xjl | xjm | xjn | xjo | xjp | xjq | xjr | xjs | xjt | xju | xjv | xjw | xjx | xjy | xjz | xk0 | xk1 | xk2 | xk3 | xk4 | xk5 | xk6 | xk7 | xk8 | xk9 | xka | xkb | xkc | xkd | xke | xkf | xkg | xkh | xki | xkj | xkk | xkl | xkm | xkn | xko | xkp | xkq | xkr | xks | xkt | xku | xkv | xkw | xkx | xky | xkz | xl0 | xl1 | xl2 | xl3 | xl4 | xl5 | xl6 | xl7 | xl8 | xl9 | xla | xlb | xlc | xld | xle | xlf | xlg | xlh | xli | xlj | xlk | xll | xlm | xln | xlo | xlp | xlq | xlr | xls | xlt | xlu | xlv | xlw=>k_is)
  (case xlx=>exact .cons ⟨_,rfl⟩ .nil)
  (case xly | xlz | xm0 | xm1 | xm2 | xm3 | xm4 | xm5 | xm6 | xm7 | xm8 | xm9 | xma | xmb | xmc | xmd | xme | xmf | xmg | xmh | xmi | xmj | xmk | xml | xmm | xmn | xmo | xmp | xmq | xmr | xms | xmt | xmu | xmv | xmw | xmx | xmy | xmz | xn0 | xn1 | xn2 | xn3 | xn4 | xn5 | xn6 | xn7 | xn8 | xn9 | xna | xnb | xnc | xnd | xne | xnf=>k_is)
  (case xng=>exact .cons rfl .nil)
  (case xnh=>exact .cons ⟨_,rfl⟩ .nil)
  (case xni | xnj | xnk | xnl | xnm | xnn | xno | xnp | xnq | xnr | xns | xnt | xnu=>k_is)
  (case xnv=>exact .cons rfl .nil)
  (case xnw=>exact .cons ⟨_,rfl⟩ .nil)
  (case xnx | xny | xnz | xo0 | xo1 | xo2 | xo3 | xo4 | xo5 | xo6 | xo7 | xo8 | xo9 | xoa | xob | xoc | xod | xoe | xof | xog | xoh | xoi | xoj | xok | xol | xom | xon | xoo | xop | xoq | xor | xos | xot | xou | xov | xow | xox | xoy | xoz | xp0 | xp1=>k_is)
  (case xp2=>decide)
  (case xp3=>exact .cons ⟨_,rfl⟩ (.cons ⟨_,rfl⟩ (.nil)))
  (case xp4 | xp5=>k_is)
  (case xp6=>decide)
  (case xp7=>exact .cons ⟨_,rfl⟩ (.cons ⟨_,rfl⟩ (.cons ⟨_,rfl⟩ (.cons ⟨_,rfl⟩ (.cons ⟨_,rfl⟩ (.nil))))))
  (case xp8 | xp9=>k_is)
  (case xpa=>decide)
  (case xpb=>exact .cons ⟨_,rfl⟩ (.cons ⟨_,rfl⟩ (.cons ⟨_,rfl⟩ (.nil))))
  (case xpc=>k_is)
  (case xpd=>exact ⟨_,rfl⟩)
  (case xpe | xpf=>k_is)
  (case xpg=>decide)
  (case xph=>exact .cons ⟨_,rfl⟩ (.cons ⟨_,rfl⟩ (.cons ⟨_,rfl⟩ (.cons ⟨_,rfl⟩ (.cons ⟨_,rfl⟩ (.cons ⟨_,rfl⟩ (.cons ⟨_,rfl⟩ (.cons ⟨_,rfl⟩ (.nil)))))))))
