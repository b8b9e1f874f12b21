import PyProof.Rows.All
import Wide.All
import OpenK.AllK
import Wide.FinOn
import Lean
import PyProof.EqAt
import PyProof.EqKinds
import PyProof.TupleCall
import PyProof.NeKinds
import PyProof.DictItems
import PyProof.DictWalks
import KE.KTurnsDict
import KE.KDictSum
import KE.KSortKey
import KE.KBoundM
import KE.KMinKey
import KE.KRevIter
import KE.KFind
import KE.LcSums
import PyProof.ListRange
import PyProof.CollectIter
import PyProof.ConsumeWalk
import PyProof.ZipIter
import PySem.Challenge.RW_bothhands_k74_parts
set_option Elab.async false
set_option linter.all false
set_option maxRecDepth 100000
namespace L2
open PySem PySem.Spec PyProof.Rows
abbrev Key:=Sum Int Str
def Td:Key->Value->Bool
 | .inl k,v=>Value.isInt k v
 | .inr x,v=>Value.isStrOf x v
def AkD (w:World):Key->Int
 | .inl k=>hashInt k
 | .inr x=>hashStr w x
theorem Dl:∀ {k:Key} {v:Value},Td k v = true->(∃ i t,k = Sum.inl i/\v = Value.int i t)\/(∃ x t,k = Sum.inr x/\v = Value.str x t)
 | .inl i,v,h=>by
  obtain ⟨t,e⟩:=Value.isInt_shape (k:=i) (v:=v) h
  exact .inl ⟨i,t,rfl,e⟩
 | .inr x,v,h=>by
  obtain ⟨t,e⟩:=Value.isStrOf_shape (x:=x) (v:=v) h
  exact .inr ⟨x,t,rfl,e⟩
theorem Abs (i:Int) (t:Tok):Td (.inl i) (.int i t) = true:=by simp [Td,Value.isInt]
theorem Ac3 (x:Str) (t:Tok):Td (.inr x) (.str x t) = true:=by simp [Td,Value.isStrOf]
theorem Ah6 (a b:Int):decide ((Sum.inl a:Key) = Sum.inl b) = (a == b):=by
 by_cases e:a = b
 ·subst e; simp
 ·have h:¬ (Sum.inl a:Key) = Sum.inl b:=fun q=>e (Sum.inl.inj q)
  rw [decide_eq_false h]
  exact (beq_eq_false_iff_ne.mpr e).symm
theorem Ag4 (a b:Str):decide ((Sum.inr a:Key) = Sum.inr b) = decide (a = b):=by
 by_cases e:a = b
 ·subst e; simp
 ·have h:¬ (Sum.inr a:Key) = Sum.inr b:=fun q=>e (Sum.inr.inj q)
  rw [decide_eq_false h,decide_eq_false e]
theorem Ag9 (a:Int) (b:Str):decide ((Sum.inl a:Key) = Sum.inr b) = false:=decide_eq_false (fun q=>nomatch q)
theorem Ahm (a:Str) (b:Int):decide ((Sum.inr a:Key) = Sum.inl b) = false:=decide_eq_false (fun q=>nomatch q)
def Cv (prog:Program) (w:World):PySem.KeyKind prog w Key where
 is:=Td
 hash:=AkD w
 inj:=fun v a b ha hb=>by
  rcases Dl ha with ⟨i,t,rfl,rfl⟩ | ⟨x,t,rfl,rfl⟩
  ·rcases Dl hb with ⟨j,u,rfl,e⟩ | ⟨y,u,rfl,e⟩
   ·injection e with e1 _; rw [e1]
   ·exact nomatch e
  ·rcases Dl hb with ⟨j,u,rfl,e⟩ | ⟨y,u,rfl,e⟩
   ·exact nomatch e
   ·injection e with e1 _; rw [e1]
 byValue:=fun k v h=>by
  rcases Dl h with ⟨i,t,rfl,rfl⟩ | ⟨x,t,rfl,rfl⟩ <;> rfl
 pyHash:=fun hv h=>by
  rcases Dl hv with ⟨i,t,rfl,rfl⟩ | ⟨x,t,rfl,rfl⟩
  ·exact wpAny_pyHash_int h
  ·exact wpAny_pyHash_str h
 eqBool:=fun hu hv h=>by
  rcases Dl hu with ⟨i,t,rfl,rfl⟩ | ⟨x,t,rfl,rfl⟩
  ·rcases Dl hv with ⟨j,u,rfl,rfl⟩ | ⟨y,u,rfl,rfl⟩
   ·rw [Ah6] at h; exact wpAny_eqBool_int h
   ·rw [Ag9] at h; exact SeqAt.EqAt.int_str i t y u _ _ _ _ h
  ·rcases Dl hv with ⟨j,u,rfl,rfl⟩ | ⟨y,u,rfl,rfl⟩
   ·rw [Ahm] at h; exact SeqAt.EqAt.str_int x t j u _ _ _ _ h
   ·rw [Ag4] at h; exact wpAny_eqBool_str h
 «strs»:=fun k x t v h=>by
  rcases Dl h with ⟨i,u,rfl,e⟩ | ⟨y,u,rfl,e⟩
  ·exact nomatch e
  ·injection e with e1 _
   subst e1
   cases v <;> rfl
theorem Zb (prog:Program) (w:World) (i:Int) (t:Tok):(Cv prog w).is (.inl i) (.int i t) = true:=Abs i t
theorem Yw (prog:Program) (w:World) (x:Str) (t:Tok):(Cv prog w).is (.inr x) (.str x t) = true:=Ac3 x t
end L2
namespace L2
open PySem PySem.Spec PyProof.Rows
inductive V where
 | non | bl (b:Bool) | int (i:Int) | str (x:Str) | byt (b:Array UInt8) | flt (b:UInt64) | ref (a:Addr) | ty (n:String)
 deriving DecidableEq
def RelV:V->Value->Prop
 | .non,u=>u = Value.none
 | .bl b,u=>u = Value.bool b
 | .int i,u=>∃ t,u = Value.int i t
 | .str x,u=>∃ t,u = Value.str x t
 | .byt b,u=>∃ t,u = Value.bytes b t
 | .flt b,u=>∃ t,u = Value.float b t
 | .ref a,u=>u = Value.ref a
 | .ty n,u=>u = Value.type n
abbrev Vals:List V->List Value->Prop:=Paired RelV
theorem Vals.length {xs:List V} {us:List Value} (r:Vals xs us):xs.length = us.length:=Paired.length r
theorem Vals.get:∀ {xs:List V} {us:List Value} {i:Nat} {x:V},Vals xs us->xs[i]? = some x->∃ u,us[i]? = some u/\RelV x u
 | _,_,_,_,.nil,e=>by simp at e
 | _,_,0,_,.cons r _,e=>by simp at e; subst e; exact ⟨_,rfl,r⟩
 | _,_,i + 1,x,.cons _ t,e=>by
  obtain ⟨u,h1,h2⟩:=Vals.get (i:=i) (x:=x) t (by simpa using e)
  exact ⟨u,by simpa using h1,h2⟩
theorem Vals.append:∀ {xs ys:List V} {us ws:List Value},Vals xs us->Vals ys ws->Vals (xs ++ ys) (us ++ ws)
 | _,_,_,_,.nil,s=>s
 | _,_,_,_,.cons r t,s=>.cons r (Vals.append t s)
theorem Vals.take:∀ {xs:List V} {us:List Value} (n:Nat),Vals xs us->Vals (xs.take n) (us.take n)
 | _,_,0,_=>.nil
 | _,_,_ + 1,.nil=>.nil
 | _,_,n + 1,.cons r t=>.cons r (Vals.take n t)
theorem Vals.drop:∀ {xs:List V} {us:List Value} (n:Nat),Vals xs us->Vals (xs.drop n) (us.drop n)
 | _,_,0,r=>r
 | _,_,_ + 1,.nil=>.nil
 | _,_,n + 1,.cons _ t=>Vals.drop n t
def RelO:Option V->Option Value->Prop
 | some v,some u=>RelV v u
 | none,none=>True
 | _,_=>False
def KV {κ:Type}:List (κ × V)->List (κ × Value)->Prop:=Paired fun (p:κ × V) (q:κ × Value)=>p.1 = q.1/\RelV p.2 q.2
def kV:Key->V
 | .inl i=>.int i
 | .inr x=>.str x
inductive HO where
 | lst (xs:List V)
 | tup (xs:List V)
 | dK (kvs:List (Key × V)) | dT (kvs:List (List Key × V))
 | set (S:Int->Bool) (n:Nat)
 | ins (C dx:Addr) (fs:List (Str × V))
 | own (x:Addr)
 | xd (fs:List (Str × V))
 | met (f x:Addr)
 | rng (lo hi:Int)
 | frz (o:Obj) (u:HO)
 | tbl (ps:Array Value)
 | ext (φ:Heap->Prop)
abbrev Hp:=Addr->Option HO
def upd (H:Hp) (a:Addr) (o:HO):Hp:=fun b=>if b = a then some o else H b
theorem Bn {H:Hp} {a:Addr} {o:HO}:upd H a o a = some o:=by unfold upd; rw [if_pos rfl]
theorem Bg {H:Hp} {a b:Addr} {o:HO} (h:b ≠ a):upd H a o b = H b:=by unfold upd; rw [if_neg h]
theorem Fo {H:Hp} {a:Addr} {o u:HO}:upd (upd H a o) a u = upd H a u:=by
 funext b; unfold upd; split <;> rfl
theorem Dj {H:Hp} {a b:Addr} {o u:HO} (h:H a = some o) (h':H b = some u) (d:o ≠ u):a ≠ b:=by
 intro e; subst e; rw [h] at h'; exact d (Option.some.inj h')
theorem Bq {H:Hp} {a b:Addr} {o:HO} (h:H a = some o) (h':H b = none):a ≠ b:=by
 intro e; subst e; rw [h] at h'; cases h'
section
variable (P:Program) (w:World)
def ObjOk (H:Hp) (h:Heap) (a:Addr):HO->Prop
 | .lst xs=>xs.length <= sizeLine/\∃ (its:List Value) (n:Nat),Vals xs its/\h.get? a = some { cls:=.type "list",data:=.seq its.toArray n }
 | .tup xs=>xs.length <= sizeLine/\∃ its:List Value,Vals xs its/\IsTup h a its.toArray
 | .dK kvs=>kvs.length <= sizeLine/\(a == sysModules) = false/\∃ vs,KV kvs vs/\h.DictOf (Cv P w) a vs
 | .dT kvs=>kvs.length <= sizeLine/\(a == sysModules) = false/\∃ xs:List (List Key × Addr × Value),
   Paired (fun (p:List Key × V) (q:List Key × Addr × Value)=>p.1 = q.1/\H q.2.1 = some (.tup (p.1.map kV))/\RelV p.2 q.2.2) kvs xs /\
   ∃ o es ep,h.get? a = some o/\o.ExactDict/\o.data = .dict es ep/\es.toList = xs.map (entryOfKey (tupleKind (Cv P w)))/\(xs.map (·.1)).Nodup
 | .set S n=>h.SetOf (intKind P w) a S n
 | .ins C dx fs=>H dx = some (.own a)/\fs.length <= 1000/\dx ≠ a/\h.get? a = some (PySem.W.instObj C dx) /\
   ∃ mA,h.Ns1 dx mA/\(∀ f,RelO (fs.lookup f) (mA f))/\PySem.Within mA (fs.map (·.1))
 | .own _=>∃ o,h.get? a = some o
 | .xd fs=>∃ mA,h.Ns1 a mA/\∀ f,RelO (fs.lookup f) (mA f)
 | .rng lo hi=>∃ t u v,h.get? a = some { cls:=.type "range",data:=.fields #[.int lo t,.int hi u,.int 1 v] }
 | .frz o u=>h.get? a = some o/\ObjOk H h a u
 | .tbl ps=>h.get? a = some { cls:=.none,data:=.fields ps }
 | .met f x=>h.get? a = some (PySem.W.methodObj (.ref f) (.ref x))
 | .ext φ=>φ h/\(∃ o,h.get? a = some o)/\∀ h1 h2:Heap,φ h1->(∀ o,h1.get? a = some o->h2.get? a = some o)->φ h2
def HOk (H:Hp) (h:Heap):Prop:=∀ a o,H a = some o->ObjOk P w H h a o
end
section
variable {P:Program} {w:World} {H H':Hp} {h h':Heap} {a:Addr} {o:HO}
theorem ObjOk.lt (x:ObjOk P w H h a o):a < h.objs.size:=by
 cases o with
 | lst xs=>obtain ⟨_,_,_,_,e⟩:=x; exact Heap.lt_size e
 | tup xs=>obtain ⟨_,_,_,p⟩:=x; exact p.lt
 | dK kvs=>obtain ⟨_,_,_,_,o,_,_,e,_⟩:=x; exact Heap.lt_size e
 | dT kvs=>obtain ⟨_,_,_,_,o,_,_,e,_⟩:=x; exact Heap.lt_size e
 | set S n=>obtain ⟨o,_,_,_,e,_⟩:=x; exact Heap.lt_size e
 | ins C dx fs=>obtain ⟨_,_,_,e,_⟩:=x; exact Heap.lt_size e
 | own y=>obtain ⟨_,e⟩:=x; exact Heap.lt_size e
 | xd fs=>obtain ⟨_,⟨_,_,_,e,_⟩,_⟩:=x; exact Heap.lt_size e
 | rng lo hi=>obtain ⟨_,_,_,e⟩:=x; exact Heap.lt_size e
 | frz ob u=>obtain ⟨e,_⟩:=x; exact Heap.lt_size e
 | tbl ps=>exact Heap.lt_size (show h.get? a = some _ from x)
 | met f y=>exact Heap.lt_size (show h.get? a = some _ from x)
 | ext φ=>obtain ⟨_,⟨_,e⟩,_⟩:=x; exact Heap.lt_size e
theorem Paired.mapP {α β:Type} {F G:α->β->Prop}:∀ {l₁:List α} {l₂:List β},Paired F l₁ l₂->(∀ a b,F a b->G a b)->Paired G l₁ l₂
 | _,_,.nil,_=>.nil
 | _,_,.cons r t,f=>.cons (f _ _ r) (Paired.mapP t f)
theorem ObjOk.stay (x:ObjOk P w H h a o) (k:∀ b u,(b = a\/H b = some (.own a))->h.get? b = some u->h'.get? b = some u)
  (ho:∀ b,H b = some (.own a)->H' b = some (.own a)) (ht:∀ b xs,H b = some (.tup xs)->H' b = some (.tup xs)):ObjOk P w H' h' a o:=by
 induction o with
 | lst xs=>obtain ⟨z,its,n,r,e⟩:=x; exact ⟨z,its,n,r,k _ _ (.inl rfl) e⟩
 | tup xs=>obtain ⟨z,its,r,ob,e,c⟩:=x; exact ⟨z,its,r,ob,k _ _ (.inl rfl) e,c⟩
 | dK kvs=>obtain ⟨z,y,vs,r,ob,es,ep,e,c⟩:=x; exact ⟨z,y,vs,r,ob,es,ep,k _ _ (.inl rfl) e,c⟩
 | dT kvs =>
  obtain ⟨z,y,xs,r,ob,es,ep,e,c⟩:=x
  exact ⟨z,y,xs,Paired.mapP r fun p q z=>⟨z.1,ht _ _ z.2.1,z.2.2⟩,ob,es,ep,k _ _ (.inl rfl) e,c⟩
 | set S n=>obtain ⟨ob,es,ep,t,e,c⟩:=x; exact ⟨ob,es,ep,t,k _ _ (.inl rfl) e,c⟩
 | ins C dx fs =>
  obtain ⟨d,z,ne,e,mA,⟨od,es,ep,e2,c⟩,r⟩:=x
  exact ⟨ho _ d,z,ne,k _ _ (.inl rfl) e,mA,⟨od,es,ep,k _ _ (.inr d) e2,c⟩,r⟩
 | own y=>obtain ⟨ob,e⟩:=x; exact ⟨ob,k _ _ (.inl rfl) e⟩
 | xd fs=>obtain ⟨mA,⟨od,es,ep,e,c⟩,r⟩:=x; exact ⟨mA,⟨od,es,ep,k _ _ (.inl rfl) e,c⟩,r⟩
 | rng lo hi=>obtain ⟨t,u,v,e⟩:=x; exact ⟨t,u,v,k _ _ (.inl rfl) e⟩
 | frz ob u ih=>obtain ⟨e,q⟩:=x; exact ⟨k _ _ (.inl rfl) e,ih q⟩
 | tbl ps =>
  have e:h.get? a = some { cls:=.none,data:=.fields ps }:=x
  show h'.get? a = some { cls:=.none,data:=.fields ps }
  exact k a _ (.inl rfl) e
 | met f y =>
  have e:h.get? a = some (PySem.W.methodObj (.ref f) (.ref y)):=x
  show h'.get? a = some (PySem.W.methodObj (.ref f) (.ref y))
  exact k a _ (.inl rfl) e
 | ext φ=>obtain ⟨p,⟨o,e⟩,st⟩:=x; exact ⟨st _ _ p fun o q=>k _ _ (.inl rfl) q,⟨o,k _ _ (.inl rfl) e⟩,st⟩
theorem HOk.lt (x:HOk P w H h) (e:H a = some o):a < h.objs.size:=(x a o e).lt
theorem HOk.fresh (x:HOk P w H h) (e:h.objs.size <= a):H a = none:=by
 cases q:H a with
 | none=>rfl
 | some u=>exact absurd (Nat.lt_of_lt_of_le (x.lt q) e) (Nat.lt_irrefl _)
theorem HOk.kept (x:HOk P w H h) (k:∀ b u,h.get? b = some u->h'.get? b = some u):HOk P w H h':=fun a o e =>
 (x a o e).stay (fun b u _ q=>k b u q) (fun _ q=>q) fun _ _ q=>q
theorem HOk.laid (x:HOk P w H h) (k:∀ b u,h.get? b = some u->h'.get? b = some u) (hp:h.objs.size <= a) (new:ObjOk P w (upd H a o) h' a o):HOk P w (upd H a o) h':=fun b u e=>by
 have hn:=x.fresh hp
 by_cases hb:b = a
 ·subst hb; rw [Bn] at e; cases e; exact new
 ·rw [Bg hb] at e
  exact (x b u e).stay (fun c v _ q=>k c v q) (fun c q=>by rw [Bg (Bq q hn)]; exact q) fun c xs q=>by rw [Bg (Bq q hn)]; exact q
end
def Rd (H:Hp) (a:Addr) (u:HO):Prop:=H a = some u\/∃ o,H a = some (.frz o u)
theorem Rd.ok {P:Program} {w:World} {H:Hp} {h:Heap} {a:Addr} {u:HO} (r:Rd H a u) (x:HOk P w H h):ObjOk P w H h a u:=by
 rcases r with r | ⟨o,r⟩
 ·exact x a u r
 ·obtain ⟨_,q⟩:=x a _ r
  exact q
def Mut:Option HO->Prop
 | some (.lst _)=>True
 | some (.dK _)=>True
 | some (.dT _)=>True
 | some (.set _ _)=>True
 | some (.ins _ _ _)=>True
 | some (.ext _)=>True
 | _=>False
section
variable {P:Program} {w:World} {H:Hp} {h h':Heap} {x e:Addr} {o':HO}
theorem HOk.write (ok:HOk P w H h) (mu:Mut (H x)) (he:e = x\/H e = some (.own x)) (k:∀ b u,b ≠ e->h.get? b = some u->h'.get? b = some u) (heo:∃ u,h'.get? e = some u)
  (new:ObjOk P w (upd H x o') h' x o'):HOk P w (upd H x o') h':=fun b u q=>by
 have nown:∀ c y,H c = some (.own y)->c ≠ x:=fun c y r z=>by subst z; rw [r] at mu; exact mu
 have ntup:∀ c xs,H c = some (.tup xs)->c ≠ x:=fun c xs r z=>by subst z; rw [r] at mu; exact mu
 by_cases hb:b = x
 ·subst hb; rw [Bn] at q; cases q; exact new
 ·rw [Bg hb] at q
  by_cases hbe:b = e
  ·have q':H b = some (.own x):=by
    rcases he with z | z
    ·exact absurd (hbe.trans z) hb
    ·rw [hbe]; exact z
   rw [q] at q'; cases q'
   obtain ⟨v,hv⟩:=heo
   exact ⟨v,by rw [hbe]; exact hv⟩
  ·refine (ok b u q).stay (fun c v hc r=>k c v ?_ r) (fun c r=>by rw [Bg (nown c b r)]; exact r) fun c xs r=>by rw [Bg (ntup c xs r)]; exact r
   rcases hc with rfl | hc
   ·exact hbe
   ·rintro rfl
    rcases he with z | z
    ·exact nown c b hc z
    ·rw [hc] at z; cases z; exact hb rfl
end
structure Un (fs ex:List Addr) (H H':Hp) (h h':Heap):Prop where
 keep:∀ b o,h.get? b = some o->H b = none->b ∉ fs->b ∉ ex->h'.get? b = some o
 slot:∀ b o,h.get? b = some o->H b = none->b ∈ fs->b ∉ ex->∃ sl,h'.get? b = some { o with slots:=sl }
 free:∀ b o,h.get? b = some o->H b = none->b ∉ ex->H' b = none
 there:∀ b o,h.get? b = some o->b ∉ ex->∃ o',h'.get? b = some o'
 tups:∀ b xs,H b = some (.tup xs)->H' b = some (.tup xs)
 frzs:∀ b o u,H b = some (.frz o u)->H' b = some (.frz o u)
 tbls:∀ b ps,H b = some (.tbl ps)->∃ more,H' b = some (.tbl (ps ++ more))
section
variable {fs fs' ex ex':List Addr} {H H1 H2:Hp} {h h1 h2 h':Heap} {a x e:Addr} {o:HO}
theorem Un.any (u:Un fs ex H H1 h h1) {b:Addr} {ob:Obj} (q:h.get? b = some ob) (n:H b = none) (hx:b ∉ ex):∃ sl,h1.get? b = some { ob with slots:=sl }:=by
 by_cases hb:b ∈ fs
 ·exact u.slot b ob q n hb hx
 ·exact ⟨ob.slots,u.keep b ob q n hb hx⟩
theorem Un.kept (k:∀ b u,h.get? b = some u->h'.get? b = some u):Un fs ex H H h h' :=
 ⟨fun b ob q _ _ _=>k b ob q,fun b ob q _ _ _=>⟨ob.slots,k b ob q⟩,fun _ _ _ n _=>n,fun b ob q _=>⟨ob,k b ob q⟩,fun _ _ q=>q,fun _ _ _ q=>q,fun _ ps q=>⟨#[],by rw [q]; simp⟩⟩
theorem Un.refl:Un fs ex H H h h:=Un.kept fun _ _ q=>q
theorem Un.laid (k:∀ b u,h.get? b = some u->h'.get? b = some u) (hp:h.objs.size <= a) (hn:H a = none):Un fs ex H (upd H a o) h h' where
 keep:=fun b u q _ _ _=>k b u q
 slot:=fun b u q _ _ _=>⟨u.slots,k b u q⟩
 free:=fun b u q n _=>by rw [Bg (Nat.ne_of_lt (Nat.lt_of_lt_of_le (Heap.lt_size q) hp))]; exact n
 there:=fun b u q _=>⟨u,k b u q⟩
 tups:=fun b xs q=>by rw [Bg (Bq q hn)]; exact q
 frzs:=fun b u xs q=>by rw [Bg (Bq q hn)]; exact q
 tbls:=fun b ps q=>⟨#[],by rw [Bg (Bq q hn),q]; simp⟩
theorem Un.write (mu:Mut (H x)) (he:e = x\/H e = some (.own x)) (k:∀ b u,b ≠ e->h.get? b = some u->h'.get? b = some u) (heo:∃ u,h'.get? e = some u):Un fs ex H (upd H x o) h h':=by
 have hx:∀ b,H b = none->b ≠ x:=fun b n z=>by subst z; rw [n] at mu; exact mu
 have hb:∀ b,H b = none->b ≠ e:=fun b n z=>by
  subst z
  rcases he with r | r
  ·exact hx b n r
  ·rw [n] at r; cases r
 have hm:∀ b u,H b = some u->¬ Mut (some u)->b ≠ x:=fun b u q nm z=>by subst z; rw [q] at mu; exact nm mu
 refine ⟨fun b u q n _ _=>k b u (hb b n) q,fun b u q n _ _=>⟨u.slots,k b u (hb b n) q⟩,fun b u q n _=>by rw [Bg (hx b n)]; exact n,fun b u q _=>?_,
  fun b xs q=>by rw [Bg (hm b _ q fun z=>z)]; exact q,fun b u xs q=>by rw [Bg (hm b _ q fun z=>z)]; exact q,fun b ps q=>⟨#[],by rw [Bg (hm b _ q fun z=>z),q]; simp⟩⟩
 by_cases hbe:b = e
 ·subst hbe; exact heo
 ·exact ⟨u,k b u hbe q⟩
end
def trk (h:Heap) (H:Hp):List Addr:=(List.range h.objs.size).filter fun a=>(H a).isSome
def Rj (h:Heap) (H:Hp):Heap:=PySem.W.hideAll h (trk h H)
theorem Abo (h:Heap) (H:Hp):(Rj h H).objs.size = h.objs.size:=PySem.W.hideAll_size _ _
theorem Ada {h:Heap} {H:Hp} {b:Addr} {o:Obj} (e:h.get? b = some o) (n:H b = none):(Rj h H).get? b = some o :=
 PySem.W.hideAll_get _ e fun hm=>by
  have q:(H b).isSome = true:=(List.mem_filter.mp hm).2
  rw [n] at q; simp at q
theorem Af0 {h:Heap} {H:Hp} {b:Addr} {o:Obj} (e:(Rj h H).get? b = some o):h.get? b = some o/\H b = none:=by
 have e':h.get? b = some o:=PySem.W.of_hideAll (trk h H) e
 refine ⟨e',?_⟩
 cases q:H b with
 | none=>rfl
 | some x =>
  have hm:b ∈ trk h H:=List.mem_filter.mpr ⟨List.mem_range.mpr (Heap.lt_size e'),by simp [q]⟩
  have z:(Rj h H).get? b = none:=PySem.W.hideAll_none (trk h H) hm
  rw [z] at e; cases e
end L2
namespace L2
open PySem PySem.Spec PyProof.Rows
structure Mod (K:PySem.W.Frag) (mg:Str->Option Value) (base:Heap):Prop where
 kin:K.In base
 glob:base.Ns mainGlobals mg
 blt:∃ mb,base.Ns builtinsNs mb/\∀ x:Str,x ≠ "__name__"->mb x = bootBuiltins x
 nolimit:base.NoLimit
structure Cx where
 prog:Program
 w:World
 K:PySem.W.Frag
 mg:Str->Option Value
 base:Heap
 A:Around
 N:List Str
 s₀:Shared
 H₀:Hp
 env:Env
 outer:List Env
 stack:List Env
 ex:List Addr
 fn:Str->Bool
 calm:Bool
 pn:List (Addr × Obj)
 xe:Value->Shared->Prop
def frs (l:List Env):List Addr:=l.filterMap (·.frame)
abbrev Cx.fs (X:Cx):List Addr:=frs X.outer
def Vis (sc:Scope) (x:Str):Prop:=sc.names.lookup x = some .local\/sc.names.lookup x = some .cell\/sc.names.lookup x = some .free
def Loc (sc:Scope) (x:Str):Prop:=sc.names.lookup x = some .local\/sc.names.lookup x = some .cell
def AkJ (env:Env) (h:Heap) (m:Str->Option Value) (x:Str) (u:Value):Prop :=
 (env.kindOf x = some .local/\m x = some u)\/((env.kindOf x = some .cell\/env.kindOf x = some .free)/\∃ c,env.cells.lookup x = some c/\h.IsCell c (some u))
structure Cx.Ok (X:Cx):Prop where
 mod:Mod X.K X.mg X.base
 kind:X.env.scope.kind = .function
 glob:X.env.globals = mainGlobals
 blt:X.env.builtins = builtinsNs
 above:X.s₀.heap.objs.size <= X.env.locals
 inj:∀ x y c,X.env.cells.lookup x = some c->X.env.cells.lookup y = some c->x = y
 has:∀ x,(X.env.kindOf x = some .cell\/X.env.kindOf x = some .free)->∃ c,X.env.cells.lookup x = some c
 cab:∀ x c,X.fn x = true->X.env.cells.lookup x = some c->X.s₀.heap.objs.size <= c
 hd:X.calm = true->X.A.handled = none
 frames:X.A.frames = some X.stack
 stk:X.stack = X.outer\/(X.stack = X.env :: X.outer/\X.env.frame = some X.env.locals)
 exf:∀ b ∈ X.ex,b ≠ X.env.locals/\∀ x c,X.env.cells.lookup x = some c->c ≠ b
 bs:∀ b o,X.base.get? b = some o->X.s₀.heap.get? b = some o/\X.H₀ b = none
 bsz:X.base.objs.size <= X.s₀.heap.objs.size
 noex:∀ b o,X.base.get? b = some o->b ∉ X.ex
 exfs:∀ b ∈ X.ex,b ∉ X.fs
 funs:X.s₀.heap.FunFrames X.base X.outer
 frf:∀ b ∈ X.fs,X.H₀ b = none
structure Inv (X:Cx) (pins:List (Addr × Obj)) (σ:List (Option V)) (H:Hp) (s:Shared):Prop where
 ok:X.Ok
 os:s.os = X.s₀.os
 bare:AllBare s.gens
 base:Un X.fs X.ex X.H₀ H X.s₀.heap s.heap
 loc:∃ m,s.heap.Ns X.env.locals m/\∀ (i:Nat) (x:Str) (v:V),X.N[i]? = some x->σ[i]? = some (some v)->Vis X.env.scope x->∃ u,RelV v u/\AkJ X.env s.heap m x u
 cell:∀ x c,X.env.cells.lookup x = some c->∃ v,s.heap.IsCell c v
 free:H X.env.locals = none
 freeC:∀ x c,X.env.cells.lookup x = some c->H c = none
 pin:∀ p ∈ X.pn ++ pins,s.heap.get? p.1 = some p.2/\H p.1 = none/\p.1 ≠ X.env.locals/\p.1 ∉ X.fs/\∀ v,p.2.data ≠ .cell v
 hok:HOk X.prog X.w H s.heap
 len:σ.length = X.N.length
section
variable {X:Cx} {pins:List (Addr × Obj)} {σ:List (Option V)} {H H':Hp} {s:Shared} {h':Heap}
theorem Cx.Ok.nofr (ok:X.Ok) {b:Addr} {o:Obj} (e:X.base.get? b = some o):b ∉ X.fs:=fun hb=>by
 have:=(ok.funs.mem hb).1
 rw [e] at this; cases this
theorem Inv.bs (I:Inv X pins σ H s):∀ b o,X.base.get? b = some o->s.heap.get? b = some o/\H b = none:=fun b o e =>
 ⟨I.base.keep b o (I.ok.bs b o e).1 (I.ok.bs b o e).2 (I.ok.nofr e) (I.ok.noex b o e),I.base.free b o (I.ok.bs b o e).1 (I.ok.bs b o e).2 (I.ok.noex b o e)⟩
theorem Inv.bk (I:Inv X pins σ H s):∀ b o,X.base.get? b = some o->s.heap.get? b = some o:=fun b o e=>(I.bs b o e).1
theorem Inv.mod (I:Inv X pins σ H s):Mod X.K X.mg X.base:=I.ok.mod
theorem Inv.kIn (I:Inv X pins σ H s):X.K.In s.heap:=I.ok.mod.kin.keeps I.bk
theorem Inv.lt (I:Inv X pins σ H s):X.env.locals < s.heap.objs.size:=let ⟨_,hn,_⟩:=I.loc; hn.lt
theorem Inv.sz (I:Inv X pins σ H s):X.s₀.heap.objs.size <= s.heap.objs.size:=Nat.le_trans I.ok.above (Nat.le_of_lt I.lt)
theorem Inv.nofs (I:Inv X pins σ H s) {a:Addr} (h:s.heap.objs.size <= a):a ∉ X.fs:=fun hb=>by
 obtain ⟨_,o,ho,_⟩:=I.ok.funs.mem hb
 exact absurd (Nat.lt_of_lt_of_le (Heap.lt_size ho) (Nat.le_trans I.sz h)) (Nat.lt_irrefl _)
theorem Inv.cne (I:Inv X pins σ H s):∀ x c,X.env.cells.lookup x = some c->c ≠ X.env.locals:=fun x c e z=>by
 obtain ⟨v,o,ho,hd⟩:=I.cell x c e
 obtain ⟨m,⟨o',es,ep,ho',hd',_⟩,_⟩:=I.loc
 rw [z,ho'] at ho; cases ho; rw [hd'] at hd; cases hd
theorem Inv.funs (I:Inv X pins σ H s):s.heap.FunFrames X.base X.outer:=by
 have all:∀ (l:List Env),(∀ b ∈ frs l,b ∈ X.fs)->X.s₀.heap.FunFrames X.base l->s.heap.FunFrames X.base l:=by
  intro l
  induction l with
  | nil=>intro _ _; trivial
  | cons env r ih =>
   intro hs hl
   obtain ⟨hk,⟨L,o,hf,hn,ho,hd⟩,hr⟩:=hl
   have hL:L ∈ X.fs:=hs L (by unfold frs; rw [List.filterMap_cons,hf]; exact List.mem_cons_self)
   obtain ⟨sl,e⟩:=I.base.slot L o ho (I.ok.frf L hL) hL fun z=>I.ok.exfs L z hL
   exact ⟨hk,⟨L,_,hf,hn,e,hd⟩,ih (fun b hb=>hs b (by unfold frs; rw [List.filterMap_cons,hf]; exact List.mem_cons_of_mem _ hb)) hr⟩
 exact all X.outer (fun _ hb=>hb) I.ok.funs
theorem Inv.stack (I:Inv X pins σ H s):s.heap.FunFrames X.base X.stack:=by
 rcases I.ok.stk with e | ⟨e,hf⟩
 ·rw [e]; exact I.funs
 ·rw [e]
  obtain ⟨m,hn,_⟩:=I.loc
  refine .cons (by rw [I.ok.kind]; decide) hf hn ?_ I.funs
  exact Heap.get?_none_of_le (Nat.le_trans I.ok.bsz I.ok.above)
theorem Inv.stkSub (I:Inv X pins σ H s):∀ b ∈ frs X.stack,b ∈ X.env.locals :: X.fs:=fun b hb=>by
 rcases I.ok.stk with e | ⟨e,hf⟩
 ·rw [e] at hb; exact List.mem_cons_of_mem _ hb
 ·rw [e] at hb
  unfold frs at hb
  rw [List.filterMap_cons,hf] at hb
  exact hb
theorem Inv.stkFree (I:Inv X pins σ H s):∀ b ∈ frs X.stack,H b = none:=fun b hb=>by
 rcases List.mem_cons.mp (I.stkSub b hb) with e | hb
 ·rw [e]; exact I.free
 ·obtain ⟨_,o,ho,_⟩:=I.ok.funs.mem hb
  exact I.base.free b o ho (I.ok.frf b hb) fun z=>I.ok.exfs b z hb
theorem Inv.step {g':Array GenState} {t':Nat} {d':Drawn} {ch:List Addr} (I:Inv X pins σ H s)
  (hch:∀ b ∈ ch,(b ∈ X.ex\/X.s₀.heap.objs.size <= b)/\b ≠ X.env.locals/\(∀ x c,X.env.cells.lookup x = some c->c ≠ b)/\∀ p ∈ X.pn ++ pins,p.1 ≠ b)
  (keep:∀ b o,b ≠ X.env.locals->b ∉ X.fs->b ∉ ch->s.heap.get? b = some o->H b = none->h'.get? b = some o)
  (slot:∀ b o,b ≠ X.env.locals->b ∈ X.fs->b ∉ ch->s.heap.get? b = some o->H b = none->∃ sl,h'.get? b = some { o with slots:=sl }) (free:∀ b o,b ∉ ch->s.heap.get? b = some o->H b = none->H' b = none)
  (there:∀ b o,b ∉ ch->s.heap.get? b = some o->∃ o',h'.get? b = some o')
  (tups:∀ b xs,H b = some (.tup xs)->H' b = some (.tup xs)) (frzs:∀ b o u,H b = some (.frz o u)->H' b = some (.frz o u)) (tbls:∀ b ps,H b = some (.tbl ps)->∃ more,H' b = some (.tbl (ps ++ more)))
  (ns:∀ m,s.heap.Ns X.env.locals m->h'.Ns X.env.locals m) (hok:HOk X.prog X.w H' h') (hg:AllBare g') :
  Inv X pins σ H' { s with heap:=h',gens:=g',drawn:=d',toks:=t' }:=by
 have neL:∀ b o,X.s₀.heap.get? b = some o->b ≠ X.env.locals:=fun b o e=>Nat.ne_of_lt (Nat.lt_of_lt_of_le (Heap.lt_size e) I.ok.above)
 have neC:∀ b o,X.s₀.heap.get? b = some o->b ∉ X.ex->b ∉ ch:=fun b o e hx hb=>by
  rcases (hch b hb).1 with z | z
  ·exact hx z
  ·exact absurd (Nat.lt_of_lt_of_le (Heap.lt_size e) z) (Nat.lt_irrefl _)
 have cellK:∀ x c,X.env.cells.lookup x = some c->∀ v,s.heap.IsCell c v->h'.IsCell c v:=fun x c e v ⟨o,ho,hd⟩=>by
  have nch:c ∉ ch:=fun z=>(hch c z).2.2.1 x c e rfl
  by_cases hc:c ∈ X.fs
  ·obtain ⟨sl,q⟩:=slot c o (I.cne x c e) hc nch ho (I.freeC x c e)
   exact ⟨_,q,hd⟩
  ·exact ⟨o,keep c o (I.cne x c e) hc nch ho (I.freeC x c e),hd⟩
 refine ⟨I.ok,I.os,hg,⟨fun b o e n hb hx=>?_,fun b o e n hb hx=>?_,fun b o e n hx=>?_,fun b o e hx=>?_,fun b xs e=>tups b xs (I.base.tups b xs e),fun b o xs e=>frzs b o xs (I.base.frzs b o xs e),fun b ps e=>?_⟩,?_,fun x c e=>?_,?_,fun x c e=>?_,fun p hp=>?_,hok,I.len⟩
 ·exact keep b o (neL b o e) hb (neC b o e hx) (I.base.keep b o e n hb hx) (I.base.free b o e n hx)
 ·obtain ⟨sl,e1⟩:=I.base.slot b o e n hb hx
  obtain ⟨sl',e2⟩:=slot b _ (neL b o e) hb (neC b o e hx) e1 (I.base.free b o e n hx)
  exact ⟨sl',e2⟩
 ·obtain ⟨o',e1⟩:=I.base.there b o e hx
  exact free b o' (neC b o e hx) e1 (I.base.free b o e n hx)
 ·obtain ⟨o',e1⟩:=I.base.there b o e hx
  exact there b o' (neC b o e hx) e1
 ·obtain ⟨m1,e1⟩:=I.base.tbls b ps e
  obtain ⟨m2,e2⟩:=tbls b _ e1
  exact ⟨m1 ++ m2,by rw [e2,Array.append_assoc]⟩
 ·obtain ⟨m,hn,hl⟩:=I.loc
  refine ⟨m,ns m hn,fun i x v e1 e2 e3=>?_⟩
  obtain ⟨u,r,l⟩:=hl i x v e1 e2 e3
  refine ⟨u,r,?_⟩
  rcases l with l | ⟨k,c,e,z⟩
  ·exact .inl l
  ·exact .inr ⟨k,c,e,cellK x c e _ z⟩
 ·obtain ⟨v,z⟩:=I.cell x c e
  exact ⟨v,cellK x c e v z⟩
 ·obtain ⟨m,⟨o,_,_,ho,_⟩,_⟩:=I.loc
  exact free _ o (fun z=>(hch _ z).2.1 rfl) ho I.free
 ·obtain ⟨v,o,ho,hd⟩:=I.cell x c e
  exact free c o (fun z=>(hch c z).2.2.1 x c e rfl) ho (I.freeC x c e)
 ·obtain ⟨e,n,ne,nf,d⟩:=I.pin p hp
  have nch:p.1 ∉ ch:=fun z=>(hch p.1 z).2.2.2 p hp rfl
  exact ⟨keep p.1 p.2 ne nf nch e n,free p.1 p.2 nch e n,ne,nf,d⟩
theorem Inv.un {t':Nat} (I:Inv X pins σ H s) (u:Un X.fs [] H H' s.heap h') (hok:HOk X.prog X.w H' h'):Inv X pins σ H' { s with heap:=h',toks:=t' }:=by
 obtain ⟨m,⟨o,es,ep,ho,r⟩,_⟩:=id I.loc
 obtain ⟨sl,hL⟩:=u.any ho I.free (by simp)
 exact I.step (g':=s.gens) (d':=s.drawn) (ch:=[]) (fun _ z=>nomatch z) (fun b o _ hb _ e n=>u.keep b o e n hb (by simp)) (fun b o _ hb _ e n=>u.slot b o e n hb (by simp)) (fun b o _ e n=>u.free b o e n (by simp)) (fun b o _ e=>u.there b o e (by simp)) u.tups u.frzs u.tbls (fun m' hm=>by
  obtain ⟨o',es',ep',ho',r'⟩:=hm
  rw [ho] at ho'; cases ho'
  exact ⟨_,es',ep',hL,r'⟩) hok I.bare
theorem Inv.call {g':Array GenState} {t':Nat} {d':Drawn} {ch:List Addr} (I:Inv X pins σ H s) (u:Un (frs X.stack) ch H H' s.heap h') (hok:HOk X.prog X.w H' h') (hg:AllBare g')
  (hch:∀ b ∈ ch,(b ∈ X.ex\/X.s₀.heap.objs.size <= b)/\b ≠ X.env.locals/\(∀ x c,X.env.cells.lookup x = some c->c ≠ b)/\∀ p ∈ X.pn ++ pins,p.1 ≠ b) :
  Inv X pins σ H' { s with heap:=h',gens:=g',drawn:=d',toks:=t' }:=by
 obtain ⟨m,⟨o,es,ep,ho,r⟩,_⟩:=id I.loc
 obtain ⟨sl,hL⟩:=u.any ho I.free fun z=>(hch _ z).2.1 rfl
 exact I.step (ch:=ch) hch (fun b o hL hb hc e n=>u.keep b o e n (fun z=>(List.mem_cons.mp (I.stkSub b z)).elim hL hb) hc) (fun b o _ _ hc e n=>u.any e n hc) (fun b o hc e n=>u.free b o e n hc) (fun b o hc e=>u.there b o e hc) u.tups u.frzs u.tbls (fun m' hm=>by
  obtain ⟨o',es',ep',ho',r'⟩:=hm
  rw [ho] at ho'; cases ho'
  exact ⟨_,es',ep',hL,r'⟩) hok hg
theorem Inv.turned {t':Nat} {it:Addr} (I:Inv X pins σ H s) (k:∀ b o,b ≠ it->s.heap.get? b = some o->h'.get? b = some o) (hn:H it = none) (hL:it ≠ X.env.locals)
  (h1:it ∈ X.ex\/X.s₀.heap.objs.size <= it) (h2:∀ x c,X.env.cells.lookup x = some c->c ≠ it) (h3:∀ p ∈ X.pn ++ pins,p.1 ≠ it):Inv X pins σ H { s with heap:=h',toks:=t' }:=by
 have nit:∀ b u,H b = some u->b ≠ it:=fun b u e z=>by rw [z,hn] at e; cases e
 refine I.step (g':=s.gens) (d':=s.drawn) (ch:=[it]) (fun b hb=>?_) (fun b o _ _ hc e _=>k b o (fun z=>hc (by simp [z])) e) (fun b o _ _ hc e _=>⟨o.slots,k b o (fun z=>hc (by simp [z])) e⟩) (fun _ _ _ _ n=>n)
  (fun b o hc e=>⟨o,k b o (fun z=>hc (by simp [z])) e⟩) (fun _ _ e=>e) (fun _ _ _ e=>e) (fun b ps e=>⟨#[],by rw [e]; simp⟩) (fun m hm=>?_) (fun b u e=>?_) I.bare
 ·have e:b = it:=by simpa using hb
  subst e
  exact ⟨h1,hL,h2,h3⟩
 ·obtain ⟨o,es,ep,ho,r⟩:=hm
  exact ⟨o,es,ep,k _ o (Ne.symm hL) ho,r⟩
 ·refine (I.hok b u e).stay (fun c v hc q=>k c v ?_ q) (fun _ q=>q) fun _ _ q=>q
  rcases hc with z | z
  ·rw [z]; exact nit b u e
  ·exact nit c _ z
theorem Inv.tok (I:Inv X pins σ H s) (t:Nat):Inv X pins σ H { s with toks:=t }:=I.un (h':=s.heap) (t':=t) Un.refl I.hok
theorem Inv.kept {t':Nat} (I:Inv X pins σ H s) (k:∀ b u,s.heap.get? b = some u->h'.get? b = some u):Inv X pins σ H { s with heap:=h',toks:=t' }:=I.un (Un.kept k) (I.hok.kept k)
theorem Inv.laid {a:Addr} {o:HO} {t':Nat} (I:Inv X pins σ H s) (k:∀ b u,s.heap.get? b = some u->h'.get? b = some u) (hp:s.heap.objs.size <= a) (new:ObjOk X.prog X.w (upd H a o) h' a o) :
  Inv X pins σ (upd H a o) { s with heap:=h',toks:=t' }:=I.un (Un.laid k hp (I.hok.fresh hp)) (I.hok.laid k hp new)
theorem Inv.write {x e:Addr} {o:HO} {t':Nat} (I:Inv X pins σ H s) (mu:Mut (H x)) (he:e = x\/H e = some (.own x)) (k:∀ b u,b ≠ e->s.heap.get? b = some u->h'.get? b = some u) (heo:∃ u,h'.get? e = some u)
  (new:ObjOk X.prog X.w (upd H x o) h' x o):Inv X pins σ (upd H x o) { s with heap:=h',toks:=t' }:=I.un (Un.write mu he k heo) (I.hok.write mu he k heo new)
theorem Inv.weak {σ':List (Option V)} (I:Inv X pins σ H s) (hl:σ'.length = σ.length) (w:∀ (i:Nat) v,σ'[i]? = some (some v)->σ[i]? = some (some v)):Inv X pins σ' H s :=
 ⟨I.ok,I.os,I.bare,I.base,let ⟨m,hn,hl'⟩:=I.loc; ⟨m,hn,fun i x v e1 e2 e3=>hl' i x v e1 (w i v e2) e3⟩,I.cell,I.free,I.freeC,I.pin,I.hok,hl.trans I.len⟩
theorem Inv.pins_of {pins':List (Addr × Obj)} (I:Inv X pins σ H s) (h:∀ p ∈ pins',s.heap.get? p.1 = some p.2/\H p.1 = none/\p.1 ≠ X.env.locals/\p.1 ∉ X.fs/\∀ v,p.2.data ≠ .cell v):Inv X pins' σ H s :=
 ⟨I.ok,I.os,I.bare,I.base,I.loc,I.cell,I.free,I.freeC,fun p hp=>(List.mem_append.mp hp).elim (fun z=>I.pin p (List.mem_append_left _ z)) (h p),I.hok,I.len⟩
theorem Jo {N:List Str} (hN:N.Nodup) {i j:Nat} {x:Str} (a:N[i]? = some x) (b:N[j]? = some x):i = j:=by
 obtain ⟨h1,e1⟩:=List.getElem?_eq_some_iff.mp a
 obtain ⟨h2,e2⟩:=List.getElem?_eq_some_iff.mp b
 exact (List.getElem_inj hN).mp (e1.trans e2.symm)
theorem Vo {M:Model} {A:Around} {E:Value->Shared->Prop} {i:Nat} {x:Str} {v:V} {u:Value} {Q:Unit->Shared->Prop} (I:Inv X pins σ H s) (hN:X.N.Nodup) (hi:X.N[i]? = some x) (hx:Loc X.env.scope x) (r:RelV v u)
  (h:∀ s',Inv X pins (σ.set i (some v)) H s'->(∃ a,Heap.SameBut a s.heap s'.heap/\(a = X.env.locals\/X.env.cells.lookup x = some a))->Q () s') (hf:X.fn x = true\/X.env.scope.names.lookup x = some .local:=by first | exact .inl rfl | exact .inr rfl | assumption):wpAny M A (storeName X.env x u) Q E s:=by
 obtain ⟨m,hn,hl⟩:=id I.loc
 have hcls:(X.env.scope.kind == .class || (X.env.scope.kind == .module && X.env.locals != X.env.globals)) = false:=by rw [I.ok.kind]; rfl
 have hiσ:i < σ.length:=by rw [I.len]; exact (List.getElem?_eq_some_iff.mp hi).1
 have cne:=I.cne
 have tracked:∀ {a:Addr} {h':Heap},(∃ o,s.heap.get? a = some o/\H a = none)->Heap.SameBut a s.heap h'->HOk X.prog X.w H h':=fun {a h'} ha hs b ob e=>by
  obtain ⟨_,_,hfree⟩:=ha
  refine (I.hok b ob e).stay (fun c w' hc q=>(hs.2 c ?_).trans q) (fun _ q=>q) fun _ _ q=>q
  rintro rfl
  rcases hc with rfl | hc
  ·rw [hfree] at e; cases e
  ·rw [hfree] at hc; cases hc
 rcases hx with hk | hk
 ·refine wpAny_storeName_local hk hn (fun h' hn' hs=>?_) hcls
  obtain ⟨oL,_,_,hoL,_⟩:=id hn
  refine h _ ⟨I.ok,I.os,I.bare,⟨fun b o e n hb hx=>?_,fun b o e n hb hx=>?_,I.base.free,fun b o e hx=>?_,I.base.tups,I.base.frzs,I.base.tbls⟩,⟨_,hn',fun j y v' e1 e2 e3=>?_⟩,fun y c e=>?_,I.free,I.freeC,fun p hp=>?_,tracked ⟨oL,hoL,I.free⟩ hs,by simpa using I.len⟩ ⟨_,hs,.inl rfl⟩
  ·exact (hs.2 b (Nat.ne_of_lt (Nat.lt_of_lt_of_le (Heap.lt_size e) I.ok.above))).trans (I.base.keep b o e n hb hx)
  ·obtain ⟨sl,e1⟩:=I.base.slot b o e n hb hx
   exact ⟨sl,(hs.2 b (Nat.ne_of_lt (Nat.lt_of_lt_of_le (Heap.lt_size e) I.ok.above))).trans e1⟩
  ·obtain ⟨o',e1⟩:=I.base.there b o e hx
   exact ⟨o',(hs.2 b (Nat.ne_of_lt (Nat.lt_of_lt_of_le (Heap.lt_size e) I.ok.above))).trans e1⟩
  ·by_cases hj:j = i
   ·subst hj
    rw [hi] at e1; cases e1
    rw [List.getElem?_set_self hiσ] at e2
    cases e2
    exact ⟨u,r,.inl ⟨hk,by simp⟩⟩
   ·rw [List.getElem?_set_ne (Ne.symm hj)] at e2
    obtain ⟨u',r',q⟩:=hl j y v' e1 e2 e3
    refine ⟨u',r',?_⟩
    rcases q with ⟨k,e⟩ | ⟨k,c,e,z⟩
    ·refine .inl ⟨k,?_⟩
     have:y ≠ x:=fun e=>hj (Jo hN e1 (e ▸ hi))
     simp [this,e]
    ·exact .inr ⟨k,c,e,z.sameBut hs (cne y c e)⟩
  ·obtain ⟨w',z⟩:=I.cell y c e
   exact ⟨w',z.sameBut hs (cne y c e)⟩
  ·obtain ⟨e,n,ne,nf,d⟩:=I.pin p hp
   exact ⟨(hs.2 p.1 ne).trans e,n,ne,nf,d⟩
 ·have hfn:X.fn x = true:=by
   rcases hf with z | z
   ·exact z
   ·rw [z] at hk; cases hk
  obtain ⟨c,hc⟩:=I.ok.has x (.inl hk)
  obtain ⟨w',z⟩:=I.cell x c hc
  refine wpAny_storeName_cell I.ok.kind hk hc z (fun h' hc' hs=>?_)
  obtain ⟨oc,hoc,hocd⟩:=id z
  refine h { s with heap:=h' } ⟨I.ok,I.os,I.bare,⟨fun b o e n hb hx=>?_,fun b o e n hb hx=>?_,I.base.free,fun b o e hx=>?_,I.base.tups,I.base.frzs,I.base.tbls⟩,⟨m,hn.sameBut hs (Ne.symm (cne x c hc)),fun j y v' e1 e2 e3=>?_⟩,fun y c' e=>?_,I.free,I.freeC,fun p hp=>?_,tracked ⟨oc,hoc,I.freeC x c hc⟩ hs,by simpa using I.len⟩ ⟨c,hs,.inr hc⟩
  ·exact (hs.2 b (Nat.ne_of_lt (Nat.lt_of_lt_of_le (Heap.lt_size e) (I.ok.cab x c hfn hc)))).trans (I.base.keep b o e n hb hx)
  ·obtain ⟨sl,e1⟩:=I.base.slot b o e n hb hx
   exact ⟨sl,(hs.2 b (Nat.ne_of_lt (Nat.lt_of_lt_of_le (Heap.lt_size e) (I.ok.cab x c hfn hc)))).trans e1⟩
  ·obtain ⟨o',e1⟩:=I.base.there b o e hx
   exact ⟨o',(hs.2 b (Nat.ne_of_lt (Nat.lt_of_lt_of_le (Heap.lt_size e) (I.ok.cab x c hfn hc)))).trans e1⟩
  ·by_cases hj:j = i
   ·subst hj
    rw [hi] at e1; cases e1
    rw [List.getElem?_set_self hiσ] at e2
    cases e2
    exact ⟨u,r,.inr ⟨.inl hk,c,hc,hc'⟩⟩
   ·rw [List.getElem?_set_ne (Ne.symm hj)] at e2
    obtain ⟨u',r',q⟩:=hl j y v' e1 e2 e3
    refine ⟨u',r',?_⟩
    rcases q with q | ⟨k,c',e,z'⟩
    ·exact .inl q
    ·refine .inr ⟨k,c',e,z'.sameBut hs ?_⟩
     rintro rfl
     exact hj (Jo hN e1 (I.ok.inj _ _ _ e hc ▸ hi))
  ·by_cases hcc:c' = c
   ·subst hcc; exact ⟨_,hc'⟩
   ·obtain ⟨w2,z2⟩:=I.cell y c' e
    exact ⟨w2,z2.sameBut hs hcc⟩
  ·obtain ⟨e,n,ne,nf,d⟩:=I.pin p hp
   refine ⟨(hs.2 p.1 ?_).trans e,n,ne,nf,d⟩
   intro q
   rw [q,hoc] at e
   have q':oc = p.2:=Option.some.inj e
   exact d w' (by rw [<- q']; exact hocd)
theorem Rg {M:Model} {A:Around} {E:Value->Shared->Prop} {i:Nat} {x:Str} {v:V} {u:Value} {Q:Unit->Shared->Prop} (I:Inv X pins σ H s) (hN:X.N.Nodup) (hi:X.N[i]? = some x) (hx:Loc X.env.scope x) (r:RelV v u)
  (h:∀ s',Inv X pins (σ.set i (some v)) H s'->Q () s') (hf:X.fn x = true\/X.env.scope.names.lookup x = some .local:=by first | exact .inl rfl | exact .inr rfl | assumption):wpAny M A (storeName X.env x u) Q E s :=
 Vo I hN hi hx r (fun s' I' _=>h s' I') hf
end
abbrev XK:=Value->Option Addr->Hp->Prop
abbrev St:=List (Option V)
abbrev VK:=V->Hp->Prop
abbrev TE:=St->Hp->VK->Prop
abbrev TT:=St->Hp->(Bool->Hp->Prop)->Prop
abbrev TA:=St->Hp->(List V->Hp->Prop)->Prop
structure Ends where
 nx:St->Hp->Prop
 rt:VK
 bk:St->Hp->Prop:=fun _ _=>False
 ct:St->Hp->Prop:=fun _ _=>False
abbrev TS:=Ends->St->Hp->Prop
def EP (X:Cx) (pins:List (Addr × Obj)) (σ:St) (Q:VK) (u:Value) (s':Shared):Prop:=∃ v H',Inv X pins σ H' s'/\RelV v u/\Q v H'
def TP (X:Cx) (pins:List (Addr × Obj)) (σ:St) (Q:Bool->Hp->Prop) (b:Bool) (s':Shared):Prop:=∃ H',Inv X pins σ H' s'/\Q b H'
def AP (X:Cx) (pins:List (Addr × Obj)) (σ:St) (Q:List V->Hp->Prop) (us:List Value) (s':Shared):Prop:=∃ vs H',Inv X pins σ H' s'/\Vals vs us/\Q vs H'
def SP (X:Cx) (pins:List (Addr × Obj)) (D:Ends) (f:Flow) (s':Shared):Prop :=
 match f with
 | .next=>∃ σ' H',Inv X pins σ' H' s'/\D.nx σ' H'
 | .brk=>∃ σ' H',Inv X pins σ' H' s'/\D.bk σ' H'
 | .cont=>∃ σ' H',Inv X pins σ' H' s'/\D.ct σ' H'
 | .ret u=>∃ v σ' H',Inv X pins σ' H' s'/\RelV v u/\D.rt v H'
def PE (X:Cx) (e:Expr) (t:TE):Prop :=
 ∀ (pins:List (Addr × Obj)) (s:Shared) (σ:St) (H:Hp) (Q:VK),Inv X pins σ H s->t σ H Q->wpAny (model X.prog X.w) X.A (eval e X.env) (EP X pins σ Q) X.xe s
def PT (X:Cx) (e:Expr) (t:TT):Prop :=
 ∀ (pins:List (Addr × Obj)) (s:Shared) (σ:St) (H:Hp) (Q:Bool->Hp->Prop),Inv X pins σ H s->t σ H Q->wpAny (model X.prog X.w) X.A (isTrue e X.env (eval e X.env)) (TP X pins σ Q) X.xe s
def PW (X:Cx) (e:Expr) (t:TT):Prop :=
 ∀ (whole:Sem Value) (pins:List (Addr × Obj)) (s:Shared) (σ:St) (H:Hp) (Q:Bool->Hp->Prop),Inv X pins σ H s->t σ H Q->wpAny (model X.prog X.w) X.A (isTrue e X.env whole) (TP X pins σ Q) X.xe s
theorem PW.pt {X:Cx} {e:Expr} {t:TT} (h:PW X e t):PT X e t:=h _
def PA (X:Cx) (es:List Expr) (t:TA):Prop :=
 ∀ (pos:Pos) (pins:List (Addr × Obj)) (s:Shared) (σ:St) (H:Hp) (Q:List V->Hp->Prop),Inv X pins σ H s->t σ H Q->wpAny (model X.prog X.w) X.A (spliced (backTo pos (starEach es X.env))) (AP X pins σ Q) X.xe s
def PS (X:Cx) (st:Stmt) (t:TS):Prop :=
 ∀ (pins:List (Addr × Obj)) (s:Shared) (σ:St) (H:Hp) (D:Ends),Inv X pins σ H s->t D σ H->wpAny (model X.prog X.w) X.A (exec st X.env) (SP X pins D) X.xe s
def PSs (X:Cx) (st:List Stmt) (t:TS):Prop :=
 ∀ (pins:List (Addr × Obj)) (s:Shared) (σ:St) (H:Hp) (D:Ends),Inv X pins σ H s->t D σ H->wpAny (model X.prog X.w) X.A (execs st X.env) (SP X pins D) X.xe s
theorem thn {α:Type} {t:Sem α} {Q Q':α->Shared->Prop} {M:Model} {A:Around} {E:Value->Shared->Prop} {s:Shared} (h:wpAny M A t Q E s) (hQ:∀ a s,Q a s->Q' a s):wpAny M A t Q' E s:=wpAny_mono h hQ fun _ _ x=>x
end L2
namespace L2
open PySem PySem.Spec PyProof.Rows
section
variable {X:Cx}
def Ff (i:Nat):TE:=fun σ H Q=>∃ v,σ[i]? = some (some v)/\Q v H
def tC (v:V):TE:=fun _ H Q=>Q v H
theorem AhP {i:Nat} {x:Str} {pos:Pos} (hN:X.N[i]? = some x) (hv:Vis X.env.scope x) (hd:(x == ("__debug__" : Str)) = false:=by decide) (hcd:(x == ("__classdict__" : Str)) = false:=by decide):PE X (.Name x pos) (Ff i):=by
 intro pins s σ H Q I h
 obtain ⟨v,e,h⟩:=h
 obtain ⟨m,hn,hl⟩:=I.loc
 obtain ⟨u,r,l⟩:=hl i x v hN e hv
 have fin:EP X pins σ Q u s:=⟨v,H,I,r,h⟩
 rcases l with ⟨hk,hm⟩ | ⟨hk,c,hc,hcell⟩
 ·exact wpAny_Name (wpAny_loadName_local I.ok.kind hk hn hm fin) hd
 ·rcases hk with hk | hk
  ·exact wpAny_Name (wpAny_loadName_cell I.ok.kind hk hc hcell fin) hd
  ·exact wpAny_Name (wpAny_loadName_free I.ok.kind hk hc hcell fin hcd) hd
theorem Bh {i j pos}:PE X (.Constant (.int i) j pos) (tC (.int i)):=fun _ _ _ H _ I h=>wpAny_Constant_int ⟨.int i,H,I.tok _,⟨_,rfl⟩,h⟩
theorem Tg {b j pos}:PE X (.Constant (.bool b) j pos) (tC (.bl b)):=fun _ _ _ H _ I h=>Constant_bool ⟨.bl b,H,I,rfl,h⟩
theorem AhJ {j pos}:PE X (.Constant .none j pos) (tC .non):=fun _ _ _ H _ I h=>Constant_none ⟨.non,H,I,rfl,h⟩
theorem Bx {x j pos}:PE X (.Constant (.str x) j pos) (tC (.str x)):=fun _ _ _ H _ I h=>Calls.Constant_str ⟨.str x,H,I.tok _,⟨_,rfl⟩,h⟩
def Gl (X:Cx) (x:Str):Prop:=X.env.kindOf x = some .globalImplicit
theorem Nd {E:Value->Shared->Prop} {pins:List (Addr × Obj)} {s:Shared} {σ:St} {H:Hp} {x:Str} {u:Value} {pos:Pos} {Q:Value->Shared->Prop} (I:Inv X pins σ H s) (hg:Gl X x) (hm:X.mg x = some u) (h:Q u s)
  (hd:(x == ("__debug__" : Str)) = false:=by decide):wpAny (model X.prog X.w) X.A (eval (.Name x pos) X.env) Q E s :=
 Calls.Name_function_global I.ok.kind hg (Calls.loadGlobal_global (by rw [I.ok.glob]; exact I.mod.glob.keeps I.bk) hm h) hd
theorem Oq {E:Value->Shared->Prop} {pins:List (Addr × Obj)} {s:Shared} {σ:St} {H:Hp} {x:Str} {u:Value} {pos:Pos} {Q:Value->Shared->Prop} (I:Inv X pins σ H s) (hg:Gl X x) (hm:X.mg x = none) (hv:bootBuiltins x = some u) (h:Q u s)
  (hn:x ≠ "__name__":=by decide) (hd:(x == ("__debug__" : Str)) = false:=by decide):wpAny (model X.prog X.w) X.A (eval (.Name x pos) X.env) Q E s:=by
 obtain ⟨mb,h1,h2⟩:=I.mod.blt
 exact Calls.Name_function_global I.ok.kind hg (Calls.loadGlobal_builtin (by rw [I.ok.glob]; exact I.mod.glob.keeps I.bk) hm (by rw [I.ok.blt]; exact h1.keeps I.bk) ((h2 x hn).trans hv) h) hd
theorem Gw {x:Str} {v:V} {u:Value} {pos:Pos} (hg:Gl X x) (hm:X.mg x = some u) (r:RelV v u) (hd:(x == ("__debug__" : Str)) = false:=by decide):PE X (.Name x pos) (tC v) :=
 fun _ _ _ H _ I h=>Nd I hg hm ⟨v,H,I,r,h⟩ hd
theorem Gn {x:Str} {v:V} {u:Value} {pos:Pos} (hg:Gl X x) (hm:X.mg x = none) (hv:bootBuiltins x = some u) (r:RelV v u) (hn:x ≠ "__name__":=by decide) (hd:(x == ("__debug__" : Str)) = false:=by decide):PE X (.Name x pos) (tC v) :=
 fun _ _ _ H _ I h=>Oq I hg hm hv ⟨v,H,I,r,h⟩ hn hd
variable {a b:Expr} {ta tb:TE} {pos:Pos}
def PC (X:Cx) (op:CmpOp) (a b:Expr) (t:TE):Prop :=
 ∀ (pins:List (Addr × Obj)) (s:Shared) (σ:St) (H:Hp) (Q:VK),Inv X pins σ H s->t σ H Q ->
  wpAny (model X.prog X.w) X.A (eval a X.env) (fun v s₁=>wpAny (model X.prog X.w) X.A (eval b X.env) (fun u s₂=>wpAny (model X.prog X.w) X.A (compareOp op v u) (EP X pins σ Q) X.xe s₂) X.xe s₁) X.xe s
theorem Xq (b:Expr) {op:CmpOp} (h:op ≠ .In) (h2:op ≠ .NotIn):behindInMarks op b = false:=by
 have e1:(op == CmpOp.In) = false:=by cases op <;> first | rfl | exact absurd rfl h
 have e2:(op == CmpOp.NotIn) = false:=by cases op <;> first | rfl | exact absurd rfl h2
 cases b <;> simp [behindInMarks,e1,e2]
def AeK (ta:TE):TE:=fun σ H Q=>ta σ H fun x H1=>Q (.bl (!decide (x = .non))) H1
theorem RelV.none_iff {x:V} {v:Value} (r:RelV x v):(v == Value.none) = decide (x = .non):=by
 cases x with
 | non=>cases r; rfl
 | bl _=>cases r; rfl
 | int _=>obtain ⟨t,rfl⟩:=r; rfl
 | str _=>obtain ⟨t,rfl⟩:=r; rfl
 | byt _=>obtain ⟨t,rfl⟩:=r; rfl
 | flt _=>obtain ⟨t,rfl⟩:=r; rfl
 | ref _=>cases r; rfl
 | ty _=>cases r; rfl
theorem Ags {j pos'} (ha:PE X a ta):PC X .IsNot a (.Constant .none j pos') (AeK ta):=by
 intro pins s σ H Q I h
 refine thn (ha pins s σ H _ I h) fun v s1 ⟨x,H1,I1,r1,q1⟩=>?_
 exact Constant_none (isnot_none_gen ⟨.bl _,H1,I1,by rw [r1.none_iff]; rfl,q1⟩)
def tB (t:TE):TT:=fun σ H Q=>t σ H fun x H1=>∃ c,x = .bl c/\Q c H1
theorem Uh {op:CmpOp} {t:TE} (h:PC X op a b t) (h1:behindInMarks op b = false:=by first | exact Xq _ (by decide) (by decide) | rfl):PE X (.Compare a [op] [b] pos) t:=fun pins s σ H Q I hw=>wpAny_Compare1 (h pins s σ H Q I hw) h1
theorem Yo {op:CmpOp} {t:TE} (h:PC X op a b t) (h1:behindInMarks op b = false:=by first | exact Xq _ (by decide) (by decide) | rfl):PT X (.Compare a [op] [b] pos) (tB t):=by
 intro pins s σ H Q I hw
 refine wpAny_isTrue_Compare1 (thn (h pins s σ H _ I hw) fun v s1 h1=>thn h1 fun u s2 h2=>thn h2 fun c s3 ⟨x,H1,I1,r1,q1⟩=>?_) h1
 obtain ⟨d,rfl,q⟩:=q1
 cases r1
 exact wpAny_truthy_bool ⟨H1,I1,q⟩
theorem Nj {e:Expr} {t:TE} (h:PE X e t) (he:∀ whole,isTrue e X.env whole = (do let v <- whole; standAt e.pos; holding [v] (truthy v)):=by intro _; rfl):PT X e (tB t):=by
 intro pins s σ H Q I hw
 refine isTrue_plain (thn (h pins s σ H _ I hw) fun v s1 ⟨x,H1,I1,r1,q1⟩=>?_) (he _)
 obtain ⟨d,rfl,q⟩:=q1
 cases r1
 exact wpAny_truthy_bool ⟨H1,I1,q⟩
variable {tA tB':TT} {rest:List Expr}
def AiE (t u:TT):TT:=fun σ H Q=>t σ H fun c H1=>if c = true then u σ H1 Q else Q false H1
def tOr (t u:TT):TT:=fun σ H Q=>t σ H fun c H1=>if c = true then Q true H1 else u σ H1 Q
def AdC (t:TT):TT:=fun σ H Q=>t σ H fun c H1=>Q (!c) H1
theorem Agz (ha:PT X a tA):PW X (.BoolOp .And [a] pos) tA:=by
 intro wh pins s σ H Q I h
 refine isTrue_and (thn (ha pins s σ H Q I h) fun c s1 e=>?_)
 cases c with
 | true=>exact isTrue_and_nil e
 | false=>exact e
theorem Uo (ha:PT X a tA):PW X (.BoolOp .Or [a] pos) tA:=by
 intro wh pins s σ H Q I h
 refine isTrue_or (thn (ha pins s σ H Q I h) fun c s1 e=>?_)
 cases c with
 | false=>exact isTrue_or_nil e
 | true=>exact e
theorem AiX (ha:PT X a tA) (hb:PW X (.BoolOp .And (b :: rest) pos) tB'):PW X (.BoolOp .And (a :: b :: rest) pos) (AiE tA tB'):=by
 intro wh pins s σ H Q I h
 refine isTrue_and (thn (ha pins s σ H _ I h) fun c s1 ⟨H1,I1,q1⟩=>?_)
 cases c with
 | true=>exact hb wh pins s1 σ H1 Q I1 q1
 | false=>exact ⟨H1,I1,q1⟩
theorem We (ha:PT X a tA) (hb:PW X (.BoolOp .Or (b :: rest) pos) tB'):PW X (.BoolOp .Or (a :: b :: rest) pos) (tOr tA tB'):=by
 intro wh pins s σ H Q I h
 refine isTrue_or (thn (ha pins s σ H _ I h) fun c s1 ⟨H1,I1,q1⟩=>?_)
 cases c with
 | true=>exact ⟨H1,I1,q1⟩
 | false=>exact hb wh pins s1 σ H1 Q I1 q1
theorem Lj (ha:PT X a tA):PT X (.UnaryOp .Not a pos) (AdC tA):=by
 intro pins s σ H Q I h
 exact isTrue_not (ha pins s σ H (fun c H1=>Q (!c) H1) I h)
def Aa3 (ta tb:TE):TE:=fun σ H Q=>ta σ H fun x H1=>∃ c,x = .bl c/\if c = true then tb σ H1 Q else Q (.bl false) H1
def Aa6 (ta:TE):TE:=fun σ H Q=>ta σ H fun x H1=>∃ c,x = .bl c/\Q (.bl (!c)) H1
theorem Gp {op} {t:TE} (h:PE X a t):PE X (.BoolOp op [a] pos) t:=fun pins s σ H Q I hw=>BoolOp_one (h pins s σ H Q I hw)
theorem Ge (ha:PE X a ta) (hb:PE X (.BoolOp .And (b :: rest) pos) tb):PE X (.BoolOp .And (a :: b :: rest) pos) (Aa3 ta tb):=by
 intro pins s σ H Q I h
 refine BoolOp_and (thn (ha pins s σ H _ I h) fun v s1 ⟨x,H1,I1,r1,q1⟩=>?_)
 obtain ⟨c,rfl,q1⟩:=q1
 cases r1
 refine wpAny_truthy_bool ?_
 cases c with
 | true=>exact hb pins s1 σ H1 Q I1 q1
 | false=>exact ⟨.bl false,H1,I1,rfl,q1⟩
theorem Yn (ha:PE X a ta):PE X (.UnaryOp .Not a pos) (Aa6 ta):=by
 intro pins s σ H Q I h
 refine UnaryOp_ (thn (ha pins s σ H _ I h) fun v s1 ⟨x,H1,I1,r1,q1⟩=>?_)
 obtain ⟨c,rfl,q1⟩:=q1
 cases r1
 exact not_of (wpAny_truthy_bool ⟨.bl (!c),H1,I1,rfl,q1⟩)
end
end L2
namespace L2
open PySem PySem.Spec PyProof.Rows
def SqL (K:PySem.W.Frag) (H:Hp) (a:Addr) (xs:List V):Prop :=
 Rd H a (.lst xs) \/
  ∃ (o:Obj) (its:Array Value) (n:Nat),K.lookup a = some o/\o.cls = .type "list"/\o.dict = none/\o.data = .seq its n/\its.size <= sizeLine/\Vals xs its.toList
def SqT (K:PySem.W.Frag) (H:Hp) (a:Addr) (xs:List V):Prop :=
 Rd H a (.tup xs) \/
  ∃ (o:Obj) (its:Array Value) (n:Nat),K.lookup a = some o/\o.cls = .type "tuple"/\o.data = .seq its n/\its.size <= sizeLine/\Vals xs its.toList
def AkS:Value->Option V
 | .none=>some .non
 | .bool b=>some (.bl b)
 | .int i _=>some (.int i)
 | .str x _=>some (.str x)
 | .bytes b _=>some (.byt b)
 | .float b _=>some (.flt b)
 | .ref a=>some (.ref a)
 | .type n=>some (.ty n)
 | _=>none
theorem RelV.abs {x:V} {u:Value} (r:RelV x u):AkS u = some x:=by
 cases x with
 | non=>cases r; rfl
 | bl _=>cases r; rfl
 | int _=>obtain ⟨t,rfl⟩:=r; rfl
 | str _=>obtain ⟨t,rfl⟩:=r; rfl
 | byt _=>obtain ⟨t,rfl⟩:=r; rfl
 | flt _=>obtain ⟨t,rfl⟩:=r; rfl
 | ref _=>cases r; rfl
 | ty _=>cases r; rfl
theorem RelV.inj {x y:V} {u:Value} (r:RelV x u) (q:RelV y u):x = y:=Option.some.inj (r.abs.symm.trans q.abs)
theorem Vals.inj:∀ {xs ys:List V} {us:List Value},Vals xs us->Vals ys us->xs = ys
 | _,_,_,.nil,.nil=>rfl
 | _,_,_,.cons r t,.cons r' t'=>by rw [r.inj r',Vals.inj t t']
section
variable {X:Cx} {pins:List (Addr × Obj)} {σ:St} {H:Hp} {s:Shared} {a:Addr} {xs ys:List V}
theorem SqL.of {K:PySem.W.Frag} (h:H a = some (.lst xs)):SqL K H a xs:=.inl (.inl h)
theorem SqT.of {K:PySem.W.Frag} (h:H a = some (.tup xs)):SqT K H a xs:=.inl (.inl h)
theorem Inv.list (I:Inv X pins σ H s) (h:SqL X.K H a xs):∃ its:List Value,Vals xs its/\PlainL s.heap a its.toArray/\xs.length <= sizeLine:=by
 rcases h with h | ⟨o,its,n,hk,hc,hd,hs,hz,r⟩
 ·obtain ⟨z,its,n,r,e⟩:=h.ok I.hok
  exact ⟨its,r,⟨_,n,e,rfl,rfl,rfl⟩,z⟩
 ·refine ⟨its.toList,r,⟨o,n,I.kIn a o hk,hc,hd,by simpa using hs⟩,?_⟩
  have e:=r.length
  simp only [Array.length_toList] at e
  omega
theorem Inv.tuple (I:Inv X pins σ H s) (h:SqT X.K H a xs):∃ its:List Value,Vals xs its/\IsTup s.heap a its.toArray/\xs.length <= sizeLine:=by
 rcases h with h | ⟨o,its,n,hk,hc,hs,hz,r⟩
 ·obtain ⟨z,its,r,p⟩:=h.ok I.hok
  exact ⟨its,r,p,z⟩
 ·refine ⟨its.toList,r,⟨o,I.kIn a o hk,hc,n,by simpa using hs⟩,?_⟩
  have e:=r.length
  simp only [Array.length_toList] at e
  omega
theorem Inv.list_inj (I:Inv X pins σ H s) (h:SqL X.K H a xs) (h':SqL X.K H a ys):xs = ys:=by
 obtain ⟨its,r,⟨o,n,e,_,_,d⟩,_⟩:=I.list h
 obtain ⟨its',r',⟨o',n',e',_,_,d'⟩,_⟩:=I.list h'
 rw [e] at e'; cases e'
 rw [d] at d'
 injection d' with d1 _
 have:its = its':=by simpa using congrArg Array.toList d1
 subst this
 exact r.inj r'
end
abbrev Cx.wish (X:Cx) (E:Value->Shared->Prop):Cx:={ X with xe:=E }
abbrev Cx.nox (X:Cx):Cx:=X.wish fun _ _=>False
theorem Cx.Ok.wish {X:Cx} (ok:X.Ok) (E:Value->Shared->Prop):(X.wish E).Ok :=
 ⟨ok.mod,ok.kind,ok.glob,ok.blt,ok.above,ok.inj,ok.has,ok.cab,ok.hd,ok.frames,ok.stk,ok.exf,ok.bs,ok.bsz,ok.noex,ok.exfs,ok.funs,ok.frf⟩
theorem Cx.Ok.unwish {X:Cx} {E:Value->Shared->Prop} (ok:(X.wish E).Ok):X.Ok :=
 ⟨ok.mod,ok.kind,ok.glob,ok.blt,ok.above,ok.inj,ok.has,ok.cab,ok.hd,ok.frames,ok.stk,ok.exf,ok.bs,ok.bsz,ok.noex,ok.exfs,ok.funs,ok.frf⟩
section
variable {X:Cx} {pins:List (Addr × Obj)} {σ:St} {H:Hp} {s:Shared} {E:Value->Shared->Prop}
theorem Inv.wish (I:Inv X pins σ H s) (E:Value->Shared->Prop):Inv (X.wish E) pins σ H s:=⟨I.ok.wish E,I.os,I.bare,I.base,I.loc,I.cell,I.free,I.freeC,I.pin,I.hok,I.len⟩
theorem Inv.unwish (I:Inv (X.wish E) pins σ H s):Inv X pins σ H s:=⟨I.ok.unwish,I.os,I.bare,I.base,I.loc,I.cell,I.free,I.freeC,I.pin,I.hok,I.len⟩
end
section
variable {X:Cx} {st:Stmt} {rest:List Stmt} {t u:TS} {e:Expr} {te:TE} {pos:Pos}
def AaP:TS:=fun D σ H=>D.nx σ H
def Adv (t u:TS):TS:=fun D σ H=>t { D with nx:=u D } σ H
theorem Dr:PSs X [] AaP:=fun _ _ σ H _ I h=>wpAny_execs_nil ⟨σ,H,I,h⟩
theorem Bd (h1:PS X st t) (h2:PSs X rest u):PSs X (st :: rest) (Adv t u):=by
 intro pins s σ H D I h
 refine wpAny_execs_cons (thn (h1 pins s σ H { D with nx:=u D } I h) fun f s1 q=>?_)
 cases f with
 | next =>
  obtain ⟨σ',H',I',q⟩:=q
  exact h2 pins s1 σ' H' D I' q
 | ret v=>exact q
 | brk=>exact q
 | cont=>exact q
theorem Bi (h1:PS X st t):PSs X [st] t:=by
 intro pins s σ H D I h
 refine wpAny_execs_cons (thn (h1 pins s σ H D I h) fun f s1 q=>?_)
 cases f with
 | next=>exact wpAny_execs_nil q
 | ret v=>exact q
 | brk=>exact q
 | cont=>exact q
theorem Inv.quiet {pins:List (Addr × Obj)} {σ:St} {H:Hp} {s:Shared} (I:Inv X pins σ H s):interactive X.env = false:=by simp [interactive,I.ok.kind]
def Sv (te:TE):TS:=fun D σ H=>te σ H fun _ H1=>D.nx σ H1
theorem Cb (he:PE X e te) (hs:swapsWith e none pos.line X.env = pure false:=by rfl):PS X (.Expr e pos) (Sv te):=by
 intro pins s σ H D I h
 exact wpAny_Expr_any (thn (he pins s σ H _ I h) fun v s1 ⟨x,H1,I1,r1,q1⟩=>⟨σ,H1,I1,q1⟩) I.quiet hs
def Vh (te:TE):TS:=fun D σ H=>te σ H D.rt
theorem Cd (he:PE X e te):PS X (.Return (some e) pos) (Vh te):=by
 intro pins s σ H D I h
 exact wpAny_Return_some (thn (he pins s σ H _ I h) fun v s1 ⟨x,H1,I1,r1,q1⟩=>⟨x,σ,H1,I1,r1,q1⟩)
def AdH (c:TT) (t u:TS):TS:=fun D σ H=>c σ H fun b H1=>if b = true then t D σ H1 else u D σ H1
theorem Fe {c:Expr} {a b:List Stmt} {tc:TT} (hc:PT X c tc) (ha:PSs X a t) (hb:PSs X b u):PS X (.If c a b pos) (AdH tc t u):=by
 intro pins s σ H D I h
 refine wpAny_If (thn (hc pins s σ H _ I h) fun d s1 ⟨H1,I1,q1⟩=>?_)
 cases d with
 | true=>exact ha pins s1 σ H1 D I1 q1
 | false=>exact hb pins s1 σ H1 D I1 q1
end
abbrev TG:=V->St->Hp->(St->Hp->Prop)->Prop
abbrev TGs:=List V->St->Hp->(St->Hp->Prop)->Prop
def PG (X:Cx) (target:Expr) (t:TG):Prop :=
 ∀ (pins:List (Addr × Obj)) (s:Shared) (σ:St) (H:Hp) (v:V) (u:Value) (Q:St->Hp->Prop),Inv X pins σ H s->RelV v u->t v σ H Q ->
  wpAny (model X.prog X.w) X.A (assign target X.env u) (fun _ s'=>∃ σ' H',Inv X pins σ' H' s'/\Q σ' H') X.xe s
def PGs (X:Cx) (ts:List Expr) (t:TGs):Prop :=
 ∀ (pins:List (Addr × Obj)) (s:Shared) (σ:St) (H:Hp) (vs:List V) (us:List Value) (Q:St->Hp->Prop),Inv X pins σ H s->Vals vs us->t vs σ H Q ->
  wpAny (model X.prog X.w) X.A (assignInOrder ((assignEach ts X.env).map (·.2)) us) (fun _ s'=>∃ σ' H',Inv X pins σ' H' s'/\Q σ' H') X.xe s
section
variable {X:Cx} {pos:Pos}
def La (i:Nat):TG:=fun v σ H Q=>Q (σ.set i (some v)) H
theorem Bu {i:Nat} {x:Str} (hN:X.N.Nodup) (hi:X.N[i]? = some x) (hx:Loc X.env.scope x) (hf:X.fn x = true\/X.env.scope.names.lookup x = some .local:=by first | exact .inl rfl | exact .inr rfl | assumption):PG X (.Name x pos) (La i):=by
 intro pins s σ H v u Q I r h
 exact wpAny_assign_Name (Rg I hN hi hx r (fun s' I'=>⟨_,H,I',h⟩) hf)
def AdL:TGs:=fun vs σ H Q=>vs = []/\Q σ H
def Aa2 (t:TG) (u:TGs):TGs:=fun vs σ H Q=>∃ v r,vs = v :: r/\t v σ H fun σ' H'=>u r σ' H' Q
theorem Fr:PGs X [] AdL:=by
 intro pins s σ H vs us Q I r h
 obtain ⟨e,h⟩:=h
 subst e
 cases r
 exact assignInOrder_nil ⟨σ,H,I,h⟩
theorem Ce {e:Expr} {es:List Expr} {t:TG} {u:TGs} (h1:PG X e t) (h2:PGs X es u)
  (hs:(assignEach (e :: es) X.env).map (·.2) = assign e X.env :: (assignEach es X.env).map (·.2):=by rfl):PGs X (e :: es) (Aa2 t u):=by
 intro pins s σ H vs us Q I r h
 obtain ⟨v,vr,e1,h⟩:=h
 subst e1
 cases r with
 | cons r rr =>
  rw [hs]
  refine assignInOrder_cons (thn (h1 pins s σ H _ _ _ I r h) fun _ s1 ⟨σ1,H1,I1,q1⟩=>?_)
  exact h2 pins s1 σ1 H1 _ _ Q I1 rr q1
def Wv (K:PySem.W.Frag) (n:Nat) (t:TGs):TG:=fun v σ H Q=>∃ a xs,v = .ref a/\SqT K H a xs/\xs.length = n/\t xs σ H Q
theorem Nf {es:List Expr} {k:Nat} {t:TGs} {n:Nat} (hc:X.calm = true) (h:PGs X es t)
  (hn:(assignEach es X.env).length = n:=by rfl) (hst:(assignEach es X.env).findIdx? (·.1) = none:=by rfl):PG X (.Tuple es k pos) (Wv X.K n t):=by
 intro pins s σ H v u Q I r hw
 obtain ⟨a,xs,e1,hq,hl,hw⟩:=hw
 subst e1
 cases r
 obtain ⟨its,rv,ht,hz⟩:=I.tuple hq
 refine assign_Tuple_tuple (I.ok.hd hc) ht (by simp [hn,<- hl,rv.length]) hst fun h' hx=>?_
 have I1:Inv X pins σ H { s with heap:=h' }:=I.kept (t':=s.toks) fun b o e=>hx b o (Nat.ne_of_lt (Heap.lt_size e)) e
 exact h pins _ σ H xs _ Q I1 (by simpa using rv) hw
def Qk (te:TE) (g:TG):TS:=fun D σ H=>te σ H fun x H1=>g x σ H1 D.nx
theorem AhH {tg e:Expr} {te:TE} {g:TG} (he:PE X e te) (hg:PG X tg g) (hs:swapsWithSole [tg] e pos.line X.env = pure false:=by rfl) (hw:swappedStores [tg] e X.env = pure none:=by rfl)
  (h1:(assignEach [tg] X.env).map (·.2) = [assign tg X.env]:=by rfl):PS X (.Assign [tg] e pos) (Qk te g):=by
 intro pins s σ H D I h
 refine wpAny_Assign_stores (thn (he pins s σ H _ I h) fun v s1 ⟨x,H1,I1,r1,q1⟩=>?_) hs hw
 rw [h1]
 exact thn (hg pins s1 σ H1 x v _ I1 r1 q1) fun _ s2 q=>q
theorem Bs {i:Nat} {x:Str} {e:Expr} {te:TE} {pos':Pos} (hN:X.N.Nodup) (hi:X.N[i]? = some x) (hx:Loc X.env.scope x) (he:PE X e te) (hs:swapsWith e (some (.Name x pos')) pos.line X.env = pure false:=by rfl) (hf:X.fn x = true\/X.env.scope.names.lookup x = some .local:=by first | exact .inl rfl | exact .inr rfl | assumption) :
  PS X (.Assign [.Name x pos'] e pos) (Qk te (La i)):=by
 intro pins s σ H D I h
 refine wpAny_Assign_Name (thn (he pins s σ H _ I h) fun v s1 ⟨y,H1,I1,r1,q1⟩=>?_) hs
 exact Rg I1 hN hi hx r1 (fun s2 I2=>⟨_,H1,I2,q1⟩) hf
end
section
variable {X:Cx} {pos:Pos}
end
structure It where
 go:Nat->Hp->Prop
 yld:Nat->Hp->V->Hp->Prop
 stop:Nat->Hp->Prop
def Sf (X:Cx) (pins:List (Addr × Obj)) (H:Hp) (b:Addr):Prop :=
 H b = none/\b ≠ X.env.locals/\b ∉ X.fs/\(b ∈ X.ex\/X.s₀.heap.objs.size <= b)/\(∀ x c,X.env.cells.lookup x = some c->c ≠ b)/\∀ p ∈ X.pn ++ pins,p.1 ≠ b
theorem Inv.fpOk {X:Cx} {pins:List (Addr × Obj)} {σ:St} {H H':Hp} {s:Shared} {b:Addr} (I:Inv X pins σ H s) (hb:s.heap.objs.size <= b) (hn:H' b = none):Sf X pins H' b:=by
 refine ⟨hn,Nat.ne_of_gt (Nat.lt_of_lt_of_le I.lt hb),I.nofs hb,.inr (Nat.le_trans I.sz hb),fun x c e z=>?_,fun p hp z=>?_⟩
 ·obtain ⟨v,q⟩:=I.cell x c e
  exact absurd (Nat.lt_of_lt_of_le q.lt (by rw [z]; exact hb)) (Nat.lt_irrefl _)
 ·exact absurd (Nat.lt_of_lt_of_le (Heap.lt_size (I.pin p hp).1) (by rw [z]; exact hb)) (Nat.lt_irrefl _)
structure Uz (P:Program) (w:World) (K:PySem.W.Frag) (tg:Expr) (J:It) (fp:List Addr) (it:Addr) (tn:Nat->Heap->Prop):Prop where
 mem:it ∈ fp
 obj:∀ i h,tn i h->∀ b ∈ fp,∃ o,h.get? b = some o/\∀ v,o.data ≠ .cell v
 keep:∀ i h h',tn i h->(∀ b ∈ fp,∀ o,h.get? b = some o->h'.get? b = some o)->tn i h'
 item:∀ (X:Cx),X.prog = P->X.w = w->X.K = K->X.calm = true->∀ (i:Nat) (pins:List (Addr × Obj)) (s:Shared) (σ:St) (H:Hp) (E:Value->Shared->Prop),Inv X pins σ H s->(∀ b ∈ fp,Sf X pins H b)->tn i s.heap->J.go i H ->
  wpAny (model P w) X.A (pyNext (.ref it)) (fun r s1=>∃ u,r = some u /\
   wpAny (model P w) X.A (letOwnedTupleGo tg (.ref it) u) (fun _ s2=>∃ x H',Inv X pins σ H' s2/\RelV x u/\J.yld i H x H'/\tn (i + 1) s2.heap/\∀ b ∈ fp,H' b = none) E s1) E s
 done:∀ (X:Cx),X.prog = P->X.w = w->X.K = K->X.calm = true->∀ (i:Nat) (pins:List (Addr × Obj)) (s:Shared) (σ:St) (H:Hp) (E:Value->Shared->Prop),Inv X pins σ H s->(∀ b ∈ fp,Sf X pins H b)->tn i s.heap->J.stop i H ->
  wpAny (model P w) X.A (pyNext (.ref it)) (fun r s1=>r = none/\Inv X pins σ H s1) E s
 self:∀ (A:Around) (i:Nat) (s:Shared) (Q:Value->Shared->Prop) (E:Value->Shared->Prop),tn i s.heap->Q (.ref it) s->wpAny (model P w) A (pyIter (.ref it)) Q E s
abbrev TI:=St->Hp->(It->Hp->Prop)->Prop
def PIE (X:Cx) (pins:List (Addr × Obj)) (σ:St) (tg:Expr) (R:It->Hp->Prop) (itv:Value) (s2:Shared):Prop :=
 ∃ (it:Addr) (fp:List Addr) (tn:Nat->Heap->Prop) (J:It) (H':Hp),itv = .ref it/\Inv X pins σ H' s2/\Uz X.prog X.w X.K tg J fp it tn/\tn 0 s2.heap/\(∀ b ∈ fp,Sf X pins H' b)/\R J H'
def PI (X:Cx) (tg iter:Expr) (wi:TI):Prop :=
 ∀ (pins:List (Addr × Obj)) (s:Shared) (σ:St) (H:Hp) (R:It->Hp->Prop),Inv X pins σ H s->wi σ H R ->
  wpAny (model X.prog X.w) X.A (eval iter X.env) (fun v s1=>wpAny (model X.prog X.w) X.A (pyIter v) (PIE X pins σ tg R) X.xe s1) X.xe s
theorem Aaw {M:Model} {A:Around} {E:Value->Shared->Prop} {s:Shared} {tg:Expr} {it:Addr} {u:Value} {o:Obj} {n:String} {vs:Array Value} {Q:Unit->Shared->Prop} (ho:s.heap.get? it = some o) (hc:o.cls = .type n) (hd:o.data = .fields vs)
  (hn:["enumerate","zip","dict_itemiterator","dict_reverseitemiterator","odict_iterator","itertools.zip_longest","itertools.pairwise"].contains n = false) (hQ:Q () s):wpAny M A (letOwnedTupleGo tg (.ref it) u) Q E s:=by
 unfold letOwnedTupleGo
 cases tg <;> first
  | exact wpAny_pure hQ
  | (cases u <;> first
    | exact wpAny_pure hQ
    | (refine wpAny_bind (wpAny_load ho ?_); rw [hc,hd]; show wpAny M A (if (["enumerate","zip","dict_itemiterator","dict_reverseitemiterator","odict_iterator","itertools.zip_longest","itertools.pairwise"].contains n && vs[0]? == some (rawInt _)) = true then _ else _) Q E s; rw [if_neg (by intro h; rw [hn,Bool.false_and] at h; cases h)]; exact wpAny_pure hQ))
def Itl (K:PySem.W.Frag) (a:Addr):It :=
 ⟨fun i H=>∃ xs x,SqL K H a xs/\xs[i]? = some x,fun i H x H'=>H' = H/\∀ xs,SqL K H a xs->xs[i]? = some x,fun i H=>∃ xs,SqL K H a xs/\xs.length <= i⟩
def Itr (lo:Int) (n:Nat):It:=⟨fun i _=>i < n,fun i H x H'=>H' = H/\x = .int (lo + i),fun i _=>n <= i⟩
theorem AbB {P:Program} {w:World} {K:PySem.W.Frag} {tg:Expr} (a it:Addr):Uz P w K tg (Itl K a) [it] it (fun i h=>h.IsListIter it a i) where
 mem:=by simp
 obj:=fun i h st b hb=>by
  have e:b = it:=by simpa using hb
  subst e
  obtain ⟨o,e,c,d⟩:=st
  exact ⟨o,e,fun v z=>by rw [d] at z; cases z⟩
 keep:=fun i h h' st k=>st.at fun o e=>k it (by simp) o e
 item:=by
  intro X hP hw hK hc i pins s σ H E I hf st hg
  subst hP hw hK
  obtain ⟨xs,x,hq,hx⟩:=hg
  obtain ⟨its,rv,p,hz⟩:=I.list hq
  obtain ⟨u,hu,ru⟩:=rv.get hx
  obtain ⟨f0,f1,f2,f3,f4,f5⟩:=hf it (by simp)
  refine wpAny_pyNext_list_item st p.isList (x:=u) (by simpa using hu) fun h' st' sb=>?_
  have I1:Inv X pins σ H { s with heap:=h' }:=I.turned (t':=s.toks) (fun b o hb e=>(sb.2 b hb).trans e) f0 f1 f3 f4 f5
  obtain ⟨o,e,c,d⟩:=id st'
  exact ⟨u,rfl,Aaw (s:={ s with heap:=h' }) e c d (by decide) ⟨x,H,I1,ru,⟨rfl,fun ys hy=>by rw [I.list_inj hy hq]; exact hx⟩,st',fun b hb=>(hf b hb).1⟩⟩
 done:=by
  intro X hP hw hK hc i pins s σ H E I hf st hg
  subst hP hw hK
  obtain ⟨xs,hq,hx⟩:=hg
  obtain ⟨its,rv,p,hz⟩:=I.list hq
  obtain ⟨f0,f1,f2,f3,f4,f5⟩:=hf it (by simp)
  have hl:=rv.length
  exact wpAny_pyNext_list_end (I.ok.hd hc) st p.isList (by simp; omega) fun h' eb=>⟨rfl,I.turned (t':=s.toks) (fun b o hb e=>eb b o hb e) f0 f1 f3 f4 f5⟩
 self:=fun _ _ _ _ _ st h=>wpAny_pyIter_listiter st h
theorem Abi {P:Program} {w:World} {K:PySem.W.Frag} {tg:Expr} (it:Addr) (lo:Int) (n:Nat):Uz P w K tg (Itr lo n) [it] it (fun i h=>IsRangeIter h it (lo + (i:Nat) * 1) ((n:Int) - (i:Nat)) 1) where
 mem:=by simp
 obj:=fun i h st b hb=>by
  have e:b = it:=by simpa using hb
  subst e
  exact ⟨_,st,fun v z=>by
   have z':Data.fields _ = Data.cell v:=z
   cases z'⟩
 keep:=fun i h h' st k=>k it (by simp) _ st
 item:=by
  intro X hP hw hK hc i pins s σ H E I hf st hg
  subst hP hw hK
  obtain ⟨f0,f1,f2,f3,f4,f5⟩:=hf it (by simp)
  have W:=Walks.range (prog:=X.prog) (w:=X.w) (I.ok.hd hc) it lo 1 n
  refine W.item i s _ _ hg st fun v h' tk hv st' kk=>?_
  obtain ⟨t,rfl⟩:=hv
  have I1:Inv X pins σ H { s with heap:=h',toks:=tk }:=I.turned (fun b o hb e=>kk b o (by simpa using hb) e) f0 f1 f3 f4 f5
  refine ⟨_,rfl,Aaw (s:={ s with heap:=h',toks:=tk }) (n:="range_iterator") st' rfl rfl (by decide) ⟨.int (lo + i),H,I1,⟨t,?_⟩,⟨rfl,rfl⟩,st',fun b hb=>(hf b hb).1⟩⟩
  rw [Int.mul_one]
 done:=by
  intro X hP hw hK hc i pins s σ H E I hf st hg
  subst hP hw hK
  obtain ⟨f0,f1,f2,f3,f4,f5⟩:=hf it (by simp)
  exact wpAny_pyNext_range_end (I.ok.hd hc) st (by have:n <= i:=hg; omega) fun h' eb=>⟨rfl,I.turned (t':=s.toks) (fun b o hb e=>eb b o hb e) f0 f1 f3 f4 f5⟩
 self:=fun _ _ _ _ _ st h=>wpAny_pyIter_rangeiter st h
end L2
namespace L2
open PySem PySem.Spec PyProof.Rows
section
variable {X:Cx} {tg:Expr}
def Qh (K:PySem.W.Frag) (tl:TE):TI:=fun σ H R=>tl σ H fun x H1=>∃ a,x = .ref a/\(∃ xs,SqL K H1 a xs)/\R (Itl K a) H1
theorem Cr {l:Expr} {tl:TE} (hl:PE X l tl):PI X tg l (Qh X.K tl):=by
 intro pins s σ H R I h
 refine thn (hl pins s σ H _ I h) fun v s1 ⟨x,H1,I1,r1,q1⟩=>?_
 obtain ⟨a,e,⟨xs,hq⟩,q⟩:=q1
 subst e
 cases r1
 obtain ⟨its,rv,p,hz⟩:=I1.list hq
 refine wpAny_pyIter_list p.isList ?_
 refine ⟨s1.heap.objs.size,[s1.heap.objs.size],_,_,H1,rfl,I1.kept (t':=s1.toks) fun b o e=>Heap.get?_push_of_some _ e,AbB a _,⟨_,Heap.get?_push_size _ rfl,rfl,rfl⟩,fun b hb=>?_,q⟩
 have e:b = s1.heap.objs.size:=by simpa using hb
 subst e
 exact I1.fpOk (Nat.le_refl _) (I1.hok.fresh (Nat.le_refl _))
theorem Yp {pins:List (Addr × Obj)} {σ:St} {H:Hp} {s:Shared} {R:It->Hp->Prop} {E:Value->Shared->Prop} {lo hi:Int} {t u v:Tok} {tk:Nat} (I:Inv X pins σ H s) (h1:-(2 ^ 62) <= lo) (h2:lo < 2 ^ 62) (h3:-(2 ^ 62) <= hi) (h4:hi < 2 ^ 62)
  (q:R (Itr lo (hi - lo).toNat) H):wpAny (model X.prog X.w) X.A (pyIter (.ref s.heap.objs.size)) (PIE X pins σ tg R) E { s with heap:=s.heap.push { cls:=.type "range",data:=.fields #[.int lo t,.int hi u,.int 1 v] },toks:=tk }:=by
 refine wpAny_pyIter_range (IsRange.new ..) (small_one h1 h2 h3 h4) ?_
 have I1:Inv X pins σ H { s with heap:=s.heap.push { cls:=.type "range",data:=.fields #[.int lo t,.int hi u,.int 1 v] },toks:=tk }:=I.kept fun b o e=>Heap.get?_push_of_some _ e
 refine ⟨(s.heap.push { cls:=.type "range",data:=.fields #[.int lo t,.int hi u,.int 1 v] }).objs.size,[(s.heap.push { cls:=.type "range",data:=.fields #[.int lo t,.int hi u,.int 1 v] }).objs.size],_,_,H,rfl,
  I1.kept (t':=tk) fun b o e=>Heap.get?_push_of_some _ e,Abi _ lo (hi - lo).toNat,?_,fun b hb=>?_,q⟩
 ·have e1:lo + ((0:Nat):Int) * 1 = lo:=by simp
  have e2:(((hi - lo).toNat:Nat):Int) - ((0:Nat):Int) = Builtin.Range.rangeSize lo hi 1:=by rw [rangeSize_one]; split <;> omega
  show IsRangeIter _ _ (lo + ((0:Nat):Int) * 1) ((((hi - lo).toNat:Nat):Int) - ((0:Nat):Int)) 1
  rw [e1,e2]
  exact Heap.get?_push_size _ rfl
 ·have e:b = (s.heap.push { cls:=.type "range",data:=.fields #[.int lo t,.int hi u,.int 1 v] }).objs.size:=by simpa using hb
  subst e
  exact I1.fpOk (Nat.le_refl _) (I1.hok.fresh (Nat.le_refl _))
def Um (ta:TA):TI:=fun σ H R=>ta σ H fun vs H1=>∃ j:Int,vs = [.int j]/\-(2 ^ 62) <= j/\j < 2 ^ 62/\R (Itr 0 j.toNat) H1
def AeY (ta:TA):TI:=fun σ H R=>ta σ H fun vs H1=>∃ i j:Int,vs = [.int i,.int j]/\(-(2 ^ 62) <= i/\i < 2 ^ 62/\-(2 ^ 62) <= j/\j < 2 ^ 62)/\R (Itr i (j - i).toNat) H1
theorem Sk {a:Expr} {ta:TA} {p pos:Pos} (hg:Gl X "range") (hm:X.mg "range" = none) (ha:PA X [a] ta) (hs:starEach [a] X.env = [(false,eval a X.env)]:=by rfl):PI X tg (.Call (.Name "range" p) [a] [] pos) (Um ta):=by
 intro pins s σ H R I h
 refine Call_ (Oq I hg hm boot_range (PyProof.Rows.callWith_type1 (thn (ha pos pins s σ H _ I h) fun us s1 ⟨vs,H1,I1,r1,q1⟩=>?_) hs rfl))
 obtain ⟨j,e,q1,q2,q⟩:=q1
 subst e
 cases r1 with
 | cons r rr =>
  cases rr
  obtain ⟨t,rfl⟩:=r
  exact call_range_1 (Yp I1 (by omega) (by omega) q1 q2 (by simpa using q))
theorem Ac4 {a b:Expr} {ta:TA} {p pos:Pos} (hg:Gl X "range") (hm:X.mg "range" = none) (ha:PA X [a,b] ta) (hs:starEach [a,b] X.env = [(false,eval a X.env),(false,eval b X.env)]:=by rfl) (hs2:starEach [b] X.env = [(false,eval b X.env)]:=by rfl) :
  PI X tg (.Call (.Name "range" p) [a,b] [] pos) (AeY ta):=by
 intro pins s σ H R I h
 refine Call_ (Oq I hg hm boot_range (PyProof.Rows.callWith_type1 (thn (ha pos pins s σ H _ I h) fun us s1 ⟨vs,H1,I1,r1,q1⟩=>?_) (by rw [hs,hs2]) (by rw [hs2]; rfl)))
 obtain ⟨i,j,e,⟨q1,q2,q3,q4⟩,q⟩:=q1
 subst e
 cases r1 with
 | cons r rr =>
  cases rr with
  | cons r' rr =>
   cases rr
   obtain ⟨t,rfl⟩:=r
   obtain ⟨t',rfl⟩:=r'
   exact call_range_2 (Yp I1 q1 q2 q3 q4 q)
def Nh (wi:TI) (g:TG) (tb:TS):TS:=fun D σ H=>wi σ H fun J H1=>∃ W:Nat->Nat->St->Hp->Prop,(∃ m,W 0 m σ H1)/\∀ i m σ H,W i m σ H ->
 (J.stop i H/\D.nx σ H)\/(J.go i H/\∃ N:St->Hp->Prop,(∀ σ' H',N σ' H'->∃ m',m' < m/\W (i + 1) m' σ' H')/\∀ x H',J.yld i H x H'->g x σ H' fun σ2 H2=>tb { D with nx:=N,ct:=N,bk:=D.nx } σ2 H2)
def So (fp:List Addr) (h:Heap):List (Addr × Obj):=fp.filterMap fun b=>(h.get? b).map fun o=>(b,o)
theorem Ls {fp:List Addr} {h:Heap} {b:Addr} {o:Obj} (hb:b ∈ fp) (e:h.get? b = some o):(b,o) ∈ So fp h:=List.mem_filterMap.mpr ⟨b,hb,by rw [e]; rfl⟩
theorem AcA {fp:List Addr} {h:Heap} {p:Addr × Obj} (hp:p ∈ So fp h):p.1 ∈ fp/\h.get? p.1 = some p.2:=by
 obtain ⟨b,hb,e⟩:=List.mem_filterMap.mp hp
 cases q:h.get? b with
 | none=>rw [q] at e; cases e
 | some o =>
  rw [q] at e
  have e':(b,o) = p:=Option.some.inj e
  subst e'
  exact ⟨hb,q⟩
theorem Inv.pinned {pins:List (Addr × Obj)} {σ:St} {H:Hp} {s:Shared} {fp:List Addr} (I:Inv X pins σ H s) (hf:∀ b ∈ fp,Sf X pins H b) (ho:∀ b ∈ fp,∃ o,s.heap.get? b = some o/\∀ v,o.data ≠ .cell v):Inv X (pins ++ So fp s.heap) σ H s :=
 I.pins_of fun p hp=>(List.mem_append.mp hp).elim (fun z=>I.pin p (List.mem_append_right _ z)) fun z=>by
  obtain ⟨hb,e⟩:=AcA z
  obtain ⟨f0,f1,f2,_⟩:=hf p.1 hb
  obtain ⟨o,e',d⟩:=ho p.1 hb
  rw [e] at e'; cases e'
  exact ⟨e,f0,f1,f2,d⟩
theorem Inv.unpinned {pins pl:List (Addr × Obj)} {σ:St} {H:Hp} {s:Shared} (I:Inv X (pins ++ pl) σ H s):Inv X pins σ H s:=I.pins_of fun p hp=>I.pin p (List.mem_append_right _ (List.mem_append_left _ hp))
theorem Dh {iter:Expr} {body:List Stmt} {wi:TI} {g:TG} {tb:TS} {pos:Pos} (hp:PassesOwn (model X.prog X.w) X.A X.env X.xe) (hc:X.calm = true) (hi:PI X tg iter wi) (hg:PG X tg g) (hb:PSs X body tb)
  (hs:∀ x,foldedSetIterable iter X.env x = pure x:=by intro _; rfl):PS X (.For tg iter body [] pos) (Nh wi g tb):=by
 intro pins s σ H D I h
 refine wpAny_For (thn (hi pins s σ H _ I h) fun v s1 h1=>thn h1 fun itv s2 h2=>?_) hs
 obtain ⟨it,fp,tn,J,H2,e,I2,T,st2,f2,W,⟨m0,w0⟩,turn⟩:=h2
 subst e
 -- what stays true of the iterator's objects through the loop
 have stat:∀ {H':Hp},(∀ b ∈ fp,H' b = none)->∀ b ∈ fp,Sf X pins H' b:=fun hn b hb=>⟨hn b hb,(f2 b hb).2⟩
 refine codeAny_forLoop_any (fun n s'=>∃ i σ' H',Inv X pins σ' H' s'/\tn i s'.heap/\(∀ b ∈ fp,H' b = none)/\W i n σ' H') ?_ m0 ⟨0,σ,H2,I2,st2,fun b hb=>(f2 b hb).1,w0⟩
 rintro n s3 ⟨i,σ3,H3,I3,st3,fr3,w3⟩
 rcases turn i n σ3 H3 w3 with ⟨stop,qn⟩ | ⟨go,N,hN,step⟩
 ·refine wpAny_passesOwn hp (thn (T.done X rfl rfl rfl hc i pins s3 σ3 H3 X.xe I3 (stat fr3) st3 stop) fun r s4 ⟨hr,I4⟩=>?_)
  subst hr
  exact wpAny_execs_nil ⟨σ3,H3,I4,qn⟩
 ·refine wpAny_passesOwn hp (thn (T.item X rfl rfl rfl hc i pins s3 σ3 H3 X.xe I3 (stat fr3) st3 go) fun r s4 ⟨u,hr,h4⟩=>?_)
  subst hr
  refine wpAny_passesOwn hp (thn h4 fun _ s5 ⟨x,H5,I5,r5,y5,st5,fr5⟩=>?_)
  have I5':=I5.pinned (stat fr5) (T.obj _ _ st5)
  refine wpAny_passesOwn hp (thn (hg _ s5 σ3 H5 x u _ I5' r5 (step x H5 y5)) fun _ s6 ⟨σ6,H6,I6,q6⟩=>?_)
  refine wpAny_passesOwn hp (thn (hb _ s6 σ6 H6 _ I6 q6) fun f s7 q7=>?_)
  have again:∀ {σ7:St} {H7:Hp},Inv X (pins ++ So fp s5.heap) σ7 H7 s7->N σ7 H7->∃ m,m < n/\∃ i σ' H',Inv X pins σ' H' s7/\tn i s7.heap/\(∀ b ∈ fp,H' b = none)/\W i m σ' H':=fun {σ7 H7} I7 n7=>by
   obtain ⟨m',hm,w7⟩:=hN σ7 H7 n7
   refine ⟨m',hm,i + 1,σ7,H7,I7.unpinned,T.keep _ _ _ st5 fun b hb o e=>(I7.pin (b,o) (List.mem_append_right _ (List.mem_append_right _ (Ls hb e)))).1,fun b hb=>?_,w7⟩
   obtain ⟨o,e,d⟩:=T.obj _ _ st5 b hb
   exact (I7.pin (b,o) (List.mem_append_right _ (List.mem_append_right _ (Ls hb e)))).2.1
  cases f with
  | next=>obtain ⟨σ7,H7,I7,n7⟩:=q7; exact again I7 n7
  | cont=>obtain ⟨σ7,H7,I7,n7⟩:=q7; exact again I7 n7
  | brk=>obtain ⟨σ7,H7,I7,q7⟩:=q7; exact ⟨σ7,H7,I7.unpinned,q7⟩
  | ret v=>obtain ⟨x7,σ7,H7,I7,r7,q7⟩:=q7; exact ⟨x7,σ7,H7,I7.unpinned,r7,q7⟩
end
theorem Qf {K:PySem.W.Frag} {a:Addr} {xs:List V} {g:TG} {tb:TS} {D:Ends} {σ:St} {H:Hp} (Pv:Nat->St->Hp->Prop) (h0:Pv 0 σ H) (hl:∀ i σ H,i <= xs.length->Pv i σ H->SqL K H a xs)
  (hs:∀ i x σ H,xs[i]? = some x->Pv i σ H->g x σ H fun σ2 H2=>tb { D with nx:=Pv (i + 1),ct:=Pv (i + 1),bk:=D.nx } σ2 H2) (hd:∀ σ H,Pv xs.length σ H->D.nx σ H) :
  ∃ W:Nat->Nat->St->Hp->Prop,(∃ m,W 0 m σ H)/\∀ i m σ H,W i m σ H ->
   ((Itl K a).stop i H/\D.nx σ H)\/((Itl K a).go i H/\∃ N:St->Hp->Prop,(∀ σ' H',N σ' H'->∃ m',m' < m/\W (i + 1) m' σ' H')/\∀ x H',(Itl K a).yld i H x H'->g x σ H' fun σ2 H2=>tb { D with nx:=N,ct:=N,bk:=D.nx } σ2 H2):=by
 refine ⟨fun i m σ H=>m = xs.length - i/\i <= xs.length/\Pv i σ H,⟨xs.length,by simp,Nat.zero_le _,h0⟩,?_⟩
 rintro i m σ H ⟨rfl,hi,p⟩
 have q:=hl i σ H hi p
 by_cases hlt:i < xs.length
 ·refine .inr ⟨⟨xs,xs[i],q,by simp [hlt]⟩,Pv (i + 1),fun σ' H' p'=>⟨xs.length - (i + 1),by omega,rfl,hlt,p'⟩,fun x H' y=>?_⟩
  obtain ⟨e,y⟩:=y
  subst e
  exact hs i x σ _ (y xs q) p
 ·have e:i = xs.length:=by omega
  subst e
  exact .inl ⟨⟨xs,q,Nat.le_refl _⟩,hd σ H p⟩
theorem Vy {lo:Int} {n:Nat} {g:TG} {tb:TS} {D:Ends} {σ:St} {H:Hp} (Pv:Nat->St->Hp->Prop) (h0:Pv 0 σ H)
  (hs:∀ i σ H,i < n->Pv i σ H->g (.int (lo + i)) σ H fun σ2 H2=>tb { D with nx:=Pv (i + 1),ct:=Pv (i + 1),bk:=D.nx } σ2 H2) (hd:∀ σ H,Pv n σ H->D.nx σ H) :
  ∃ W:Nat->Nat->St->Hp->Prop,(∃ m,W 0 m σ H)/\∀ i m σ H,W i m σ H ->
   ((Itr lo n).stop i H/\D.nx σ H)\/((Itr lo n).go i H/\∃ N:St->Hp->Prop,(∀ σ' H',N σ' H'->∃ m',m' < m/\W (i + 1) m' σ' H')/\∀ x H',(Itr lo n).yld i H x H'->g x σ H' fun σ2 H2=>tb { D with nx:=N,ct:=N,bk:=D.nx } σ2 H2):=by
 refine ⟨fun i m σ H=>m = n - i/\i <= n/\Pv i σ H,⟨n,by simp,Nat.zero_le _,h0⟩,?_⟩
 rintro i m σ H ⟨rfl,hi,p⟩
 by_cases hlt:i < n
 ·refine .inr ⟨hlt,Pv (i + 1),fun σ' H' p'=>⟨n - (i + 1),by omega,rfl,hlt,p'⟩,fun x H' y=>?_⟩
  obtain ⟨e,y⟩:=y
  subst e y
  exact hs i σ _ hlt p
 ·have e:i = n:=by omega
  subst e
  exact .inl ⟨Nat.le_refl _,hd σ H p⟩
end L2
namespace L2
open PySem PySem.Spec PyProof.Rows
abbrev R2:=V->V->Hp->VK->Prop
def OpR (X:Cx) (f:Value->Value->Sem Value) (r:R2):Prop :=
 ∀ (pins:List (Addr × Obj)) (s:Shared) (σ:St) (H:Hp) (x y:V) (v u:Value) (Q:VK),Inv X pins σ H s->RelV x v->RelV y u->r x y H Q ->
  wpAny (model X.prog X.w) X.A (f v u) (EP X pins σ Q) X.xe s
def UnR (X:Cx) (f:Value->Sem Value) (r:V->Hp->VK->Prop):Prop :=
 ∀ (pins:List (Addr × Obj)) (s:Shared) (σ:St) (H:Hp) (x:V) (v:Value) (Q:VK),Inv X pins σ H s->RelV x v->r x H Q ->
  wpAny (model X.prog X.w) X.A (f v) (EP X pins σ Q) X.xe s
def Ga (X:Cx) (f:Value) (r:List V->Hp->VK->Prop):Prop :=
 ∀ (pins:List (Addr × Obj)) (s:Shared) (σ:St) (H:Hp) (xs:List V) (us:List Value) (Q:VK),Inv X pins σ H s->Vals xs us->r xs H Q ->
  wpAny (model X.prog X.w) X.A (call f us) (EP X pins σ Q) X.xe s
def tOp (r:R2) (ta tb:TE):TE:=fun σ H Q=>ta σ H fun x H1=>tb σ H1 fun y H2=>r x y H2 Q
def tUn (r:V->Hp->VK->Prop) (ta:TE):TE:=fun σ H Q=>ta σ H fun x H1=>r x H1 Q
def rI (C:Int->Int->Prop) (g:Int->Int->V):R2:=fun x y H Q=>∃ i j,x = .int i/\y = .int j/\C i j/\Q (g i j) H
def rI0 (g:Int->Int->V):R2:=fun x y H Q=>∃ i j,x = .int i/\y = .int j/\Q (g i j) H
def rU (g:Int->V):V->Hp->VK->Prop:=fun x H Q=>∃ i,x = .int i/\Q (g i) H
section
variable {X:Cx} {a b c:Expr} {ta tb tc:TE} {pos:Pos}
theorem AdV (ha:PE X a ta) (hb:PE X b tb) {pins:List (Addr × Obj)} {s:Shared} {σ:St} {H:Hp} {R:V->V->Hp->Prop} (I:Inv X pins σ H s)
  (h:ta σ H fun x H1=>tb σ H1 fun y H2=>R x y H2) {Q:Value->Shared->Prop} {f:Value->Value->Sem Value}
  (hf:∀ v u s2 x y H2,Inv X pins σ H2 s2->RelV x v->RelV y u->R x y H2->wpAny (model X.prog X.w) X.A (f v u) Q X.xe s2) :
  wpAny (model X.prog X.w) X.A (eval a X.env) (fun v s₁=>wpAny (model X.prog X.w) X.A (eval b X.env) (fun u s₂=>wpAny (model X.prog X.w) X.A (f v u) Q X.xe s₂) X.xe s₁) X.xe s:=by
 refine thn (ha pins s σ H _ I h) fun v s1 ⟨x,H1,I1,r1,q1⟩=>?_
 refine thn (hb pins s1 σ H1 _ I1 q1) fun u s2 ⟨y,H2,I2,r2,q2⟩=>?_
 exact hf v u s2 x y H2 I2 r1 r2 q2
theorem Bv {op:Operator} {r:R2} (ho:OpR X (binaryOp op) r) (ha:PE X a ta) (hb:PE X b tb):PE X (.BinOp a op b pos) (tOp r ta tb):=by
 intro pins s σ H Q I h
 exact wpAny_BinOp (AdV ha hb I h fun v u s2 x y H2 I2 rx ry q=>ho pins s2 σ H2 x y v u Q I2 rx ry q)
theorem AaB {op:UnaryOp} {r:V->Hp->VK->Prop} (ho:UnR X (unaryOp op) r) (ha:PE X a ta):PE X (.UnaryOp op a pos) (tUn r ta):=by
 intro pins s σ H Q I h
 exact UnaryOp_ (thn (ha pins s σ H _ I h) fun v s1 ⟨x,H1,I1,r1,q1⟩=>ho pins s1 σ H1 x v Q I1 r1 q1)
theorem opI {f:Value->Value->Sem Value} {C:Int->Int->Prop} {g:Int->Int->Int}
  (rule:∀ (i j:Int) (t u:Tok) (s:Shared) (Q:Value->Shared->Prop) (E:Value->Shared->Prop),C i j->Q (.int (g i j) s.toks) { s with toks:=s.toks + 1 }->wpAny (model X.prog X.w) X.A (f (.int i t) (.int j u)) Q E s) :
  OpR X f (rI C fun i j=>.int (g i j)):=by
 intro pins s σ H x y v u Q I rx ry h
 obtain ⟨i,j,rfl,rfl,hc,q⟩:=h
 obtain ⟨t,rfl⟩:=rx
 obtain ⟨t',rfl⟩:=ry
 exact rule i j t t' s _ _ hc ⟨.int (g i j),H,I.tok _,⟨_,rfl⟩,q⟩
theorem Ag8 {f:Value->Value->Sem Value} {g:Int->Int->Int}
  (rule:∀ (i j:Int) (t u:Tok) (s:Shared) (Q:Value->Shared->Prop) (E:Value->Shared->Prop),Q (.int (g i j) s.toks) { s with toks:=s.toks + 1 }->wpAny (model X.prog X.w) X.A (f (.int i t) (.int j u)) Q E s) :
  OpR X f (rI0 fun i j=>.int (g i j)):=by
 intro pins s σ H x y v u Q I rx ry h
 obtain ⟨i,j,rfl,rfl,q⟩:=h
 obtain ⟨t,rfl⟩:=rx
 obtain ⟨t',rfl⟩:=ry
 exact rule i j t t' s _ _ ⟨.int (g i j),H,I.tok _,⟨_,rfl⟩,q⟩
theorem AaK {f:Value->Value->Sem Value} {g:Int->Int->Bool}
  (rule:∀ (i j:Int) (t u:Tok) (s:Shared) (Q:Value->Shared->Prop) (E:Value->Shared->Prop),Q (.bool (g i j)) s->wpAny (model X.prog X.w) X.A (f (.int i t) (.int j u)) Q E s) :
  OpR X f (rI0 fun i j=>.bl (g i j)):=by
 intro pins s σ H x y v u Q I rx ry h
 obtain ⟨i,j,rfl,rfl,q⟩:=h
 obtain ⟨t,rfl⟩:=rx
 obtain ⟨t',rfl⟩:=ry
 exact rule i j t t' s _ _ ⟨.bl (g i j),H,I,rfl,q⟩
def Abb (i j:Int):Prop:=0 < j/\j < 1073741824
def Abf (i j:Int):Prop:=0 <= j/\j <= 1000000/\i.natAbs < 2 ^ 64
def CMul (i j:Int):Prop:=(-(2 ^ 64) < i/\i < 2 ^ 64)\/(-(2 ^ 64) < j/\j < 2 ^ 64)
theorem CMul.ok {i j:Int} (h:CMul i j):IntMulOk i j:=by
 rcases h with ⟨h1,h2⟩ | ⟨h1,h2⟩
 ·exact .of_left (intBits_le_64 h1 h2)
 ·exact .of_right (intBits_le_64 h1 h2)
theorem Jc:OpR X (binaryOp .Add) (rI0 fun i j=>.int (i + j)):=Ag8 fun _ _ _ _ _ _ _ q=>add_int q
theorem Abz:OpR X (binaryOp .Sub) (rI0 fun i j=>.int (i - j)):=Ag8 fun _ _ _ _ _ _ _ q=>sub_int q
theorem Ue:OpR X (binaryOp .Mult) (rI CMul fun i j=>.int (i * j)):=opI fun _ _ _ _ _ _ _ hc q=>mul_int q hc.ok
theorem Fg:OpR X (binaryOp .FloorDiv) (rI Abb fun i j=>.int (i / j)):=opI fun i j _ _ _ _ _ hc q=>by
 have h1:(0:Int) < j:=hc.1
 have h2:j < 1073741824:=hc.2
 exact floordiv_int (by omega) (by rw [Int.fdiv_eq_ediv_of_nonneg i (by omega)]; exact q) (.inl (PyProof.noPylong_small (by omega)))
theorem Db:OpR X (binaryOp .Mod) (rI (fun _ j=>0 < j) fun i j=>.int (i % j)):=opI fun i j _ _ _ _ _ hc q=>by
 have h1:(0:Int) < j:=hc
 exact mod_int' (by omega) (by rw [Int.fmod_eq_emod_of_nonneg i (by omega)]; exact q)
theorem Jf:OpR X (binaryOp .Pow) (rI Abf fun i j=>.int (i ^ j.toNat)):=opI fun _ _ _ _ _ _ _ hc q=>pow_int_small hc.1 hc.2.1 hc.2.2 q
theorem unI {f:Value->Sem Value} {g:Int->Int}
  (rule:∀ (i:Int) (t:Tok) (s:Shared) (Q:Value->Shared->Prop) (E:Value->Shared->Prop),Q (.int (g i) s.toks) { s with toks:=s.toks + 1 }->wpAny (model X.prog X.w) X.A (f (.int i t)) Q E s) :
  UnR X f (rU fun i=>.int (g i)):=by
 intro pins s σ H x v Q I rx h
 obtain ⟨i,rfl,q⟩:=h
 obtain ⟨t,rfl⟩:=rx
 exact rule i t s _ _ ⟨.int (g i),H,I.tok _,⟨_,rfl⟩,q⟩
theorem Ya:UnR X (unaryOp .USub) (rU fun i=>.int (-i)):=unI fun _ _ _ _ _ q=>neg_int q
end
def Ahf:V->V->Bool
 | .non,.non=>true | .non,.int _=>true | .int _,.non=>true | .non,.bl _=>true | .bl _,.non=>true | .non,.str _=>true | .str _,.non=>true
 | .int _,.int _=>true | .bl _,.bl _=>true | .str _,.str _=>true | .byt _,.byt _=>true
 | .int _,.str _=>true | .str _,.int _=>true | .bl _,.str _=>true | .str _,.bl _=>true
 | _,_=>false
def rEq:R2:=fun x y H Q=>Ahf x y = true/\Q (.bl (decide (x = y))) H
def rNe:R2:=fun x y H Q=>Ahf x y = true/\Q (.bl (!decide (x = y))) H
theorem Aas {i j:Int}:decide (V.int i = V.int j) = (i == j):=by
 rw [Bool.eq_iff_iff]
 simp
theorem AcR {i j:Bool}:decide (V.bl i = V.bl j) = (i == j):=by
 rw [Bool.eq_iff_iff]
 simp
theorem Aab {i j:Str}:decide (V.str i = V.str j) = (i == j):=by
 rw [Bool.eq_iff_iff]
 simp
theorem Zn {i j:Array UInt8}:decide (V.byt i = V.byt j) = (i.toList == j.toList):=by
 rw [Bool.eq_iff_iff]
 cases i
 cases j
 simp
section
variable {X:Cx} {a b c:Expr} {ta tb tc:TE} {pos:Pos}
theorem Cn {pins:List (Addr × Obj)} {σ:St} {H:Hp} {s:Shared} {Q:VK} {k k':Bool} (I:Inv X pins σ H s) (q:Q (.bl k) H) (e:k = k'):EP X pins σ Q (.bool k') s:=by
 subst e
 exact ⟨.bl k,H,I,rfl,q⟩
theorem Jy:OpR X (compareOp .Eq) rEq:=by
 intro pins s σ H x y v u Q I rx ry h
 obtain ⟨hs,q⟩:=h
 cases x with
 | non =>
  cases rx
  cases y with
  | non=>cases ry; exact PySem.EqNone.eq_none_none (Cn I q (by simp))
  | bl j=>cases ry; exact PySem.EqNone.eq_none_bool (Cn I q (by simp))
  | int j=>obtain ⟨t',rfl⟩:=ry; exact PySem.EqNone.eq_none_int (Cn I q (by simp))
  | str j=>obtain ⟨t',rfl⟩:=ry; exact PySem.EqNone.eq_none_str (Cn I q (by simp))
  | _=>exact absurd (show false = true from hs) Bool.false_ne_true
 | bl i =>
  cases rx
  cases y with
  | non=>cases ry; exact PySem.EqNone.eq_bool_none (Cn I q (by simp))
  | bl j=>cases ry; exact eq_bool (Cn I q AcR)
  | str j=>obtain ⟨t',rfl⟩:=ry; exact PySem.EqMixed.eq_bool_str (Cn I q (by simp))
  | _=>exact absurd (show false = true from hs) Bool.false_ne_true
 | int i =>
  obtain ⟨t,rfl⟩:=rx
  cases y with
  | non=>cases ry; exact PySem.EqNone.eq_int_none (Cn I q (by simp))
  | int j=>obtain ⟨t',rfl⟩:=ry; exact eq_int (Cn I q Aas)
  | str j=>obtain ⟨t',rfl⟩:=ry; exact PySem.EqMixed.eq_int_str (Cn I q (by simp))
  | _=>exact absurd (show false = true from hs) Bool.false_ne_true
 | str i =>
  obtain ⟨t,rfl⟩:=rx
  cases y with
  | non=>cases ry; exact PySem.EqNone.eq_str_none (Cn I q (by simp))
  | bl j=>cases ry; exact PySem.EqMixed.eq_str_bool (Cn I q (by simp))
  | int j=>obtain ⟨t',rfl⟩:=ry; exact PySem.EqMixed.eq_str_int (Cn I q (by simp))
  | str j=>obtain ⟨t',rfl⟩:=ry; exact eq_str (Cn I q Aab)
  | _=>exact absurd (show false = true from hs) Bool.false_ne_true
 | byt i =>
  obtain ⟨t,rfl⟩:=rx
  cases y with
  | byt j=>obtain ⟨t',rfl⟩:=ry; exact PySem.W.eq_bytes (Cn I q Zn)
  | _=>exact absurd (show false = true from hs) Bool.false_ne_true
 | _=>cases y <;> exact absurd (show false = true from hs) Bool.false_ne_true
theorem Ajw:OpR X (compareOp .NotEq) rNe:=by
 intro pins s σ H x y v u Q I rx ry h
 obtain ⟨hs,q⟩:=h
 cases x with
 | non =>
  cases rx
  cases y with
  | non=>cases ry; exact PySem.EqNone.ne_none_none (Cn I q (by simp))
  | bl j=>cases ry; exact PySem.EqNone.ne_none_bool (Cn I q (by simp))
  | int j=>obtain ⟨t',rfl⟩:=ry; exact PySem.EqNone.ne_none_int (Cn I q (by simp))
  | str j=>obtain ⟨t',rfl⟩:=ry; exact PySem.EqNone.ne_none_str (Cn I q (by simp))
  | _=>exact absurd (show false = true from hs) Bool.false_ne_true
 | bl i =>
  cases rx
  cases y with
  | non=>cases ry; exact PySem.EqNone.ne_bool_none (Cn I q (by simp))
  | bl j=>cases ry; exact ne_bool (Cn I q (congrArg not AcR))
  | str j=>obtain ⟨t',rfl⟩:=ry; exact PySem.EqMixed.ne_bool_str (Cn I q (by simp))
  | _=>exact absurd (show false = true from hs) Bool.false_ne_true
 | int i =>
  obtain ⟨t,rfl⟩:=rx
  cases y with
  | non=>cases ry; exact PySem.EqNone.ne_int_none (Cn I q (by simp))
  | int j=>obtain ⟨t',rfl⟩:=ry; exact ne_int (Cn I q (congrArg not Aas))
  | str j=>obtain ⟨t',rfl⟩:=ry; exact PySem.EqMixed.ne_int_str (Cn I q (by simp))
  | _=>exact absurd (show false = true from hs) Bool.false_ne_true
 | str i =>
  obtain ⟨t,rfl⟩:=rx
  cases y with
  | non=>cases ry; exact PySem.EqNone.ne_str_none (Cn I q (by simp))
  | bl j=>cases ry; exact PySem.EqMixed.ne_str_bool (Cn I q (by simp))
  | int j=>obtain ⟨t',rfl⟩:=ry; exact PySem.EqMixed.ne_str_int (Cn I q (by simp))
  | str j=>obtain ⟨t',rfl⟩:=ry; exact ne_str (Cn I q (congrArg not Aab))
  | _=>exact absurd (show false = true from hs) Bool.false_ne_true
 | byt i =>
  obtain ⟨t,rfl⟩:=rx
  cases y with
  | byt j=>obtain ⟨t',rfl⟩:=ry; exact PySem.W.ne_bytes (Cn I q (congrArg not Zn))
  | _=>exact absurd (show false = true from hs) Bool.false_ne_true
 | _=>cases y <;> exact absurd (show false = true from hs) Bool.false_ne_true
theorem Aj2:OpR X (compareOp .Lt) (rI0 fun i j=>.bl (decide (i < j))):=AaK fun _ _ _ _ _ _ _ q=>lt_int q
theorem Wp:OpR X (compareOp .LtE) (rI0 fun i j=>.bl (decide (i <= j))):=AaK fun _ _ _ _ _ _ _ q=>le_int q
theorem AeI:OpR X (compareOp .Gt) (rI0 fun i j=>.bl (decide (j < i))):=AaK fun _ _ _ _ _ _ _ q=>gt_int q
theorem AeM:OpR X (compareOp .GtE) (rI0 fun i j=>.bl (decide (j <= i))):=AaK fun _ _ _ _ _ _ _ q=>ge_int q
theorem Df (b:Expr) {op:CmpOp} (h:op ≠ .In:=by decide) (h2:op ≠ .NotIn:=by decide):behindInMarks op b = false:=by
 have e1:(op == CmpOp.In) = false:=by cases op <;> first | rfl | exact absurd rfl h
 have e2:(op == CmpOp.NotIn) = false:=by cases op <;> first | rfl | exact absurd rfl h2
 cases b <;> simp [behindInMarks,e1,e2]
theorem Fp {op:CmpOp} {r:R2} (ho:OpR X (compareOp op) r) (ha:PE X a ta) (hb:PE X b tb) (hm:behindInMarks op b = false):PE X (.Compare a [op] [b] pos) (tOp r ta tb):=by
 intro pins s σ H Q I h
 exact wpAny_Compare1 (AdV ha hb I h fun v u s2 x y H2 I2 rx ry q=>ho pins s2 σ H2 x y v u Q I2 rx ry q) hm
def Wn (t:TE):TT:=fun σ H Q=>t σ H fun x H'=>∃ k,x = .bl k/\Q k H'
theorem Ds {op:CmpOp} {r:R2} (ho:OpR X (compareOp op) r) (ha:PE X a ta) (hb:PE X b tb) (hm:behindInMarks op b = false):PT X (.Compare a [op] [b] pos) (Wn (tOp r ta tb)):=by
 intro pins s σ H Q I h
 refine wpAny_isTrue_Compare1 (thn (ha pins s σ H _ I h) fun v s1 ⟨x,H1,I1,r1,q1⟩=>thn (hb pins s1 σ H1 _ I1 q1) fun u s2 ⟨y,H2,I2,r2,q2⟩ =>
  thn (ho pins s2 σ H2 x y v u _ I2 r1 r2 q2) fun c s3 ⟨z,H3,I3,r3,k,e,q3⟩=>?_) hm
 subst e
 cases r3
 exact wpAny_truthy_bool ⟨H3,I3,q3⟩
theorem Xs:(sizeLine:Nat) < 2 ^ 63:=by rw [sizeLine_eq]; decide
theorem Wr {x:V} {us:List Value} (r:Vals [x] us):∃ u,us = [u]/\RelV x u:=by
 cases r with
 | cons r1 r2=>cases r2; exact ⟨_,rfl,r1⟩
theorem Aaz {x y:V} {us:List Value} (r:Vals [x,y] us):∃ u w',us = [u,w']/\RelV x u/\RelV y w':=by
 cases r with
 | cons r1 r2 =>
  cases r2 with
  | cons r3 r4=>cases r4; exact ⟨_,_,rfl,r1,r3⟩
end
end L2
namespace L2
open PySem PySem.Spec PyProof.Rows
structure ObjM (h:Heap) (x dx C:Addr) (mA:Str->Option Value):Prop where
 obj:h.get? x = some (PySem.W.instObj C dx)
 ns:h.Ns1 dx mA
 ne:dx ≠ x
theorem AbR {h:Heap} {dx:Addr} {mA:Str->Option Value} (n:h.Ns1 dx mA):∃ od,h.get? dx = some od/\∀ name,PySem.W.lookIn name od = some (mA name):=by
 obtain ⟨o,es,ep,ho,hd,hk,_,hm⟩:=n
 refine ⟨o,ho,fun name=>?_⟩
 have e:=hm name
 unfold nsFind findBy at e
 rw [<- Array.find?_toList] at e
 unfold PySem.W.lookIn
 rw [hd]
 dsimp only
 split
 ·rename_i y q
  rw [q] at e
  exact congrArg some e
 ·rename_i q
  rw [q] at e
  have a:es.toList.any (·.refKey) = false:=by
   rw [List.any_eq_false]
   intro y hy
   obtain ⟨z,t,hkey⟩:=hk y (Array.mem_toList_iff.mp hy)
   simp [DictEntry.refKey,hkey]
  have a':¬ es.toList.any (·.refKey) = true:=by rw [a]; exact Bool.false_ne_true
  rw [if_neg a']
  exact congrArg some e
theorem ObjM.look {h:Heap} {x dx C:Addr} {mA:Str->Option Value} (I:ObjM h x dx C mA):∃ od,PySem.W.InstAt h x (PySem.W.instObj C dx) C (some od)/\∀ name,PySem.W.lookIn name od = some (mA name) :=
 let ⟨od,ho,hl⟩:=AbR I.ns
 ⟨od,⟨I.obj,rfl,rfl,ho⟩,hl⟩
section
variable {prog:Program} {w:World} {A:Around} {E:Value->Shared->Prop} {s:Shared} {K:PySem.W.Frag} {x dx C f:Addr} {mA:Str->Option Value} {name:Str} {v:Value}
theorem Af2 {expr:Bool} {Q:Value->Shared->Prop} (X:K.In s.heap) (I:ObjM s.heap x dx C mA) (hg:PySem.W.plainGet K C name = true) (hh:PySem.W.hasDictIn K C = true)
  (ha:PySem.W.findIn K (.ref C) name = some none) (hv:mA name = some v) (hv':PySem.W.handedIn v = true) (h:Q v { s with toks:=s.toks + 1 }) :
  wpAny (model prog w) A (getAttr (.ref x) name expr) Q E s:=by
 obtain ⟨od,J,hl⟩:=I.look
 exact PySem.W.get_value X J (PySem.W.plainGet_of hg).1 (PySem.W.findObj_own hh ha rfl (by rw [hl,hv])) hv' h
theorem Adz {pl:Sem Bool} {Q:Value × List Value->Shared->Prop} (X:K.In s.heap) (I:ObjM s.heap x dx C mA) (hg:PySem.W.plainGet K C name = true)
  (hf:PySem.W.findIn K (.ref C) name = some (some (.ref f))) (ht:PySem.W.isFn K (.ref f) = true) (hv:mA name = none) (h:Q (.ref f,[.ref x]) s) :
  wpAny (model prog w) A (getMethod (.ref x) name pl) Q E s:=by
 obtain ⟨od,J,hl⟩:=I.look
 exact PySem.W.method_fn X J (PySem.W.plainGet_of hg).1 (PySem.W.plainGet_of hg).2 hf (beq_iff_eq.mp ht) (by show (PySem.W.lookIn name od).map (·.isSome) = some false; rw [hl,hv]; rfl) h
theorem Agr {ns:List Str} {Q:Unit->Shared->Prop} (X:K.In s.heap) (I:ObjM s.heap x dx C mA)
  (hs:PySem.W.findIn K (.ref C) "__setattr__" = some (some (.builtin "object.__setattr__"))) (hp:PySem.W.plainOver K C = true) (ht:PySem.W.takerIn K C name = some none) (hh:PySem.W.hasDictIn K C = true)
  (hw:PySem.Within mA ns) (hsz:ns.length <= sizeLine)
  (h:∀ h',ObjM h' x dx C (fun y=>if y = name then some v else mA y)->Heap.SameBut dx s.heap h'->Q () { s with heap:=h',toks:=s.toks + 2 }) :
  wpAny (model prog w) A (setAttr (.ref x) name v) Q E s:=by
 obtain ⟨od,J,hl⟩:=I.look
 refine PySem.W.set_plain X J hs (PySem.W.osa_open (s:={ s with toks:=s.toks + 1 }) (r:=none) X J hp ht fun b=>?_)
 obtain ⟨cd,hc,hd'⟩:=PySem.W.any_some hh
 have hx:s.heap.get? x = some ⟨.ref C,some dx,.plain,#[]⟩:=I.obj
 refine wpAny_bind (wpAny_pure (wpAny_bind (wpAny_bind (wpAny_loadPart hx (wpAny_bind (PySem.W.Looks.here (s:={ s with toks:=s.toks + 1 }) (PySem.W.looks_clsIn X hc) ?_))))))
 rw [hd']
 refine wpAny_pure (a:=some dx) (wpAny_bind (wpAny_pure (wpAny_bind ?_)))
 refine wpAny_nsSet1 (s:={ s with toks:=s.toks + 1 }) I.ns fun h' hn2 hs2=>?_
 obtain ⟨oD,esD,epD,hoD,hdD,hcD⟩:=hn2.count (PySem.Within.cons name v hw)
 refine wpAny_bind (wpAny_lookBehind hoD (by rw [hdD]; exact pastItsLine_dict (Nat.le_trans hcD (by rw [List.length_cons]; omega))) ?_)
 exact wpAny_pure (h _ ⟨(hs2.2 _ (Ne.symm I.ne)).trans I.obj,hn2,I.ne⟩ hs2)
theorem Ad4 {R:Result->Shared->Prop} {vs:List Value} {kw:List (Str × Value)} (X:K.In s.heap) (hm:PySem.W.makesIn K C = true)
  (hi:PySem.W.findIn K (.ref C) "__init__" = some (some (.ref f))) (hf:PySem.W.typeIn K (.ref f) = some (.type "function"))
  (h:codeAny (model prog w) (A.under (.builtin "type.__call__" ⟨.ref C :: vs,kw⟩)) (.call (.ref f) ⟨.ref (s.heap.objs.size + 1) :: vs,kw⟩) (PySem.W.InitBack (s.heap.objs.size + 1) R)
   { s with heap:=(s.heap.push PySem.W.emptyDict).push (PySem.W.instObj C s.heap.objs.size) }) :
  codeAny (model prog w) A (.call (.ref C) ⟨vs,kw⟩) R s:=by
 obtain ⟨hh,g,d,t,os⟩:=s
 exact PySem.W.make_core (PySem.W.makes_of X hm) (PySem.W.looks_findIn X hi) (fun self=>PySem.W.bind_fn X self hf) (.inl rfl) h
end
def Br (f:Str) (v:V):List (Str × V)->List (Str × V)
 | []=>[(f,v)]
 | (g,x) :: r=>if g = f then (g,v) :: r else (g,x) :: Br f v r
theorem Cm (f g:Str) (v:V):∀ fs:List (Str × V),(Br f v fs).lookup g = if g = f then some v else fs.lookup g
 | []=>by
  show List.lookup g [(f,v)] = _
  by_cases h:g = f
  ·have hb:(g == f) = true:=beq_iff_eq.mpr h
   simp only [List.lookup,hb,if_pos h]
  ·have hb:(g == f) = false:=beq_eq_false_iff_ne.mpr h
   simp only [List.lookup,hb,if_neg h]
 | (k,x) :: r=>by
  have ih:=Cm f g v r
  rw [show Br f v ((k,x) :: r) = (if k = f then (k,v) :: r else (k,x) :: Br f v r) from rfl]
  by_cases hk:k = f
  ·rw [if_pos hk]
   by_cases h:g = k
   ·have hb:(g == k) = true:=beq_iff_eq.mpr h
    simp only [List.lookup,hb,if_pos (h.trans hk)]
   ·have hb:(g == k) = false:=beq_eq_false_iff_ne.mpr h
    simp only [List.lookup,hb,if_neg (fun e:g = f=>h (e.trans hk.symm))]
  ·rw [if_neg hk]
   by_cases h:g = k
   ·have hb:(g == k) = true:=beq_iff_eq.mpr h
    simp only [List.lookup,hb,if_neg (fun e:g = f=>hk (h.symm.trans e))]
   ·have hb:(g == k) = false:=beq_eq_false_iff_ne.mpr h
    simp only [List.lookup,hb]
    exact ih
theorem Sc (f:Str) (v:V):∀ fs:List (Str × V),f ∈ (Br f v fs).map (·.1)/\∀ g,g ∈ fs.map (·.1)->g ∈ (Br f v fs).map (·.1)
 | []=>⟨by simp [Br],fun g h=>by simp at h⟩
 | (k,x) :: r=>by
  obtain ⟨i1,i2⟩:=Sc f v r
  rw [show Br f v ((k,x) :: r) = (if k = f then (k,v) :: r else (k,x) :: Br f v r) from rfl]
  by_cases hk:k = f
  ·rw [if_pos hk]
   subst hk
   exact ⟨by simp,fun g h=>by simpa using h⟩
  ·rw [if_neg hk]
   refine ⟨?_,fun g h=>?_⟩
   ·rw [List.map_cons]
    exact List.mem_cons_of_mem _ i1
   ·rw [List.map_cons] at h ⊢
    rcases List.mem_cons.mp h with e | e
    ·exact List.mem_cons.mpr (.inl e)
    ·exact List.mem_cons_of_mem _ (i2 g e)
theorem Dd (f:Str) (v:V):∀ fs:List (Str × V),(Br f v fs).length <= fs.length + 1
 | []=>by simp [Br]
 | (k,x) :: r=>by
  have ih:=Dd f v r
  rw [show Br f v ((k,x) :: r) = (if k = f then (k,v) :: r else (k,x) :: Br f v r) from rfl]
  by_cases hk:k = f
  ·rw [if_pos hk,List.length_cons,List.length_cons]; omega
  ·rw [if_neg hk,List.length_cons,List.length_cons]; omega
theorem RelO.some_of {v:V} {o:Option Value} (r:RelO (some v) o):∃ u,o = some u/\RelV v u:=by
 cases o with
 | none=>exact (show False from r).elim
 | some u=>exact ⟨u,rfl,r⟩
theorem RelO.none_of {o:Option Value} (r:RelO none o):o = none:=by
 cases o with
 | none=>rfl
 | some u=>exact (show False from r).elim
theorem AbW {v:V} {u:Value} (r:RelV v u):PySem.W.handedIn u = true:=by
 cases v with
 | non=>cases (show u = Value.none from r); rfl
 | bl b=>cases (show u = Value.bool b from r); rfl
 | int i=>obtain ⟨t,e⟩:=(show ∃ t,u = Value.int i t from r); cases e; rfl
 | str x=>obtain ⟨t,e⟩:=(show ∃ t,u = Value.str x t from r); cases e; rfl
 | byt b=>obtain ⟨t,e⟩:=(show ∃ t,u = Value.bytes b t from r); cases e; rfl
 | flt b=>obtain ⟨t,e⟩:=(show ∃ t,u = Value.float b t from r); cases e; rfl
 | ref a=>cases (show u = Value.ref a from r); rfl
 | ty n=>cases (show u = Value.type n from r); rfl
section
variable {P:Program} {w:World} {H H':Hp} {h h':Heap} {a C dx:Addr} {fs fs':List (Str × V)}
theorem Sx (hok:HOk P w H h) (e:H a = some (.ins C dx fs)):∃ mA,ObjM h a dx C mA/\(∀ f,RelO (fs.lookup f) (mA f))/\PySem.Within mA (fs.map (·.1))/\fs.length <= 1000/\H dx = some (.own a):=by
 obtain ⟨d,z,ne,ob,mA,n,r,q⟩:=(show ObjOk P w H h a (.ins C dx fs) from hok a _ e)
 exact ⟨mA,⟨ob,n,ne⟩,r,q,z,d⟩
end
structure Cls (K:PySem.W.Frag) (C:Addr):Prop where
 pg:PySem.W.plainGet K C Str.empty = true
 hd:PySem.W.hasDictIn K C = true
 po:PySem.W.plainOver K C = true
 sa:PySem.W.findIn K (.ref C) "__setattr__" = some (some (.builtin "object.__setattr__"))
theorem Cls.get {K:PySem.W.Frag} {C:Addr} (c:Cls K C) (f:Str):PySem.W.plainGet K C f = true:=c.pg
def NoAttr (K:PySem.W.Frag) (C:Addr) (f:Str):Prop:=PySem.W.findIn K (.ref C) f = some none
theorem NoAttr.taker {K:PySem.W.Frag} {C:Addr} {f:Str} (n:NoAttr K C f):PySem.W.takerIn K C f = some none:=by
 unfold PySem.W.takerIn
 rw [show PySem.W.findIn K (.ref C) f = some none from n]
 rfl
structure Adx (K:PySem.W.Frag) (C:Addr) (m:Str) (f:Addr):Prop where
 at_:PySem.W.findIn K (.ref C) m = some (some (.ref f))
 fn:PySem.W.isFn K (.ref f) = true
 kp:PySem.W.keepIn K (.ref f) = true
section
variable {X:Cx} {pins:List (Addr × Obj)} {σ:St} {H:Hp} {s:Shared} {a C dx:Addr} {fs:List (Str × V)} {f:Str} {v:V} {A:Around} {E:Value->Shared->Prop}
theorem AaZ {b:Bool} {Q:Value->Shared->Prop} (I:Inv X pins σ H s) (e:H a = some (.ins C dx fs)) (c:Cls X.K C) (n:NoAttr X.K C f) (l:fs.lookup f = some v)
  (h:∀ u s',Inv X pins σ H s'->RelV v u->Q u s'):wpAny (model X.prog X.w) A (getAttr (.ref a) f b) Q E s:=by
 obtain ⟨mA,O,r,_,_,_⟩:=Sx I.hok e
 obtain ⟨u,hu,ru⟩:=RelO.some_of (v:=v) (o:=mA f) (by rw [<- l]; exact r f)
 exact Af2 I.kIn O (c.get f) c.hd n hu (AbW ru) (h u _ (I.tok _) ru)
theorem Abk {m:Str} {g:Addr} {pl:Sem Bool} {Q:Value × List Value->Shared->Prop} (I:Inv X pins σ H s) (e:H a = some (.ins C dx fs)) (c:Cls X.K C) (k:Adx X.K C m g) (l:fs.lookup m = none)
  (h:Q (.ref g,[.ref a]) s):wpAny (model X.prog X.w) A (getMethod (.ref a) m pl) Q E s:=by
 obtain ⟨mA,O,r,_,_,_⟩:=Sx I.hok e
 have hn:mA m = none:=RelO.none_of (by rw [<- l]; exact r m)
 exact Adz I.kIn O (c.get m) k.at_ k.fn hn h
theorem Aay {y:V} {u:Value} {Q:Unit->Shared->Prop} (I:Inv X pins σ H s) (e:H a = some (.ins C dx fs)) (c:Cls X.K C) (n:NoAttr X.K C f) (hl:fs.length < 1000) (ry:RelV y u)
  (h:∀ s',Inv X pins σ (upd H a (.ins C dx (Br f y fs))) s'->Q () s'):wpAny (model X.prog X.w) A (setAttr (.ref a) f u) Q E s:=by
 obtain ⟨mA,O,r,wi,_,ho⟩:=Sx I.hok e
 have hz:(fs.map (·.1)).length <= sizeLine:=by rw [List.length_map,sizeLine_eq]; omega
 refine Agr I.kIn O c.sa c.po n.taker c.hd wi hz fun h' O' sb=>h _ ?_
 have hd:∃ o,h'.get? dx = some o:=let ⟨o,_,_,e',_⟩:=O'.ns; ⟨o,e'⟩
 refine I.write (x:=a) (e:=dx) (by rw [e]; exact True.intro) (.inr ho) (fun b q hb z=>(sb.2 b hb).trans z) hd ?_
 refine ⟨by rw [Bg O.ne]; exact ho,?_,O.ne,O'.obj,_,O'.ns,fun g=>?_,fun g hg=>?_⟩
 ·have:=Dd f y fs; omega
 ·show RelO ((Br f y fs).lookup g) (if g = f then some u else mA g)
  rw [Cm]
  by_cases q:g = f
  ·rw [if_pos q,if_pos q]; exact ry
  ·rw [if_neg q,if_neg q]; exact r g
 ·by_cases q:g = f
  ·rw [q]; exact (Sc f y fs).1
  ·refine (Sc f y fs).2 g (wi g fun z=>hg ?_)
   show (if g = f then some u else mA g) = none
   rw [if_neg q]; exact z
theorem Inv.made (I:Inv X pins σ H s):Inv X pins σ (upd (upd H s.heap.objs.size (.own (s.heap.objs.size + 1))) (s.heap.objs.size + 1) (.ins C s.heap.objs.size []))
  { s with heap:=(s.heap.push PySem.W.emptyDict).push (PySem.W.instObj C s.heap.objs.size) }:=by
 have e1:(s.heap.push PySem.W.emptyDict).get? s.heap.objs.size = some PySem.W.emptyDict:=Heap.get?_push_size s.heap rfl
 have e2:((s.heap.push PySem.W.emptyDict).push (PySem.W.instObj C s.heap.objs.size)).get? (s.heap.objs.size + 1) = some (PySem.W.instObj C s.heap.objs.size):=by
  have:=Heap.get?_push_size (s.heap.push PySem.W.emptyDict) (o:=PySem.W.instObj C s.heap.objs.size) rfl
  rwa [Heap.size_push] at this
 have e3:(s.heap.push PySem.W.emptyDict).Ns s.heap.objs.size (fun _=>none):=⟨PySem.W.emptyDict,#[],_,e1,rfl,(fun e he=>absurd he (by simp)),fun _=>rfl⟩
 have I1:=I.laid (a:=s.heap.objs.size) (o:=.own (s.heap.objs.size + 1)) (h':=s.heap.push PySem.W.emptyDict) (t':=s.toks) (fun b u q=>Heap.get?_push_of_some _ q) (Nat.le_refl _) ⟨_,e1⟩
 refine I1.laid (a:=s.heap.objs.size + 1) (o:=.ins C s.heap.objs.size []) (t':=s.toks) (fun b u q=>Heap.get?_push_of_some _ q) (Nat.le_of_eq (Heap.size_push _ _)) ?_
 have ne:s.heap.objs.size ≠ s.heap.objs.size + 1:=Nat.ne_of_lt (Nat.lt_succ_self _)
 refine ⟨by rw [Bg ne,Bn],Nat.zero_le _,ne,e2,fun _=>none,(Heap.Ns1.of_empty e3).at fun o q=>Heap.get?_push_of_some _ q,fun _=>True.intro,fun y hy=>absurd rfl hy⟩
theorem Af5 {prog:Program} {w:World} {env:Env} {e:Expr} {f:Str} {pos:Pos} {s:Shared} {Q:Value->Shared->Prop} (hb:attributeBase e f env (eval e env) = eval e env)
  (h:wpAny (model prog w) A (eval e env) (fun o s₁=>wpAny (model prog w) A (getAttr o f true) Q E s₁) E s):wpAny (model prog w) A (eval (.Attribute e f pos) env) Q E s :=
 Attribute_any_ h (by rw [arm_eval_Attribute,hb])
end
def Aix (K:PySem.W.Frag) (ta:TE) (f:Str):TE:=fun σ H Q=>ta σ H fun x H1=>∃ a C dx fs v,x = .ref a/\H1 a = some (.ins C dx fs)/\Cls K C/\NoAttr K C f/\fs.lookup f = some v/\Q v H1
def AhU (K:PySem.W.Frag) (ta tv:TE) (f:Str):TS:=fun D σ H=>tv σ H fun y H1=>ta σ H1 fun x H2=>∃ a C dx fs,x = .ref a/\H2 a = some (.ins C dx fs)/\Cls K C/\NoAttr K C f/\fs.length < 1000 /\
 D.nx σ (upd H2 a (.ins C dx (Br f y fs)))
section
variable {X:Cx} {o e value:Expr} {f:Str} {pos pos' tpos:Pos} {ta tv:TE}
theorem Xf (he:PE X e ta) (hb:attributeBase e f X.env (eval e X.env) = eval e X.env):PE X (.Attribute e f pos) (Aix X.K ta f):=by
 intro pins s σ H Q I h
 refine Af5 hb (thn (he pins s σ H _ I h) fun u s1 ⟨x,H1,I1,rx,a,C,dx,fs,v,ex,ea,c,n,l,q⟩=>?_)
 subst ex
 obtain rfl:u = Value.ref a:=rx
 exact AaZ I1 ea c n l fun u' s2 I2 ru=>⟨v,H1,I2,ru,q⟩
theorem Rx (ha:PE X o ta) (hv:PE X value tv) (hs:swapsWith value (some (.Attribute o f pos')) pos.line X.env = pure false):PS X (.Assign [.Attribute o f pos'] value pos) (AhU X.K ta tv f):=by
 intro pins s σ H D I h
 refine plainObj_wpAny_Assign_Attribute (thn (hv pins s σ H _ I h) fun u s1 ⟨y,H1,I1,ry,q⟩=>thn (ha pins s1 σ H1 _ I1 q) fun ov s2 ⟨x,H2,I2,rx,a,C,dx,fs,ex,ea,c,n,l,q2⟩=>?_) hs
 subst ex
 obtain rfl:ov = Value.ref a:=rx
 exact Aay I2 ea c n l ry fun s3 I3=>⟨σ,_,I3,q2⟩
end
section
variable {X:Cx} {pins:List (Addr × Obj)} {σ:St} {H:Hp} {s:Shared} {A:Around} {E:Value->Shared->Prop} {Q:Value->Shared->Prop} {c:Value} {b:Bool}
inductive Fi (K:PySem.W.Frag) (H:Hp):V->Value->Prop where
 | non:Fi K H .non (.type "NoneType")
 | bl (x:Bool):Fi K H (.bl x) (.type "bool")
 | int (i:Int):Fi K H (.int i) (.type "int")
 | str (x:Str):Fi K H (.str x) (.type "str")
 | flt (x:UInt64):Fi K H (.flt x) (.type "float")
 | lst {a:Addr} {xs:List V} (e:H a = some (.lst xs)):Fi K H (.ref a) (.type "list")
 | frz {a:Addr} {o:Obj} {xs:List V} (e:H a = some (.frz o (.lst xs))):Fi K H (.ref a) (.type "list")
 | tup {a:Addr} {xs:List V} (e:H a = some (.tup xs)):Fi K H (.ref a) (.type "tuple")
 | dK {a:Addr} {kvs:List (Key × V)} (e:H a = some (.dK kvs)):Fi K H (.ref a) (.type "dict")
 | dT {a:Addr} {kvs:List (List Key × V)} (e:H a = some (.dT kvs)):Fi K H (.ref a) (.type "dict")
 | ins {a C dx:Addr} {fs:List (Str × V)} (e:H a = some (.ins C dx fs)) (cl:Cls K C) (ha:PySem.W.findIn K (.ref C) "__class__" = some (some (.builtin "object.__class__")))
   (hn:PySem.W.specialIn K (.builtin "object.__class__") "__get__" = some (some (.builtin "getset_descriptor.__get__"))) (htk:PySem.W.takesIn K (.builtin "object.__class__") = some true)
   (hm:PySem.W.mroIn K C (.type "object") = some true):Fi K H (.ref a) (.ref C)
theorem Abx {x:V} {u t:Value} (I:Inv X pins σ H s) (rx:RelV x u) (ty:Fi X.K H x t) (e:PySem.W.kitOne X.K t c = some b) (h:∀ tk,Q (.bool b) { s with toks:=tk }) :
  wpAny (model X.prog X.w) A (call (.builtin "isinstance") [u,c]) Q E s:=by
 cases ty with
 | non=>cases (show u = Value.none from rx); exact PySem.W.kia_one PySem.W.kitx_none I.kIn True.intro e (fun z=>nomatch z) h
 | bl y=>cases (show u = Value.bool y from rx); exact PySem.W.kia_one PySem.W.kitx_bool I.kIn True.intro e (fun z=>nomatch z) h
 | int i=>obtain ⟨t,q⟩:=(show ∃ t,u = Value.int i t from rx); cases q; exact PySem.W.kia_one PySem.W.kitx_int I.kIn True.intro e (fun z=>nomatch z) h
 | str y=>obtain ⟨t,q⟩:=(show ∃ t,u = Value.str y t from rx); cases q; exact PySem.W.kia_one PySem.W.kitx_str I.kIn True.intro e (fun z=>nomatch z) h
 | flt y=>obtain ⟨t,q⟩:=(show ∃ t,u = Value.float y t from rx); cases q; exact PySem.W.kia_one PySem.W.kitx_float I.kIn True.intro e (fun z=>nomatch z) h
 | @lst a xs ea =>
  cases (show u = Value.ref a from rx)
  obtain ⟨_,_,n,_,h1⟩:=(show ObjOk X.prog X.w H s.heap a (.lst xs) from I.hok a _ ea)
  exact PySem.W.kia_one PySem.W.kitx_list I.kIn ⟨_,h1,rfl⟩ e (fun z=>nomatch z) h
 | @frz a ob xs ea =>
  cases (show u = Value.ref a from rx)
  obtain ⟨_,_,_,n,_,h1⟩:=(show ObjOk X.prog X.w H s.heap a (.frz ob (.lst xs)) from I.hok a _ ea)
  exact PySem.W.kia_one PySem.W.kitx_list I.kIn ⟨_,h1,rfl⟩ e (fun z=>nomatch z) h
 | @tup a xs ea =>
  cases (show u = Value.ref a from rx)
  obtain ⟨_,_,_,p⟩:=(show ObjOk X.prog X.w H s.heap a (.tup xs) from I.hok a _ ea)
  obtain ⟨o,h1,h2,_⟩:=p
  exact PySem.W.kia_one PySem.W.kitx_tuple I.kIn ⟨o,h1,h2⟩ e (fun z=>nomatch z) h
 | @dK a kvs ea =>
  cases (show u = Value.ref a from rx)
  obtain ⟨_,_,vs,_,p⟩:=(show ObjOk X.prog X.w H s.heap a (.dK kvs) from I.hok a _ ea)
  obtain ⟨o,es,ep,h1,h2,_⟩:=p
  exact PySem.W.kia_one PySem.W.kitx_dict I.kIn ⟨o,h1,h2.1⟩ e (fun z=>nomatch z) h
 | @dT a kvs ea =>
  cases (show u = Value.ref a from rx)
  obtain ⟨_,_,xs,_,o,es,ep,h1,h2,_⟩:=(show ObjOk X.prog X.w H s.heap a (.dT kvs) from I.hok a _ ea)
  exact PySem.W.kia_one PySem.W.kitx_dict I.kIn ⟨o,h1,h2.1⟩ e (fun z=>nomatch z) h
 | @ins a C dx fs ea cl ha hn htk hm =>
  cases (show u = Value.ref a from rx)
  obtain ⟨mA,O,_⟩:=Sx I.hok ea
  obtain ⟨od,J,_⟩:=O.look
  exact PySem.W.kia_one (PySem.W.kitx_own (cl.get _) cl.hd ha hn htk hm) I.kIn J e (fun z=>nomatch z) h
end
end L2
namespace L2
open PySem PySem.Spec PyProof.Rows
structure Room (k:Nat) (A:Around):Prop where
 hd:A.handled = none
 dp:A.depth + 3 * k + 5 < recursionLimit
 un:A.units + 16 * k + 200 < cLine
theorem Room.mono {j k:Nat} {A:Around} (r:Room k A) (h:j <= k):Room j A:=⟨r.hd,by have:=r.dp; omega,by have:=r.un; omega⟩
theorem Room.deeper {k:Nat} {A:Around} (r:Room (k + 1) A) (env:Env):Room k (A.deeper env) :=
 ⟨r.hd,by have:=r.dp; show A.depth + 1 + 3 * k + 5 < _; omega,by have:=r.un; show A.units + 3 + 16 * k + 200 < _; omega⟩
theorem Aa4 {A:Around} {C:Addr} {us:List Value} {kw:List (Str × Value)}:(A.under (.builtin "type.__call__" ⟨.ref C :: us,kw⟩)).depth = A.depth + 1:=by
 first | rfl | simp [Around.under,Code.weight,Code.isCreation,Code.isGuard,Code.isCaller,Code.frames,Code.isFrame,guardIds]
theorem AaC {A:Around} {C:Addr} {us:List Value} {kw:List (Str × Value)}:(A.under (.builtin "type.__call__" ⟨.ref C :: us,kw⟩)).units = A.units + 1:=by
 first | rfl | simp [Around.under,Code.cUnits,Code.frames,Code.isFrame]
theorem Room.make {k:Nat} {A:Around} (r:Room (k + 1) A) (C:Addr) (us:List Value) (kw:List (Str × Value)):Room k (A.under (.builtin "type.__call__" ⟨.ref C :: us,kw⟩)) :=
 ⟨r.hd,by have:=r.dp; rw [Aa4]; omega,by have:=r.un; rw [AaC]; omega⟩
theorem Room.depth {k:Nat} {A:Around} (r:Room k A):A.depth < recursionLimit:=by have:=r.dp; omega
theorem Room.units {k:Nat} {A:Around} (r:Room k A):A.units + 64 < cLine:=by have:=r.un; omega
def Us:TA:=fun _ H Q=>Q [] H
def Gm (ta:TE) (tr:TA):TA:=fun σ H Q=>ta σ H fun x H1=>tr σ H1 fun xs H2=>Q (x :: xs) H2
section
variable {X:Cx} {e:Expr} {es:List Expr} {te:TE} {t:TA} {pos:Pos}
theorem Be:PA X [] Us:=fun _ _ _ _ H Q I h=>Calls.spliced_nil ⟨[],H,I,.nil,h⟩
theorem Ba (ha:PE X e te) (hr:PA X es t) (hs:starEach (e :: es) X.env = (false,eval e X.env) :: starEach es X.env:=by rfl):PA X (e :: es) (Gm te t):=by
 intro pos pins s σ H Q I h
 rw [hs]
 show wpAny _ _ (spliced ((false,eval e X.env) :: backTo pos (starEach es X.env))) _ _ s
 refine Calls.spliced_cons (thn (ha pins s σ H _ I h) fun u s1 ⟨x,H1,I1,r1,q1⟩=>?_)
 exact thn (hr pos pins s1 σ H1 _ I1 q1) fun us s2 ⟨xs,H2,I2,r2,q2⟩=>⟨x :: xs,H2,I2,.cons r1 r2,q2⟩
def Ahh (t:TA):TE:=fun σ H Q=>t σ H fun xs H1=>xs.length <= sizeLine/\∀ p,H1 p = none->Q (.ref p) (upd H1 p (.tup xs))
theorem AgP {x1} (h:PA X es t):PE X (.Tuple es x1 pos) (Ahh t):=by
 intro pins s σ H Q I hq
 refine wpAny_Tuple_spliced (thn (h pos pins s σ H _ I hq) fun us s1 ⟨xs,H1,I1,r,z,q⟩=>⟨by rw [<- r.length]; exact z,?_⟩)
 have hf:H1 s1.heap.objs.size = none:=I1.hok.fresh (Nat.le_refl _)
 refine ⟨.ref s1.heap.objs.size,upd H1 s1.heap.objs.size (.tup xs),I1.laid (t':=s1.toks) (fun b u e=>Heap.get?_push_of_some _ e) (Nat.le_refl _) ?_,rfl,q _ hf⟩
 exact ⟨z,us,r,⟨_,Heap.get?_push_size _ rfl,rfl,_,rfl⟩⟩
end
abbrev Sp:=List V->Hp->VK->XK->Prop
abbrev CXT:=List Env->Hp->Shared->XK->Value->Shared->Prop
structure Env0 (P:Program) (w:World) (K:PySem.W.Frag) (mg:Str->Option Value) (base:Heap) (A:Around) (outer:List Env) (s:Shared) (H:Hp):Prop where
 frames:A.frames = some outer
 mod:Mod K mg base
 bs:∀ b o,base.get? b = some o->s.heap.get? b = some o/\H b = none
 bsz:base.objs.size <= s.heap.objs.size
 funs:s.heap.FunFrames base outer
 frf:∀ b ∈ frs outer,H b = none
 hok:HOk P w H s.heap
 bare:AllBare s.gens
def CE (outer:List Env) (P:Program) (w:World) (H:Hp) (s:Shared) (Q:VK) (u:Value) (s':Shared):Prop :=
 ∃ v H',s'.os = s.os/\AllBare s'.gens/\Un (frs outer) [] H H' s.heap s'.heap/\HOk P w H' s'.heap/\RelV v u/\Q v H'
def CR (CX:CXT) (outer:List Env) (P:Program) (w:World) (H:Hp) (s:Shared) (Q:VK) (E:XK) (r:Result) (s':Shared):Prop :=
 match r with
 | .ok (.ret u)=>CE outer P w H s Q u s'
 | .ok _=>False
 | .error e=>CX outer H s E e s'
structure FnOk (P:Program) (w:World) (K:PySem.W.Frag) (mg:Str->Option Value) (base:Heap) (CX:CXT) (k:Nat) (f:Addr) (fd:FuncData) (ps:List Str) (sp:Sp):Prop where
 len:∀ vs H Q E,sp vs H Q E->vs.length = ps.length
 run:∀ (A:Around) (outer:List Env) (s:Shared) (H:Hp) (args:Args) (us:List Value) (vs:List V) (Q:VK) (E:XK),Room k A->Env0 P w K mg base A outer s H->BindsTo s fd args (ps.zip us)->Vals vs us->sp vs H Q E ->
  codeAny (model P w) A (.call (.ref f) args) (CR CX outer P w H s Q E) s
theorem FnOk.imp {P:Program} {w:World} {K:PySem.W.Frag} {mg:Str->Option Value} {base:Heap} {CX:CXT} {k:Nat} {f:Addr} {fd:FuncData} {ps:List Str} {sp sp':Sp} (F:FnOk P w K mg base CX k f fd ps sp)
  (h:∀ vs H Q E,sp' vs H Q E->sp vs H Q E):FnOk P w K mg base CX k f fd ps sp' :=
 ⟨fun vs H Q E q=>F.len vs H Q E (h _ _ _ _ q),fun A outer s H args us vs Q E hr he hb hv hs=>F.run A outer s H args us vs Q E hr he hb hv (h _ _ _ _ hs)⟩
theorem Env0.make {P:Program} {w:World} {K:PySem.W.Frag} {mg:Str->Option Value} {base:Heap} {A:Around} {outer:List Env} {s:Shared} {H:Hp} (e:Env0 P w K mg base A outer s H) (C:Addr) (us:List Value) (kw:List (Str × Value)) :
  Env0 P w K mg base (A.under (.builtin "type.__call__" ⟨.ref C :: us,kw⟩)) outer s H:=⟨by first | exact e.frames | (simpa [Around.under,Code.envs,Code.isFrame,pushEnvs] using e.frames),e.mod,e.bs,e.bsz,e.funs,e.frf,e.hok,e.bare⟩
section
variable {X:Cx} {pins:List (Addr × Obj)} {σ:St} {H:Hp} {s s':Shared}
theorem Inv.env0 (I:Inv X pins σ H s):Env0 X.prog X.w X.K X.mg X.base X.A X.stack s H :=
 ⟨I.ok.frames,I.ok.mod,I.bs,Nat.le_trans I.ok.bsz I.sz,I.stack,I.stkFree,I.hok,I.bare⟩
theorem Inv.after {Q:VK} {u:Value} (I:Inv X pins σ H s) (h:CE X.stack X.prog X.w H s Q u s'):EP X pins σ Q u s':=by
 obtain ⟨v,H',os,bare,un,hok,r,q⟩:=h
 obtain ⟨hh,g,d,t,os'⟩:=s'
 obtain rfl:os' = s.os:=os
 exact ⟨v,H',I.call (h':=hh) (g':=g) (d':=d) (t':=t) (ch:=[]) un hok bare (fun b z=>absurd z (by simp)),r,q⟩
end
def Jz (sp:Sp) (dvs:List V) (E:XK) (t:TA):TE:=fun σ H Q=>t σ H fun vs H1=>sp (vs ++ dvs) H1 Q E
def Aes (C:Addr) (m:Str) (sp:Sp) (dvs:List V) (E:XK) (ta:TE) (t:TA):TE:=fun σ H Q=>ta σ H fun x H1=>∃ a dx fs,x = .ref a/\H1 a = some (.ins C dx fs)/\fs.lookup m = none /\
 t σ H1 fun vs H2=>sp (x :: (vs ++ dvs)) H2 Q E
def Afs (C:Addr) (sp:Sp) (dvs:List V) (E:XK) (t:TA):TE:=fun σ H Q=>t σ H fun vs H1=>∀ x dx,H1 x = none->H1 dx = none->dx ≠ x ->
 sp (.ref x :: (vs ++ dvs)) (upd (upd H1 dx (.own x)) x (.ins C dx [])) (fun v H2=>v = .non/\Q (.ref x) H2) E
def Binds (K:PySem.W.Frag) (fd:FuncData) (ps:List Str) (ds:List Value):Prop :=
 ∀ (s:Shared) (us:List Value),K.In s.heap->(us ++ ds).length = ps.length->BindsTo s fd ⟨us,[]⟩ (ps.zip (us ++ ds))
theorem Binds.all {K:PySem.W.Frag} {fd:FuncData} {ps:List Str} (h:∀ us:List Value,us.length = ps.length->bindArgs fd ⟨us,[]⟩ = pure (ps.zip us)):Binds K fd ps []:=fun s us _ hl=>by
 rw [List.append_nil] at hl ⊢
 exact .of_eq (h us hl)
def Nk (CX:CXT) (X:Cx) (E:XK):Prop:=∀ (pins:List (Addr × Obj)) (σ:St) (H:Hp) (s:Shared) (e:Value) (s':Shared),Inv X pins σ H s->CX X.stack H s E e s'->X.xe e s'
section
variable {X:Cx} {CX:CXT} {k:Nat} {f C:Addr} {fd:FuncData} {ps:List Str} {sp:Sp} {dvs:List V} {ds:List Value} {E:XK} {x m:Str} {p pos apos:Pos} {e o:Expr} {es:List Expr} {ta:TE} {t:TA}
theorem Acg {pins:List (Addr × Obj)} {σ:St} {H:Hp} {s:Shared} {Q:VK} {us:List Value} {vs:List V} (F:FnOk X.prog X.w X.K X.mg X.base CX k f fd ps sp) (hr:Room k X.A) (hb:Binds X.K fd ps ds) (hd:Vals dvs ds) (hx:Nk CX X E)
  (I:Inv X pins σ H s) (r:Vals vs us) (h:sp (vs ++ dvs) H Q E):wpAny (model X.prog X.w) X.A (call (.ref f) us) (EP X pins σ Q) X.xe s:=by
 have r2:Vals (vs ++ dvs) (us ++ ds):=r.append hd
 have hl:(us ++ ds).length = ps.length:=by rw [<- r2.length]; exact F.len _ _ _ _ h
 refine wpAny_call (codeAny_mono (F.run X.A X.stack s H ⟨us,[]⟩ (us ++ ds) (vs ++ dvs) Q E hr I.env0 (hb s us I.kIn hl) r2 h) fun r s' hq=>?_)
 cases r with
 | error e=>exact hx pins σ H s e s' I hq
 | ok fl =>
  cases fl with
  | ret u=>exact I.after hq
  | next=>exact False.elim hq
  | brk=>exact False.elim hq
  | cont=>exact False.elim hq
theorem Bp (F:FnOk X.prog X.w X.K X.mg X.base CX k f fd ps sp) (hr:Room k X.A) (hg:Gl X x) (hm:X.mg x = some (.ref f)) (hk:PySem.W.keepIn X.K (.ref f) = true) (hb:Binds X.K fd ps ds) (hd:Vals dvs ds) (hx:Nk CX X E)
  (ha:PA X (e :: es) t) (hdb:(x == ("__debug__" : Str)) = false:=by decide) (he:starEach (e :: es) X.env = (false,eval e X.env) :: starEach es X.env:=by rfl) (hpl:(backTo pos (starEach es X.env)).any (·.1) = false:=by rfl) :
  PE X (.Call (.Name x p) (e :: es) [] pos) (Jz sp dvs E t):=by
 intro pins s σ H Q I h
 refine wpAny_Call_Name_kw (Nd I hg hm ?_ hdb)
 refine PySem.W.callWith_K (h₀:=X.base) I.ok.mod.kin hk (thn (ha pos pins s σ H _ I h) fun us s1 ⟨vs,H1,I1,r,q⟩=>⟨I1.kIn,?_⟩) he hpl
 exact Acg F hr hb hd hx I1 r q
theorem Age {pl:Sem Bool} (he:PE X o ta) (c:Cls X.K C) (hm:Adx X.K C m f) (F:FnOk X.prog X.w X.K X.mg X.base CX k f fd ps sp) (hr:Room k X.A) (hb:Binds X.K fd ps ds) (hd:Vals dvs ds) (hx:Nk CX X E) (ha:PA X (e :: es) t)
  (hst:starEach (e :: es) X.env = (false,eval e X.env) :: starEach es X.env:=by rfl) (hpl:(backTo pos (starEach es X.env)).any (·.1) = false:=by rfl)
  (ht:eval (.Call (.Attribute o m apos) (e :: es) [] pos) X.env = (do
   let ov <- eval o X.env
   standAt apos.atName
   let (f,first) <- holding [ov] (getMethod ov m pl)
   callWith pos f first (backTo pos (starEach (e :: es) X.env)) (backToKw pos (keywordEach [] X.env))):=by rfl) :
  PE X (.Call (.Attribute o m apos) (e :: es) [] pos) (Aes C m sp dvs E ta t):=by
 intro pins s σ H Q I h
 refine PySem.W.methodCall_KW (pl:=pl) (thn (he pins s σ H _ I h) fun u s1 ⟨x,H1,I1,rx,a,dx,fs,ex,ea,l,q⟩=>?_) ht
 subst ex
 obtain rfl:u = Value.ref a:=rx
 refine Abk I1 ea c hm l ?_
 refine PySem.W.callWith_K (first:=[.ref a]) (h₀:=X.base) I.ok.mod.kin hm.kp (thn (ha pos pins s1 σ H1 _ I1 q) fun us s2 ⟨vs,H2,I2,r,q2⟩=>⟨I2.kIn,?_⟩) hst hpl
 exact Acg (us:=.ref a :: us) (vs:=.ref a :: vs) F hr hb hd hx I2 (.cons rfl r) q2
structure Mk (K:PySem.W.Frag) (C f:Addr):Prop where
 makes:PySem.W.makesIn K C = true
 init:PySem.W.findIn K (.ref C) "__init__" = some (some (.ref f))
 fn:PySem.W.isFn K (.ref f) = true
 kp:PySem.W.keepIn K (.ref C) = true
theorem AdY {pins:List (Addr × Obj)} {σ:St} {H:Hp} {s:Shared} {Q:VK} {us:List Value} {vs:List V} (M:Mk X.K C f) (F:FnOk X.prog X.w X.K X.mg X.base CX k f fd ps sp) (hr:Room (k + 1) X.A) (hb:Binds X.K fd ps ds) (hd:Vals dvs ds)
  (hx:Nk CX X E) (I:Inv X pins σ H s) (r:Vals vs us)
  (h:∀ x dx,H x = none->H dx = none->dx ≠ x->sp (.ref x :: (vs ++ dvs)) (upd (upd H dx (.own x)) x (.ins C dx [])) (fun v H2=>v = .non/\Q (.ref x) H2) E) :
  wpAny (model X.prog X.w) X.A (call (.ref C) us) (EP X pins σ Q) X.xe s:=by
 have hq:=h (s.heap.objs.size + 1) s.heap.objs.size (I.hok.fresh (Nat.le_succ _)) (I.hok.fresh (Nat.le_refl _)) (Nat.ne_of_lt (Nat.lt_succ_self _))
 have I2:=Inv.made (C:=C) I
 have r2:Vals (V.ref (s.heap.objs.size + 1) :: (vs ++ dvs)) (Value.ref (s.heap.objs.size + 1) :: (us ++ ds)):=.cons rfl (r.append hd)
 have hl:(Value.ref (s.heap.objs.size + 1) :: us ++ ds).length = ps.length:=by
  have e:=r2.length
  rw [F.len _ _ _ _ hq] at e
  exact e.symm
 refine wpAny_call (Ad4 (f:=f) I.kIn M.makes M.init (beq_iff_eq.mp M.fn) (codeAny_mono (F.run _ X.stack _ _ ⟨Value.ref (s.heap.objs.size + 1) :: us,[]⟩ (Value.ref (s.heap.objs.size + 1) :: (us ++ ds)) _ _ E (hr.make C us [])
  (I2.env0.make C us []) (hb _ (Value.ref (s.heap.objs.size + 1) :: us) I2.kIn hl) r2 hq) fun r s' hq'=>?_))
 cases r with
 | error e=>exact hx pins σ _ _ e s' I2 hq'
 | ok fl =>
  cases fl with
  | ret u =>
   obtain ⟨v,H',I3,rv,ev,q3⟩:=I2.after hq'
   subst ev
   exact ⟨rv,⟨V.ref (s.heap.objs.size + 1),H',I3,rfl,q3⟩⟩
  | next=>exact False.elim hq'
  | brk=>exact False.elim hq'
  | cont=>exact False.elim hq'
theorem Agv (M:Mk X.K C f) (F:FnOk X.prog X.w X.K X.mg X.base CX k f fd ps sp) (hr:Room (k + 1) X.A) (hg:Gl X x) (hm:X.mg x = some (.ref C)) (hb:Binds X.K fd ps ds) (hd:Vals dvs ds) (hx:Nk CX X E)
  (ha:PA X (e :: es) t) (hdb:(x == ("__debug__" : Str)) = false:=by decide) (he:starEach (e :: es) X.env = (false,eval e X.env) :: starEach es X.env:=by rfl) (hpl:(backTo pos (starEach es X.env)).any (·.1) = false:=by rfl) :
  PE X (.Call (.Name x p) (e :: es) [] pos) (Afs C sp dvs E t):=by
 intro pins s σ H Q I h
 refine wpAny_Call_Name_kw (Nd I hg hm ?_ hdb)
 refine PySem.W.callWith_K (h₀:=X.base) I.ok.mod.kin M.kp (thn (ha pos pins s σ H _ I h) fun us s1 ⟨vs,H1,I1,r,q⟩=>⟨I1.kIn,?_⟩) he hpl
 exact AdY M F hr hb hd hx I1 r q
end
section
variable {X:Cx} {CX:CXT} {k:Nat} {f C:Addr} {fd:FuncData} {ps ks:List Str} {sp:Sp} {E:XK} {x m:Str} {p pos apos kpos:Pos} {e o:Expr} {es:List Expr} {kws:List Keyword} {te ta:TE} {t tk:TA} {nm:Option Str}
variable {g:List Value->List Value->List Value} {gV:List V->List V->List V}
end
structure Ca (N P:List Str) (sc:Scope):Prop where
 kind:sc.kind = .function
 co:sc.isCoroutine = false
 gen:sc.isGenerator = false
 nd:N.Nodup
 pre:N.take P.length = P
 par:∀ x ∈ P,sc.names.lookup x = some .local\/sc.names.lookup x = some .cell
 nofree:∀ y ∈ sc.names,y.2 ≠ .free
theorem Vn {kindOf:Str->Option NameKind} {x:Str}:∀ {binds:List (Str × Value)} {m:Str->Option Value},(∀ v,(x,v) ∉ binds)->bindL kindOf binds m x = m x
 | [],_,_=>rfl
 | (n,v) :: r,m,h=>by
  unfold bindL
  rw [Vn fun w hw=>h w (List.mem_cons_of_mem _ hw)]
  split
  ·have:x ≠ n:=by rintro rfl; exact h v List.mem_cons_self
   simp [this]
  ·rfl
theorem Vv {kindOf:Str->Option NameKind} {x:Str}:∀ {binds:List (Str × Value)} {m:Str->Option Value},(∀ v,(x,v) ∉ binds)->bindC kindOf binds m x = m x
 | [],_,_=>rfl
 | (n,v) :: r,m,h=>by
  unfold bindC
  rw [Vv fun w hw=>h w (List.mem_cons_of_mem _ hw)]
  split
  ·rfl
  ·have:x ≠ n:=by rintro rfl; exact h v List.mem_cons_self
   simp [this]
theorem Vj {kindOf:Str->Option NameKind} {x:Str} {v:Value}:∀ {P:List Str} {vs:List Value} {i:Nat} {m:Str->Option Value},P.Nodup->P[i]? = some x->vs[i]? = some v->kindOf x = some .local ->
  bindL kindOf (P.zip vs) m x = some v
 | [],_,_,_,_,h,_,_=>by simp at h
 | _ :: _,[],_,_,_,_,h,_=>by simp at h
 | p :: P,w :: vs,0,m,nd,h1,h2,hk=>by
  simp at h1 h2; subst h1; subst h2
  show bindL kindOf ((p,w) :: P.zip vs) m p = _
  unfold bindL
  rw [Vn fun v hv=>(List.nodup_cons.mp nd).1 (List.of_mem_zip hv).1,if_pos hk]
  simp
 | p :: P,w :: vs,i + 1,m,nd,h1,h2,hk=>by
  show bindL kindOf ((p,w) :: P.zip vs) m x = _
  unfold bindL
  exact Vj (i:=i) (List.nodup_cons.mp nd).2 (by simpa using h1) (by simpa using h2) hk
theorem Vq {kindOf:Str->Option NameKind} {x:Str} {v:Value}:∀ {P:List Str} {vs:List Value} {i:Nat} {m:Str->Option Value},P.Nodup->P[i]? = some x->vs[i]? = some v->kindOf x ≠ some .local ->
  bindC kindOf (P.zip vs) m x = some v
 | [],_,_,_,_,h,_,_=>by simp at h
 | _ :: _,[],_,_,_,_,h,_=>by simp at h
 | p :: P,w :: vs,0,m,nd,h1,h2,hk=>by
  simp at h1 h2; subst h1; subst h2
  show bindC kindOf ((p,w) :: P.zip vs) m p = _
  unfold bindC
  rw [Vv fun v hv=>(List.nodup_cons.mp nd).1 (List.of_mem_zip hv).1,if_neg hk]
  simp
 | p :: P,w :: vs,i + 1,m,nd,h1,h2,hk=>by
  show bindC kindOf ((p,w) :: P.zip vs) m x = _
  unfold bindC
  exact Vq (i:=i) (List.nodup_cons.mp nd).2 (by simpa using h1) (by simpa using h2) hk
def Nv (N:List Str) (vs:List V):St:=vs.map some ++ List.replicate (N.length - vs.length) none
def Jh (CX:CXT) (P:Program) (w:World) (K:PySem.W.Frag) (mg:Str->Option Value) (base:Heap) (N:List Str) (qual:Str) (scope:Scope) (f:Addr) (cd:Value) (A:Around) (outer:List Env) (s:Shared) (H:Hp) (E:XK):Cx where
 prog:=P
 w:=w
 K:=K
 mg:=mg
 base:=base
 A:=A.deeper (envOfC qual scope s.heap.objs.size f cd)
 N:=N
 s₀:=s
 H₀:=H
 env:=envOfC qual scope s.heap.objs.size f cd
 outer:=outer
 stack:=envOfC qual scope s.heap.objs.size f cd :: outer
 ex:=[]
 calm:=true
 fn:=fun _=>true
 pn:=[]
 xe:=fun e s'=>wpAny (model P w) (A.deeper (envOfC qual scope s.heap.objs.size f cd)) (leaving (envOfC qual scope s.heap.objs.size f cd) e) (fun _ s''=>CX outer H s E e s'') (fun e' s''=>CX outer H s E e' s'') s'
theorem Yb {sc:Scope} {n:Nat} {x:Str} (h:sc.names.lookup x = some .cell):∃ c,(cellsFrom n sc.names []).lookup x = some c:=by
 have q:=PySem.W.cellsFrom_some sc.names n [] (.inl h)
 exact Option.isSome_iff_exists.mp q
theorem AcH {CX:CXT} {P:Program} {w:World} {K:PySem.W.Frag} {mg:Str->Option Value} {base:Heap} {N ps:List Str} {qual:Str} {scope:Scope} {f:Addr} {cd:Value} {A:Around} {outer:List Env} {s s1:Shared} {H:Hp} {E:XK} {us:List Value} {vs:List V}
  (S:Ca N ps scope) (hd:A.handled = none) (e0:Env0 P w K mg base A outer s H) (hl:vs.length = ps.length) (r:Vals vs us)
  (x:InCallC s s.heap.objs.size (bindL (envOfC qual scope s.heap.objs.size f cd).kindOf (ps.zip us) fun _=>none) (cellsFrom (s.heap.objs.size + 1) scope.names []) (bindC (envOfC qual scope s.heap.objs.size f cd).kindOf (ps.zip us) fun _=>none) s1) :
  Inv (Jh CX P w K mg base N qual scope f cd A outer s H E) [] (Nv N vs) H s1:=by
 have hpl:ps.length <= N.length:=by have:=congrArg List.length S.pre; rw [List.length_take] at this; omega
 obtain ⟨h1,tk,rfl,hk⟩:=x.done
 have noA:∀ b:Addr,b ∉ (Jh CX P w K mg base N qual scope f cd A outer s H E).ex:=fun b z=>absurd (show b ∈ ([]:List Addr) from z) (by simp)
 refine ⟨⟨e0.mod,S.kind,rfl,rfl,Nat.le_refl _,fun y z c h1 h2=>?_,fun y hy=>?_,fun y c _ h=>?_,fun _=>hd,Around.frames_deeper e0.frames,.inr ⟨rfl,rfl⟩,fun b z=>absurd z (noA b),e0.bs,e0.bsz,fun b _ _=>noA b,fun b z=>absurd z (noA b),e0.funs,e0.frf⟩,
  rfl,e0.bare,Un.kept hk,⟨_,x.toInCall.ns,fun i y v h1 h2 h3=>?_⟩,fun y c h=>⟨_,x.cell y c h⟩,e0.hok.fresh (Nat.le_refl _),fun y c h=>?_,fun p hp=>absurd (show p ∈ ([]:List (Addr × Obj)) from hp) (by simp),e0.hok.kept hk,?_⟩
 ·exact name_of_addr x.apart (PySem.mem_of_lookup h1) (PySem.mem_of_lookup h2)
 ·have hy:scope.names.lookup y = some .cell\/scope.names.lookup y = some .free:=hy
  rcases hy with hy | hy
  ·exact Yb hy
  ·exact absurd rfl (S.nofree _ (PySem.mem_of_lookup hy))
 ·exact Nat.le_of_lt (x.above y c (PySem.mem_of_lookup h))
 ·have hi:i < vs.length:=by
   unfold Nv at h2
   by_cases hi:i < vs.length
   ·exact hi
   ·rw [List.getElem?_append_right (by simpa using hi)] at h2
    rw [List.getElem?_replicate] at h2
    split at h2 <;> cases h2
  have ha:vs[i]? = some v:=by
   unfold Nv at h2
   rw [List.getElem?_append_left (by simpa using hi),List.getElem?_map] at h2
   cases e:vs[i]? with
   | none=>rw [e] at h2; cases h2
   | some a=>rw [e] at h2; cases h2; rfl
  obtain ⟨u,hu,rv⟩:=r.get ha
  have hp:ps[i]? = some y:=by
   rw [<- S.pre,List.getElem?_take_of_lt (by omega)]; exact h1
  have ndP:ps.Nodup:=by rw [<- S.pre]; exact S.nd.sublist (List.take_sublist _ _)
  refine ⟨u,rv,?_⟩
  rcases S.par y (List.mem_of_getElem? hp) with k | k
  ·exact .inl ⟨k,Vj ndP hp hu k⟩
  ·obtain ⟨c,e⟩:=Yb (n:=s.heap.objs.size + 1) k
   refine .inr ⟨.inl k,c,e,?_⟩
   have q:=x.cell y c e
   rw [Vq ndP hp hu (by show scope.names.lookup y ≠ _; rw [k]; decide)] at q
   exact q
 ·exact e0.hok.fresh (Nat.le_of_lt (x.above y c (PySem.mem_of_lookup h)))
 ·unfold Nv
  show _ = N.length
  rw [List.length_append,List.length_map,List.length_replicate]
  omega
theorem Aka {CX:CXT} {P:Program} {w:World} {K:PySem.W.Frag} {mg:Str->Option Value} {base:Heap} {k:Nat} {f:Addr} {name qual:Str} {params:Arguments} {body:List Stmt} {scope:Scope} {dV kV doc pm cdv ct oc:Value} {an od:Option Addr}
  {osl:Array (Option Value)} {N ps:List Str} {sp:Sp} (lk:K.lookup f = some ⟨oc,od,.func (PySem.W.fnOf name qual params body scope dV kV doc pm an cdv ct),osl⟩) (hcd:PySem.W.codeIn K cdv qual = true) (S:Ca N ps scope)
  (len:∀ vs H Q E,sp vs H Q E->vs.length = ps.length)
  (hbody:∀ (A:Around) (outer:List Env) (s:Shared) (H:Hp) (vs:List V) (Q:VK) (E:XK),Room k (A.deeper (envOfC qual scope s.heap.objs.size f cdv))->sp vs H Q E ->
   ∃ t,PSs (Jh CX P w K mg base N qual scope f cdv A outer s H E) body t/\t { nx:=fun _ H'=>Q .non H',rt:=Q } (Nv N vs) H) :
  FnOk P w K mg base CX (k + 1) f (PySem.W.fnOf name qual params body scope dV kV doc pm an cdv ct) ps sp:=by
 refine ⟨len,fun A outer s H args us vs Q E hr e0 hb r hsp=>?_⟩
 have hl:=len _ _ _ _ hsp
 have KX:K.In s.heap:=e0.mod.kin.keeps fun b o e=>(e0.bs b o e).1
 have lim:s.heap.NoLimit:=e0.mod.nolimit.keeps fun b o e=>(e0.bs b o e).1
 have hkind:∀ y ∈ ps.zip us,scope.names.lookup y.1 = some .local\/(scope.names.lookup y.1 = some .cell/\((cellsFrom (s.heap.objs.size + 1) scope.names []).lookup y.1).isSome = true):=fun ⟨n,v⟩ hy=>by
  rcases S.par n (List.of_mem_zip hy).1 with q | q
  ·exact .inl q
  ·exact .inr ⟨q,PySem.W.cellsFrom_some _ _ _ (.inl q)⟩
 refine codeAny_call_function hr.depth (KX _ _ lk) rfl S.co S.gen rfl (PySem.W.codeRec_of KX hcd) (hb _ _ _ _ ?_)
 refine wpAny_newFunctionEnv_cells S.kind hkind fun env he s1 x=>?_
 subst he
 refine ⟨lim.keeps x.toInCall.keep,codeAny_func ?_⟩
 obtain ⟨t,ht,hq⟩:=hbody A outer s H vs Q E (hr.deeper _) hsp
 have I:Inv (Jh CX P w K mg base N qual scope f cdv A outer s H E) [] (Nv N vs) H s1:=AcH S hr.hd e0 hl r x
 refine wpAny_mono (ht [] s1 (Nv N vs) H _ I hq) (fun fl s' hs=>?_) fun e s' hs=>hs
 have fin:∀ {σ':St} {H':Hp} {v:V} {u:Value},Inv (Jh CX P w K mg base N qual scope f cdv A outer s H E) [] σ' H' s'->RelV v u->Q v H'->CE outer P w H s Q u s' :=
  fun {σ' H' v u} J rv q=>⟨v,H',J.os,J.bare,J.base,J.hok,rv,q⟩
 cases fl with
 | ret u =>
  obtain ⟨v,σ',H',J,rv,q⟩:=hs
  exact fin J rv q
 | next =>
  obtain ⟨σ',H',J,q⟩:=hs
  exact fin (v:=V.non) (u:=Value.none) J rfl q
 | brk =>
  obtain ⟨_,_,_,q⟩:=hs
  exact False.elim q
 | cont =>
  obtain ⟨_,_,_,q⟩:=hs
  exact False.elim q
end L2
namespace L2
open PySem PySem.Spec PyProof.Rows
section
variable {X:Cx} {x:Str} {p pos:Pos} {e:Expr} {es:List Expr} {t:TA} {id T:String} {r:List V->Hp->VK->Prop}
def tCB (r:List V->Hp->VK->Prop) (t:TA):TE:=fun σ H Q=>t σ H fun vs H1=>r vs H1 Q
theorem Cc (hc:Ga X (.builtin id) r) (hg:Gl X x) (hm:X.mg x = none) (hv:bootBuiltins x = some (.builtin id)) (ha:PA X (e :: es) t) (hn:x ≠ "__name__":=by decide) (hdb:(x == ("__debug__" : Str)) = false:=by decide)
  (he:starEach (e :: es) X.env = (false,eval e X.env) :: starEach es X.env:=by rfl) (hpl:(backTo pos (starEach es X.env)).any (·.1) = false:=by rfl):PE X (.Call (.Name x p) (e :: es) [] pos) (tCB r t):=by
 intro pins s σ H Q I h
 refine wpAny_Call_Name_kw (Oq I hg hm hv ?_ hn hdb)
 exact PyProof.Rows.callWith_builtin1 (thn (ha pos pins s σ H _ I h) fun us s1 ⟨vs,H1,I1,r1,q1⟩=>hc pins s1 σ H1 vs us Q I1 r1 q1) he hpl
theorem Nu (hc:Ga X (.type T) r) (hg:Gl X x) (hm:X.mg x = none) (hv:bootBuiltins x = some (.type T)) (ha:PA X (e :: es) t) (hn:x ≠ "__name__":=by decide) (hdb:(x == ("__debug__" : Str)) = false:=by decide)
  (he:starEach (e :: es) X.env = (false,eval e X.env) :: starEach es X.env:=by rfl) (hpl:(backTo pos (starEach es X.env)).any (·.1) = false:=by rfl):PE X (.Call (.Name x p) (e :: es) [] pos) (tCB r t):=by
 intro pins s σ H Q I h
 refine wpAny_Call_Name_kw (Oq I hg hm hv ?_ hn hdb)
 exact PyProof.Rows.callWith_type1 (thn (ha pos pins s σ H _ I h) fun us s1 ⟨vs,H1,I1,r1,q1⟩=>hc pins s1 σ H1 vs us Q I1 r1 q1) he hpl
end
end L2
namespace HT
open PySem PyProof.Rows
section
open PySem.SeqAt
open PySem.AutoSeq1 (wpAny_loadPart')
open PySem.MeetsSeq PySem.MeetsSeq2 PySem.MeetsSeq3
end
section
variable {prog:Program} {w:World} {A:Around} {E:Value->Shared->Prop} {s:Shared}
def sIx (n d:Nat):Option Int->Nat
 | none=>d
 | some v=>if v < 0 then (v + (n:Int)).toNat else min v.toNat n
theorem sIx_none (n d:Nat):sIx n d none = d:=rfl
theorem sIx_nat (n d k:Nat):sIx n d (some (k:Int)) = min k n:=by
 show (if (k:Int) < 0 then ((k:Int) + (n:Int)).toNat else min (k:Int).toNat n) = min k n
 rw [if_neg (by omega),Int.toNat_natCast]
end
end HT
namespace L2
open PySem PySem.Spec PyProof.Rows
abbrev TO:=St->Hp->(Option Int->Hp->Prop)->Prop
def PO (X:Cx) (e:Option Expr) (t:TO):Prop :=
 ∀ (pins:List (Addr × Obj)) (s:Shared) (σ:St) (H:Hp) (Q:Option Int->Hp->Prop),Inv X pins σ H s->t σ H Q ->
  wpAny (model X.prog X.w) X.A (evalPart e X.env) (fun u s'=>∃ o H',Inv X pins σ H' s'/\IsPart u o/\Q o H') X.xe s
def Zu:TO:=fun _ H Q=>Q none H
def AeW (t:TE):TO:=fun σ H Q=>t σ H fun x H1=>∃ i,x = .int i/\Q (some i) H1
section
variable {X:Cx} {e:Expr} {te:TE} {lo hi:Option Expr} {tl th:TO} {pos p2:Pos}
theorem Uu:PO X none Zu:=by
 intro pins s σ H Q I h
 rw [evalPart_none]
 exact wpAny_pure ⟨none,H,I,.none,h⟩
theorem Dz (h:PE X e te):PO X (some e) (AeW te):=by
 intro pins s σ H Q I hw
 rw [evalPart_some]
 refine thn (h pins s σ H _ I hw) fun u s1 ⟨x,H1,I1,r1,q1⟩=>?_
 obtain ⟨i,rfl,q⟩:=q1
 obtain ⟨t,rfl⟩:=r1
 exact ⟨some i,H1,I1,.int i t,q⟩
def SlR (X:Cx) (r:V->Option Int->Option Int->Hp->VK->Prop):Prop :=
 ∀ (pins:List (Addr × Obj)) (s:Shared) (σ:St) (H:Hp) (x:V) (v vl vu:Value) (lo hi:Option Int) (sl:Addr) (Q:VK),Inv X pins σ H s->RelV x v->s.heap.IsSliceOf sl vl vu .none->IsPart vl lo->IsPart vu hi->r x lo hi H Q ->
  ∃ T id,typeLookup (.type T) "__getitem__" = pure (some (.builtin id))/\s.TypeIs v T/\wpAny (model X.prog X.w) X.A (getItem v (.ref sl)) (EP X pins σ Q) X.xe s
def tSl (r:V->Option Int->Option Int->Hp->VK->Prop) (te:TE) (tl th:TO):TE:=fun σ H Q=>te σ H fun x H1=>tl σ H1 fun l H2=>th σ H2 fun u H3=>r x l u H3 Q
theorem Gd {r:V->Option Int->Option Int->Hp->VK->Prop} (hr:SlR X r) (he:PE X e te) (hl:PO X lo tl) (hu:PO X hi th):PE X (.Subscript e (.Slice lo hi none p2) pos) (tSl r te tl th):=by
 intro pins s σ H Q I h
 refine Subscript_ (thn (he pins s σ H _ I h) fun v s1 ⟨x,H1,I1,r1,q1⟩=>?_)
 refine wpAny_Slice (thn (hl pins s1 σ H1 _ I1 q1) fun vl s2 ⟨l,H2,I2,pl,q2⟩=>thn (hu pins s2 σ H2 _ I2 q2) fun vu s3 ⟨u,H3,I3,pu,q3⟩=>?_)
 rw [evalPart_none]
 refine wpAny_pure ?_
 have I4:Inv X pins σ H3 { s3 with heap:=s3.heap.push { cls:=.type "slice",data:=.fields #[vl,vu,.none] } }:=I3.kept (t':=s3.toks) fun b ob q=>Heap.get?_push_of_some _ q
 obtain ⟨T,id,hT,ht,hg⟩:=hr pins { s3 with heap:=s3.heap.push { cls:=.type "slice",data:=.fields #[vl,vu,.none] } } σ H3 x v vl vu l u s3.heap.objs.size Q I4 r1 (Heap.IsSliceOf.new ..) pl pu q3
 show wpAny (model X.prog X.w) X.A (subscriptTail e (.Slice lo hi none p2) v (.ref s3.heap.objs.size)) (EP X pins σ Q) X.xe { s3 with heap:=s3.heap.push { cls:=.type "slice",data:=.fields #[vl,vu,.none] } }
 exact tail_any (ops:=[.ref s3.heap.objs.size,v]) ht hT hg (by with_unfolding_all rfl)
def Tw (xs:List V) (lo hi:Option Int):List V:=(xs.drop (HT.sIx xs.length 0 lo)).take (HT.sIx xs.length xs.length hi - HT.sIx xs.length 0 lo)
theorem Zf (xs:List V) (lo hi:Option Int):(Tw xs lo hi).length <= xs.length:=by
 unfold Tw
 rw [List.length_take,List.length_drop]
 omega
end
end L2
namespace L2
open PySem PySem.Spec PyProof.Rows
def ixN (n:Nat) (i:Int):Option Nat:=if 0 <= i then (if i < n then some i.toNat else none) else if -(n:Int) <= i then some (i + n).toNat else none
def atI {α:Type} (xs:List α) (i:Int):Option α:=(ixN xs.length i).bind fun j=>xs[j]?
theorem AfN {n:Nat} {i:Int} {j:Nat} (h:ixN n i = some j):seqIndex? i n = some j/\j < n/\-(n:Int) <= i/\i < n:=by
 unfold ixN at h
 by_cases h0:0 <= i
 ·rw [if_pos h0] at h
  by_cases h1:i < n
  ·rw [if_pos h1] at h
   have e:i.toNat = j:=Option.some.inj h
   exact ⟨by rw [seqIndex_of h0 h1,e],by omega,by omega,h1⟩
  ·rw [if_neg h1] at h; cases h
 ·rw [if_neg h0] at h
  by_cases h1:-(n:Int) <= i
  ·rw [if_pos h1] at h
   have e:(i + n).toNat = j:=Option.some.inj h
   exact ⟨by rw [seqIndex_neg (by omega) h1,e],by omega,h1,by omega⟩
  ·rw [if_neg h1] at h; cases h
theorem Aav {α:Type} {xs:List α} {i:Int} {v:α} (h:atI xs i = some v):∃ j,seqIndex? i xs.length = some j/\xs[j]? = some v/\j < xs.length/\-(xs.length:Int) <= i/\i < xs.length:=by
 unfold atI at h
 cases e:ixN xs.length i with
 | none=>rw [e] at h; cases h
 | some j =>
  rw [e] at h
  obtain ⟨h1,h2,h3,h4⟩:=AfN e
  exact ⟨j,h1,h,h2,h3,h4⟩
theorem Fm {α:Type} {xs:List α} {j:Nat} {v:α} (h:xs[j]? = some v):atI xs (j:Int) = some v:=by
 have hj:j < xs.length:=(List.getElem?_eq_some_iff.mp h).1
 have e:ixN xs.length (j:Int) = some j:=by
  unfold ixN
  rw [if_pos (by omega),if_pos (by omega)]; simp
 unfold atI; rw [e]; exact h
def AgI (b:Expr):Prop:=∀ o i,subscripted b false o i = operate [o,i] (getItem o i)
def IxR (X:Cx) (r:R2):Prop :=
 ∀ (value slice:Expr) (pins:List (Addr × Obj)) (s:Shared) (σ:St) (H:Hp) (x y:V) (v u:Value) (Q:VK),Inv X pins σ H s->RelV x v->RelV y u->r x y H Q ->
  subscripted slice false v u = operate [v,u] (getItem v u)->wpAny (model X.prog X.w) X.A (subscriptTail value slice v u) (EP X pins σ Q) X.xe s
def MtR (X:Cx) (id:String) (r:V->List V->Hp->VK->Prop):Prop :=
 ∀ (pins:List (Addr × Obj)) (s:Shared) (σ:St) (H:Hp) (x:V) (xs:List V) (v:Value) (us:List Value) (Q:VK),Inv X pins σ H s->RelV x v->Vals xs us->r x xs H Q ->
  wpAny (model X.prog X.w) X.A (call (.builtin id) (v :: us)) (EP X pins σ Q) X.xe s
section
variable {X:Cx} {a b:Expr} {ta tb:TE} {pos:Pos}
theorem Cp {r:R2} (hr:IxR X r) (ha:PE X a ta) (hb:PE X b tb) (hs:AgI b):PE X (.Subscript a b pos) (tOp r ta tb):=by
 intro pins s σ H Q I h
 exact Subscript_ (AdV ha hb I h fun v u s2 x y H2 I2 rx ry q=>hr a b pins s2 σ H2 x y v u Q I2 rx ry q (hs _ _))
def Aa8 (K:PySem.W.Frag):R2:=fun x y H Q=>∃ p xs i v,x = .ref p/\y = .int i/\SqL K H p xs/\atI xs i = some v/\Q v H
def Aa0 (K:PySem.W.Frag):R2:=fun x y H Q=>∃ p xs i v,x = .ref p/\y = .int i/\SqT K H p xs/\atI xs i = some v/\Q v H
theorem Uq:IxR X (Aa8 X.K):=by
 intro value slice pins s σ H x y v u Q I rx ry h hs
 obtain ⟨p,xs,i,z,rfl,rfl,hq,he,q⟩:=h
 cases rx
 obtain ⟨t,rfl⟩:=ry
 obtain ⟨its,r,pl,hz⟩:=I.list hq
 obtain ⟨j,h1,h2,h3,h4,h5⟩:=Aav he
 obtain ⟨w,ew,rw'⟩:=r.get h2
 have hl:=r.length
 have hn:=Xs
 have fin:EP X pins σ Q w s:=⟨z,H,I,rw',q⟩
 by_cases h0:0 <= i
 ·have hj:i.toNat = j:=by
   rw [seqIndex_of h0 h5] at h1
   exact Option.some.inj h1
  exact item_listR pl.isList h0 (by omega) (by rw [hj]; simpa using ew) fin hs
 ·have hj:(i + (its.toArray.size:Int)).toNat = j:=by
   rw [seqIndex_neg (by omega) h4] at h1
   rw [List.size_toArray,<- hl]
   exact Option.some.inj h1
  exact subscriptTail_builtinR (x:=w) pl.isList.typeIs slot_list_getitem.lookup
   (wpAny_getItem_list_neg (Q:=fun r s'=>r = w/\EP X pins σ Q r s') pl.isList (by omega) (by rw [List.size_toArray] <;> omega) (by omega) (by rw [hj]; simpa using ew) ⟨rfl,fin⟩) hs
theorem Act:IxR X (Aa0 X.K):=by
 intro value slice pins s σ H x y v u Q I rx ry h hs
 obtain ⟨p,xs,i,z,rfl,rfl,hq,he,q⟩:=h
 cases rx
 obtain ⟨t,rfl⟩:=ry
 obtain ⟨its,r,pl,hz⟩:=I.tuple hq
 obtain ⟨j,h1,h2,h3,h4,h5⟩:=Aav he
 obtain ⟨w,ew,rw'⟩:=r.get h2
 have hl:=r.length
 have hn:=Xs
 have fin:EP X pins σ Q w s:=⟨z,H,I,rw',q⟩
 exact subscriptTail_builtinR (x:=w) pl.typeIs slot_tuple_getitem.lookup
  (getItem_tuple (j:=j) (Q:=fun r s'=>r = w/\EP X pins σ Q r s') pl (by omega) (by omega) (by rw [List.size_toArray,<- hl]; exact h1) (by simpa using ew) ⟨rfl,fin⟩) hs
theorem Xv (lo hi:Option Int) (n:Nat):(sliceBounds lo hi none n).1 = ((HT.sIx n 0 lo:Nat):Int)/\(sliceBounds lo hi none n).2.1 = ((HT.sIx n n hi:Nat):Int)/\(sliceBounds lo hi none n).2.2 = 1:=by
 refine ⟨?_,?_,rfl⟩
 ·cases lo with
  | none=>simp [sliceBounds,HT.sIx]
  | some i =>
   simp only [sliceBounds,HT.sIx,Option.getD_none,show (1:Int) > 0 by decide,if_true]
   by_cases h:i < 0
   ·simp only [h,if_true] <;> omega
   ·simp only [h,if_false] <;> omega
 ·cases hi with
  | none=>simp [sliceBounds,HT.sIx]
  | some i =>
   simp only [sliceBounds,HT.sIx,Option.getD_none,show (1:Int) > 0 by decide,if_true]
   by_cases h:i < 0
   ·simp only [h,if_true] <;> omega
   ·simp only [h,if_false] <;> omega
theorem Wc (its:List Value) (lo hi:Option Int):slicePick its.toArray lo hi none = ((its.drop (HT.sIx its.length 0 lo)).take (HT.sIx its.length its.length hi - HT.sIx its.length 0 lo)).toArray:=by
 obtain ⟨h1,h2,h3⟩:=Xv lo hi its.toArray.size
 unfold slicePick
 rw [h1,h2,h3]
 simp only [sliceRange_one,pick_run,List.size_toArray] <;> rfl
def AkH (K:PySem.W.Frag):V->Option Int->Option Int->Hp->VK->Prop:=fun x lo hi H Q=>∃ a xs,x = .ref a/\SqL K H a xs/\∀ p,H p = none->Q (.ref p) (upd H p (.lst (Tw xs lo hi)))
theorem AfR:SlR X (AkH X.K):=by
 intro pins s σ H x v vl vu lo hi sl Q I rx hs pl pu h
 obtain ⟨a,xs,rfl,hx,q⟩:=h
 cases rx
 obtain ⟨its,r,ht,hz⟩:=I.list hx
 have hlen:=r.length
 refine ⟨"list",_,slot_list_getitem.lookup,ht.isList.typeIs,?_⟩
 refine wpAny_getItem_list_slice ht.isList hs pl pu .none (by simp) ?_ (by rw [List.size_toArray] <;> omega)
 rw [Wc,<- hlen]
 refine ⟨.ref s.heap.objs.size,_,I.laid (t':=s.toks) (o:=.lst (Tw xs lo hi)) (fun b ob q=>Heap.get?_push_of_some _ q) (Nat.le_refl _) ?_,rfl,q _ (I.hok.fresh (Nat.le_refl _))⟩
 exact ⟨Nat.le_trans (Zf xs lo hi) hz,_,0,(r.drop (HT.sIx xs.length 0 lo)).take (HT.sIx xs.length xs.length hi - HT.sIx xs.length 0 lo),Heap.get?_push_size _ rfl⟩
def Jd:V->Bool
 | .non=>true
 | .bl _=>true
 | .int _=>true
 | .str _=>true
 | _=>false
def eqV:V->V->Bool
 | .non,.non=>true
 | .bl a,.bl b=>a == b
 | .bl a,.int b=>(if a then 1 else 0) == b
 | .int a,.bl b=>a == (if b then 1 else 0)
 | .int a,.int b=>a == b
 | .str a,.str b=>a == b
 | _,_=>false
theorem AcO {A:Around} {s:Shared} {y x:V} {u v:Value} (ry:RelV y u) (rx:RelV x v) (fy:Jd y = true) (fx:Jd x = true):SeqAt.EqAt A s u v (eqV y x):=by
 cases y with
 | non =>
  cases ry
  cases x with
  | non=>cases rx; exact SeqAt.EqAt.same _
  | bl b=>cases rx; exact SeqAt.EqAt.none_bool b
  | int b=>obtain ⟨t,rfl⟩:=rx; exact SeqAt.EqAt.none_int b t
  | str b=>obtain ⟨t,rfl⟩:=rx; exact SeqAt.EqAt.none_str b t
  | _=>exact absurd (show false = true from fx) Bool.false_ne_true
 | bl a =>
  cases ry
  cases x with
  | non=>cases rx; exact SeqAt.EqAt.bool_none a
  | bl b=>cases rx; exact SeqAt.EqAt.bool_bool a b
  | int b=>obtain ⟨t,rfl⟩:=rx; exact SeqAt.EqAt.bool_int a b t
  | str b=>obtain ⟨t,rfl⟩:=rx; exact SeqAt.EqAt.bool_str a b t
  | _=>exact absurd (show false = true from fx) Bool.false_ne_true
 | int a =>
  obtain ⟨t',rfl⟩:=ry
  cases x with
  | non=>cases rx; exact SeqAt.EqAt.int_none a t'
  | bl b=>cases rx; exact SeqAt.EqAt.int_bool a t' b
  | int b=>obtain ⟨t,rfl⟩:=rx; exact SeqAt.EqAt.int_int a t' b t
  | str b=>obtain ⟨t,rfl⟩:=rx; exact SeqAt.EqAt.int_str a t' b t
  | _=>exact absurd (show false = true from fx) Bool.false_ne_true
 | str a =>
  obtain ⟨t',rfl⟩:=ry
  cases x with
  | non=>cases rx; exact SeqAt.EqAt.str_none a t'
  | bl b=>cases rx; exact SeqAt.EqAt.str_bool a t' b
  | int b=>obtain ⟨t,rfl⟩:=rx; exact SeqAt.EqAt.str_int a t' b t
  | str b=>obtain ⟨t,rfl⟩:=rx; exact SeqAt.EqAt.str_str a t' b t
  | _=>exact absurd (show false = true from fx) Bool.false_ne_true
 | _=>exact absurd (show false = true from fy) Bool.false_ne_true
def eqU (x:V) (u:Value):Bool:=match u with
 | .none=>eqV .non x
 | .bool b=>eqV (.bl b) x
 | .int i _=>eqV (.int i) x
 | .str z _=>eqV (.str z) x
 | _=>false
theorem Acu {x y:V} {u:Value} (r:RelV y u) (f:Jd y = true):eqU x u = eqV y x:=by
 cases y with
 | non=>cases r; rfl
 | bl b=>cases r; rfl
 | int i=>obtain ⟨t,rfl⟩:=r; rfl
 | str z=>obtain ⟨t,rfl⟩:=r; rfl
 | _=>exact absurd (show false = true from f) Bool.false_ne_true
theorem Vi {x:V}:∀ {xs:List V} {us:List Value},Vals xs us->xs.all Jd = true->us.any (eqU x) = xs.any fun y=>eqV y x
 | _,_,.nil,_=>rfl
 | y :: xs,u :: us,.cons r t,f=>by
  rw [List.all_cons,Bool.and_eq_true] at f
  rw [List.any_cons,List.any_cons,Acu r f.1,Vi t f.2]
theorem Tr {A:Around} {s:Shared} {x:V} {v:Value} (rx:RelV x v) (fx:Jd x = true):∀ {xs:List V} {us:List Value},Vals xs us->xs.all Jd = true->∀ u ∈ us,SeqAt.EqAt A s u v (eqU x u)
 | _,_,.nil,_=>fun u hu=>by cases hu
 | y :: xs,u :: us,.cons r t,f=>fun u' hu=>by
  rw [List.all_cons,Bool.and_eq_true] at f
  rcases List.mem_cons.mp hu with rfl | hu
  ·rw [Acu r f.1]; exact AcO r rx f.1 fx
  ·exact Tr rx fx t f.2 u' hu
def inV (x:V) (xs:List V):Bool:=xs.any fun y=>eqV y x
def rIn (K:PySem.W.Frag) (neg:Bool):R2:=fun x y H Q=>∃ p xs,y = .ref p/\(SqL K H p xs\/SqT K H p xs)/\Jd x = true/\xs.all Jd = true/\Q (.bl (if neg then !inV x xs else inV x xs)) H
theorem Su:OpR X (compareOp .In) (rIn X.K false):=by
 intro pins s σ H x y v u Q I rx ry h
 obtain ⟨p,xs,rfl,hq,fx,fs,q⟩:=h
 cases ry
 rcases hq with hq | hq
 ·obtain ⟨its,r,pl,hz⟩:=I.list hq
  refine SeqAt.in_listAt (eqU x) pl.isList (fun w hw=>Tr rx fx r fs w (by simpa using hw)) ⟨.bl _,H,I,rfl,?_⟩
  rw [show its.toArray.any (eqU x) = its.any (eqU x) by simp,Vi r fs]
  exact q
 ·obtain ⟨its,r,pl,hz⟩:=I.tuple hq
  refine SeqAt.in_tupleAt (eqU x) pl (fun w hw=>Tr rx fx r fs w (by simpa using hw)) ⟨.bl _,H,I,rfl,?_⟩
  rw [show its.toArray.any (eqU x) = its.any (eqU x) by simp,Vi r fs]
  exact q
theorem Ja:Ga X (.builtin "len") (fun xs H Q=>∃ p ys,xs = [.ref p]/\(SqL X.K H p ys\/SqT X.K H p ys)/\Q (.int ys.length) H):=by
 intro pins s σ H xs us Q I r h
 obtain ⟨p,ys,rfl,hq,q⟩:=h
 obtain ⟨u,rfl,rx⟩:=Wr r
 cases rx
 have hn:=Xs
 rcases hq with hq | hq
 ·obtain ⟨its,r',pl,hz⟩:=I.list hq
  have hlen:=r'.length
  exact Calls.call_len_list pl.isList (by simp only [List.size_toArray] <;> omega) ⟨.int ys.length,H,I.tok _,⟨s.toks + 1,by rw [List.size_toArray,hlen]⟩,q⟩
 ·obtain ⟨its,r',pl,hz⟩:=I.tuple hq
  have hlen:=r'.length
  exact len_tuple pl (by simp only [List.size_toArray] <;> omega) ⟨.int ys.length,H,I.tok _,⟨s.toks + 1,by rw [List.size_toArray,hlen]⟩,q⟩
theorem Xr:Ga X (.type "list") (fun xs H Q=>∃ p ys,xs = [.ref p]/\(SqL X.K H p ys\/SqT X.K H p ys)/\∀ l,H l = none->Q (.ref l) (upd H l (.lst ys))):=by
 intro pins s σ H xs us Q I r h
 obtain ⟨p,ys,rfl,hq,q⟩:=h
 obtain ⟨u,rfl,rx⟩:=Wr r
 cases rx
 have fin:∀ (its:List Value),Vals ys its->ys.length <= sizeLine->∀ (h':Heap) (c':Nat),(∀ b o',s.heap.get? b = some o'->h'.get? b = some o') ->
   h'.get? s.heap.objs.size = some { cls:=.type "list",dict:=none,data:=.seq its.toArray c',slots:=#[] }->EP X pins σ Q (.ref s.heap.objs.size) { s with heap:=h' }:=fun its r' hz h' c' kp e =>
  ⟨.ref s.heap.objs.size,_,I.laid (t':=s.toks) kp (Nat.le_refl _) (show ObjOk X.prog X.w _ h' _ (.lst ys) from ⟨hz,its,c',r',e⟩),rfl,q _ (I.hok.fresh (Nat.le_refl _))⟩
 rcases hq with hq | hq
 ·obtain ⟨its,r',pl,hz⟩:=I.list hq
  have hlen:=r'.length
  obtain ⟨o,ho,hc,n,hd⟩:=pl.isList
  exact call_list_seq p (.inl rfl) ho hc hd (fun h' c' kp e=>fin its r' hz h' c' kp e) (by simp only [List.size_toArray] <;> omega)
 ·obtain ⟨its,r',pl,hz⟩:=I.tuple hq
  have hlen:=r'.length
  obtain ⟨o,ho,hc,n,hd⟩:=pl
  exact call_list_seq p (.inr rfl) ho hc hd (fun h' c' kp e=>fin its r' hz h' c' kp e) (by simp only [List.size_toArray] <;> omega)
def tyV (K:PySem.W.Frag) (T:String) (x:V) (H:Hp):Prop:=match x with
 | .str _=>T = "str"
 | .int _=>T = "int"
 | .ref p=>(T = "list"/\∃ xs,SqL K H p xs)\/(T = "tuple"/\∃ o,K.lookup p = some o/\o.cls = .type "tuple"/\o.dict = none) \/
   (T = "dict"/\((∃ kvs,H p = some (.dK kvs))\/∃ kvs,H p = some (.dT kvs)))\/(T = "set"/\∃ S n,H p = some (.set S n))
 | _=>False
theorem Aie {pins:List (Addr × Obj)} {σ:St} {H:Hp} {s:Shared} {T:String} {x:V} {v:Value} (I:Inv X pins σ H s) (r:RelV x v) (ty:tyV X.K T x H) :
  s.TypeIs v T/\∀ a,v = .ref a->∃ ob,s.heap.get? a = some ob/\ob.dict = none:=by
 cases x with
 | str z =>
  obtain ⟨t,rfl⟩:=r
  cases (show T = "str" from ty)
  exact ⟨typeIs_str s z t,fun _ e=>nomatch e⟩
 | int i =>
  obtain ⟨t,rfl⟩:=r
  cases (show T = "int" from ty)
  exact ⟨typeIs_int s i t,fun _ e=>nomatch e⟩
 | ref p =>
  cases r
  rcases ty with ⟨rfl,xs,hq⟩ | ⟨rfl,o,hk,hc,hd⟩ | ⟨rfl,hk⟩ | ⟨rfl,S,n,hk⟩
  ·obtain ⟨its,_,pl,_⟩:=I.list hq
   refine ⟨pl.isList.typeIs,fun a e=>?_⟩
   cases e
   obtain ⟨o,n,e,c,hd,_⟩:=pl
   exact ⟨o,e,hd⟩
  ·refine ⟨⟨o,I.kIn p o hk,hc⟩,fun a e=>?_⟩
   cases e
   exact ⟨o,I.kIn _ o hk,hd⟩
  ·have z:∃ o,s.heap.get? p = some o/\o.ExactDict:=by
    rcases hk with ⟨kvs,hk⟩ | ⟨kvs,hk⟩
    ·obtain ⟨_,_,_,_,o,_,_,e,ex,_⟩:=I.hok p _ hk
     exact ⟨o,e,ex⟩
    ·obtain ⟨_,_,_,_,o,_,_,e,ex,_⟩:=I.hok p _ hk
     exact ⟨o,e,ex⟩
   obtain ⟨o,e,ex⟩:=z
   refine ⟨⟨o,e,ex.1⟩,fun a e2=>?_⟩
   cases e2
   exact ⟨o,e,ex.2.1⟩
  ·obtain ⟨o,_,_,_,e,ex,_⟩:=I.hok p _ hk
   refine ⟨⟨o,e,ex.1⟩,fun a e2=>?_⟩
   cases e2
   exact ⟨o,e,ex.2.1⟩
 | _=>exact False.elim ty
def tBM (K:PySem.W.Frag) (T:String) (r:V->List V->Hp->VK->Prop) (to:TE) (t:TA):TE:=fun σ H Q=>to σ H fun x H1=>tyV K T x H1/\t σ H1 fun xs H2=>r x xs H2 Q
variable {o e:Expr} {es:List Expr} {to:TE} {t:TA} {name:Str} {apos cpos:Pos} {T id:String} {r:V->List V->Hp->VK->Prop}
theorem Fk (pa:PlainAttrs T) (slot:Slot T name id) (hty:typeOf (.builtin id) = pure (.type "method_descriptor")) (hm:MtR X id r) (ho:PE X o to) (ha:PA X (e :: es) t)
  (hbase:attributeBase o name X.env (eval o X.env) = eval o X.env:=by rfl)
  (hfew:((backTo cpos (starEach (e :: es) X.env)).all (fun x=>!x.1) && (backToKw cpos (keywordEach [] X.env)).all (fun x=>x.1.isSome)
   && decide ((e :: es).length + ([]:List Keyword).length + (if ([]:List Keyword).isEmpty then 0 else 1) < 30)) = true:=by rfl)
  (hline:(apos.endLine == cpos.line) = true:=by rfl) (hs:starEach (e :: es) X.env = (false,eval e X.env) :: starEach es X.env:=by rfl) (hplain:(backTo cpos (starEach es X.env)).any (·.1) = false:=by rfl) :
  PE X (.Call (.Attribute o name apos) (e :: es) [] cpos) (tBM X.K T r to t):=by
 intro pins s σ H Q I h
 refine wpAny_Call_method_late hbase hfew hline rfl (thn (ho pins s σ H _ I h) fun v s1 ⟨x,H1,I1,r1,ty,q1⟩=>?_)
 obtain ⟨h1,h2⟩:=Aie I1 r1 ty
 refine ⟨T,id,pa,slot,hty,h1,h2,?_⟩
 have hA:=ha cpos pins s1 σ H1 _ I1 q1
 rw [hs] at hA ⊢
 refine Calls.callWith_builtin (by show (false || (backTo cpos (starEach es X.env)).any (·.1)) = false; rw [hplain] <;> rfl) (Calls.evalArgs_plain ?_)
 exact thn hA fun us s2 ⟨vs,H2,I2,r2,q2⟩=>hm pins s2 σ H2 x vs v us Q I2 r1 r2 q2
end
end L2
namespace L2
open PySem PySem.Spec PyProof.Rows
def MtM (X:Cx) (id:String) (r:V->List V->Hp->VK->Prop):Prop :=
 ∀ (pins:List (Addr × Obj)) (s:Shared) (σ:St) (H:Hp) (x:V) (xs:List V) (v:Value) (us:List Value) (Q:VK),Inv X pins σ H s->RelV x v->Vals xs us->r x xs H Q ->
  wpAny (model X.prog X.w) X.A (call (.builtin id) (v :: us)) (EP X pins σ Q) X.xe s
theorem Vals.one:∀ {x:V} {us:List Value},Vals [x] us->∃ u,us = [u]/\RelV x u
 | _,_,.cons r .nil=>⟨_,rfl,r⟩
section
variable {X:Cx} {pins:List (Addr × Obj)} {σ:St} {H:Hp} {s:Shared} {l b:Addr} {xs ys zs:List V}
theorem Inv.lset {its its':List Value} {n:Nat} {f:Array Value->Array Value} {t':Nat} (I:Inv X pins σ H s) (hH:H l = some (.lst xs))
  (e:s.heap.get? l = some { cls:=.type "list",data:=.seq its.toArray n }) (hf:f its.toArray = its'.toArray) (hv:Vals ys its') (hz:ys.length <= sizeLine) :
  Inv X pins σ (upd H l (.lst ys)) { s with heap:=s.heap.update l (Obj.mapSeq f),toks:=t' }:=by
 have q:=PySem.IsL.update e f
 rw [hf] at q
 refine I.write (x:=l) (e:=l) (by rw [hH]; exact trivial) (.inl rfl) (fun b' u hb hu=>(Heap.get?_update_other s.heap (Obj.mapSeq f) (Ne.symm hb)).trans hu) ⟨_,q⟩ ?_
 exact ⟨hz,its',_,hv,q⟩
theorem Inv.lnew {its:List Value} {t':Nat} (I:Inv X pins σ H s) (hv:Vals ys its) (hz:ys.length <= sizeLine) :
  Inv X pins σ (upd H s.heap.objs.size (.lst ys)) { s with heap:=s.heap.push { cls:=.type "list",data:=.seq its.toArray },toks:=t' } :=
 I.laid (fun _ _ q=>Heap.get?_push_of_some _ q) (Nat.le_refl _) ⟨hz,its,0,hv,Heap.get?_push_size _ rfl⟩
theorem Inv.fresh (I:Inv X pins σ H s):H s.heap.objs.size = none:=I.hok.fresh (Nat.le_refl _)
theorem Inv.lstM (I:Inv X pins σ H s) (hH:H l = some (.lst xs)):xs.length <= sizeLine/\∃ (its:List Value) (n:Nat),Vals xs its/\xs.length = its.length/\s.heap.get? l = some { cls:=.type "list",data:=.seq its.toArray n }:=by
 obtain ⟨z,its,n,r,e⟩:=I.hok l _ hH
 exact ⟨z,its,n,r,r.length,e⟩
theorem Aec {n:Nat} (h:n <= sizeLine):Builtin.List.listTooLong n = false:=by
 unfold Builtin.List.listTooLong
 exact decide_eq_false (by omega)
end
section
variable {X:Cx}
def AfO:V->List V->Hp->VK->Prop:=fun x vs H Q=>∃ l xs y,x = .ref l/\vs = [y]/\H l = some (.lst xs)/\xs.length < sizeLine/\Q .non (upd H l (.lst (xs ++ [y])))
theorem Vr:MtM X "list.append" AfO:=by
 intro pins s σ H x vs v us Q I rx rv h
 obtain ⟨l,xs,y,rfl,rfl,hH,hz,q⟩:=h
 cases rx
 obtain ⟨u,rfl,ru⟩:=rv.one
 obtain ⟨z,its,n,r,hl,e⟩:=I.lstM hH
 refine call_meets F.slot_list_append ⟨_,e,rfl⟩ F.entry_list_append (F.args_list_append_2 _ _) (PySem.list_append l its.toArray n u (by rw [List.size_toArray]; omega)) ⟨e,?_⟩
 refine ⟨.non,_,I.lset (its':=its ++ [u]) hH e (by simp) (r.append (.cons ru .nil)) ?_,rfl,q⟩
 rw [List.length_append,List.length_singleton]
 omega
def AfK:V->List V->Hp->VK->Prop:=fun x vs H Q=>∃ l b xs zs,x = .ref l/\vs = [.ref b]/\H l = some (.lst xs)/\H b = some (.lst zs)/\xs.length + zs.length <= sizeLine/\Q .non (upd H l (.lst (xs ++ zs)))
theorem AbT:MtM X "list.extend" AfK:=by
 intro pins s σ H x vs v us Q I rx rv h
 obtain ⟨l,b,xs,zs,rfl,rfl,hH,hB,hz,q⟩:=h
 cases rx
 obtain ⟨u,rfl,ru⟩:=rv.one
 cases ru
 obtain ⟨z,its,n,r,hl,e⟩:=I.lstM hH
 obtain ⟨z2,its2,n2,r2,hl2,e2⟩:=I.lstM hB
 have hsz:its.toArray.size + its2.toArray.size <= sizeLine:=by rw [List.size_toArray,List.size_toArray]; omega
 have hlong:¬ (!its.toArray.isEmpty && Builtin.List.listTooLong (its.toArray.size + its2.toArray.size)) = true:=by
  rw [Aec hsz,Bool.and_false]
  exact Bool.false_ne_true
 refine call_meets F.slot_list_extend ⟨_,e,rfl⟩ F.entry_list_extend (F.args_list_extend_2 _ _)
  (AutoSeq1.list_extend_list_list_0 l its.toArray n b its2.toArray n2 hlong (by rw [List.size_toArray]; omega) (by omega)) ⟨e,e2,?_⟩
 refine ⟨.non,_,I.lset (its':=its ++ its2) hH e (by simp) (r.append r2) ?_,rfl,q⟩
 rw [List.length_append]
 omega
def AkN:R2:=fun x y H Q=>∃ l b xs zs,x = .ref l/\y = .ref b/\H l = some (.lst xs)/\H b = some (.lst zs)/\xs.length + zs.length <= sizeLine/\∀ p,H p = none->Q (.ref p) (upd H p (.lst (xs ++ zs)))
theorem AgL:OpR X (binaryOp .Add) AkN:=by
 intro pins s σ H x y v u Q I rx ry h
 obtain ⟨l,b,xs,zs,rfl,rfl,hH,hB,hz,q⟩:=h
 cases rx
 cases ry
 obtain ⟨z,its,n,r,hl,e⟩:=I.lstM hH
 obtain ⟨z2,its2,n2,r2,hl2,e2⟩:=I.lstM hB
 refine PySem.P.add_list e e2 ?_ (by rw [List.size_toArray,List.size_toArray]; omega)
 have ea:its.toArray ++ its2.toArray = (its ++ its2).toArray:=by simp
 rw [ea]
 exact ⟨.ref _,_,I.lnew (t':=s.toks) (r.append r2) (by rw [List.length_append]; omega),rfl,q _ I.fresh⟩
end
section
variable {prog:Program} {w:World} {A:Around} {E:Value->Shared->Prop} {s:Shared}
set_option maxRecDepth 100000 in
end
section
variable {X:Cx}
end
end L2
namespace L2
open PySem PySem.Spec PyProof.Rows
section
variable {κ:Type} [DecidableEq κ]
def Ci (kvs:List (κ × V)) (k:κ):Option V:=(kvs.find? fun kv=>decide (kv.1 = k)).map (·.2)
def Fy (kvs:List (κ × V)) (k:κ) (v:V):List (κ × V) :=
 if (kvs.any fun kv=>decide (kv.1 = k)) = true then kvs.map (fun kv=>if kv.1 = k then (kv.1,v) else kv) else kvs ++ [(k,v)]
theorem Js {p:κ × V} {r:List (κ × V)} {k:κ} (e:p.1 = k):Ci (p :: r) k = some p.2:=by simp [Ci,List.find?_cons,e]
theorem Jv {p:κ × V} {r:List (κ × V)} {k:κ} (e:¬ p.1 = k):Ci (p :: r) k = Ci r k:=by simp [Ci,List.find?_cons,e]
theorem Ow (k:κ):∀ kvs:List (κ × V),(kvs.any fun kv=>decide (kv.1 = k)) = (Ci kvs k).isSome
 | []=>rfl
 | p :: r=>by
  rw [List.any_cons]
  by_cases e:p.1 = k
  ·simp only [Js e,decide_eq_true e,Bool.true_or,Option.isSome_some]
  ·rw [Jv e,decide_eq_false e,Bool.false_or]; exact Ow k r
theorem Tl (kvs:List (κ × V)) (k:κ) (v:V):(Fy kvs k v).length <= kvs.length + 1:=by
 unfold Fy
 split
 ·rw [List.length_map]; omega
 ·rw [List.length_append,List.length_cons,List.length_nil]; omega
theorem Jp {kvs:List (κ × V)} {k:κ} (v:V) (h:Ci kvs k = none):Fy kvs k v = kvs ++ [(k,v)]:=by
 unfold Fy
 rw [Ow,h]
 exact if_neg (by decide)
theorem RelO.isSome_eq {o:Option V} {u:Option Value} (r:RelO o u):o.isSome = u.isSome:=by
 cases o with
 | none=>cases u with
  | none=>rfl
  | some _=>exact (show False from r).elim
 | some _=>cases u with
  | none=>exact (show False from r).elim
  | some _=>rfl
theorem RelO.getD {o:Option V} {u:Option Value} {d:V} {d':Value} (r:RelO o u) (rd:RelV d d'):RelV (o.getD d) (u.getD d'):=by
 cases o with
 | none=>cases u with
  | none=>exact rd
  | some _=>exact (show False from r).elim
 | some _=>cases u with
  | none=>exact (show False from r).elim
  | some _=>exact r
theorem KV.val {kvs:List (κ × V)} {vs:List (κ × Value)} (r:KV kvs vs) (k:κ):RelO (Ci kvs k) (valueAt vs k):=by
 unfold KV at r
 induction r with
 | nil=>exact True.intro
 | @cons p q ps qs h t ih =>
  obtain ⟨h1,h2⟩:=h
  by_cases e:p.1 = k
  ·have e':q.1 = k:=h1.symm.trans e
   have b:valueAt (q :: qs) k = some q.2:=by simp [valueAt,List.find?_cons,e']
   rw [Js e,b]; exact h2
  ·have e':¬ q.1 = k:=fun z=>e (h1.trans z)
   have b:valueAt (q :: qs) k = valueAt qs k:=by simp [valueAt,List.find?_cons,e']
   rw [Jv e,b]; exact ih
theorem KV.any {kvs:List (κ × V)} {vs:List (κ × Value)} (r:KV kvs vs) (k:κ):(kvs.any fun kv=>decide (kv.1 = k)) = vs.any fun kv=>decide (kv.1 = k):=by
 unfold KV at r
 induction r with
 | nil=>rfl
 | cons h t ih=>rw [List.any_cons,List.any_cons,ih,h.1]
theorem KV.repl {kvs:List (κ × V)} {vs:List (κ × Value)} (r:KV kvs vs) (k:κ) {y:V} {u:Value} (ry:RelV y u) :
  KV (kvs.map fun kv=>if kv.1 = k then (kv.1,y) else kv) (vs.map fun kv=>if kv.1 = k then (kv.1,u) else kv):=by
 unfold KV at r ⊢
 induction r with
 | nil=>exact .nil
 | @cons p q ps qs h t ih =>
  rw [List.map_cons,List.map_cons]
  refine .cons ?_ ih
  obtain ⟨h1,h2⟩:=h
  by_cases e:p.1 = k
  ·rw [if_pos e,if_pos (h1.symm.trans e)]; exact ⟨h1,ry⟩
  ·rw [if_neg e,if_neg (fun z=>e (h1.trans z))]; exact ⟨h1,h2⟩
theorem KV.put {kvs:List (κ × V)} {vs:List (κ × Value)} (r:KV kvs vs) (k:κ) {y:V} {u:Value} (ry:RelV y u):KV (Fy kvs k y) (stored vs k u):=by
 unfold Fy stored
 rw [r.any k]
 by_cases e:(vs.any fun kv=>decide (kv.1 = k)) = true
 ·rw [if_pos e,if_pos e]; exact r.repl k ry
 ·rw [if_neg e,if_neg e]; exact Paired.snoc r ⟨rfl,ry⟩
theorem KV.keys {kvs:List (κ × V)} {vs:List (κ × Value)} (r:KV kvs vs):kvs.map (·.1) = vs.map (·.1):=by
 unfold KV at r
 induction r with
 | nil=>rfl
 | cons h t ih=>rw [List.map_cons,List.map_cons,ih,h.1]
theorem KV.length {kvs:List (κ × V)} {vs:List (κ × Value)} (r:KV kvs vs):kvs.length = vs.length:=Paired.length r
end
theorem Tj {P:Program} {w:World} {k:Key} {u:Value} (r:RelV (kV k) u):(Cv P w).is k u = true:=by
 cases k with
 | inl i=>obtain ⟨t,e⟩:=(show ∃ t,u = Value.int i t from r); subst e; exact Zb P w i t
 | inr x=>obtain ⟨t,e⟩:=(show ∃ t,u = Value.str x t from r); subst e; exact Yw P w x t
theorem Vp {P:Program} {w:World}:∀ {ks:List Key} {us:List Value},Vals (ks.map kV) us->ItemsAre (Cv P w) ks us
 | [],_,r=>by rw [List.map_nil] at r; cases r; exact .nil
 | k :: ks,_,r=>by
  rw [List.map_cons] at r
  cases r with
  | cons h t=>exact .cons (Tj h) (Vp t)
abbrev KT (H:Hp):List (List Key × V)->List (List Key × Addr × Value)->Prop:=Paired fun p q=>p.1 = q.1/\H q.2.1 = some (.tup (p.1.map kV))/\RelV p.2 q.2.2
theorem KT.val {H:Hp} {kvs:List (List Key × V)} {xs:List (List Key × Addr × Value)} (r:KT H kvs xs) (k:List Key):RelO (Ci kvs k) ((atKey xs k).map (·.2)):=by
 induction r with
 | nil=>exact True.intro
 | @cons p q ps qs h t ih =>
  obtain ⟨h1,_,h2⟩:=h
  by_cases e:p.1 = k
  ·have e':q.1 = k:=h1.symm.trans e
   have b:atKey (q :: qs) k = some q.2:=by simp [atKey,List.find?_cons,e']
   rw [Js e,b]; exact h2
  ·have e':¬ q.1 = k:=fun z=>e (h1.trans z)
   have b:atKey (q :: qs) k = atKey qs k:=by simp [atKey,List.find?_cons,e']
   rw [Jv e,b]; exact ih
theorem KT.repl {H:Hp} {kvs:List (List Key × V)} {xs:List (List Key × Addr × Value)} (r:KT H kvs xs) (k:List Key) {y:V} {u:Value} (ry:RelV y u) :
  KT H (kvs.map fun kv=>if kv.1 = k then (kv.1,y) else kv) (xs.map (putAt k u)):=by
 induction r with
 | nil=>exact .nil
 | @cons p q ps qs h t ih =>
  rw [List.map_cons,List.map_cons]
  refine .cons ?_ ih
  obtain ⟨h1,h2,h3⟩:=h
  unfold putAt
  by_cases e:p.1 = k
  ·rw [if_pos e,if_pos (h1.symm.trans e)]; exact ⟨h1,h2,ry⟩
  ·rw [if_neg e,if_neg (fun z=>e (h1.trans z))]; exact ⟨h1,h2,h3⟩
theorem KT.put {H:Hp} {kvs:List (List Key × V)} {xs:List (List Key × Addr × Value)} (r:KT H kvs xs) (k:List Key) {b:Addr} {y:V} {u:Value} (hb:H b = some (.tup (k.map kV))) (ry:RelV y u) :
  KT H (Fy kvs k y) (storedH xs k b u):=by
 have e:(kvs.any fun kv=>decide (kv.1 = k)) = (atKey xs k).isSome:=by
  rw [Ow,(r.val k).isSome_eq,Option.isSome_map]
 unfold Fy storedH
 rw [e]
 by_cases q:(atKey xs k).isSome = true
 ·rw [if_pos q,if_pos q]; exact r.repl k ry
 ·rw [if_neg q,if_neg q]; exact Paired.snoc r ⟨rfl,hb,ry⟩
theorem KT.keeps {H H':Hp} {kvs:List (List Key × V)} {xs:List (List Key × Addr × Value)} (r:KT H kvs xs) (ht:∀ b ys,H b = some (.tup ys)->H' b = some (.tup ys)):KT H' kvs xs :=
 Paired.mapP r fun _ _ z=>⟨z.1,ht _ _ z.2.1,z.2.2⟩
section
variable {P:Program} {w:World} {H:Hp} {h:Heap} {a:Addr}
theorem Ae5 {u:HO} (ok:HOk P w H h) (e:Rd H a u):ObjOk P w H h a u:=e.ok ok
theorem Ox {kvs:List (Key × V)} (ok:HOk P w H h) (e:Rd H a (.dK kvs)):kvs.length <= sizeLine/\(a == sysModules) = false/\∃ vs,KV kvs vs/\h.DictOf (Cv P w) a vs :=
 show ObjOk P w H h a (.dK kvs) from Ae5 ok e
theorem Ajf {kvs:List (Key × V)} (ok:HOk P w H h) (e:H a = some (.dK kvs)):kvs.length <= sizeLine/\(a == sysModules) = false/\∃ vs,KV kvs vs/\h.DictOf (Cv P w) a vs:=Ox ok (.inl e)
theorem Ot {ks:List Key} (ok:HOk P w H h) (e:H a = some (.tup (ks.map kV))):(tupleKind (Cv P w)).is h ks a:=by
 obtain ⟨_,its,r,o,h1,h2,n,h3⟩:=(show ObjOk P w H h a (.tup (ks.map kV)) from ok a _ e)
 exact ⟨o,its.toArray,n,h1,h2,h3,by simpa using Vp r⟩
theorem Rk {kvs:List (List Key × V)} (ok:HOk P w H h) (e:Rd H a (.dT kvs)):kvs.length <= sizeLine/\(a == sysModules) = false /\
  ∃ xs,KT H kvs xs/\h.DictOfH (tupleKind (Cv P w)) a xs:=by
 obtain ⟨z,y,xs,r,o,es,ep,h1,h2,h3,h4,h5⟩:=(show ObjOk P w H h a (.dT kvs) from Ae5 ok e)
 refine ⟨z,y,xs,r,o,es,ep,h1,h2,h3,h4,fun x hx=>?_,h5⟩
 have all:∀ {l:List (List Key × V)} {m:List (List Key × Addr × Value)},KT H l m->∀ x ∈ m,(tupleKind (Cv P w)).is h x.1 x.2.1:=by
  intro l m q
  induction q with
  | nil=>intro x hx; exact nomatch hx
  | @cons p q ps qs hq t ih =>
   intro x hx
   rcases List.mem_cons.mp hx with e | hx
   ·subst e
    exact Ot ok (by rw [<- hq.1]; exact hq.2.1)
   ·exact ih x hx
 exact all r x hx
theorem Ajc {kvs:List (List Key × V)} (ok:HOk P w H h) (e:H a = some (.dT kvs)):kvs.length <= sizeLine/\(a == sysModules) = false /\
  ∃ xs,KT H kvs xs/\h.DictOfH (tupleKind (Cv P w)) a xs:=Rk ok (.inl e)
end
def DGet (H:Hp) (a:Addr) (y:V) (r:Option V):Prop :=
 (∃ kvs k,Rd H a (.dK kvs)/\y = kV k/\r = Ci kvs k)\/∃ kvs k b,Rd H a (.dT kvs)/\y = .ref b/\H b = some (.tup (k.map kV))/\r = Ci kvs k
def DPut (H:Hp) (a:Addr) (y v:V) (H':Hp):Prop :=
 (∃ kvs k,H a = some (.dK kvs)/\y = kV k/\kvs.length < sizeLine/\H' = upd H a (.dK (Fy kvs k v))) \/
 ∃ kvs k b,H a = some (.dT kvs)/\y = .ref b/\H b = some (.tup (k.map kV))/\kvs.length < sizeLine/\H' = upd H a (.dT (Fy kvs k v))
theorem DGet.k {H:Hp} {a:Addr} {kvs:List (Key × V)} {k:Key} (e:H a = some (.dK kvs)):DGet H a (kV k) (Ci kvs k):=.inl ⟨kvs,k,.inl e,rfl,rfl⟩
theorem DGet.t {H:Hp} {a b:Addr} {kvs:List (List Key × V)} {k:List Key} (e:H a = some (.dT kvs)) (eb:H b = some (.tup (k.map kV))):DGet H a (.ref b) (Ci kvs k):=.inr ⟨kvs,k,b,.inl e,rfl,eb,rfl⟩
theorem DPut.k {H:Hp} {a:Addr} {kvs:List (Key × V)} {k:Key} {v:V} (e:H a = some (.dK kvs)) (hl:kvs.length < sizeLine):DPut H a (kV k) v (upd H a (.dK (Fy kvs k v))):=.inl ⟨kvs,k,e,rfl,hl,rfl⟩
theorem DPut.t {H:Hp} {a b:Addr} {kvs:List (List Key × V)} {k:List Key} {v:V} (e:H a = some (.dT kvs)) (eb:H b = some (.tup (k.map kV))) (hl:kvs.length < sizeLine) :
  DPut H a (.ref b) v (upd H a (.dT (Fy kvs k v))):=.inr ⟨kvs,k,b,e,rfl,eb,hl,rfl⟩
section
variable {X:Cx} {pins:List (Addr × Obj)} {σ:St} {H:Hp} {s:Shared} {a:Addr} {y v:V} {u r:Value} {o:Option V} {A:Around} {E:Value->Shared->Prop}
theorem Inv.big (I:Inv X pins σ H s):sysModules < s.heap.objs.size:=by
 have h:mainGlobals < s.heap.objs.size:=(I.mod.glob.keeps I.bk).lt
 exact Nat.lt_trans (by decide) h
theorem AcF {Q:Value->Shared->Prop} (hu:A.units + 1 < cLine) (I:Inv X pins σ H s) (g:DGet H a y (some v)) (ry:RelV y u) (h:∀ w' s',Inv X pins σ H s'->RelV v w'->Q w' s') :
  wpAny (model X.prog X.w) A (getItem (.ref a) u) Q E s:=by
 rcases g with ⟨kvs,k,e,ey,l⟩ | ⟨kvs,k,b,e,ey,eb,l⟩
 ·subst ey
  obtain ⟨z,hd,vs,rel,dd⟩:=Ox I.hok e
  obtain ⟨w',hw,rw'⟩:=RelO.some_of (v:=v) (o:=valueAt vs k) (by rw [l]; exact rel.val k)
  exact wpAny_getItem_of (Tj ry) dd.mapOf hw (h w' _ (I.tok _) rw')
 ·subst ey
  cases (show u = Value.ref b from ry)
  obtain ⟨z,hd,xs,rel,dd⟩:=Rk I.hok e
  obtain ⟨w',hw,rw'⟩:=RelO.some_of (v:=v) (o:=(atKey xs k).map (·.2)) (by rw [l]; exact rel.val k)
  obtain ⟨p,hp,hp2⟩:=Option.map_eq_some_iff.mp hw
  refine wpAny_getItem_heap (tupleKind_room_in1 hu) (Ot I.hok eb) dd hp ?_
  rw [hp2]
  exact h w' _ (I.tok _) rw'
theorem AkK {Q:Value->Shared->Prop} (hu:A.units + 1 < cLine) (I:Inv X pins σ H s) (g:DGet H a y o) (ry:RelV y u) (h:∀ s',Inv X pins σ H s'->Q (.bool o.isSome) s') :
  wpAny (model X.prog X.w) A (compareOp .In u (.ref a)) Q E s:=by
 rcases g with ⟨kvs,k,e,ey,l⟩ | ⟨kvs,k,b,e,ey,eb,l⟩
 ·subst ey
  obtain ⟨z,hd,vs,rel,dd⟩:=Ox I.hok e
  refine wpAny_in_of (Tj ry) hd dd.mapOf ?_
  rw [<- (rel.val k).isSome_eq,<- l]
  exact h _ (I.tok _)
 ·subst ey
  cases (show u = Value.ref b from ry)
  obtain ⟨z,hd,xs,rel,dd⟩:=Rk I.hok e
  refine wpAny_in_heap (tupleKind_room_in1 hu) (Ot I.hok eb) hd dd ?_
  have q:=(rel.val k).isSome_eq
  rw [Option.isSome_map] at q
  rw [<- q,<- l]
  exact h _ (I.tok _)
theorem Agg {Q:Value->Shared->Prop} (hu:A.units + 1 < cLine) (I:Inv X pins σ H s) (g:DGet H a y o) (ry:RelV y u) (h:∀ s',Inv X pins σ H s'->Q (.bool (!o.isSome)) s') :
  wpAny (model X.prog X.w) A (compareOp .NotIn u (.ref a)) Q E s:=by
 rcases g with ⟨kvs,k,e,ey,l⟩ | ⟨kvs,k,b,e,ey,eb,l⟩
 ·subst ey
  obtain ⟨z,hd,vs,rel,dd⟩:=Ox I.hok e
  refine wpAny_notIn_of (Tj ry) hd dd.mapOf ?_
  rw [<- (rel.val k).isSome_eq,<- l]
  exact h _ (I.tok _)
 ·subst ey
  cases (show u = Value.ref b from ry)
  obtain ⟨z,hd,xs,rel,dd⟩:=Rk I.hok e
  refine wpAny_notIn_heap (tupleKind_room_in1 hu) (Ot I.hok eb) hd dd ?_
  have q:=(rel.val k).isSome_eq
  rw [Option.isSome_map] at q
  rw [<- q,<- l]
  exact h _ (I.tok _)
theorem Aak {h':Heap} {t':Nat} {ob:HO} (I:Inv X pins σ H s) (mu:Mut (H a)) (hs:Heap.SameBut a s.heap h') (he:∃ q,h'.get? a = some q) (new:ObjOk X.prog X.w (upd H a ob) h' a ob) :
  Inv X pins σ (upd H a ob) { s with heap:=h',toks:=t' } :=
 I.write (x:=a) (e:=a) mu (.inl rfl) (fun b q hb z=>(hs.2 b hb).trans z) he new
theorem AiG {P:Program} {w:World} {H':Hp} {h':Heap} {kvs:List (Key × V)} {vs:List (Key × Value)} (z:kvs.length <= sizeLine) (hd:(a == sysModules) = false) (rel:KV kvs vs) (dd:h'.DictOf (Cv P w) a vs) :
  ObjOk P w H' h' a (.dK kvs):=⟨z,hd,vs,rel,dd⟩
theorem Ac5 {H':Hp} {Q:Unit->Shared->Prop} (hu:A.units + 1 < cLine) (I:Inv X pins σ H s) (g:DPut H a y v H') (ry:RelV y u) (rv:RelV v r) (h:∀ s',Inv X pins σ H' s'->Q () s') :
  wpAny (model X.prog X.w) A (setItem (.ref a) u r) Q E s:=by
 rcases g with ⟨kvs,k,e,ey,l,eH⟩ | ⟨kvs,k,b,e,ey,eb,l,eH⟩
 ·subst ey eH
  obtain ⟨z,hd,vs,rel,dd⟩:=Ajf I.hok e
  have hz:vs.length <= sizeLine:=by rw [<- rel.length]; exact z
  have hl:(Fy kvs k v).length <= sizeLine:=by have:=Tl kvs k v; omega
  refine wpAny_setItem_pairs (hsz:=hz) (Tj ry) dd fun h' dd' hs=>h _ ?_
  have he:∃ q,h'.get? a = some q:=let ⟨q,_,_,hq,_⟩:=dd'; ⟨q,hq⟩
  exact Aak I (by rw [e]; exact True.intro) hs he (AiG hl hd (rel.put k rv) dd')
 ·subst ey eH
  cases (show u = Value.ref b from ry)
  obtain ⟨z,hd,xs,rel,dd⟩:=Ajc I.hok e
  have hz:xs.length <= sizeLine:=by rw [<- Paired.length rel]; exact z
  have hl:(Fy kvs k v).length <= sizeLine:=by have:=Tl kvs k v; omega
  refine wpAny_setItem_heap (hsz:=hz) (tupleKind_room_in1 hu) (Ot I.hok eb) dd fun h' dd' hs=>h _ ?_
  obtain ⟨q,es,ep,hq,h2,h3,h4,_,h5⟩:=dd'
  refine Aak I (by rw [e]; exact True.intro) hs ⟨q,hq⟩ ⟨hl,hd,_,(rel.put k eb rv).keeps fun c ys ec=>?_,q,es,ep,hq,h2,h3,h4,h5⟩
  rw [Bg (Dj ec e (fun z=>nomatch z))]
  exact ec
end
section
variable {X:Cx} {pins:List (Addr × Obj)} {σ:St} {H:Hp} {s:Shared} {a:Addr} {kvs:List (Key × V)} {k:Key} {u:Value} {A:Around} {E:Value->Shared->Prop}
end
def Aib (i:Expr):Prop:=∀ ov iv,subscripted i false ov iv = operate [ov,iv] (getItem ov iv)
theorem AgH {prog:Program} {w:World} {A:Around} {E:Value->Shared->Prop} {s:Shared} {env:Env} {value slice:Expr} {pos:Pos} {T id:String} {Q:Value->Shared->Prop}
  (hl:typeLookup (.type T) "__getitem__" = pure (some (.builtin id))) (hs:Aib slice)
  (h:wpAny (model prog w) A (eval value env) (fun o s₁=>wpAny (model prog w) A (eval slice env) (fun i s₂=>s₂.TypeIs o T/\wpAny (model prog w) A (getItem o i) Q E s₂) E s₁) E s) :
  wpAny (model prog w) A (eval (.Subscript value slice pos) env) Q E s:=by
 refine Subscript_ (wpAny_mono h (fun o s₁ h₁=>wpAny_mono h₁ (fun i s₂ h₂=>?_) fun _ _ x=>x) fun _ _ x=>x)
 obtain ⟨hT,h₂⟩:=h₂
 unfold subscriptTail
 refine wpAny_bind ?_
 rw [getitemInPython_of_ne hT.not_modules]
 refine wpAny_bind (wpAny_specialOf hT hl ?_)
 have fin:wpAny (model prog w) A (subscripted slice false o i) (fun r s₃=>wpAny (model prog w) A (letTemporaryGo value o r >>= fun _=>pure r) Q E s₃) E s₂:=by
  rw [hs o i]
  exact wpAny_operating (wpAny_mono h₂ (fun r s₃ h₃=>wpAny_bind (wpAny_letTemporaryGo (wpAny_pure h₃))) fun _ _ x=>x)
 first
  | exact wpAny_pure (wpAny_bind fin)
  | exact wpAny_bind (wpAny_pure (wpAny_bind fin))
  | exact wpAny_bind fin
theorem Zd {X:Cx} {pins:List (Addr × Obj)} {σ:St} {H:Hp} {s:Shared} {a:Addr} {y:V} {o:Option V} (I:Inv X pins σ H s) (g:DGet H a y o):s.TypeIs (.ref a) "dict":=by
 rcases g with ⟨kvs,k,e,_,_⟩ | ⟨kvs,k,b,e,_,_,_⟩
 ·obtain ⟨_,_,vs,_,dd⟩:=Ox I.hok e
  exact dd.typeIs
 ·obtain ⟨_,_,xs,_,dd⟩:=Rk I.hok e
  exact dd.typeIs
def Wh (td ty:TE):TE:=fun σ H Q=>td σ H fun x H1=>ty σ H1 fun y H2=>∃ a v,x = .ref a/\DGet H2 a y (some v)/\Q v H2
def AdB (ty td:TE):TE:=fun σ H Q=>ty σ H fun y H1=>td σ H1 fun x H2=>∃ a o,x = .ref a/\DGet H2 a y o/\Q (.bl o.isSome) H2
def Zm (ty td:TE):TE:=fun σ H Q=>ty σ H fun y H1=>td σ H1 fun x H2=>∃ a o,x = .ref a/\DGet H2 a y o/\Q (.bl (!o.isSome)) H2
def Abd (td ty tv:TE):TS:=fun D σ H=>tv σ H fun v H1=>td σ H1 fun x H2=>ty σ H2 fun y H3=>∃ a H4,x = .ref a/\DPut H3 a y v H4/\D.nx σ H4
section
variable {X:Cx} {o i e value:Expr} {pos pos' tpos:Pos} {td ty tv:TE}
theorem On (hu:X.A.units + 1 < cLine) (ho:PE X o td) (hi:PE X i ty) (hs:Aib i):PE X (.Subscript o i pos) (Wh td ty):=by
 intro pins s σ H Q I h
 refine AgH PySem.F.slot_dict_getitem.lookup hs (thn (ho pins s σ H _ I h) fun u s1 ⟨x,H1,I1,rx,q1⟩=>thn (hi pins s1 σ H1 _ I1 q1) fun iv s2 ⟨y,H2,I2,ry,a,v,ex,g,q2⟩=>?_)
 subst ex
 obtain rfl:u = Value.ref a:=rx
 exact ⟨Zd I2 g,AcF hu I2 g ry fun w' s3 I3 rw'=>⟨v,H2,I3,rw',q2⟩⟩
theorem AbN (hu:X.A.units + 1 < cLine) (hi:PE X i ty) (ho:PE X o td):PC X .In i o (AdB ty td):=by
 intro pins s σ H Q I h
 refine thn (hi pins s σ H _ I h) fun iv s1 ⟨y,H1,I1,ry,q1⟩=>thn (ho pins s1 σ H1 _ I1 q1) fun u s2 ⟨x,H2,I2,rx,a,ov,ex,g,q2⟩=>?_
 subst ex
 obtain rfl:u = Value.ref a:=rx
 exact AkK hu I2 g ry fun s3 I3=>⟨.bl ov.isSome,H2,I3,rfl,q2⟩
theorem Nt (hu:X.A.units + 1 < cLine) (hi:PE X i ty) (ho:PE X o td):PC X .NotIn i o (Zm ty td):=by
 intro pins s σ H Q I h
 refine thn (hi pins s σ H _ I h) fun iv s1 ⟨y,H1,I1,ry,q1⟩=>thn (ho pins s1 σ H1 _ I1 q1) fun u s2 ⟨x,H2,I2,rx,a,ov,ex,g,q2⟩=>?_
 subst ex
 obtain rfl:u = Value.ref a:=rx
 exact Agg hu I2 g ry fun s3 I3=>⟨.bl (!ov.isSome),H2,I3,rfl,q2⟩
theorem Fq (hu:X.A.units + 1 < cLine) (ho:PE X o td) (hi:PE X i ty) (hv:PE X value tv) (hs:swapsWith value (some (.Subscript o i pos')) pos.line X.env = pure false) :
  PS X (.Assign [.Subscript o i pos'] value pos) (Abd td ty tv):=by
 intro pins s σ H D I h
 refine wpAny_Assign_Subscript (thn (hv pins s σ H _ I h) fun r s1 ⟨v,H1,I1,rv,q1⟩=>thn (ho pins s1 σ H1 _ I1 q1) fun u s2 ⟨x,H2,I2,rx,q2⟩=>thn (hi pins s2 σ H2 _ I2 q2) fun iv s3 ⟨y,H3,I3,ry,a,H4,ex,g,q3⟩=>?_) hs
 subst ex
 obtain rfl:u = Value.ref a:=rx
 exact Ac5 hu I3 g ry rv fun s4 I4=>⟨σ,H4,I4,q3⟩
end
theorem Adg {P:Program} {w:World} {H:Hp} (h:Heap) (hb:sysModules < h.objs.size):ObjOk P w H (h.push { cls:=.type "dict",data:=.dict #[] }) h.objs.size (.dK []) :=
 ⟨Nat.zero_le _,beq_eq_false_iff_ne.mpr (Ne.symm (Nat.ne_of_lt hb)),[],.nil,Heap.DictOf.new h⟩
theorem Ad9 {P:Program} {w:World} {H:Hp} (h:Heap) (hb:sysModules < h.objs.size):ObjOk P w H (h.push { cls:=.type "dict",data:=.dict #[] }) h.objs.size (.dT []) :=
 ⟨Nat.zero_le _,beq_eq_false_iff_ne.mpr (Ne.symm (Nat.ne_of_lt hb)),[],.nil,_,#[],0,Heap.get?_push_size _ rfl,⟨rfl,rfl,rfl⟩,rfl,rfl,List.nodup_nil⟩
def Xx:TE:=fun _ H Q=>∀ p,H p = none->Q (.ref p) (upd H p (.dK []))
def Abp:TE:=fun _ H Q=>∀ p,H p = none->Q (.ref p) (upd H p (.dT []))
section
variable {X:Cx} {pos:Pos}
theorem Jt:PE X (.Dict [] [] pos) Xx:=fun pins s σ H Q I h =>
 wpAny_Dict_empty ⟨.ref s.heap.objs.size,_,I.laid (a:=s.heap.objs.size) (o:=.dK []) (t':=s.toks) (fun _ _ q=>Heap.get?_push_of_some _ q) (Nat.le_refl _) (Adg s.heap I.big),rfl,h _ (I.hok.fresh (Nat.le_refl _))⟩
theorem Adi:PE X (.Dict [] [] pos) Abp:=fun pins s σ H Q I h =>
 wpAny_Dict_empty ⟨.ref s.heap.objs.size,_,I.laid (a:=s.heap.objs.size) (o:=.dT []) (t':=s.toks) (fun _ _ q=>Heap.get?_push_of_some _ q) (Nat.le_refl _) (Ad9 s.heap I.big),rfl,h _ (I.hok.fresh (Nat.le_refl _))⟩
end
structure M2 (X:Cx) (o:Expr) (m:Str) (apos:Pos) (e f:Expr) (cpos:Pos):Prop where
 base:attributeBase o m X.env (eval o X.env) = eval o X.env
 few:((backTo cpos (starEach [e,f] X.env)).all (fun x=>!x.1) && (backToKw cpos (keywordEach [] X.env)).all (fun x=>x.1.isSome)
  && decide (([e,f]:List Expr).length + ([]:List Keyword).length + (if ([]:List Keyword).isEmpty then 0 else 1) < 30)) = true
 line:(apos.endLine == cpos.line) = true
 trees:backTo cpos (starEach [e,f] X.env) = [(false,eval e X.env),(false,eval f X.env)]
def IsD (H:Hp) (a:Addr):Prop:=(∃ kvs,Rd H a (.dK kvs))\/∃ kvs,Rd H a (.dT kvs)
theorem AgZ {X:Cx} {pins:List (Addr × Obj)} {σ:St} {H:Hp} {s:Shared} {a:Addr} (I:Inv X pins σ H s) (d:IsD H a) :
  s.TypeIs (.ref a) "dict"/\(∀ b,Value.ref a = .ref b->∃ ob,s.heap.get? b = some ob/\ob.dict = none)/\(a == sysModules) = false:=by
 rcases d with ⟨kvs,e⟩ | ⟨kvs,e⟩
 ·obtain ⟨_,hd,vs,_,dd⟩:=Ox I.hok e
  refine ⟨dd.typeIs,fun b q=>?_,hd⟩
  cases q
  obtain ⟨ob,_,_,h1,h2,_⟩:=dd
  exact ⟨ob,h1,h2.2.1⟩
 ·obtain ⟨_,hd,xs,_,dd⟩:=Rk I.hok e
  refine ⟨dd.typeIs,fun b q=>?_,hd⟩
  cases q
  obtain ⟨ob,_,_,h1,h2,_⟩:=dd
  exact ⟨ob,h1,h2.2.1⟩
section
variable {X:Cx} {pins:List (Addr × Obj)} {σ:St} {H:Hp} {s:Shared} {a:Addr} {y d:V} {u r:Value} {o:Option V} {A:Around} {E:Value->Shared->Prop}
theorem AgV {Q:Value->Shared->Prop} (hu:A.units + 1 < cLine) (I:Inv X pins σ H s) (g:DGet H a y o) (ry:RelV y u) (rd:RelV d r) (h:∀ w' s',Inv X pins σ H s'->RelV (o.getD d) w'->Q w' s') :
  wpAny (model X.prog X.w) A (call (.builtin "dict.get") [.ref a,u,r]) Q E s:=by
 rcases g with ⟨kvs,k,e,ey,l⟩ | ⟨kvs,k,b,e,ey,eb,l⟩
 ·subst ey
  obtain ⟨z,hd,vs,rel,dd⟩:=Ox I.hok e
  refine call_meetsIn PySem.F.slot_dict_get dd.typeIs PySem.F.entry_dict_get (PySem.F.args_dict_get_3 _ _ _) (meets_dict_get_default (Cv X.prog X.w) a (Tj ry) hd r) ⟨_,dd.mapOf,h _ _ (I.tok _) ?_⟩
  rw [l]
  exact (rel.val k).getD rd
 ·subst ey
  cases (show u = Value.ref b from ry)
  obtain ⟨z,hd,xs,rel,dd⟩:=Rk I.hok e
  refine call_meetsIn PySem.F.slot_dict_get dd.typeIs PySem.F.entry_dict_get (PySem.F.args_dict_get_3 _ _ _) (meetsH_dict_get_default (tupleKind (Cv X.prog X.w)) a b hd r) ⟨tupleKind_room_in1 hu,k,xs,Ot I.hok eb,dd,h _ _ (I.tok _) ?_⟩
  rw [l]
  exact (rel.val k).getD rd
end
def Yl (td ty tx:TE):TE:=fun σ H Q=>td σ H fun x H1=>∃ a,x = .ref a/\IsD H1 a/\ty σ H1 fun y H2=>tx σ H2 fun z H3=>∃ o,DGet H3 a y o/\Q (o.getD z) H3
section
variable {X:Cx} {o e f:Expr} {apos cpos:Pos} {td ty tx:TE}
theorem Tu (hu:X.A.units + 1 < cLine) (ho:PE X o td) (he:PE X e ty) (hf:PE X f tx) (m:M2 X o "get" apos e f cpos):PE X (.Call (.Attribute o "get" apos) [e,f] [] cpos) (Yl td ty tx):=by
 intro pins s σ H Q I h
 refine wpAny_Call_method m.base m.few m.line PySem.F.plainAttrs_dict PySem.F.slot_dict_get PySem.F.type_dict_get (thn (ho pins s σ H _ I h) fun u s1 ⟨x,H1,I1,rx,a,ex,d,q1⟩=>?_)
 subst ex
 obtain rfl:u = Value.ref a:=rx
 obtain ⟨t1,t2,_⟩:=AgZ I1 d
 refine ⟨t1,t2,?_⟩
 rw [m.trees]
 refine Calls.callWith_builtin rfl (Calls.evalArgs_plain (Calls.spliced_cons (thn (he pins s1 σ H1 _ I1 q1) fun iv s2 ⟨y,H2,I2,ry,q2⟩ =>
  Calls.spliced_cons (thn (hf pins s2 σ H2 _ I2 q2) fun fv s3 ⟨z,H3,I3,rz,ov,g,q3⟩=>Calls.spliced_nil ?_))))
 exact AgV hu I3 g ry rz fun w' s4 I4 rw'=>⟨_,H3,I4,rw',q3⟩
end
section
variable {X:Cx} {pins:List (Addr × Obj)} {σ:St} {H:Hp} {s:Shared} {a:Addr} {kvs:List (Key × V)} {A:Around} {E:Value->Shared->Prop}
end
section
variable {X:Cx} {pins:List (Addr × Obj)} {σ:St} {H:Hp} {s:Shared} {a:Addr} {y:V} {u:Value} {A:Around} {E:Value->Shared->Prop}
end
end L2
namespace Att
open PySem PySem.W PySem.Calls PyProof.Rows
theorem Ty {P:Params} {h:Heap}:∀ (ns:List Int) (vs:List Value),WellAll P h vs (ns.map WData.int)->IntsAre vs ns:=by
 intro ns
 induction ns with
 | nil =>
  intro vs w
  rw [List.map_nil] at w
  cases w
  exact .nil
 | cons n ns ih =>
  intro vs w
  rw [List.map_cons] at w
  cases w with
  | cons a b =>
   cases a
   exact .cons _ _ (ih _ b)
theorem Ab6 {l:OpenLaw} {n:Nat} (hn:l.most = some n) {P:Params} {h:Heap} {args:List WData} {vals:List Value}
  (hpre:l.row.toRowW.claim.pre args = true) (hwl:WellAll P h vals args) :
  ∃ a vs ns,vals = [Value.ref a]/\args = [WData.list (ns.map WData.int)]/\h.get? a = some { cls:=.type "list",data:=.seq vs.toArray }/\IntsAre vs ns/\ns.length <= n:=by
 have hsh:WShape.hasAll [] args [.list .int] = true:=(pre_splitW hpre).1
 have hc:l.pre.holds [] { args:=args } = true:=(pre_splitW hpre).2
 obtain ⟨d,r,rfl,h1,h2⟩:=hasAllW_cons hsh
 obtain rfl:=hasAllW_nil h2
 obtain ⟨xs,rfl,h3⟩:=hasW_list h1
 obtain ⟨ns,rfl⟩:=items_int h3
 have hlen:ns.length <= n:=by
  unfold OpenLaw.pre at hc
  have h4:(WTm.not (.lt (.lit (.int (n:Int))) (.len (.arg 0)))).holds [] { args:=[.list (ns.map .int)] } = true:=by
   have h4:=(holds_andW hc).1
   rw [hn] at h4
   exact h4
  have h5:=condW_of h4 (w_not (w_lt w_lit (w_len_list (w_arg rfl))))
  rw [List.length_map] at h5
  refine Nat.le_of_not_lt fun q=>?_
  have q':(n:Int) < ((ns.length:Nat):Int):=by omega
  first
   | (rw [decide_eq_true q'] at h5; exact absurd h5 (by decide))
   | (simp at h5; omega)
 cases hwl with
 | cons w1 w2 =>
  cases w2
  cases w1 with
  | list ho hall=>exact ⟨_,_,ns,rfl,rfl,ho,Ty ns _ hall,hlen⟩
theorem Ab3 (l:OpenLaw) (args:List WData):l.row.toRowW.claim.post args (.bool true) args = true :=
 postW_of (r:=l.row.toRowW) (X:=(true == true))
  (show WShape.has [] (.bool true) .bool = true by first | rfl | decide | simp [WShape.has,WShape.arms,WShape.armsAll])
  (show (WTm.eq .res (.lit (.bool true))).value [] { args:=args,res:=some (.bool true),after:=args } = some (.bool (true == true)) from w_eq_bool (w_res rfl) w_lit) rfl
theorem attach_call {l:OpenLaw} {n:Nat} {q:Program} {loose:List Str} {XP:(Str->Option Value)->Heap->Prop} {YP:World->Heap->Prop} {d:DefRec}
  (hn:l.most = some n) (hdf:d.params.defaults = [])
  (call:∀ (w:World) (s₀ s₁:Shared) (mg mb:Str->Option Value) (fa:Addr) (o:Obj) (pm cd doc:Value) (a:Addr) (vs:List Value) (ns:List Int),
   Ground q loose [] XP w s₀ mg mb s₁.heap->YP w s₁.heap ->
   s₁.heap.get? fa = some o->o.data = .func (docDef d.name d.params d.body d.scope pm cd doc)->s₁.heap.CodeRec cd d.name->mg d.name = some (.ref fa) ->
   s₁.heap.get? a = some { cls:=.type "list",data:=.seq vs.toArray }->IntsAre vs ns->ns.length <= n->s₁.gens = #[] ->
   codeAny (model l.prog w) callerA (.call (.ref fa) ⟨[.ref a],[]⟩) (fun r s'=>r = .ok (.ret (.bool true))/\OldK s₁.heap s'.heap/\s'.os = s₁.os/\AllBare s'.gens) s₁) :
  WalkO q loose XP YP l.row.toRowW d [] (fun f vs=>PySem.call f vs):=by
 intro w s₀ s₁ mg mb G Y fa o pm cd doc dV kV ho hd hcd hD hmg hg args vals as hpre hlay hrd hwl hlo
 obtain rfl:dV = .none:=Dflts.none hD hdf
 obtain rfl:kV = .none:=Dflts.noKw hD
 obtain ⟨a,vs,ns,rfl,rfl,hobj,hints,hlen⟩:=Ab6 hn hpre hwl
 refine enter_call (codeAny_mono (call w s₀ s₁ mg mb fa o pm cd doc a vs ns G Y ho (fd_plain hd) hcd hmg hobj hints hlen hg) fun r s' hq=>?_)
 obtain ⟨rfl,h2,h3,h4⟩:=hq
 exact ⟨.inl ⟨.bool true,.bool true,[],rfl,fun _=>rfl,.bool true,Ab3 l _,fun _=>⟨List.Pairwise.nil,fun _ hm=>(nomatch hm)⟩⟩,h2,h3,h4⟩
section
variable {prog:Program} {w:World} {A:Around} {E:Value->Shared->Prop} {s:Shared} {K:Frag}
end
end Att
namespace L2
open PySem PySem.Spec PyProof.Rows
theorem Vs:∀ {vs:List Value} {ns:List Int},IntsAre vs ns->Vals (ns.map V.int) vs
 | _,_,.nil=>.nil
 | _,_,.cons n t h=>.cons ⟨t,rfl⟩ (Vs h)
def AdO (H:Hp):Prop:=∀ b,H b = none\/∃ o xs,H b = some (.frz o (.lst xs))
theorem Ad3 {P:Program} {w:World} {K:PySem.W.Frag} {mg mb:Str->Option Value} {CX:CXT} {k:Nat} {fa a:Addr} {fd:FuncData} {x:Str} {sp:Sp} {s₁:Shared} {vs:List Value} {ns:List Int}
  (KX:K.In s₁.heap) (hns:s₁.heap.Ns mainGlobals mg) (hb:s₁.heap.Ns builtinsNs mb) (hbb:∀ x:Str,x ≠ "__name__"->mb x = bootBuiltins x) (hlim:s₁.heap.NoLimit) (hg:s₁.gens = #[])
  (ha:s₁.heap.get? a = some { cls:=.type "list",data:=.seq vs.toArray }) (hi:IntsAre vs ns) (hl:ns.length <= sizeLine) (hr:Room k callerA)
  (F:∀ base:Heap,K.In base->base.Ns mainGlobals mg->FnOk P w K mg base CX k fa fd [x] sp) (hbind:∀ (s:Shared) (u:Value),BindsTo s fd ⟨[u],[]⟩ [(x,u)])
  (hsp:∀ H:Hp,AdO H->SqL K H a (ns.map V.int)->sp [.ref a] H (fun v _=>v = .bl true) fun _ _ _=>False)
  (hCX:∀ H e s',CX [] H s₁ (fun _ _ _=>False) e s'->False) :
  codeAny (model P w) callerA (.call (.ref fa) ⟨[.ref a],[]⟩) (fun r s'=>r = .ok (.ret (.bool true))/\OldK s₁.heap s'.heap/\s'.os = s₁.os/\AllBare s'.gens) s₁:=by
 have rv:=Vs hi
 have lenV:=hi.length
 -- from an abstract heap in which nothing but the script may be tracked
 have core:∀ H:Hp,AdO H->SqL K H a (ns.map V.int)->HOk P w H s₁.heap->(∀ b,H b ≠ none->b = a)->(H a ≠ none->K.lookup a = none) ->
   codeAny (model P w) callerA (.call (.ref fa) ⟨[.ref a],[]⟩) (fun r s'=>r = .ok (.ret (.bool true))/\OldK s₁.heap s'.heap/\s'.os = s₁.os/\AllBare s'.gens) s₁:=by
  intro H hO hS hok hA hK
  have base_of:∀ {b:Addr} {o:Obj},s₁.heap.get? b = some o->H b = none->(Rj s₁.heap H).get? b = some o:=fun e n=>Ada e n
  have noA:∀ {b:Addr} {o:Obj} {es:Array DictEntry} {ep:Nat},s₁.heap.get? b = some o->o.data = .dict es ep->H b = none:=fun {b o es ep} e d=>by
   cases q:H b with
   | none=>rfl
   | some u =>
    have e':b = a:=hA b (by rw [q]; simp)
    subst e'
    rw [ha] at e; cases e
    have d':Data.seq vs.toArray _ = Data.dict es ep:=d
    cases d'
  have nsK:∀ {b:Addr} {m:Str->Option Value},s₁.heap.Ns b m->(Rj s₁.heap H).Ns b m:=fun {b m} ⟨o,es,ep,e,d,r⟩=>⟨o,es,ep,base_of e (noA e d),d,r⟩
  have hKb:K.In (Rj s₁.heap H):=fun b o e=>base_of (KX b o e) (by
   cases q:H b with
   | none=>rfl
   | some u =>
    have e':b = a:=hA b (by rw [q]; simp)
    subst e'
    rw [hK (by rw [q]; simp)] at e; cases e)
  have hM:Mod K mg (Rj s₁.heap H):=⟨hKb,nsK hns,⟨mb,nsK hb,hbb⟩,let ⟨mc,h1,h2⟩:=hlim; ⟨mc,nsK h1,h2⟩⟩
  have e0:Env0 P w K mg (Rj s₁.heap H) callerA [] s₁ H:=⟨rfl,hM,fun b o e=>Af0 e,Nat.le_of_eq (Abo _ _),trivial,fun b hb=>absurd (show b ∈ ([]:List Addr) from hb) (by simp),hok,.of_eq hg⟩
  refine codeAny_mono ((F _ hKb (nsK hns)).run callerA [] s₁ H ⟨[.ref a],[]⟩ [.ref a] [.ref a] _ _ hr e0 (hbind s₁ (.ref a)) (.cons rfl .nil) (hsp H hO hS)) fun r s' h=>?_
  cases r with
  | error e=>exact (hCX H e s' h).elim
  | ok fl =>
   cases fl with
   | next=>exact False.elim h
   | brk=>exact False.elim h
   | cont=>exact False.elim h
   | ret u =>
    obtain ⟨v,H',os,bare,un,hok',r',q⟩:=h
    have q':v = .bl true:=q
    subst q'
    obtain rfl:u = Value.bool true:=r'
    refine ⟨rfl,OldK.of_keep fun b o e=>?_,os,bare⟩
    cases q:H b with
    | none=>exact un.keep b o e q (by intro z; exact absurd (show b ∈ ([]:List Addr) from z) (by simp)) (by simp)
    | some u =>
     rcases hO b with z | ⟨ob,xs,z⟩
     ·rw [q] at z; cases z
     ·have z2:=un.frzs b ob _ z
      obtain ⟨e1,_⟩:=hok b _ z
      obtain ⟨e2,_⟩:=hok' b _ z2
      rw [e] at e1; cases e1
      exact e2
 cases hk:K.lookup a with
 | some o =>
  -- the script is one of the module's own objects
  have e:=KX a o hk
  rw [ha] at e
  cases e
  refine core (fun _=>none) (fun _=>.inl rfl) (.inr ⟨_,vs.toArray,_,hk,rfl,rfl,rfl,by rw [List.size_toArray,lenV]; exact hl,by simpa using rv⟩) (fun b u z=>by have z':(none:Option HO) = some u:=z; cases z') (fun b z=>absurd rfl z) fun z=>absurd rfl z
 | none =>
  refine core (fun b=>if b = a then some (.frz { cls:=.type "list",data:=.seq vs.toArray } (.lst (ns.map V.int))) else none) (fun b=>?_) (.inl (.inr ⟨{ cls:=.type "list",data:=.seq vs.toArray },if_pos rfl⟩)) (fun b u z=>?_) (fun b z=>?_) fun _=>hk
  ·by_cases hb:b = a
   ·exact .inr ⟨_,_,if_pos hb⟩
   ·exact .inl (if_neg hb)
  ·by_cases hb:b = a
   ·have z':=(if_pos hb).symm.trans z
    cases z'
    subst hb
    exact ⟨ha,by rw [List.length_map]; exact hl,vs,_,rv,ha⟩
   ·have z':=(if_neg hb).symm.trans z
    cases z'
  ·by_cases hb:b = a
   ·exact hb
   ·exact absurd (if_neg hb) z
end L2
namespace L2
open PySem PySem.Spec PyProof.Rows
theorem AkW {l:PySem.W.OpenLaw} {n k:Nat} {q:Program} {loose:List Str} {XP:(Str->Option Value)->Heap->Prop} {YP:World->Heap->Prop} {d:DefRec} {K:Params->PySem.W.Frag} {CX:World->CXT} {sp:World->Sp} {x:Str}
  (hn:l.most = some n) (hn2:n <= sizeLine) (hdf:d.params.defaults = []) (hr:Room k callerA)
  (hY:∀ (w:World) (h:Heap),YP w h->(K w.params).In h)
  (F:∀ (w:World) (mg:Str->Option Value) (fa:Addr) (h:Heap),(K w.params).In h->h.Ns mainGlobals mg->mg d.name = some (.ref fa) ->
   ∃ fd:FuncData,(∀ (s:Shared) (u:Value),BindsTo s fd ⟨[u],[]⟩ [(x,u)]) /\
    ∀ base:Heap,(K w.params).In base->base.Ns mainGlobals mg->FnOk l.prog w (K w.params) mg base (CX w) k fa fd [x] (sp w))
  (hsp:∀ (w:World) (H:Hp) (a:Addr) (ns:List Int),ns.length <= n->AdO H->SqL (K w.params) H a (ns.map V.int)->sp w [.ref a] H (fun v _=>v = .bl true) fun _ _ _=>False)
  (hCX:∀ (w:World) (H:Hp) (s:Shared) (e:Value) (s':Shared),CX w [] H s (fun _ _ _=>False) e s'->False) :
  PySem.W.WalkO q loose XP YP l.row.toRowW d [] (fun f vs=>PySem.call f vs):=by
 refine Att.attach_call hn hdf fun w s₀ s₁ mg mb fa o pm cd doc a vs ns G Y ho hd hcd hmg hobj hints hlen hg=>?_
 have KX:=hY w _ Y
 obtain ⟨fd,hb,hF⟩:=F w mg fa _ KX G.T.g hmg
 exact Ad3 KX G.T.g G.T.b G.T.builtins G.T.nolimit hg hobj hints (Nat.le_trans hlen hn2) hr hF hb (fun H hO hS=>hsp w H a ns hlen hO hS) fun H e s'=>hCX w H s₁ e s'
end L2
namespace L2
open PySem PySem.Spec PyProof.Rows
def Aap (s:Stmt) (j:Nat):Stmt:=match s with
 | .ClassDef _ _ _ body _ _ _ _ _ _ _=>body.getD j (.Pass ⟨0,0,0,0⟩)
 | _=>.Pass ⟨0,0,0,0⟩
def Bl (s:Stmt):Arguments:=match s with
 | .FunctionDef _ a _ _ _ _ _ _ _ _=>a
 | _=>{ posonlyargs:=[],args:=[],vararg:=none,kwonlyargs:=[],kw_defaults:=[],kwarg:=none,defaults:=[] }
def Bk (s:Stmt):List Stmt:=match s with
 | .FunctionDef _ _ b _ _ _ _ _ _ _=>b
 | _=>[]
def Bc (s:Stmt):Scope:=match s with
 | .FunctionDef _ _ _ _ _ _ sc _ _ _=>sc
 | _=>{ kind:=.function,names:=[],isGenerator:=false,isCoroutine:=false }
abbrev E0:XK:=fun _ _ _=>False
structure Fun (K:PySem.W.Frag) (x qual:Str) (st:Stmt) (f:Addr) (fd:FuncData):Prop where
 ex:∃ (oc:Value) (od:Option Addr) (kV doc pm:Value) (an:Option Addr) (cdv ct:Value) (osl:Array (Option Value)),
  fd = PySem.W.fnOf x qual (Bl st) (Bk st) (Bc st) .none kV doc pm an cdv ct/\K.lookup f = some ⟨oc,od,.func fd,osl⟩/\PySem.W.codeIn K cdv qual = true
 kp:PySem.W.keepIn K (.ref f) = true
section
variable {P:Program} {w:World} {K:PySem.W.Frag} {mg:Str->Option Value} {base:Heap}
theorem Fun.binds {x qual:Str} {st:Stmt} {f:Addr} {fd:FuncData} {ps:List Str} (F:Fun K x qual st f fd)
  (h:∀ (kV doc pm:Value) (an:Option Addr) (cdv ct:Value) (us:List Value),us.length = ps.length->bindArgs (PySem.W.fnOf x qual (Bl st) (Bk st) (Bc st) .none kV doc pm an cdv ct) ⟨us,[]⟩ = pure (ps.zip us)):Binds K fd ps []:=by
 obtain ⟨oc,od,kV,doc,pm,an,cdv,ct,osl,rfl,lk,hcd⟩:=F.ex
 exact .all (h kV doc pm an cdv ct)
theorem Cf {x qual:Str} {st:Stmt} {f:Addr} {oc:Value} {od an:Option Addr} {osl:Array (Option Value)} {kV doc pm cdv ct:Value} (l:K.lookup f = some ⟨oc,od,.func (PySem.W.fnOf x qual (Bl st) (Bk st) (Bc st) .none kV doc pm an cdv ct),osl⟩)
  (c:PySem.W.codeIn K cdv qual = true) (k:PySem.W.keepIn K (.ref f) = true):Fun K x qual st f (PySem.W.fnOf x qual (Bl st) (Bk st) (Bc st) .none kV doc pm an cdv ct):=⟨⟨oc,od,kV,doc,pm,an,cdv,ct,osl,rfl,l,c⟩,k⟩
end
theorem Co {A:Around} {k:Nat} (hr:Room k A):A.units + 1 < cLine:=Nat.lt_of_le_of_lt (Nat.add_le_add_left (by decide:1 <= 64) _) hr.units
theorem Nx {n:Nat} (h:n <= 1000):n < sizeLine:=Nat.lt_of_le_of_lt h (by decide)
section
variable {X:Cx}
theorem pv (i:Nat) {x:Str} {pos:Pos} (hN:X.N[i]? = some x:=by rfl) (hv:Vis X.env.scope x:=by first | exact Or.inl rfl | exact Or.inr (Or.inl rfl) | exact Or.inr (Or.inr rfl)) (hd:(x == ("__debug__" : Str)) = false:=by decide)
  (hcd:(x == ("__classdict__" : Str)) = false:=by decide):PE X (.Name x pos) (Ff i):=AhP hN hv hd hcd
end
theorem Qo {A B:Prop} (h:B):if false = true then A else B:=by
 rw [if_neg Bool.false_ne_true]
 exact h
theorem Ny {A B:Prop} (h:A):if true = true then A else B:=by
 rw [if_pos rfl]
 exact h
theorem Ad0 {c A B:Prop} [Decidable c] (h1:c->A) (h2:¬ c->B):if c then A else B:=by
 by_cases h:c
 ·rw [if_pos h]
  exact h1 h
 ·rw [if_neg h]
  exact h2 h
def Same (H H':Hp):Prop:=∀ b o,H b = some o->H' b = some o
theorem Same.refl (H:Hp):Same H H:=fun _ _ h=>h
theorem Same.trans {H H1 H2:Hp} (a:Same H H1) (b:Same H1 H2):Same H H2:=fun c o h=>b c o (a c o h)
theorem Same.free {H H':Hp} (e:Same H H') {l:Addr} (h:H' l = Option.none):H l = Option.none:=by
 cases q:H l with
 | none=>rfl
 | some o =>
  rw [e l o q] at h
  cases h
theorem Same.seq {K:PySem.W.Frag} {H H':Hp} {a:Addr} {xs:List V} (e:Same H H') (h:SqL K H a xs):SqL K H' a xs:=by
 rcases h with (h | ⟨o,h⟩) | h
 ·exact .inl (.inl (e _ _ h))
 ·exact .inl (.inr ⟨o,e _ _ h⟩)
 ·exact .inr h
section
variable {κ:Type} [DecidableEq κ]
theorem Zr {kvs:List (κ × V)} {k:κ} {v:V} (h:Ci kvs k = some v):k ∈ kvs.map (·.1):=by
 have q:(kvs.any fun kv=>decide (kv.1 = k)) = true:=by
  rw [Ow,h]
  all_goals rfl
 obtain ⟨p,hp,e⟩:=List.any_eq_true.mp q
 exact List.mem_map.mpr ⟨p,hp,of_decide_eq_true e⟩
end
end L2
set_option Elab.async false
set_option linter.all false
set_option maxRecDepth 100000
set_option maxHeartbeats 4000000
namespace L2
open PySem PySem.Spec PyProof.Rows
section
variable {X:Cx}
theorem Fw:Ga X (.builtin "isinstance") (fun vs H Q=>∃ x n t b,vs = [x,.ty n]/\Fi X.K H x t/\PySem.W.kitOne X.K t (.type n) = some b/\Q (.bl b) H):=by
 intro pins s σ H vs us Q I r h
 obtain ⟨x,n,t,b,rfl,ty,e,q⟩:=h
 obtain ⟨u,w',rfl,rx,ry⟩:=Aaz r
 cases ry
 exact Abx I rx ty e fun tk=>⟨.bl b,H,I.tok tk,rfl,q⟩
end
theorem Oh {K:PySem.W.Frag} {T S:String} {b:Bool} (h:(if (Value.type T == Value.type S) = true then some true else if PySem.W.kitMeta S = true then (fastBuiltinMro T).map (·.contains (Value.type S)) else none) = some b):PySem.W.kitOne K (.type T) (.type S) = some b:=h
theorem Ze {K:PySem.W.Frag}:PySem.W.kitOne K (.type "int") (.type "int") = some true:=Oh (by decide +kernel)
theorem Xy {K:PySem.W.Frag}:PySem.W.kitOne K (.type "int") (.type "bool") = some false:=Oh (by decide +kernel)
theorem Yy {K:PySem.W.Frag}:PySem.W.kitOne K (.type "str") (.type "str") = some true:=Oh (by decide +kernel)
theorem Wa {K:PySem.W.Frag}:PySem.W.kitOne K (.type "list") (.type "list") = some true:=Oh (by decide +kernel)
theorem Yx {K:PySem.W.Frag}:PySem.W.kitOne K (.type "tuple") (.type "tuple") = some true:=Oh (by decide +kernel)
inductive EqD (K:PySem.W.Frag) (H:Hp):Nat->V->V->Bool->Prop where
 | flat {n:Nat} {x y:V} (hx:Jd x = true) (hy:Jd y = true):EqD K H n x y (eqV x y)
 | same {n:Nat} (a:Addr):EqD K H n (.ref a) (.ref a) true
 | lst {n:Nat} {a b:Addr} {xs ys:List V} (e:Nat->Bool) (ne:a ≠ b) (hx:SqL K H a xs) (hy:SqL K H b ys) (hl:xs.length = ys.length)
   (he:∀ (i:Nat) (x y:V),xs[i]? = some x->ys[i]? = some y->EqD K H n x y (e i)):EqD K H (n + 1) (.ref a) (.ref b) ((List.range xs.length).all e)
 | lstN {n:Nat} {a b:Addr} {xs ys:List V} (ne:a ≠ b) (hx:SqL K H a xs) (hy:SqL K H b ys) (hl:¬ xs.length = ys.length):EqD K H (n + 1) (.ref a) (.ref b) false
 | tup {n:Nat} {a b:Addr} {xs ys:List V} (e:Nat->Bool) (ne:a ≠ b) (hx:SqT K H a xs) (hy:SqT K H b ys)
   (he:∀ (i:Nat) (x y:V),xs[i]? = some x->ys[i]? = some y->EqD K H n x y (e i)):EqD K H (n + 1) (.ref a) (.ref b) ((List.range (min xs.length ys.length)).all e && xs.length == ys.length)
section
variable {X:Cx} {pins:List (Addr × Obj)} {σ:St} {H:Hp} {s:Shared}
theorem Li (A:Around):A.in1.units = A.units + 1:=rfl
theorem Rq {xs ys:List V} {us vs:List Value} {R:Nat->Value->Value->Prop} (r1:Vals xs us) (r2:Vals ys vs)
  (h:∀ (i:Nat) (x y:V) (u v:Value),xs[i]? = some x->ys[i]? = some y->RelV x u->RelV y v->R i u v) :
  ∀ j (h1:j < us.toArray.size) (h2:j < vs.toArray.size),R j us.toArray[j] vs.toArray[j]:=by
 intro j h1 h2
 have h1':j < us.length:=by simpa using h1
 have h2':j < vs.length:=by simpa using h2
 have l1:j < xs.length:=by rw [r1.length]; exact h1'
 have l2:j < ys.length:=by rw [r2.length]; exact h2'
 obtain ⟨u,eu,ru⟩:=r1.get (i:=j) (x:=xs[j]) (by simp [l1])
 obtain ⟨v,ev,rv⟩:=r2.get (i:=j) (x:=ys[j]) (by simp [l2])
 have eu':us[j] = u:=by simpa [h1'] using eu
 have ev':vs[j] = v:=by simpa [h2'] using ev
 have q:=h j xs[j] ys[j] u v (by simp [l1]) (by simp [l2]) ru rv
 simpa [eu',ev'] using q
theorem EqD.at (I:Inv X pins σ H s):∀ {n:Nat} {x y:V} {b:Bool},EqD X.K H n x y b->∀ {A:Around} {u v:Value},A.units + n < cLine->RelV x u->RelV y v->SeqAt.EqAt A s u v b:=by
 intro n x y b h
 induction h with
 | flat hx hy=>intro A u v _ ru rv; exact AcO ru rv hx hy
 | same a=>intro A u v _ ru rv; cases ru; cases rv; exact SeqAt.EqAt.same _
 | @lst n a b xs ys e ne hx hy hl he ih =>
  intro A u v hu ru rv
  cases ru; cases rv
  obtain ⟨us,r1,p1,_⟩:=I.list hx
  obtain ⟨vs,r2,p2,_⟩:=I.list hy
  have es:us.toArray.size = xs.length:=by rw [List.size_toArray]; exact r1.length.symm
  have es2:us.toArray.size = vs.toArray.size:=by rw [es,List.size_toArray,<- r2.length]; exact hl
  refine SeqAt.EqAt.of_refs ne ?_
  rw [<- es]
  exact SeqAt.RcAt.lists p1.isList p2.isList es2 (by omega) (Rq r1 r2 fun i x y u v hx hy ru rv=>ih i x y hx hy (by rw [Li]; omega) ru rv)
 | @lstN n a b xs ys ne hx hy hl =>
  intro A u v hu ru rv
  cases ru; cases rv
  obtain ⟨us,r1,p1,_⟩:=I.list hx
  obtain ⟨vs,r2,p2,_⟩:=I.list hy
  refine SeqAt.EqAt.of_refs ne (SeqAt.RcAt.lists_lengths p1.isList p2.isList ?_ (by omega))
  rw [List.size_toArray,List.size_toArray,<- r1.length,<- r2.length]
  simpa using hl
 | @tup n a b xs ys e ne hx hy he ih =>
  intro A u v hu ru rv
  cases ru; cases rv
  obtain ⟨us,r1,p1,_⟩:=I.tuple hx
  obtain ⟨vs,r2,p2,_⟩:=I.tuple hy
  have es:us.toArray.size = xs.length:=by rw [List.size_toArray]; exact r1.length.symm
  have es2:vs.toArray.size = ys.length:=by rw [List.size_toArray]; exact r2.length.symm
  refine SeqAt.EqAt.of_refs ne ?_
  rw [<- es,<- es2]
  exact SeqAt.RcAt.tuples p1 p2 (by omega) (Rq r1 r2 fun i x y u v hx hy ru rv=>ih i x y hx hy (by rw [Li]; omega) ru rv)
def LEq (K:PySem.W.Frag) (H:Hp) (xs ys:List V) (k:Bool):Prop :=
 (¬ xs.length = ys.length/\k = false)\/(xs.length = ys.length/\∃ e:Nat->Bool,(∀ (i:Nat) (x y:V),xs[i]? = some x->ys[i]? = some y->EqD K H 40 x y (e i))/\k = (List.range xs.length).all e)
def Xw (K:PySem.W.Frag) (neg:Bool):R2:=fun x y H Q=>∃ a b xs ys k,x = .ref a/\y = .ref b/\SqL K H a xs/\SqL K H b ys/\LEq K H xs ys k/\Q (.bl (if neg then !k else k)) H
theorem Aiu (hu:X.A.units + 64 < cLine):OpR X (compareOp .Eq) (Xw X.K false):=by
 intro pins s σ H x y v u Q I rx ry h
 obtain ⟨a,b,xs,ys,k,rfl,rfl,hx,hy,hk,q⟩:=h
 cases rx; cases ry
 obtain ⟨us,r1,p1,_⟩:=I.list hx
 obtain ⟨vs,r2,p2,_⟩:=I.list hy
 have fin:EP X pins σ Q (.bool k) s:=⟨.bl k,H,I,rfl,q⟩
 rcases hk with ⟨hl,rfl⟩ | ⟨hl,e,he,rfl⟩
 ·refine SeqAt.eq_list_lengthsAt p1.isList p2.isList ?_ (by omega) fin
  rw [List.size_toArray,List.size_toArray,<- r1.length,<- r2.length]
  simpa using hl
 ·have es:us.toArray.size = xs.length:=by rw [List.size_toArray]; exact r1.length.symm
  have es2:us.toArray.size = vs.toArray.size:=by rw [es,List.size_toArray,<- r2.length]; exact hl
  rw [<- es] at fin
  exact SeqAt.eq_listAt p1.isList p2.isList es2 (by omega) (Rq r1 r2 fun i x y u v hx hy ru rv=>(he i x y hx hy).at I (by rw [Li]; omega) ru rv) fin
theorem AgR (hu:X.A.units + 64 < cLine):OpR X (compareOp .NotEq) (Xw X.K true):=by
 intro pins s σ H x y v u Q I rx ry h
 obtain ⟨a,b,xs,ys,k,rfl,rfl,hx,hy,hk,q⟩:=h
 cases rx; cases ry
 obtain ⟨us,r1,p1,_⟩:=I.list hx
 obtain ⟨vs,r2,p2,_⟩:=I.list hy
 have fin:EP X pins σ Q (.bool (!k)) s:=⟨.bl (!k),H,I,rfl,q⟩
 rcases hk with ⟨hl,rfl⟩ | ⟨hl,e,he,rfl⟩
 ·refine SeqAt.RcNeAt.lists_lengths p1.isList p2.isList ?_ (by omega) _ _ _ _ fin
  rw [List.size_toArray,List.size_toArray,<- r1.length,<- r2.length]
  simpa using hl
 ·have es:us.toArray.size = xs.length:=by rw [List.size_toArray]; exact r1.length.symm
  have es2:us.toArray.size = vs.toArray.size:=by rw [es,List.size_toArray,<- r2.length]; exact hl
  rw [<- es] at fin
  exact SeqAt.RcNeAt.lists p1.isList p2.isList es2 (by omega) (Rq r1 r2 fun i x y u v hx hy ru rv=>(he i x y hx hy).at I (by rw [Li]; omega) ru rv) _ _ _ _ fin
end
section
variable {X:Cx} {pins:List (Addr × Obj)} {σ:St} {H:Hp} {s:Shared} {a:Addr}
def Frb:HO->Prop
 | .dK _=>True
 | .dT _=>True
 | _=>False
theorem Frb.notup {u:HO} (h:Frb u) (xs:List V):u ≠ .tup xs:=by intro e; subst e; exact h
theorem Frb.nofrz {u:HO} (h:Frb u) (o:Obj) (v:HO):u ≠ .frz o v:=by intro e; subst e; exact h
theorem Frb.noown {u:HO} (h:Frb u) (x:Addr):u ≠ .own x:=by intro e; subst e; exact h
theorem Frb.notbl {u:HO} (h:Frb u) (ps:Array Value):u ≠ .tbl ps:=by intro e; subst e; exact h
def AaF (X:Cx) (a:Addr):Prop:=(∀ xs,X.H₀ a ≠ some (.tup xs))/\(∀ o v,X.H₀ a ≠ some (.frz o v))/\∀ ps,X.H₀ a ≠ some (.tbl ps)
theorem Inv.free0 (I:Inv X pins σ H s) {u:HO} (hu:Frb u) (e:H a = some u):AaF X a:=by
 refine ⟨fun xs q=>?_,fun o v q=>?_,fun ps q=>?_⟩
 ·have:=I.base.tups a xs q; rw [e] at this; exact hu.notup xs (Option.some.inj this)
 ·have:=I.base.frzs a o v q; rw [e] at this; exact hu.nofrz o v (Option.some.inj this)
 ·obtain ⟨m,this⟩:=I.base.tbls a ps q; rw [e] at this; exact hu.notbl _ (Option.some.inj this)
theorem Inv.swap {u v:HO} (I:Inv X pins σ H s) (hu:∀ x,u ≠ .own x) (hu2:∀ xs,u ≠ .tup xs) (e:H a = some u) (f:AaF X a) (ok:ObjOk X.prog X.w (upd H a v) s.heap a v):Inv X pins σ (upd H a v) s:=by
 have nown:∀ b x,H b = some (.own x)->b ≠ a:=fun b x q z=>by subst z; rw [e] at q; exact hu x (Option.some.inj q)
 have ntup:∀ b xs,H b = some (.tup xs)->b ≠ a:=fun b xs q z=>by subst z; rw [e] at q; exact hu2 xs (Option.some.inj q)
 have nnone:∀ b,H b = none->b ≠ a:=fun b q z=>by subst z; rw [e] at q; cases q
 refine ⟨I.ok,I.os,I.bare,⟨I.base.keep,I.base.slot,fun b o h1 h2 h3=>?_,I.base.there,fun b xs q=>?_,fun b o w q=>?_,fun b ps q=>?_⟩,I.loc,I.cell,?_,fun x c q=>?_,fun p hp=>?_,fun b o q=>?_,I.len⟩
 ·have q:=I.base.free b o h1 h2 h3
  rw [Bg (nnone b q)]; exact q
 ·have h:b ≠ a:=fun z=>by subst z; exact f.1 xs q
  rw [Bg h]; exact I.base.tups b xs q
 ·have h:b ≠ a:=fun z=>by subst z; exact f.2.1 o w q
  rw [Bg h]; exact I.base.frzs b o w q
 ·have h:b ≠ a:=fun z=>by subst z; exact f.2.2 ps q
  rw [Bg h]; exact I.base.tbls b ps q
 ·rw [Bg (nnone _ I.free)]; exact I.free
 ·rw [Bg (nnone _ (I.freeC x c q))]; exact I.freeC x c q
 ·obtain ⟨h1,h2,h3⟩:=I.pin p hp
  exact ⟨h1,by rw [Bg (nnone _ h2)]; exact h2,h3⟩
 ·by_cases hb:b = a
  ·subst hb; rw [Bn] at q; cases q; exact ok
  ·rw [Bg hb] at q
   exact (I.hok b o q).stay (fun _ _ _ z=>z) (fun c z=>by rw [Bg (nown c b z)]; exact z) fun c xs z=>by rw [Bg (ntup c xs z)]; exact z
theorem ObjOk.heap {P:Program} {w:World} {h:Heap} {H':Hp} {u:HO} (x:ObjOk P w H h a u) (hd:∀ b xs,H b = some (.tup xs)->H' b = some (.tup xs)) (ho:∀ b,H b = some (.own a)->H' b = some (.own a)):ObjOk P w H' h a u :=
 x.stay (fun _ _ _ z=>z) ho hd
theorem Inv.freeze {u:HO} (I:Inv X pins σ H s) (hu:Frb u) (e:H a = some u):∃ o,Inv X pins σ (upd H a (.frz o u)) s:=by
 have ok:=I.hok a u e
 obtain ⟨o,ho⟩:∃ o,s.heap.get? a = some o:=by
  cases u with
  | dK kvs=>obtain ⟨_,_,_,_,o,_,_,h,_⟩:=ok; exact ⟨o,h⟩
  | dT kvs=>obtain ⟨_,_,_,_,o,_,_,h,_⟩:=ok; exact ⟨o,h⟩
  | _=>exact hu.elim
 refine ⟨o,I.swap (fun x=>hu.noown x) (fun xs=>hu.notup xs) e (I.free0 hu e) ⟨ho,ok.heap (fun b xs q=>?_) fun b q=>?_⟩⟩
 ·rw [Bg (fun z=>by subst z; rw [e] at q; exact hu.notup xs (Option.some.inj q))]; exact q
 ·rw [Bg (fun z=>by subst z; rw [e] at q; exact hu.noown _ (Option.some.inj q))]; exact q
theorem Inv.thaw {u:HO} {o:Obj} (I:Inv X pins σ H s) (f:AaF X a) (e:H a = some (.frz o u)):Inv X pins σ (upd H a u) s:=by
 obtain ⟨ho,ok⟩:=(show ObjOk X.prog X.w H s.heap a (.frz o u) from I.hok a _ e)
 refine I.swap (by intro x z; cases z) (by intro xs z; cases z) e f (ok.heap (fun b xs q=>?_) fun b q=>?_)
 ·rw [Bg (fun z=>by subst z; rw [e] at q; cases q)]; exact q
 ·rw [Bg (fun z=>by subst z; rw [e] at q; cases q)]; exact q
def Oj (a:Addr) (u:HO) (D:Ends):Ends where
 nx:=fun σ H=>∃ o,H a = some (.frz o u)/\D.nx σ (upd H a u)
 rt:=fun v H=>∃ o,H a = some (.frz o u)/\D.rt v (upd H a u)
 bk:=fun σ H=>∃ o,H a = some (.frz o u)/\D.bk σ (upd H a u)
 ct:=fun σ H=>∃ o,H a = some (.frz o u)/\D.ct σ (upd H a u)
def Aa5 (t:TS):TS:=fun D σ H=>∃ a u,Frb u/\H a = some u/\∀ o,t (Oj a u D) σ (upd H a (.frz o u))
theorem Tz {st:Stmt} {t:TS} (h:PS X st t):PS X st (Aa5 t):=by
 intro pins s σ H D I q
 obtain ⟨a,u,hu,e,q⟩:=q
 have f:=I.free0 hu e
 obtain ⟨o,I1⟩:=I.freeze hu e
 refine thn (h pins s σ _ _ I1 (q o)) fun fl s' hs=>?_
 cases fl with
 | next=>obtain ⟨σ',H',I',o',e',q'⟩:=hs; exact ⟨σ',_,I'.thaw f e',q'⟩
 | brk=>obtain ⟨σ',H',I',o',e',q'⟩:=hs; exact ⟨σ',_,I'.thaw f e',q'⟩
 | cont=>obtain ⟨σ',H',I',o',e',q'⟩:=hs; exact ⟨σ',_,I'.thaw f e',q'⟩
 | ret v=>obtain ⟨x,σ',H',I',r,o',e',q'⟩:=hs; exact ⟨x,σ',_,I'.thaw f e',r,q'⟩
end
def Itd (a:Addr) (o:Obj) (kvs:List (Key × V)):It :=
 ⟨fun i H=>H a = some (.frz o (.dK kvs))/\i < kvs.length,fun i H x H'=>H' = H/\∃ kv,kvs[i]? = some kv/\x = kV kv.1,fun i H=>H a = some (.frz o (.dK kvs))/\kvs.length <= i⟩
theorem Aam {P:Program} {w:World} {k:Key} {u:Value} (h:(Cv P w).is k u = true):RelV (kV k) u:=by
 rcases Dl h with ⟨i,t,rfl,rfl⟩ | ⟨x,t,rfl,rfl⟩
 ·exact ⟨t,rfl⟩
 ·exact ⟨t,rfl⟩
theorem Ri {P:Program} {w:World} {H:Hp} {h:Heap} {a:Addr} {o:Obj} {kvs:List (Key × V)} {es:Array DictEntry} {ep:Nat} (ok:HOk P w H h) (e:H a = some (.frz o (.dK kvs))) (hd:o.data = .dict es ep) :
  (a == sysModules) = false/\∃ vs,KV kvs vs/\h.DictAt (Cv P w) a vs ep:=by
 obtain ⟨ho,_,hm,vs,r,o',es',ep',h1,h2,h3,h4⟩:=(show ObjOk P w H h a (.frz o (.dK kvs)) from ok a _ e)
 rw [ho] at h1
 cases h1
 rw [hd] at h3
 cases h3
 exact ⟨hm,vs,r,o,es,ho,h2,hd,h4⟩
theorem Ac0 {P:Program} {w:World} {K:PySem.W.Frag} {tg:Expr} (a it:Addr) (o:Obj) (kvs:List (Key × V)) (es:Array DictEntry) (ep:Nat) (hd:o.data = .dict es ep) :
  Uz P w K tg (Itd a o kvs) [it] it (fun i h=>h.IsKeyIter it a i kvs.length ep) where
 mem:=by simp
 obj:=fun i h st b hb=>by
  have e:b = it:=by simpa using hb
  subst e
  obtain ⟨o,e,c,d⟩:=st
  exact ⟨o,e,fun v z=>by rw [d] at z; cases z⟩
 keep:=fun i h h' st k=>by
  obtain ⟨o,e,r⟩:=st
  exact ⟨o,k it (by simp) o e,r⟩
 item:=by
  intro X hP hw hK hc i pins s σ H E I hf st hg
  subst hP hw hK
  obtain ⟨hz,hi⟩:=hg
  obtain ⟨hm,vs,r,da⟩:=Ri I.hok hz hd
  have hl:kvs.length = vs.length:=Paired.length r
  obtain ⟨f0,f1,f2,f3,f4,f5⟩:=hf it (by simp)
  have hiv:i < vs.length:=by omega
  have ek:(kvs[i]).1 = (vs[i]).1:=by
   have q:=KV.keys r
   have q1:=congrArg (fun l=>l[i]?) q
   simp only [List.getElem?_map,List.getElem?_eq_getElem hi,List.getElem?_eq_getElem hiv,Option.map_some,Option.some.injEq] at q1
   exact q1
  refine wpAny_pyNext_dict_item (k:=(vs[i]).1) (v:=(vs[i]).2) (kvs:=vs) (by rw [<- hl]; exact st) da (by rw [List.getElem?_eq_getElem hiv]) fun key h' hkey st' sb=>?_
  have I1:Inv X pins σ H { s with heap:=h' }:=I.turned (t':=s.toks) (fun b o hb e=>(sb.2 b hb).trans e) f0 f1 f3 f4 f5
  rw [<- hl] at st'
  obtain ⟨o',e',c',d'⟩:=id st'
  exact ⟨key,rfl,Aaw (s:={ s with heap:=h' }) e' c' d' (by decide) ⟨kV (kvs[i]).1,H,I1,by rw [ek]; exact Aam hkey,⟨rfl,kvs[i],List.getElem?_eq_getElem hi,rfl⟩,st',fun b hb=>(hf b hb).1⟩⟩
 done:=by
  intro X hP hw hK hc i pins s σ H E I hf st hg
  subst hP hw hK
  obtain ⟨hz,hi⟩:=hg
  obtain ⟨hm,vs,r,da⟩:=Ri I.hok hz hd
  have hl:kvs.length = vs.length:=Paired.length r
  obtain ⟨f0,f1,f2,f3,f4,f5⟩:=hf it (by simp)
  exact wpAny_pyNext_dict_end (kvs:=vs) (I.ok.hd hc) (by rw [<- hl]; exact st) da (List.getElem?_eq_none (by omega)) fun h' eb=>⟨rfl,I.turned (t':=s.toks) (fun b o hb e=>eb b o hb e) f0 f1 f3 f4 f5⟩
 self:=fun _ _ _ _ _ st h=>wpAny_pyIter_keyiter st h
section
variable {X:Cx} {tg:Expr}
def iDk (tl:TE):TI:=fun σ H R=>tl σ H fun x H1=>∃ a o kvs,x = .ref a/\H1 a = some (.frz o (.dK kvs))/\R (Itd a o kvs) H1
theorem Tq {l:Expr} {tl:TE} (hl:PE X l tl):PI X tg l (iDk tl):=by
 intro pins s σ H R I h
 refine thn (hl pins s σ H _ I h) fun v s1 ⟨x,H1,I1,r1,q1⟩=>?_
 obtain ⟨a,o,kvs,e,hz,q⟩:=q1
 subst e
 cases r1
 obtain ⟨ho,_,hm,vs,r,o',es,ep,h1,h2,h3,h4⟩:=(show ObjOk X.prog X.w H1 s1.heap a (.frz o (.dK kvs)) from I1.hok a _ hz)
 rw [ho] at h1
 cases h1
 have hl:kvs.length = vs.length:=Paired.length r
 refine wpAny_pyIter_dict (knd:=Cv X.prog X.w) (kvs:=vs) (ep:=ep) hm ⟨o,es,ho,h2,h3,h4⟩ ?_
 refine ⟨s1.heap.objs.size,[s1.heap.objs.size],_,_,H1,rfl,I1.kept (t':=s1.toks) fun b o e=>Heap.get?_push_of_some _ e,Ac0 a _ o kvs es ep h3,⟨_,Heap.get?_push_size _ rfl,rfl,by rw [hl]; rfl⟩,fun b hb=>?_,q⟩
 have e:b = s1.heap.objs.size:=by simpa using hb
 subst e
 exact I1.fpOk (Nat.le_refl _) (I1.hok.fresh (Nat.le_refl _))
theorem AbI {a:Addr} {o:Obj} {kvs:List (Key × V)} {g:TG} {tb:TS} {D:Ends} {σ:St} {H:Hp} (Pv:Nat->St->Hp->Prop) (h0:Pv 0 σ H) (hl:∀ i σ H,i <= kvs.length->Pv i σ H->H a = some (.frz o (.dK kvs)))
  (hs:∀ i kv σ H,kvs[i]? = some kv->Pv i σ H->g (kV kv.1) σ H fun σ2 H2=>tb { D with nx:=Pv (i + 1),ct:=Pv (i + 1),bk:=D.nx } σ2 H2) (hd:∀ σ H,Pv kvs.length σ H->D.nx σ H) :
  ∃ W:Nat->Nat->St->Hp->Prop,(∃ m,W 0 m σ H)/\∀ i m σ H,W i m σ H ->
   ((Itd a o kvs).stop i H/\D.nx σ H)\/((Itd a o kvs).go i H/\∃ N:St->Hp->Prop,(∀ σ' H',N σ' H'->∃ m',m' < m/\W (i + 1) m' σ' H')/\∀ x H',(Itd a o kvs).yld i H x H'->g x σ H' fun σ2 H2=>tb { D with nx:=N,ct:=N,bk:=D.nx } σ2 H2):=by
 refine ⟨fun i m σ H=>m = kvs.length - i/\i <= kvs.length/\Pv i σ H,⟨kvs.length,by simp,Nat.zero_le _,h0⟩,?_⟩
 rintro i m σ H ⟨rfl,hi,p⟩
 have q:=hl i σ H hi p
 by_cases hlt:i < kvs.length
 ·refine .inr ⟨⟨q,hlt⟩,Pv (i + 1),fun σ' H' p'=>⟨kvs.length - (i + 1),by omega,rfl,hlt,p'⟩,fun x H' y=>?_⟩
  obtain ⟨e,kv,y1,y2⟩:=y
  subst e y2
  exact hs i kv σ _ y1 p
 ·have e:i = kvs.length:=by omega
  subst e
  exact .inl ⟨⟨q,Nat.le_refl _⟩,hd σ H p⟩
end
def Iti (a:Addr) (o:Obj) (kvs:List (Key × V)):It :=
 ⟨fun i H=>H a = some (.frz o (.dK kvs))/\i < kvs.length,fun i H x H'=>∃ t kv,H t = none/\kvs[i]? = some kv/\x = .ref t/\H' = upd H t (.tup [kV kv.1,kv.2]),fun i H=>H a = some (.frz o (.dK kvs))/\kvs.length <= i⟩
theorem Abt {κ:Type}:∀ {kvs:List (κ × V)} {vs:List (κ × Value)} {i:Nat} {kv:κ × V},KV kvs vs->kvs[i]? = some kv->∃ v,vs[i]? = some (kv.1,v)/\RelV kv.2 v
 | _,_,_,_,.nil,e=>by simp at e
 | _,(k',v') :: _,0,_,.cons r _,e=>by
  simp at e; subst e
  obtain ⟨h1,h2⟩:=r
  exact ⟨v',by simp [h1],h2⟩
 | _,_,i + 1,kv,.cons _ t,e=>by
  obtain ⟨v,h1,h2⟩:=Abt (i:=i) (kv:=kv) t (by simpa using e)
  exact ⟨v,by simpa using h1,h2⟩
theorem AaO {P:Program} {w:World} {K:PySem.W.Frag} {elts:List Expr} {x1:Nat} {tp:Pos} (a it:Addr) (o:Obj) (kvs:List (Key × V)) (es:Array DictEntry) (ep:Nat) (hd:o.data = .dict es ep) :
  Uz P w K (.Tuple elts x1 tp) (Iti a o kvs) [it] it (fun i h=>∃ ok ov,IsItemIter h it a i kvs.length ep ok ov) where
 mem:=by simp
 obj:=fun i h st b hb=>by
  have e:b = it:=by simpa using hb
  subst e
  obtain ⟨ok,ov,e⟩:=st
  exact ⟨_,e,fun v z=>nomatch z⟩
 keep:=fun i h h' st k=>by
  obtain ⟨ok,ov,e⟩:=st
  exact ⟨ok,ov,k it (by simp) _ e⟩
 item:=by
  intro X hP hw hK hc i pins s σ H E I hf st hg
  subst hP hw hK
  obtain ⟨hz,hi⟩:=hg
  obtain ⟨ok,ov,st⟩:=st
  obtain ⟨hm,vs,r,da⟩:=Ri I.hok hz hd
  have hl:kvs.length = vs.length:=Paired.length r
  obtain ⟨f0,f1,f2,f3,f4,f5⟩:=hf it (by simp)
  obtain ⟨v,hv,rv⟩:=Abt (i:=i) (kv:=kvs[i]) r (List.getElem?_eq_getElem hi)
  have hit:it < s.heap.objs.size:=Heap.lt_size st
  have hne:s.heap.objs.size ≠ it:=Nat.ne_of_gt hit
  have hfr:H s.heap.objs.size = none:=I.hok.fresh (Nat.le_refl _)
  rw [hl] at st
  refine wpAny_pyNext_items_item st da hv fun key h' hkey ho hT hsz hk=>⟨_,rfl,?_⟩
  refine wpAny_letOwnedTupleGo_items (s:={ s with heap:=h' }) ho fun h2 he hs=>?_
  have hs2:∀ b,b ≠ it->h2.get? b = h'.get? b:=hs.2
  have kp:∀ b o,b ≠ it->s.heap.get? b = some o->h2.get? b = some o:=fun b o hb e=>(hs2 b hb).trans (hk b o hb e)
  have hT2:h2.get? s.heap.objs.size = some { cls:=.type "tuple",data:=.seq #[key,v] }:=(hs2 _ hne).trans hT
  have nt:∀ b u,H b = some u->b ≠ s.heap.objs.size:=fun b u e=>Bq e hfr
  rw [<- hl] at he
  refine ⟨.ref s.heap.objs.size,upd H s.heap.objs.size (.tup [kV (kvs[i]).1,(kvs[i]).2]),?_,rfl,⟨_,_,hfr,List.getElem?_eq_getElem hi,rfl,rfl⟩,⟨_,_,he⟩,fun b hb=>?_⟩
  ·refine Inv.step (s:=s) (h':=h2) I (g':=s.gens) (d':=s.drawn) (t':=s.toks) (ch:=[it]) (fun b hb=>?_) (fun b o _ _ hc e _=>kp b o (fun z=>hc (by simp [z])) e) (fun b o _ _ hc e _=>⟨o.slots,kp b o (fun z=>hc (by simp [z])) e⟩)
    (fun b o hc e n=>by rw [Bg (Nat.ne_of_lt (Heap.lt_size e))]; exact n) (fun b o hc e=>⟨o,kp b o (fun z=>hc (by simp [z])) e⟩) (fun b xs e=>by rw [Bg (nt b _ e)]; exact e) (fun b o u e=>by rw [Bg (nt b _ e)]; exact e)
    (fun b ps e=>⟨#[],by rw [Bg (nt b _ e),e]; simp⟩) (fun m hm=>?_) (fun b u e=>?_) I.bare
   ·have e:b = it:=by simpa using hb
    subst e
    exact ⟨f3,f1,f4,f5⟩
   ·obtain ⟨o,es,ep,ho,r⟩:=hm
    exact ⟨o,es,ep,kp _ o (Ne.symm f1) ho,r⟩
   ·by_cases hb:b = s.heap.objs.size
    ·subst hb
     rw [Bn] at e
     cases e
     exact ⟨by show 2 <= sizeLine; decide,[key,v],.cons (Aam hkey) (.cons rv .nil),_,hT2,rfl,_,rfl⟩
    ·rw [Bg hb] at e
     have nit:∀ c w,H c = some w->c ≠ it:=fun c w e z=>by rw [z,f0] at e; cases e
     refine (I.hok b u e).stay (fun c v hc q=>kp c v ?_ q) (fun c q=>by rw [Bg (nt c _ q)]; exact q) fun c xs q=>by rw [Bg (nt c _ q)]; exact q
     rcases hc with z | z
     ·rw [z]; exact nit b u e
     ·exact nit c _ z
  ·have e:b = it:=by simpa using hb
   rw [e,Bg (Ne.symm hne)]
   exact f0
 done:=by
  intro X hP hw hK hc i pins s σ H E I hf st hg
  subst hP hw hK
  obtain ⟨hz,hi⟩:=hg
  obtain ⟨ok,ov,st⟩:=st
  obtain ⟨hm,vs,r,da⟩:=Ri I.hok hz hd
  have hl:kvs.length = vs.length:=Paired.length r
  obtain ⟨f0,f1,f2,f3,f4,f5⟩:=hf it (by simp)
  rw [hl] at st
  exact wpAny_pyNext_items_end (I.ok.hd hc) st da (List.getElem?_eq_none (by omega)) fun h' eb=>⟨rfl,I.turned (t':=s.toks) (fun b o hb e=>eb b o hb e) f0 f1 f3 f4 f5⟩
 self:=fun A i s Q E st h=>by
  obtain ⟨ok,ov,e⟩:=st
  exact PySem.W.kcp_self e h
section
variable {X:Cx} {elts:List Expr} {x1:Nat} {tp apos cpos:Pos}
def iDi (tl:TE):TI:=fun σ H R=>tl σ H fun x H1=>∃ a o kvs,x = .ref a/\H1 a = some (.frz o (.dK kvs))/\R (Iti a o kvs) H1
theorem Acz {l:Expr} {tl:TE} (hl:PE X l tl) (hbase:attributeBase l "items" X.env (eval l X.env) = eval l X.env:=by rfl) (hline:(apos.endLine == cpos.line) = true:=by rfl) :
  PI X (.Tuple elts x1 tp) (.Call (.Attribute l "items" apos) [] [] cpos) (iDi tl):=by
 intro pins s σ H R I h
 refine wpAny_Call_method0_late hbase hline (thn (hl pins s σ H _ I h) fun v s1 ⟨x,H1,I1,r1,q1⟩=>?_)
 obtain ⟨a,o,kvs,e,hz,q⟩:=q1
 subst e
 cases r1
 obtain ⟨ho,_,hm,vs,r,o',es,ep,h1,h2,h3,h4⟩:=(show ObjOk X.prog X.w H1 s1.heap a (.frz o (.dK kvs)) from I1.hok a _ hz)
 rw [ho] at h1
 cases h1
 have hlen:kvs.length = vs.length:=Paired.length r
 have da:s1.heap.DictAt (Cv X.prog X.w) a vs ep:=⟨o,es,ho,h2,h3,h4⟩
 refine ⟨"dict","dict.items",PySem.F.plainAttrs_dict,PySem.F.slot_dict_items,PySem.F.type_dict_items,⟨o,ho,h2.1⟩,fun b eb=>?_,Calls.callWith_builtin rfl (PySem.evalArgs_none ?_)⟩
 ·cases eb
  exact ⟨o,ho,h2.2.1⟩
 refine call_meetsIn PySem.F.slot_dict_items da.dictOf.typeIs PySem.F.entry_dict_items (PySem.F.args_dict_items_1 _) (meets_dict_items (Cv X.prog X.w) a hm) ⟨⟨vs,da.dictOf⟩,?_⟩
 refine wpAny_pyIter_items (s:={ s1 with heap:=s1.heap.push { cls:=.type "dict_items",data:=.fields #[.ref a] } }) (knd:=Cv X.prog X.w) (kvs:=vs) (ep:=ep) ⟨_,Heap.get?_push_size _ rfl,rfl,rfl⟩ (da.push _) ?_
 have I2:Inv X pins σ H1 { s1 with heap:=s1.heap.push { cls:=.type "dict_items",data:=.fields #[.ref a] } }:=I1.kept (t':=s1.toks) fun b o e=>Heap.get?_push_of_some _ e
 refine ⟨_,[_],_,_,H1,rfl,I2.kept (t':=s1.toks) fun b o e=>Heap.get?_push_of_some _ e,AaO a _ o kvs es ep h3,⟨.none,.none,by rw [hlen]; exact Heap.get?_push_size _ rfl⟩,fun b hb=>?_,q⟩
 have e:=List.mem_singleton.mp hb
 subst e
 exact I2.fpOk (Nat.le_refl _) (I2.hok.fresh (Nat.le_refl _))
theorem AaS {a:Addr} {o:Obj} {kvs:List (Key × V)} {g:TG} {tb:TS} {D:Ends} {σ:St} {H:Hp} (Pv:Nat->St->Hp->Prop) (h0:Pv 0 σ H) (hl:∀ i σ H,i <= kvs.length->Pv i σ H->H a = some (.frz o (.dK kvs)))
  (hs:∀ i kv t σ H,kvs[i]? = some kv->H t = none->Pv i σ H->g (.ref t) σ (upd H t (.tup [kV kv.1,kv.2])) fun σ2 H2=>tb { D with nx:=Pv (i + 1),ct:=Pv (i + 1),bk:=D.nx } σ2 H2) (hd:∀ σ H,Pv kvs.length σ H->D.nx σ H) :
  ∃ W:Nat->Nat->St->Hp->Prop,(∃ m,W 0 m σ H)/\∀ i m σ H,W i m σ H ->
   ((Iti a o kvs).stop i H/\D.nx σ H)\/((Iti a o kvs).go i H/\∃ N:St->Hp->Prop,(∀ σ' H',N σ' H'->∃ m',m' < m/\W (i + 1) m' σ' H')/\∀ x H',(Iti a o kvs).yld i H x H'->g x σ H' fun σ2 H2=>tb { D with nx:=N,ct:=N,bk:=D.nx } σ2 H2):=by
 refine ⟨fun i m σ H=>m = kvs.length - i/\i <= kvs.length/\Pv i σ H,⟨kvs.length,by simp,Nat.zero_le _,h0⟩,?_⟩
 rintro i m σ H ⟨rfl,hi,p⟩
 have q:=hl i σ H hi p
 by_cases hlt:i < kvs.length
 ·refine .inr ⟨⟨q,hlt⟩,Pv (i + 1),fun σ' H' p'=>⟨kvs.length - (i + 1),by omega,rfl,hlt,p'⟩,fun x H' y=>?_⟩
  obtain ⟨t,kv,ht,y1,y2,y3⟩:=y
  subst y2 y3
  exact hs i kv t σ _ y1 ht p
 ·have e:i = kvs.length:=by omega
  subst e
  exact .inl ⟨⟨q,Nat.le_refl _⟩,hd σ H p⟩
end
end L2
set_option Elab.async false
set_option linter.all false
set_option maxRecDepth 100000
set_option maxHeartbeats 4000000
namespace L2
open PySem PySem.Spec PyProof.Rows
section
variable {σ:St} {H:Hp} {Q:VK} {B:Bool->Hp->Prop} {v x y:V} {ta tb tc:TE} {tA tB':TT} {D:Ends} {t u:TS} {K:PySem.W.Frag}
theorem AjP {i:Nat} (h:σ[i]? = some (some v)) (q:Q v H):Ff i σ H Q:=⟨v,h,q⟩
theorem i_c (q:Q v H):tC v σ H Q:=q
theorem Ako {r:R2} (q:ta σ H fun x H1=>tb σ H1 fun y H2=>r x y H2 Q):tOp r ta tb σ H Q:=q
theorem AkR {r:V->Hp->VK->Prop} (q:ta σ H fun x H1=>r x H1 Q):tUn r ta σ H Q:=q
theorem Aku {g:Int->V} {i:Int} (q:Q (g i) H):rU g (.int i) H Q:=⟨i,rfl,q⟩
theorem Aj5 {g:Int->Int->V} {i j:Int} (q:Q (g i j) H):rI0 g (.int i) (.int j) H Q:=⟨i,j,rfl,rfl,q⟩
theorem AjG {i j:Int}:decide (V.int i = V.int j) = decide (i = j):=by
 by_cases h:i = j
 ·subst h; simp
 ·rw [decide_eq_false h,decide_eq_false fun e=>h (V.int.inj e)]
theorem Ae3 {i j:Str}:decide (V.str i = V.str j) = decide (i = j):=by
 by_cases h:i = j
 ·subst h; simp
 ·rw [decide_eq_false h,decide_eq_false fun e=>h (V.str.inj e)]
theorem Aeh {i j:Int} (q:Q (.bl (decide (i = j))) H):rEq (.int i) (.int j) H Q:=⟨rfl,by rw [AjG]; exact q⟩
theorem Aeo {i j:Str} (q:Q (.bl (decide (i = j))) H):rEq (.str i) (.str j) H Q:=⟨rfl,by rw [Ae3]; exact q⟩
theorem AjZ {i j:Str} (q:Q (.bl (!decide (i = j))) H):rNe (.str i) (.str j) H Q:=⟨rfl,by rw [Ae3]; exact q⟩
theorem AkM {t:TE} (q:t σ H fun x H1=>∃ c,x = .bl c/\B c H1):tB t σ H B:=q
theorem AhS {t:TE} (q:t σ H fun x H1=>∃ c,x = .bl c/\B c H1):Wn t σ H B:=q
theorem AjN {b:Bool} {P:Bool->Prop} (q:P b):∃ c,V.bl b = V.bl c/\P c:=⟨b,rfl,q⟩
theorem Akf (q:tA σ H fun c H1=>if c = true then tB' σ H1 B else B false H1):AiE tA tB' σ H B:=q
theorem AkC (q:tA σ H fun c H1=>if c = true then B true H1 else tB' σ H1 B):tOr tA tB' σ H B:=q
theorem AjS (q:tA σ H fun c H1=>B (!c) H1):AdC tA σ H B:=q
theorem Ah9 (q:ta σ H fun x H1=>∃ c,x = .bl c/\if c = true then tb σ H1 Q else Q (.bl false) H1):Aa3 ta tb σ H Q:=q
theorem Aiq (q:ta σ H fun x H1=>∃ c,x = .bl c/\Q (.bl (!c)) H1):Aa6 ta σ H Q:=q
theorem AaN (q:t { D with nx:=u D } σ H):Adv t u D σ H:=q
theorem AkU (q:D.nx σ H):AaP D σ H:=q
theorem AgQ (q:ta σ H fun _ H1=>D.nx σ H1):Sv ta D σ H:=q
theorem Ajs (q:ta σ H D.rt):Vh ta D σ H:=q
theorem AkV (q:tA σ H fun b H1=>if b = true then t D σ H1 else u D σ H1):AdH tA t u D σ H:=q
theorem AjW {g:TG} (q:ta σ H fun x H1=>g x σ H1 D.nx):Qk ta g D σ H:=q
theorem Agd {i:Nat} {R:St->Hp->Prop} (q:R (σ.set i (some v)) H):La i v σ H R:=q
theorem AhB {n:Nat} {a:Addr} {xs:List V} {g:TGs} {R:St->Hp->Prop} (h:SqT K H a xs) (hl:xs.length = n) (q:g xs σ H R):Wv K n g (.ref a) σ H R:=⟨a,xs,rfl,h,hl,q⟩
theorem Af7 {g:TG} {gs:TGs} {vs:List V} {R:St->Hp->Prop} (q:g v σ H fun σ' H'=>gs vs σ' H' R):Aa2 g gs (v :: vs) σ H R:=⟨v,vs,rfl,q⟩
theorem Aia {R:St->Hp->Prop} (q:R σ H):AdL [] σ H R:=⟨rfl,q⟩
theorem AhV {sp:Sp} {dvs:List V} {E:XK} {t:TA} (q:t σ H fun vs H1=>sp (vs ++ dvs) H1 Q E):Jz sp dvs E t σ H Q:=q
theorem Ahk {C:Addr} {m:Str} {sp:Sp} {dvs:List V} {E:XK} {t:TA} (q:ta σ H fun x H1=>∃ a dx fs,x = .ref a/\H1 a = some (.ins C dx fs)/\fs.lookup m = none/\t σ H1 fun vs H2=>sp (x :: (vs ++ dvs)) H2 Q E):Aes C m sp dvs E ta t σ H Q:=q
theorem Ai8 {R:List V->Hp->Prop} (q:R [] H):Us σ H R:=q
theorem Ah3 {tr:TA} {R:List V->Hp->Prop} (q:ta σ H fun x H1=>tr σ H1 fun xs H2=>R (x :: xs) H2):Gm ta tr σ H R:=q
theorem Aj9 {t:TA} (q:t σ H fun xs H1=>xs.length <= sizeLine/\∀ p,H1 p = none->Q (.ref p) (upd H1 p (.tup xs))):Ahh t σ H Q:=q
theorem Akh {f:Str} (q:ta σ H fun x H1=>∃ a C dx fs v,x = .ref a/\H1 a = some (.ins C dx fs)/\Cls K C/\NoAttr K C f/\fs.lookup f = some v/\Q v H1):Aix K ta f σ H Q:=q
theorem AkL {r:List V->Hp->VK->Prop} {t:TA} (q:t σ H fun vs H1=>r vs H1 Q):tCB r t σ H Q:=q
theorem Ajx (q:ta σ H fun y H1=>tb σ H1 fun x H2=>∃ a o,x = .ref a/\DGet H2 a y o/\Q (.bl o.isSome) H2):AdB ta tb σ H Q:=q
theorem AdR (q:ta σ H fun y H1=>tb σ H1 fun x H2=>∃ a o,x = .ref a/\DGet H2 a y o/\Q (.bl (!o.isSome)) H2):Zm ta tb σ H Q:=q
theorem AhC (q:ta σ H fun x H1=>tb σ H1 fun y H2=>∃ a v,x = .ref a/\DGet H2 a y (some v)/\Q v H2):Wh ta tb σ H Q:=q
theorem Af8 (q:ta σ H fun x H1=>∃ a,x = .ref a/\IsD H1 a/\tb σ H1 fun y H2=>tc σ H2 fun z H3=>∃ o,DGet H3 a y o/\Q (o.getD z) H3):Yl ta tb tc σ H Q:=q
theorem AhF (q:tc σ H fun v H1=>ta σ H1 fun x H2=>tb σ H2 fun y H3=>∃ a H4,x = .ref a/\DPut H3 a y v H4/\D.nx σ H4):Abd ta tb tc D σ H:=q
theorem Aig {f:Str} (q:tb σ H fun y H1=>ta σ H1 fun x H2=>∃ a C dx fs,x = .ref a/\H2 a = some (.ins C dx fs)/\Cls K C/\NoAttr K C f/\fs.length < 1000/\D.nx σ (upd H2 a (.ins C dx (Br f y fs)))):AhU K ta tb f D σ H:=q
theorem Akw {T:String} {r:V->List V->Hp->VK->Prop} {t:TA} (q:ta σ H fun x H1=>tyV K T x H1/\t σ H1 fun xs H2=>r x xs H2 Q):tBM K T r ta t σ H Q:=q
theorem Ahv (q:∀ p,H p = none->Q (.ref p) (upd H p (.dK []))):Xx σ H Q:=q
theorem AiC (q:∀ p,H p = none->Q (.ref p) (upd H p (.dT []))):Abp σ H Q:=q
theorem Lf {i:Nat} {a:Addr} {xs:List V} {g:TG} (hv:σ[i]? = some (some (.ref a))) (hS:SqL K H a xs) (Pv:Nat->St->Hp->Prop) (h0:Pv 0 σ H) (hl:∀ i σ H,i <= xs.length->Pv i σ H->SqL K H a xs)
  (hs:∀ i x σ H,xs[i]? = some x->Pv i σ H->g x σ H fun σ2 H2=>t { D with nx:=Pv (i + 1),ct:=Pv (i + 1),bk:=D.nx } σ2 H2) (hd:∀ σ H,Pv xs.length σ H->D.nx σ H):Nh (Qh K (Ff i)) g t D σ H :=
 ⟨_,hv,a,rfl,⟨_,hS⟩,Qf Pv h0 hl hs hd⟩
theorem AjL {ta:TA} {R:It->Hp->Prop} (q:ta σ H fun vs H1=>∃ j:Int,vs = [.int j]/\-(2 ^ 62) <= j/\j < 2 ^ 62/\R (Itr 0 j.toNat) H1):Um ta σ H R:=q
theorem AkB {R:It->Hp->Prop} (q:ta σ H fun x H1=>∃ a,x = .ref a/\(∃ xs,SqL K H1 a xs)/\R (Itl K a) H1):Qh K ta σ H R:=q
theorem AhY {i:Nat} {a:Addr} {kvs:List (Key × V)} {g:TG} (hv:σ[i]? = some (some (.ref a))) (hS:H a = some (.dK kvs)) (Pv:Nat->St->Hp->Prop) (h0:Pv 0 σ H)
  (hl:∀ i σ H,i <= kvs.length->Pv i σ H->H a = some (.dK kvs))
  (hs:∀ o i kv σ H,kvs[i]? = some kv->Pv i σ H->g (kV kv.1) σ (upd H a (.frz o (.dK kvs))) fun σ2 H2=>t (Ends.mk (fun σ H=>H a = some (.frz o (.dK kvs))/\Pv (i + 1) σ (upd H a (.dK kvs))) (Oj a (.dK kvs) D).rt (Oj a (.dK kvs) D).nx (fun σ H=>H a = some (.frz o (.dK kvs))/\Pv (i + 1) σ (upd H a (.dK kvs)))) σ2 H2)
  (hd:∀ σ H,Pv kvs.length σ H->D.nx σ H):Aa5 (Nh (iDk (Ff i)) g t) D σ H:=by
 refine ⟨a,.dK kvs,trivial,hS,fun o=>⟨_,hv,a,o,kvs,rfl,Bn,AbI (fun i σ H=>H a = some (.frz o (.dK kvs))/\Pv i σ (upd H a (.dK kvs))) ⟨Bn,?_⟩ (fun i σ H _ p=>p.1) (fun i kv σ H e p=>?_) fun σ H p=>⟨o,p.1,hd σ _ p.2⟩⟩⟩
 ·have e:upd (upd H a (.frz o (.dK kvs))) a (.dK kvs) = H:=by
   rw [Fo]; funext b; unfold upd; split
   ·rename_i h; rw [h,hS]
   ·rfl
  rw [e]; exact h0
 ·have e2:upd (upd H a (.dK kvs)) a (.frz o (.dK kvs)) = H:=by
   rw [Fo]; funext b; unfold upd; split
   ·rename_i h; rw [h,p.1]
   ·rfl
  have q:=hs o i kv σ _ e p.2
  rw [e2] at q
  exact q
theorem Ag6 {i:Nat} {a:Addr} {kvs:List (Key × V)} {g:TG} (hv:σ[i]? = some (some (.ref a))) (hS:H a = some (.dK kvs)) (Pv:Nat->St->Hp->Prop) (h0:Pv 0 σ H)
  (hs:∀ o i kv p σ H,kvs[i]? = some kv->H p = none->p ≠ a->Pv i σ H->g (.ref p) σ (upd (upd H a (.frz o (.dK kvs))) p (.tup [kV kv.1,kv.2])) fun σ2 H2=>t (Ends.mk (fun σ H=>H a = some (.frz o (.dK kvs))/\Pv (i + 1) σ (upd H a (.dK kvs))) (Oj a (.dK kvs) D).rt (Oj a (.dK kvs) D).nx (fun σ H=>H a = some (.frz o (.dK kvs))/\Pv (i + 1) σ (upd H a (.dK kvs)))) σ2 H2)
  (hd:∀ σ H,Pv kvs.length σ H->D.nx σ H):Aa5 (Nh (iDi (Ff i)) g t) D σ H:=by
 refine ⟨a,.dK kvs,trivial,hS,fun o=>⟨_,hv,a,o,kvs,rfl,Bn,AaS (fun i σ H=>H a = some (.frz o (.dK kvs))/\Pv i σ (upd H a (.dK kvs))) ⟨Bn,?_⟩ (fun i σ H _ p=>p.1) (fun i kv p σ H e hp w=>?_) fun σ H p=>⟨o,p.1,hd σ _ p.2⟩⟩⟩
 ·have e:upd (upd H a (.frz o (.dK kvs))) a (.dK kvs) = H:=by
   rw [Fo]; funext b; unfold upd; split
   ·rename_i h; rw [h,hS]
   ·rfl
  rw [e]; exact h0
 ·have e2:upd (upd H a (.dK kvs)) a (.frz o (.dK kvs)) = H:=by
   rw [Fo]; funext b; unfold upd; split
   ·rename_i h; rw [h,w.1]
   ·rfl
  have ne:p ≠ a:=fun z=>by rw [z,w.1] at hp; cases hp
  have q:=hs o i kv p σ (upd H a (.dK kvs)) e (by rw [Bg ne]; exact hp) ne w.2
  rw [e2] at q
  exact q
theorem Agp {ta:TA} {g:TG} {hi:Int} {n:Nat} (hargs:∀ R:List V->Hp->Prop,R [.int hi] H->ta σ H R) (hb:-(2 ^ 62) <= hi/\hi < 2 ^ 62) (hn:hi.toNat = n) (Pv:Nat->St->Hp->Prop) (h0:Pv 0 σ H)
  (hs:∀ i σ H,i < n->Pv i σ H->g (.int (0 + i)) σ H fun σ2 H2=>t { D with nx:=Pv (i + 1),ct:=Pv (i + 1),bk:=D.nx } σ2 H2) (hd:∀ σ H,Pv n σ H->D.nx σ H):Nh (Um ta) g t D σ H :=
 hargs _ ⟨hi,rfl,hb.1,hb.2,by rw [hn]; exact Vy Pv h0 hs hd⟩
end
end L2
set_option Elab.async false
set_option linter.all false
set_option maxRecDepth 100000
set_option maxHeartbeats 4000000
namespace L2
open PySem PySem.Spec PyProof.Rows
def Dg (fn:List Str) (env:Env):List (Str × Addr):=fn.map fun x=>(x,(env.cells.lookup x).getD 0)
theorem Tk {env:Env}:∀ {fn:List Str} {x:Str} {c:Addr},(Dg fn env).lookup x = some c->x ∈ fn/\c = (env.cells.lookup x).getD 0
 | [],_,_,h=>by cases h
 | y :: r,x,c,h=>by
  unfold Dg at h
  rw [List.map_cons,List.lookup_cons] at h
  cases e:x == y with
  | true =>
   rw [e] at h
   have:x = y:=eq_of_beq e
   subst this
   cases h
   exact ⟨List.mem_cons_self,rfl⟩
  | false =>
   rw [e] at h
   obtain ⟨h1,h2⟩:=Tk (fn:=r) (x:=x) (c:=c) h
   exact ⟨List.mem_cons_of_mem _ h1,h2⟩
theorem Tp {env:Env}:∀ {fn:List Str} {x:Str},x ∈ fn->(Dg fn env).lookup x = some ((env.cells.lookup x).getD 0)
 | [],_,h=>by cases h
 | y :: r,x,h=>by
  unfold Dg
  rw [List.map_cons,List.lookup_cons]
  cases e:x == y with
  | true =>
   have:x = y:=eq_of_beq e
   subst this
   rfl
  | false =>
   rcases List.mem_cons.mp h with z | z
   ·subst z; rw [beq_self_eq_true] at e; cases e
   ·exact Tp z
def Dk (X:Cx) (scope:Scope) (N' fn:List Str) (C:Addr) (fp:List Addr) (s:Shared) (H:Hp):Cx :=
 { X with N:=N',s₀:=s,H₀:=H,env:=compEnvC scope (Dg fn X.env) C X.env,outer:=X.stack,stack:=X.stack,ex:=fp,fn:=fun _=>false,pn:=[],xe:=fun _ _=>False }
def compσ (k:Nat) (fr:List Nat) (σ:St):St:=List.replicate k none ++ fr.map fun i=>(σ[i]?).join
def Jx (wi:TI) (g:TG) (tc:TT) (te:TE) (k:Nat) (fr:List Nat):TE:=fun σ H Q=>wi σ H fun J H1=>∀ D,H1 D = none ->
 ∃ W:Nat->Nat->Hp->Prop,(∃ m,W 0 m (upd H1 D (.lst [])))/\∀ i m H,W i m H->(J.stop i H/\Q (.ref D) H)\/(J.go i H/\∀ x H',J.yld i H x H'->g x (compσ k fr σ) H' fun σ2 H2 =>
  σ2.drop k = (compσ k fr σ).drop k/\tc σ2 H2 fun b H3=>if b = true then te σ2 H3 (fun y H4=>∃ ys,H4 D = some (.lst ys)/\ys.length < sizeLine/\∃ m',m' < m/\W (i + 1) m' (upd H4 D (.lst (ys ++ [y])))) else ∃ m',m' < m/\W (i + 1) m' H3)
def Qu (X:Cx) (ifs:List Expr) (t:TT):Prop :=
 ∀ (pins:List (Addr × Obj)) (s:Shared) (σ:St) (H:Hp) (Q:Bool->Hp->Prop),Inv X pins σ H s->t σ H Q ->
  wpAny (model X.prog X.w) X.A (forIn ifs true fun c r=>if r = true then do let ok <- isTrue c X.env (eval c X.env); pure (ForInStep.yield ok) else pure (ForInStep.yield r)) (TP X pins σ Q) X.xe s
def Afc:TT:=fun _ H Q=>Q true H
theorem Jk {X:Cx}:Qu X [] Afc:=fun _ _ _ H _ I h=>wpAny_tests_nil ⟨H,I,h⟩
theorem Vg {X:Cx} {c:Expr} {t:TT} (h:PT X c t):Qu X [c] t:=fun pins s σ H Q I q=>wpAny_tests_one (h pins s σ H Q I q)
theorem AbD {prog:Program} {w:World} {A:Around} {R:Result->Shared->Prop} {s:Shared} {elt target iter:Expr} {ifs:List Expr} {scope:Scope} {pos:Pos} {it acc:Value} {env:Env} (I:Nat->Shared->Prop)
  (turn:∀ n s,I n s->wpAny (model prog w) A (pyNext it) (fun r s₁=>match r with
   | none=>R (.ok .next) s₁
   | some v=>wpAny (model prog w) A (letOwnedTupleGo target it v) (fun _ s₁'=>wpAny (model prog w) A (assign target env v) (fun _ s₂ =>
     wpAny (model prog w) A (forIn ifs true fun c r=>if r = true then do let ok <- isTrue c env (eval c env); pure (ForInStep.yield ok) else pure (ForInStep.yield r)) (fun ok s₃ =>
      if ok = true then wpAny (model prog w) A (eval elt env) (fun x s₄ =>
       wpAny (model prog w) A (call (.builtin "list.append") [acc,x]) (fun _ s₅=>∃ m,m < n/\I m s₅) (fun _ _=>False) s₄) (fun _ _=>False) s₃
      else ∃ m,m < n/\I m s₃) (fun _ _=>False) s₂) (fun _ _=>False) s₁') (fun _ _=>False) s₁) (fun _ _=>False) s)
  (n:Nat) (h:I n s) :
  codeAny (model prog w) A (.compLoop (.ListComp elt [⟨target,iter,ifs,0⟩] scope pos) 0 it acc env) R s:=by
 refine codeAny_loop rfl I (fun n s hI=>?_) n h
 show wpAny _ A ((compTurn (.ListComp elt [⟨target,iter,ifs,0⟩] scope pos) 0 it acc env).onRaise (fun x=>do noteFrame x env; theTreesLotGoes x)) _ _ s
 refine wpAny_noted ?_
 rw [compTurn_list]
 refine wpAny_bind (wpAny_standAt (wpAny_bind (wpAny_mono (turn n s hI) (fun r s₁ h₁=>?_) fun _ _ h'=>h'.elim)))
 cases r with
 | none=>exact wpAny_pure h₁
 | some v =>
  refine wpAny_bind (wpAny_mono h₁ (fun _ s₁' h₁'=>?_) fun _ _ h'=>h'.elim)
  refine wpAny_bind (wpAny_mono h₁' (fun _ s₂ h₂=>wpAny_bind (wpAny_mono h₂ (fun ok s₃ h₃=>?_) fun _ _ h'=>h'.elim)) fun _ _ h'=>h'.elim)
  cases ok with
  | false=>exact wpAny_pure ⟨rfl,h₃⟩
  | true =>
   exact wpAny_bind (wpAny_bind (wpAny_mono h₃ (fun x s₄ h₄=>wpAny_bind (wpAny_mono h₄ (fun _ s₅ h₅=>wpAny_pure (wpAny_pure ⟨rfl,h₅⟩)) fun _ _ h'=>h'.elim)) fun _ _ h'=>h'.elim))
theorem compσ_len (k:Nat) (fr:List Nat) (σ:St):(compσ k fr σ).length = k + fr.length:=by
 unfold compσ; rw [List.length_append,List.length_replicate,List.length_map]
theorem compσ_weak {k:Nat} {fr:List Nat} {σ σ2:St} (hd:σ2.drop k = (compσ k fr σ).drop k):∀ (i:Nat) v,(compσ k fr σ)[i]? = some (some v)->σ2[i]? = some (some v):=by
 intro i v h
 by_cases hi:i < k
 ·unfold compσ at h
  rw [List.getElem?_append_left (by rw [List.length_replicate]; exact hi),List.getElem?_replicate] at h
  rw [if_pos hi] at h; cases h
 ·have e:∀ l:St,l[i]? = (l.drop k)[i - k]?:=fun l=>by rw [List.getElem?_drop]; congr 1; omega
  rw [e] at h ⊢
  rw [hd]; exact h
theorem Inv.nsch {X:Cx} {pins:List (Addr × Obj)} {σ:St} {H:Hp} {s:Shared} {C:Addr} {h':Heap} (I:Inv X pins σ H s) (sb:Heap.SameBut C s.heap h') (hC:H C = none) (h1:X.s₀.heap.objs.size <= C) (h2:C ≠ X.env.locals)
  (h3:∀ x c,X.env.cells.lookup x = some c->c ≠ C) (h4:∀ p ∈ X.pn ++ pins,p.1 ≠ C):Inv X pins σ H { s with heap:=h' }:=by
 have nc:∀ b:Addr,b ∉ [C]->b ≠ C:=fun b z w=>z (by rw [w]; exact List.mem_cons_self)
 refine Inv.call (s:=s) I (h':=h') (g':=s.gens) (d':=s.drawn) (t':=s.toks) (ch:=[C]) ⟨fun b o e n _ hx=>(sb.2 b (nc b hx)).trans e,fun b o e n _ hx=>⟨o.slots,(sb.2 b (nc b hx)).trans e⟩,fun _ _ _ n _=>n,fun b o e hx=>⟨o,(sb.2 b (nc b hx)).trans e⟩,fun _ _ e=>e,fun _ _ _ e=>e,fun b ps e=>⟨#[],by rw [Array.append_empty]; exact e⟩⟩ (fun b u e=>?_) I.bare (fun b hb=>?_)
 ·refine (I.hok b u e).stay (fun c v hc' q'=>(sb.2 c ?_).trans q') (fun _ q'=>q') fun _ _ q'=>q'
  rcases hc' with w | w
  ·rw [w]; exact Bq e hC
  ·exact Bq w hC
 ·rw [List.mem_singleton.mp hb]
  exact ⟨.inr h1,h2,h3,h4⟩
theorem Vt {X:Cx} {elt tg iter:Expr} {ifs:List Expr} {scope:Scope} {pos:Pos} {wi:TI} {g:TG} {tc:TT} {te:TE} {k:Nat} {fr:List Nat} {N' fn:List Str} (hc:X.calm = true)
  (hi:PI X tg iter wi) (hN:N'.length = k + fr.length)
  (hfr:∀ j y,N'[k + j]? = some y->∀ i,fr[j]? = some i->X.N[i]? = some y/\X.env.kindOf y = some .cell/\(compEnvC scope (Dg fn X.env) 0 X.env).kindOf y = some .cell/\y ∈ fn)
  (hfn:∀ y ∈ fn,X.env.kindOf y = some .cell)
  (hkd:∀ y,((compEnvC scope (Dg fn X.env) 0 X.env).kindOf y = some .cell\/(compEnvC scope (Dg fn X.env) 0 X.env).kindOf y = some .free)->y ∈ fn)
  (hg:∀ C fp s H,PG (Dk X scope N' fn C fp s H) tg g) (ht:∀ C fp s H,Qu (Dk X scope N' fn C fp s H) ifs tc) (he:∀ C fp s H,PE (Dk X scope N' fn C fp s H) elt te)
  (hclos:closureFor scope X.env = pure (Dg fn X.env)) (hcell:∀ y ∈ scope.names,y.2 ≠ .cell) (hkind:scope.kind = .function) (hnames:∀ y ∈ scope.names,y.2 = .local->scope.names.lookup y.1 = some .local)
  (hs:∀ x,foldedSetIterable iter X.env x = pure x:=by intro _; rfl) {pins:List (Addr × Obj)} {s:Shared} {σ:St} {H:Hp} {Q:VK} {use:Option (Value->Sem Unit)} {Qc:Value->Shared->Prop} {cpos:Pos} (I:Inv X pins σ H s) (h:Jx wi g tc te k fr σ H Q)
  (fin:∀ (H3:Hp) (s4:Shared) (D C:Addr) (m:Str->Option Value),s4.heap.Ns C m->Inv X pins σ H3 s4->H3 C = none->X.s₀.heap.objs.size <= C->C ≠ X.env.locals->(∀ x c,X.env.cells.lookup x = some c->c ≠ C)->(∀ p ∈ X.pn ++ pins,p.1 ≠ C)->Q (.ref D) H3 ->
   compPost (model X.prog X.w) X.A X.xe use Qc (.ref D) C (.ok .next) s4) :
  wpAny (model X.prog X.w) X.A (comprehension (.ListComp elt [⟨tg,iter,ifs,0⟩] scope pos) scope X.env cpos (newList []) false (eval iter X.env) use) Qc X.xe s:=by
 refine wpAny_comprehension_free (use:=use) rfl hs hclos hkind hnames (thn (hi pins s σ H _ I h) fun v s1 h1=>thn h1 fun itv s2 h2=>?_)
 obtain ⟨it,fp,tn,J,H2,e,I2,T,st2,f2,q⟩:=h2
 subst e
 have hfr2:H2 s2.heap.objs.size = none:=I2.hok.fresh (Nat.le_refl _)
 obtain ⟨W,⟨m0,w0⟩,turn⟩:=q s2.heap.objs.size hfr2
 refine wpAny_newObj_type (wpAny_newFunctionEnv hcell (by intro y hy; simp at hy) (fun h₁ hns₁ hsb₁=>?_) hkind)
 dsimp only at hns₁ hsb₁ ⊢
 generalize hHH:s2.heap.push { cls:=.type "list",dict:=none,data:=.seq ([]:List Value).toArray } = HH at hns₁ hsb₁ ⊢
 have hC:HH.objs.size = s2.heap.objs.size + 1:=by rw [<- hHH,Heap.size_push]
 have hDC:s2.heap.objs.size ≠ HH.objs.size:=by rw [hC]; exact Nat.ne_of_lt (Nat.lt_succ_self _)
 have hCle:s2.heap.objs.size <= HH.objs.size:=by rw [hC]; exact Nat.le_succ _
 have below:∀ b,b < s2.heap.objs.size->b ≠ HH.objs.size:=fun b hb=>by rw [hC]; exact Nat.ne_of_lt (Nat.lt_succ_of_lt hb)
 have old:∀ b o,s2.heap.get? b = some o->h₁.get? b = some o:=fun b o e=>hsb₁.extBut b o (below b (Heap.lt_size e)) (Heap.get?_push_of_some _ (hHH ▸ Heap.get?_push_of_some _ e))
 have hacc:h₁.get? s2.heap.objs.size = some { cls:=.type "list",dict:=none,data:=.seq ([]:List Value).toArray }:=hsb₁.extBut _ _ hDC (Heap.get?_push_of_some _ (hHH ▸ Heap.get?_push_size _ rfl))
 have hst₁:tn 0 h₁:=T.keep _ _ _ st2 fun b _ o e=>old b o e
 -- the cells from around
 have hcl:∀ x c,(Dg fn X.env).lookup x = some c->X.env.cells.lookup x = some c:=fun x c e=>by
  obtain ⟨h1,h2⟩:=Tk e
  obtain ⟨c',e'⟩:=I2.ok.has x (.inl (hfn x h1))
  rw [h2,e']; rfl
 have kd0:∀ C y,(compEnvC scope (Dg fn X.env) C X.env).kindOf y = (compEnvC scope (Dg fn X.env) 0 X.env).kindOf y:=fun _ _=>rfl
 have fpLt:∀ b ∈ fp,b < s2.heap.objs.size:=fun b hb=>by obtain ⟨o,e,_⟩:=T.obj _ _ st2 b hb; exact Heap.lt_size e
 have cLt:∀ x c,(Dg fn X.env).lookup x = some c->c < s2.heap.objs.size:=fun x c e=>by obtain ⟨v,z⟩:=I2.cell x c (hcl x c e); exact z.lt
 -- the block's context
 generalize hX:Dk X scope N' fn HH.objs.size fp s2 H2 = X'
 have ok:X'.Ok:=by
  subst hX
  exact {
   mod:=I2.ok.mod
   kind:=hkind
   glob:=I2.ok.glob
   blt:=I2.ok.blt
   above:=hCle
   inj:=fun x y c h1 h2=>I2.ok.inj x y c (hcl x c h1) (hcl y c h2)
   has:=fun x hx=>⟨_,Tp (hkd x hx)⟩
   cab:=fun x c z=>by cases z
   hd:=fun _=>I2.ok.hd hc
   frames:=I2.ok.frames
   stk:=.inl rfl
   exf:=fun b hb=>⟨Nat.ne_of_lt (Nat.lt_of_lt_of_le (fpLt b hb) hCle),fun x c e z=>by
    obtain ⟨_,_,_,_,f4,_⟩:=f2 b hb
    exact f4 x c (hcl x c e) z⟩
   bs:=I2.bs
   bsz:=Nat.le_trans I2.ok.bsz I2.sz
   noex:=fun b o e z=>by
    obtain ⟨_,_,_,f3,_,_⟩:=f2 b z
    rcases f3 with w | w
    ·exact I2.ok.noex b o e w
    ·have h1:=(I2.ok.bs b o e).1
     exact absurd (Nat.lt_of_lt_of_le (Heap.lt_size h1) w) (Nat.lt_irrefl _)
   exfs:=fun b z hb=>by
    obtain ⟨_,f1,f2',_⟩:=f2 b z
    rcases List.mem_cons.mp (I2.stkSub b hb) with w | w
    ·exact f1 w
    ·exact f2' w
   funs:=I2.stack
   frf:=I2.stkFree }
 have un1:Un X'.fs X'.ex H2 (upd H2 s2.heap.objs.size (.lst [])) s2.heap h₁:=Un.laid old (Nat.le_refl _) hfr2
 have hok1:HOk X.prog X.w (upd H2 s2.heap.objs.size (.lst [])) h₁:=I2.hok.laid old (Nat.le_refl _) ⟨Nat.zero_le _,[],0,.nil,hacc⟩
 have nC:H2 HH.objs.size = none:=I2.hok.fresh hCle
 have I0:∀ tk,Inv X' [] (compσ k fr σ) (upd H2 s2.heap.objs.size (.lst [])) { s2 with heap:=h₁,toks:=tk }:=fun tk=>by
  have ex:X'.env = compEnvC scope (Dg fn X.env) HH.objs.size X.env:=by subst hX; rfl
  refine ⟨ok,by subst hX; rfl,I2.bare,by subst hX; exact un1,?_,?_,?_,?_,?_,by subst hX; exact hok1,?_⟩
  ·obtain ⟨m,hn,hl⟩:=I2.loc
   refine ⟨_,by rw [ex]; exact hns₁,fun i x v e1 e2 e3=>?_⟩
   have e1':N'[i]? = some x:=by subst hX; exact e1
   have hik:k <= i:=by
    rcases Nat.lt_or_ge i k with z | z
    ·unfold compσ at e2
     rw [List.getElem?_append_left (by rw [List.length_replicate]; exact z),List.getElem?_replicate,if_pos z] at e2
     cases e2
    ·exact z
   obtain ⟨j,rfl⟩:=Nat.exists_eq_add_of_le hik
   have e2':(fr.map fun i=>(σ[i]?).join)[j]? = some (some v):=by
    unfold compσ at e2
    rw [List.getElem?_append_right (by rw [List.length_replicate]; omega),List.length_replicate] at e2
    simpa using e2
   rw [List.getElem?_map] at e2'
   cases ef:fr[j]? with
   | none=>rw [ef] at e2'; cases e2'
   | some i0 =>
    rw [ef] at e2'
    have e4:(σ[i0]?).join = some v:=Option.some.inj e2'
    obtain ⟨a1,a2,a3,a4⟩:=hfr j x e1' i0 ef
    have e5:σ[i0]? = some (some v):=by
     cases z:σ[i0]? with
     | none=>rw [z] at e4; cases e4
     | some o=>rw [z] at e4; have:o = some v:=e4; rw [this]
    obtain ⟨u,ru,l⟩:=hl i0 x v a1 e5 (.inr (.inl a2))
    refine ⟨u,ru,.inr ⟨.inl (by rw [ex,kd0]; exact a3),?_⟩⟩
    rcases l with ⟨lk,_⟩ | ⟨_,c,lc,lcell⟩
    ·rw [a2] at lk; cases lk
    ·refine ⟨c,by rw [ex]; show (Dg fn X.env).lookup x = some c; rw [Tp a4,lc]; rfl,?_⟩
     obtain ⟨o,ho,hd⟩:=lcell
     exact ⟨o,old c o ho,hd⟩
  ·intro x c e
   rw [ex] at e
   obtain ⟨v,o,ho,hd⟩:=I2.cell x c (hcl x c e)
   exact ⟨v,o,old c o ho,hd⟩
  ·rw [ex]
   show (upd H2 s2.heap.objs.size (.lst [])) HH.objs.size = none
   rw [Bg hDC.symm]; exact nC
  ·intro x c e
   rw [ex] at e
   rw [Bg (Nat.ne_of_lt (cLt x c e))]
   exact I2.freeC x c (hcl x c e)
  ·intro p hp
   subst hX
   exact absurd (show p ∈ ([]:List (Addr × Obj)) from hp) (by simp)
  ·rw [compσ_len]; subst hX; exact hN.symm
 have fpOk:∀ {H':Hp} {pins':List (Addr × Obj)},(∀ b ∈ fp,H' b = none)->pins' = []->∀ b ∈ fp,Sf X' pins' H' b:=fun {H' pins'} hn e b hb=>by
  subst e
  obtain ⟨_,f1,f2',f3,f4,f5⟩:=f2 b hb
  subst hX
  refine ⟨hn b hb,Nat.ne_of_lt (Nat.lt_of_lt_of_le (fpLt b hb) hCle),fun z=>?_,.inl hb,fun x c e=>f4 x c (hcl x c e),fun p hp=>absurd (show p ∈ ([]:List (Addr × Obj)) from hp) (by simp)⟩
  rcases List.mem_cons.mp (I2.stkSub b z) with w | w
  ·exact f1 w
  ·exact f2' w
 have eqP:X'.prog = X.prog/\X'.w = X.w/\X'.K = X.K/\X'.calm = true/\X'.A = X.A/\X'.env = compEnvC scope (Dg fn X.env) HH.objs.size X.env/\X'.N = N':=by subst hX; exact ⟨rfl,rfl,rfl,hc,rfl,rfl,rfl⟩
 obtain ⟨eP,eW,eK,eC,eA,eE,eN⟩:=eqP
 have hg':PG X' tg g:=by subst hX; exact hg _ _ _ _
 have ht':Qu X' ifs tc:=by subst hX; exact ht _ _ _ _
 have he':PE X' elt te:=by subst hX; exact he _ _ _ _
 have eX:X'.xe = fun _ _=>False:=by subst hX; rfl
 have loop:∀ s₃:Shared,s₃ = { s2 with heap:=h₁,toks:=s2.toks + ([]:List (Str × Value)).length } ->
   codeAny (model X.prog X.w) X.A (.compLoop (.ListComp elt [⟨tg,iter,ifs,0⟩] scope pos) 0 (.ref it) (.ref s2.heap.objs.size) (compEnvC scope (Dg fn X.env) HH.objs.size X.env))
    (compPost (model X.prog X.w) X.A X.xe use Qc (.ref s2.heap.objs.size) HH.objs.size) s₃:=by
  rintro s₃ rfl
  refine AbD (fun n s'=>∃ i H',Inv X' [] (compσ k fr σ) H' s'/\tn i s'.heap/\(∀ b ∈ fp,H' b = none)/\W i n H') ?_ m0 ⟨0,_,I0 _,hst₁,fun b hb=>by rw [Bg (Nat.ne_of_lt (fpLt b hb))]; exact (f2 b hb).1,w0⟩
  rintro n s3 ⟨i,H3,I3,st3,fr3,w3⟩
  rcases turn i n H3 w3 with ⟨stop,qn⟩ | ⟨go,step⟩
  ·have d:=T.done X' eP eW eK eC i [] s3 (compσ k fr σ) H3 (fun _ _=>False) I3 (fpOk fr3 rfl) st3 stop
   rw [eA] at d
   refine thn d fun r s4 ⟨hr,I4⟩=>?_
   subst hr
   obtain ⟨m,hn,_⟩:=I4.loc
   rw [eE] at hn
   have u4:Un (frs X.stack) fp H2 H3 s2.heap s4.heap:=by have:=I4.base; subst hX; exact this
   have nC3:H3 HH.objs.size = none:=by have:=I4.free; rw [eE] at this; exact this
   have hok5:HOk X.prog X.w H3 s4.heap:=fun b u e=>by
    have z:=I4.hok b u e
    rw [eP,eW] at z
    exact z
   have os4:s4.os = s2.os:=by have:=I4.os; subst hX; exact this
   obtain ⟨hh,gg,dd,tt,oo⟩:=s4
   obtain rfl:oo = s2.os:=os4
   have Ix:Inv X pins σ H3 ⟨hh,gg,dd,tt,s2.os⟩:=Inv.call (s:=s2) I2 (h':=hh) (g':=gg) (d':=dd) (t':=tt) (ch:=fp) u4 hok5 I4.bare fun b hb=>by
    obtain ⟨_,f1,_,f3,f4,f5⟩:=f2 b hb
    exact ⟨f3,f1,f4,f5⟩
   refine fin H3 _ _ _ m hn Ix nC3 (Nat.le_trans I2.sz hCle) ?_ (fun x c e=>?_) (fun p hp=>?_) qn
   ·obtain ⟨_,⟨o,_,_,ho,_⟩,_⟩:=I2.loc
    exact (below _ (Heap.lt_size ho)).symm
   ·obtain ⟨v,z⟩:=I2.cell x c e
    exact below _ z.lt
   ·exact below _ (Heap.lt_size (I2.pin p hp).1)
  ·have d:=T.item X' eP eW eK eC i [] s3 (compσ k fr σ) H3 (fun _ _=>False) I3 (fpOk fr3 rfl) st3 go
   rw [eA] at d
   refine thn d fun r s4 ⟨u,hr,h4⟩=>?_
   subst hr
   refine thn h4 fun _ s5 ⟨x,H5,I5,r5,y5,st5,fr5⟩=>?_
   have I5':=I5.pinned (fpOk fr5 rfl) (T.obj _ _ st5)
   have a1:=hg' _ s5 (compσ k fr σ) H5 x u _ I5' r5 (step x H5 y5)
   rw [eP,eW,eA,eE,eX] at a1
   refine thn a1 fun _ s6 ⟨σ6,H6,I6,q6a,q6⟩=>?_
   have a2:=ht' _ s6 σ6 H6 _ I6 q6
   rw [eP,eW,eA,eE,eX] at a2
   refine thn a2 fun b s7 ⟨H7,I7,q7⟩=>?_
   have again:∀ {H8:Hp} {s8:Shared},Inv X' ([] ++ So fp s5.heap) σ6 H8 s8->(∃ m',m' < n/\W (i + 1) m' H8)->∃ m,m < n/\∃ i H',Inv X' [] (compσ k fr σ) H' s8/\tn i s8.heap/\(∀ b ∈ fp,H' b = none)/\W i m H':=fun {H8 s8} I8 ⟨m',hm,w8⟩=>by
    refine ⟨m',hm,i + 1,H8,I8.unpinned.weak ?_ (compσ_weak q6a),T.keep _ _ _ st5 fun b hb o e=>(I8.pin (b,o) (List.mem_append_right _ (List.mem_append_right _ (Ls hb e)))).1,fun b hb=>?_,w8⟩
    ·rw [compσ_len,I8.len,eN,hN]
    ·obtain ⟨o,e,_⟩:=T.obj _ _ st5 b hb
     exact (I8.pin (b,o) (List.mem_append_right _ (List.mem_append_right _ (Ls hb e)))).2.1
   cases b with
   | false =>
    rw [if_neg Bool.false_ne_true] at q7 ⊢
    exact again I7 q7
   | true =>
    rw [if_pos rfl] at q7 ⊢
    have a3:=he' _ s7 σ6 H7 _ I7 q7
    rw [eP,eW,eA,eE,eX] at a3
    refine thn a3 fun yv s8 ⟨y,H8,I8,r8,ys,hD,hz,q8⟩=>?_
    have a4:=Vr (X:=X') _ s8 σ6 H8 (.ref s2.heap.objs.size) [y] (.ref s2.heap.objs.size) [yv] (fun _ H9=>∃ m',m' < n/\W (i + 1) m' H9) I8 rfl (.cons r8 .nil) ⟨_,ys,y,rfl,rfl,hD,hz,q8⟩
    rw [eP,eW,eA,eX] at a4
    exact thn a4 fun _ s9 ⟨_,H9,I9,_,q9⟩=>again I9 q9
 exact codeAny_compStart_list (loop _ rfl) (T.self _ 0 _ _ _ hst₁ (loop _ rfl))
theorem Aag {X:Cx} {elt tg iter:Expr} {ifs:List Expr} {scope:Scope} {pos:Pos} {wi:TI} {g:TG} {tc:TT} {te:TE} {k:Nat} {fr:List Nat} {N' fn:List Str} (hc:X.calm = true)
  (hi:PI X tg iter wi) (hN:N'.length = k + fr.length)
  (hfr:∀ j y,N'[k + j]? = some y->∀ i,fr[j]? = some i->X.N[i]? = some y/\X.env.kindOf y = some .cell/\(compEnvC scope (Dg fn X.env) 0 X.env).kindOf y = some .cell/\y ∈ fn)
  (hfn:∀ y ∈ fn,X.env.kindOf y = some .cell)
  (hkd:∀ y,((compEnvC scope (Dg fn X.env) 0 X.env).kindOf y = some .cell\/(compEnvC scope (Dg fn X.env) 0 X.env).kindOf y = some .free)->y ∈ fn)
  (hg:∀ C fp s H,PG (Dk X scope N' fn C fp s H) tg g) (ht:∀ C fp s H,Qu (Dk X scope N' fn C fp s H) ifs tc) (he:∀ C fp s H,PE (Dk X scope N' fn C fp s H) elt te)
  (hclos:closureFor scope X.env = pure (Dg fn X.env)) (hcell:∀ y ∈ scope.names,y.2 ≠ .cell) (hkind:scope.kind = .function) (hnames:∀ y ∈ scope.names,y.2 = .local->scope.names.lookup y.1 = some .local)
  (hs:∀ x,foldedSetIterable iter X.env x = pure x:=by intro _; rfl):PE X (.ListComp elt [⟨tg,iter,ifs,0⟩] scope pos) (Jx wi g tc te k fr):=by
 intro pins s σ H Q I h
 rw [eval_ListComp]
 refine Vt hc hi hN hfr hfn hkd hg ht he hclos hcell hkind hnames hs I h fun H3 s4 D C m hn Ix hC h1 h2 h3 h4 q=>?_
 exact ⟨m,hn,fun h' sb=>⟨.ref D,H3,Inv.nsch Ix sb hC h1 h2 h3 h4,rfl,q⟩⟩
theorem AfF {X:Cx} {elt tg iter:Expr} {ifs:List Expr} {scope:Scope} {pos px spos:Pos} {i:Nat} {x:Str} {wi:TI} {g:TG} {tc:TT} {te:TE} {k:Nat} {fr:List Nat} {N' fn:List Str} (hc:X.calm = true)
  (hi:PI X tg iter wi) (hN:N'.length = k + fr.length)
  (hfr:∀ j y,N'[k + j]? = some y->∀ i,fr[j]? = some i->X.N[i]? = some y/\X.env.kindOf y = some .cell/\(compEnvC scope (Dg fn X.env) 0 X.env).kindOf y = some .cell/\y ∈ fn)
  (hfn:∀ y ∈ fn,X.env.kindOf y = some .cell)
  (hkd:∀ y,((compEnvC scope (Dg fn X.env) 0 X.env).kindOf y = some .cell\/(compEnvC scope (Dg fn X.env) 0 X.env).kindOf y = some .free)->y ∈ fn)
  (hg:∀ C fp s H,PG (Dk X scope N' fn C fp s H) tg g) (ht:∀ C fp s H,Qu (Dk X scope N' fn C fp s H) ifs tc) (he:∀ C fp s H,PE (Dk X scope N' fn C fp s H) elt te)
  (hclos:closureFor scope X.env = pure (Dg fn X.env)) (hcell:∀ y ∈ scope.names,y.2 ≠ .cell) (hkind:scope.kind = .function) (hnames:∀ y ∈ scope.names,y.2 = .local->scope.names.lookup y.1 = some .local)
  (hs:∀ x,foldedSetIterable iter X.env x = pure x:=by intro _; rfl) (hNd:X.N.Nodup) (hix:X.N[i]? = some x) (hx:Loc X.env.scope x) (hsw:swapsWith (.ListComp elt [⟨tg,iter,ifs,0⟩] scope pos) (some (.Name x px)) spos.line X.env = pure true)
  (hf:X.fn x = true\/X.env.scope.names.lookup x = some .local:=by first | exact .inl rfl | exact .inr rfl | assumption):PS X (.Assign [.Name x px] (.ListComp elt [⟨tg,iter,ifs,0⟩] scope pos) spos) (Qk (Jx wi g tc te k fr) (La i)):=by
 intro pins s σ H D I h
 rw [exec_Assign_Name_used _ _ _ _ hsw]
 refine wpAny_bind (wpAny_standAt (wpAny_bind ?_))
 show wpAny _ X.A (do let _ <- comprehension (.ListComp elt [⟨tg,iter,ifs,0⟩] scope pos) scope X.env _ (newList []) false (eval iter X.env) (some (assign (.Name x px) X.env))) _ _ s
 refine wpAny_bind (wpAny_mono (Vt (use:=some (assign (.Name x px) X.env)) (Qc:=fun _ s'=>SP X pins D .next s') hc hi hN hfr hfn hkd hg ht he hclos hcell hkind hnames hs I h fun H3 s4 D' C m hn Ix hC h1 h2 h3 h4 q=>?_) (fun _ s' hq=>wpAny_pure (wpAny_pure hq)) fun _ _ e=>e)
 show wpAny _ X.A (assign (.Name x px) X.env (.ref D')) _ _ _
 refine wpAny_assign_Name (Vo Ix hNd hix hx (v:=.ref D') rfl (fun s' I' ⟨a,sb,ha⟩=>?_) hf)
 have nCa:C ≠ a:=by
  rcases ha with w | w
  ·rw [w]; exact h2
  ·exact (h3 _ _ w).symm
 exact ⟨m,hn.sameBut sb nCa,fun h' sb'=>⟨_,H3,Inv.nsch I' sb' hC h1 h2 h3 h4,q⟩⟩
theorem By {X:Cx} {scope:Scope} {N' fn:List Str} {C:Addr} {fp:List Addr} {s:Shared} {H:Hp}:(Dk X scope N' fn C fp s H).K = X.K:=rfl
theorem Oc {X:Cx} {pos:Pos} {K':PySem.W.Frag} (hK:X.K = K') {es:List Expr} {k:Nat} {t:TGs} {n:Nat} (hc:X.calm = true) (h:PGs X es t)
  (hn:(assignEach es X.env).length = n:=by rfl) (hst:(assignEach es X.env).findIdx? (·.1) = none:=by rfl):PG X (.Tuple es k pos) (Wv K' n t):=by
 subst hK
 exact Nf hc h hn hst
theorem Lb:∀ {l:List (Str × NameKind)} {y:Str} {k:NameKind},l.lookup y = some k->(y,k) ∈ l
 | [],_,_,h=>by cases h
 | (x,j) :: r,y,k,h=>by
  rw [List.lookup_cons] at h
  cases e:y == x with
  | true =>
   rw [e] at h
   cases h
   rw [eq_of_beq e]; exact List.mem_cons_self
  | false =>
   rw [e] at h
   exact List.mem_cons_of_mem _ (Lb h)
theorem Nm {X:Cx} {elt tg iter:Expr} {ifs:List Expr} {scope:Scope} {pos:Pos} {wi:TI} {g:TG} {tc:TT} {te:TE} (k:Nat) (N':List Str) (hN:N'.length = k) (hc:X.calm = true)
  (hi:PI X tg iter wi)
  (hg:∀ C fp s H,PG (Dk X scope N' [] C fp s H) tg g) (ht:∀ C fp s H,Qu (Dk X scope N' [] C fp s H) ifs tc) (he:∀ C fp s H,PE (Dk X scope N' [] C fp s H) elt te)
  (hfree:∀ y ∈ scope.names,y.2 ≠ .free) (hcell:∀ y ∈ scope.names,y.2 ≠ .cell) (hkind:scope.kind = .function) (hnames:∀ y ∈ scope.names,y.2 = .local->scope.names.lookup y.1 = some .local)
  (hs:∀ x,foldedSetIterable iter X.env x = pure x:=by intro _; rfl):PE X (.ListComp elt [⟨tg,iter,ifs,0⟩] scope pos) (Jx wi g tc te k []):=by
 refine Aag (fn:=[]) (fr:=[]) (k:=k) hc hi hN (fun j y _ i e=>by simp at e) (fun y hy=>by cases hy) (fun y h=>?_) hg ht he (PySem.closureFor_none hfree) hcell hkind hnames hs
 have e:∀ k,(compEnvC scope (Dg [] X.env) 0 X.env).kindOf y = some k->∃ p ∈ scope.names,p.2 = .free\/p.2 = k:=by
  intro k h
  have m:=Lb (show (relabel scope X.env).names.lookup y = some k from h)
  obtain ⟨p,hp,ep⟩:=List.mem_map.mp (show (y,k) ∈ scope.names.map _ from m)
  obtain ⟨n,kd⟩:=p
  refine ⟨(n,kd),hp,?_⟩
  dsimp only at ep
  split at ep
  ·rename_i c
   simp only [Bool.and_eq_true,beq_iff_eq] at c
   exact .inl c.1.1
  ·exact .inr (Prod.mk.inj ep).2
 rcases h with h | h
 ·obtain ⟨p,hp,z⟩:=e _ h
  rcases z with z | z
  ·exact (hfree p hp z).elim
  ·exact (hcell p hp z).elim
 ·obtain ⟨p,hp,z⟩:=e _ h
  rcases z with z | z
  ·exact (hfree p hp z).elim
  ·exact (hfree p hp z).elim
theorem Qg {X:Cx} {elt tg iter:Expr} {ifs:List Expr} {scope:Scope} {pos:Pos} {wi:TI} {g:TG} {tc:TT} {te:TE} (k:Nat) (fr:List Nat) (N' fn:List Str) (hc:X.calm = true)
  (hi:PI X tg iter wi) (hN:N'.length = k + fr.length)
  (hfr:∀ j y,N'[k + j]? = some y->∀ i,fr[j]? = some i->X.N[i]? = some y/\X.env.kindOf y = some .cell/\(compEnvC scope (Dg fn X.env) 0 X.env).kindOf y = some .cell/\y ∈ fn)
  (hfn:∀ y ∈ fn,X.env.kindOf y = some .cell) (hkd:∀ p ∈ scope.names,(p.2 = .cell\/p.2 = .free)->p.1 ∈ fn)
  (hg:∀ C fp s H,PG (Dk X scope N' fn C fp s H) tg g) (ht:∀ C fp s H,Qu (Dk X scope N' fn C fp s H) ifs tc) (he:∀ C fp s H,PE (Dk X scope N' fn C fp s H) elt te)
  (hclos:closureFor scope X.env = pure (Dg fn X.env)) (hcell:∀ y ∈ scope.names,y.2 ≠ .cell) (hkind:scope.kind = .function) (hnames:∀ y ∈ scope.names,y.2 = .local->scope.names.lookup y.1 = some .local)
  (hs:∀ x,foldedSetIterable iter X.env x = pure x:=by intro _; rfl):PE X (.ListComp elt [⟨tg,iter,ifs,0⟩] scope pos) (Jx wi g tc te k fr):=by
 refine Aag hc hi hN hfr hfn (fun y h=>?_) hg ht he hclos hcell hkind hnames hs
 have e:∀ k,(compEnvC scope (Dg fn X.env) 0 X.env).kindOf y = some k->∃ p ∈ scope.names,p.1 = y/\(p.2 = .free\/p.2 = k):=by
  intro k h
  have m:=Lb (show (relabel scope X.env).names.lookup y = some k from h)
  obtain ⟨p,hp,ep⟩:=List.mem_map.mp (show (y,k) ∈ scope.names.map _ from m)
  obtain ⟨n,kd⟩:=p
  refine ⟨(n,kd),hp,?_⟩
  dsimp only at ep
  split at ep
  ·rename_i c
   simp only [Bool.and_eq_true,beq_iff_eq] at c
   exact ⟨(Prod.mk.inj ep).1,.inl c.1.1⟩
  ·exact ⟨(Prod.mk.inj ep).1,.inr (Prod.mk.inj ep).2⟩
 rcases h with h | h
 ·obtain ⟨p,hp,z1,z⟩:=e _ h
  rw [<- z1]; exact hkd p hp (z.elim .inr .inl)
 ·obtain ⟨p,hp,z1,z⟩:=e _ h
  rw [<- z1]; exact hkd p hp (.inr (z.elim id id))
theorem Adj {X:Cx} {elt tg iter:Expr} {ifs:List Expr} {scope:Scope} {pos px spos:Pos} {i:Nat} {x:Str} {wi:TI} {g:TG} {tc:TT} {te:TE} (k:Nat) (fr:List Nat) (N' fn:List Str) (hc:X.calm = true)
  (hi:PI X tg iter wi) (hN:N'.length = k + fr.length)
  (hfr:∀ j y,N'[k + j]? = some y->∀ i,fr[j]? = some i->X.N[i]? = some y/\X.env.kindOf y = some .cell/\(compEnvC scope (Dg fn X.env) 0 X.env).kindOf y = some .cell/\y ∈ fn)
  (hfn:∀ y ∈ fn,X.env.kindOf y = some .cell) (hkd:∀ p ∈ scope.names,(p.2 = .cell\/p.2 = .free)->p.1 ∈ fn)
  (hg:∀ C fp s H,PG (Dk X scope N' fn C fp s H) tg g) (ht:∀ C fp s H,Qu (Dk X scope N' fn C fp s H) ifs tc) (he:∀ C fp s H,PE (Dk X scope N' fn C fp s H) elt te)
  (hclos:closureFor scope X.env = pure (Dg fn X.env)) (hcell:∀ y ∈ scope.names,y.2 ≠ .cell) (hkind:scope.kind = .function) (hnames:∀ y ∈ scope.names,y.2 = .local->scope.names.lookup y.1 = some .local)
  (hs:∀ x,foldedSetIterable iter X.env x = pure x:=by intro _; rfl) (hNd:X.N.Nodup) (hix:X.N[i]? = some x) (hx:Loc X.env.scope x) (hsw:swapsWith (.ListComp elt [⟨tg,iter,ifs,0⟩] scope pos) (some (.Name x px)) spos.line X.env = pure true)
  (hf:X.fn x = true\/X.env.scope.names.lookup x = some .local:=by first | exact .inl rfl | exact .inr rfl | assumption):PS X (.Assign [.Name x px] (.ListComp elt [⟨tg,iter,ifs,0⟩] scope pos) spos) (Qk (Jx wi g tc te k fr) (La i)):=by
 refine AfF hc hi hN hfr hfn (fun y h=>?_) hg ht he hclos hcell hkind hnames hs hNd hix hx hsw hf
 have e:∀ k,(compEnvC scope (Dg fn X.env) 0 X.env).kindOf y = some k->∃ p ∈ scope.names,p.1 = y/\(p.2 = .free\/p.2 = k):=by
  intro k h
  have m:=Lb (show (relabel scope X.env).names.lookup y = some k from h)
  obtain ⟨p,hp,ep⟩:=List.mem_map.mp (show (y,k) ∈ scope.names.map _ from m)
  obtain ⟨n,kd⟩:=p
  refine ⟨(n,kd),hp,?_⟩
  dsimp only at ep
  split at ep
  ·rename_i c
   simp only [Bool.and_eq_true,beq_iff_eq] at c
   exact ⟨(Prod.mk.inj ep).1,.inl c.1.1⟩
  ·exact ⟨(Prod.mk.inj ep).1,.inr (Prod.mk.inj ep).2⟩
 rcases h with h | h
 ·obtain ⟨p,hp,z1,z⟩:=e _ h
  rw [<- z1]; exact hkd p hp (z.elim .inr .inl)
 ·obtain ⟨p,hp,z1,z⟩:=e _ h
  rw [<- z1]; exact hkd p hp (.inr (z.elim id id))
theorem Acc {K:PySem.W.Frag} {σ:St} {H:Hp} {Q:VK} {D a:Addr} {xs:List V} {g:TG} {tc:TT} {te:TE} {k:Nat} {fr:List Nat} (Pv:Nat->Hp->Prop)
  (h0:Pv 0 H) (hl:∀ i H',i <= xs.length->Pv i H'->SqL K H' a xs)
  (hs:∀ i x H' (N:Hp->Prop),xs[i]? = some x->Pv i H'->(∀ H'',Pv (i + 1) H''->N H'')->g x (compσ k fr σ) H' fun σ2 H2=>σ2.drop k = (compσ k fr σ).drop k/\tc σ2 H2 fun b H3 =>
   if b = true then te σ2 H3 (fun y H4=>∃ ys,H4 D = some (.lst ys)/\ys.length < sizeLine/\N (upd H4 D (.lst (ys ++ [y])))) else N H3)
  (hd:∀ H',Pv xs.length H'->Q (.ref D) H') :
  ∃ W:Nat->Nat->Hp->Prop,(∃ m,W 0 m H)/\∀ i m H,W i m H->((Itl K a).stop i H/\Q (.ref D) H)\/((Itl K a).go i H/\∀ x H',(Itl K a).yld i H x H'->g x (compσ k fr σ) H' fun σ2 H2 =>
  σ2.drop k = (compσ k fr σ).drop k/\tc σ2 H2 fun b H3=>if b = true then te σ2 H3 (fun y H4=>∃ ys,H4 D = some (.lst ys)/\ys.length < sizeLine/\∃ m',m' < m/\W (i + 1) m' (upd H4 D (.lst (ys ++ [y])))) else ∃ m',m' < m/\W (i + 1) m' H3):=by
 refine ⟨fun i m H=>m = xs.length - i/\i <= xs.length/\Pv i H,⟨xs.length,by simp,Nat.zero_le _,h0⟩,?_⟩
 rintro i m H' ⟨rfl,hi,p⟩
 have q:=hl i H' hi p
 by_cases hlt:i < xs.length
 ·refine .inr ⟨⟨xs,xs[i],q,by simp [hlt]⟩,fun x H'' y=>?_⟩
  obtain ⟨e,y⟩:=y
  subst e
  exact hs i x _ (fun H''=>∃ m',m' < xs.length - i/\m' = xs.length - (i + 1)/\i + 1 <= xs.length/\Pv (i + 1) H'') (y xs q) p fun H'' p'=>⟨_,by omega,rfl,hlt,p'⟩
 ·have e:i = xs.length:=by omega
  subst e
  exact .inl ⟨⟨xs,q,Nat.le_refl _⟩,hd H' p⟩
theorem AaR {σ:St} {H:Hp} {Q:VK} {D:Addr} {lo:Int} {n:Nat} {g:TG} {tc:TT} {te:TE} {k:Nat} {fr:List Nat} (Pv:Nat->Hp->Prop) (h0:Pv 0 H)
  (hs:∀ i H' (N:Hp->Prop),i < n->Pv i H'->(∀ H'',Pv (i + 1) H''->N H'')->g (.int (lo + i)) (compσ k fr σ) H' fun σ2 H2=>σ2.drop k = (compσ k fr σ).drop k/\tc σ2 H2 fun b H3 =>
   if b = true then te σ2 H3 (fun y H4=>∃ ys,H4 D = some (.lst ys)/\ys.length < sizeLine/\N (upd H4 D (.lst (ys ++ [y])))) else N H3)
  (hd:∀ H',Pv n H'->Q (.ref D) H') :
  ∃ W:Nat->Nat->Hp->Prop,(∃ m,W 0 m H)/\∀ i m H,W i m H->((Itr lo n).stop i H/\Q (.ref D) H)\/((Itr lo n).go i H/\∀ x H',(Itr lo n).yld i H x H'->g x (compσ k fr σ) H' fun σ2 H2 =>
  σ2.drop k = (compσ k fr σ).drop k/\tc σ2 H2 fun b H3=>if b = true then te σ2 H3 (fun y H4=>∃ ys,H4 D = some (.lst ys)/\ys.length < sizeLine/\∃ m',m' < m/\W (i + 1) m' (upd H4 D (.lst (ys ++ [y])))) else ∃ m',m' < m/\W (i + 1) m' H3):=by
 refine ⟨fun i m H=>m = n - i/\i <= n/\Pv i H,⟨n,by simp,Nat.zero_le _,h0⟩,?_⟩
 rintro i m H' ⟨rfl,hi,p⟩
 by_cases hlt:i < n
 ·refine .inr ⟨hlt,fun x H'' y=>?_⟩
  obtain ⟨e,y⟩:=y
  subst e
  subst y
  exact hs i _ (fun H''=>∃ m',m' < n - i/\m' = n - (i + 1)/\i + 1 <= n/\Pv (i + 1) H'') hlt p fun H'' p'=>⟨_,by omega,rfl,hlt,p'⟩
 ·have e:i = n:=by omega
  subst e
  exact .inl ⟨Nat.le_refl _,hd H' p⟩
section
variable {X:Cx} {K':PySem.W.Frag}
theorem Fa (K':PySem.W.Frag) (h:X.K = K':=by rfl):IxR X (Aa0 K'):=by subst h; exact Act
theorem Cw (K':PySem.W.Frag) (h:X.K = K':=by rfl):IxR X (Aa8 K'):=by subst h; exact Uq
theorem AaM (K':PySem.W.Frag) (h:X.K = K':=by rfl):OpR X (compareOp .In) (rIn K' false):=by subst h; exact Su
theorem Zy (K':PySem.W.Frag) (hu:X.A.units + 64 < cLine) (h:X.K = K':=by rfl):OpR X (compareOp .Eq) (Xw K' false):=by subst h; exact Aiu hu
theorem Vb (K':PySem.W.Frag) (hu:X.A.units + 64 < cLine) (h:X.K = K':=by rfl):OpR X (compareOp .NotEq) (Xw K' true):=by subst h; exact AgR hu
theorem Ng (K':PySem.W.Frag) (h:X.K = K':=by rfl):Ga X (.builtin "isinstance") (fun vs H Q=>∃ x n t b,vs = [x,.ty n]/\Fi K' H x t/\PySem.W.kitOne K' t (.type n) = some b/\Q (.bl b) H):=by subst h; exact Fw
theorem Cj (K':PySem.W.Frag) (h:X.K = K':=by rfl):Ga X (.builtin "len") (fun xs H Q=>∃ p ys,xs = [.ref p]/\(SqL K' H p ys\/SqT K' H p ys)/\Q (.int ys.length) H):=by subst h; exact Ja
end
end L2
set_option Elab.async false
set_option linter.all false
set_option maxRecDepth 100000
set_option maxHeartbeats 4000000
namespace L2
open PySem PySem.Spec PyProof.Rows
theorem Same.laid {H:Hp} {p:Addr} {o:HO} (h:H p = none):Same H (upd H p o):=fun q u e=>by rw [Bg (by intro z; subst z; rw [h] at e; cases e)]; exact e
def Chg (a:Addr) (H H':Hp):Prop:=∀ q o,H q = some o->q ≠ a->H' q = some o
theorem Chg.put {H:Hp} {a:Addr} {o:HO}:Chg a H (upd H a o):=fun q u e n=>by rw [Bg n]; exact e
theorem Same.chg {a:Addr} {H H1 H2:Hp} (x:Same H H1) (y:Chg a H1 H2) (f:H a = none):Same H H2:=fun q o h=>y q o (x q o h) (by intro z; subst z; rw [f] at h; cases h)
section
variable {X:Cx} {es:List Expr} {t:TA} {pos:Pos}
def Aef (t:TA):TE:=fun σ H Q=>t σ H fun xs H1=>xs.length <= sizeLine/\∀ p H2,H1 p = none->Same H1 H2->H2 p = some (.tup xs)->Q (.ref p) H2
def AaU (t:TA):TE:=fun σ H Q=>t σ H fun xs H1=>xs.length <= sizeLine/\∀ p H2,H1 p = none->Same H1 H2->H2 p = some (.lst xs)->Q (.ref p) H2
theorem Fv {x1} (h:PA X es t):PE X (.Tuple es x1 pos) (Aef t):=by
 intro pins s σ H Q I hq
 refine wpAny_Tuple_spliced (thn (h pos pins s σ H _ I hq) fun us s1 ⟨xs,H1,I1,r,z,q⟩=>⟨by rw [<- r.length]; exact z,?_⟩)
 have hf:H1 s1.heap.objs.size = none:=I1.hok.fresh (Nat.le_refl _)
 refine ⟨.ref s1.heap.objs.size,upd H1 s1.heap.objs.size (.tup xs),I1.laid (t':=s1.toks) (fun b u e=>Heap.get?_push_of_some _ e) (Nat.le_refl _) ?_,rfl,q _ _ hf (Same.laid hf) Bn⟩
 exact ⟨z,us,r,⟨_,Heap.get?_push_size _ rfl,rfl,_,rfl⟩⟩
theorem Cz (h:PA X es t):PE X (.List es pos) (AaU t):=by
 intro pins s σ H Q I hq
 refine wpAny_List_spliced (thn (h pos pins s σ H _ I hq) fun us s1 ⟨xs,H1,I1,r,z,q⟩=>⟨by rw [<- r.length]; exact z,?_⟩)
 have hf:H1 s1.heap.objs.size = none:=I1.hok.fresh (Nat.le_refl _)
 refine ⟨.ref s1.heap.objs.size,upd H1 s1.heap.objs.size (.lst xs),I1.laid (t':=s1.toks) (fun b u e=>Heap.get?_push_of_some _ e) (Nat.le_refl _) ?_,rfl,q _ _ hf (Same.laid hf) Bn⟩
 exact ⟨z,us,0,r,Heap.get?_push_size _ rfl⟩
def Ae8:R2:=fun x y H Q=>∃ l b xs zs,x = .ref l/\y = .ref b/\H l = some (.lst xs)/\H b = some (.lst zs)/\xs.length + zs.length <= sizeLine/\∀ p H',H p = none->Same H H'->H' p = some (.lst (xs ++ zs))->Q (.ref p) H'
theorem Tc:OpR X (binaryOp .Add) Ae8:=fun pins s σ H x y v u Q I r1 r2 ⟨l,b,xs,zs,e1,e2,h1,h2,hz,q⟩=>AgL pins s σ H x y v u Q I r1 r2 ⟨l,b,xs,zs,e1,e2,h1,h2,hz,fun p hp=>q p _ hp (Same.laid hp) Bn⟩
def Qq:V->List V->Hp->VK->Prop:=fun x vs H Q=>∃ l xs y,x = .ref l/\vs = [y]/\H l = some (.lst xs)/\xs.length < sizeLine/\∀ H',Chg l H H'->H' l = some (.lst (xs ++ [y]))->Q .non H'
theorem Ct:MtR X "list.append" Qq:=fun pins s σ H x vs v us Q I rx rv ⟨l,xs,y,e1,e2,h1,hz,q⟩=>Vr pins s σ H x vs v us Q I rx rv ⟨l,xs,y,e1,e2,h1,hz,q _ Chg.put Bn⟩
variable {K':PySem.W.Frag}
def Aey (K:PySem.W.Frag):V->Option Int->Option Int->Hp->VK->Prop:=fun x lo hi H Q=>∃ a xs,x = .ref a/\SqL K H a xs/\∀ p H',H p = none->Same H H'->H' p = some (.lst (Tw xs lo hi))->Q (.ref p) H'
theorem Gc (K':PySem.W.Frag) (h:X.K = K':=by rfl):SlR X (Aey K'):=by
 subst h
 exact fun pins s σ H x v vl vu lo hi sl Q I rx hs pl pu ⟨a,xs,e,hx,q⟩=>AfR pins s σ H x v vl vu lo hi sl Q I rx hs pl pu ⟨a,xs,e,hx,fun p hp=>q p _ hp (Same.laid hp) Bn⟩
theorem Gr (K':PySem.W.Frag) (h:X.K = K':=by rfl):Ga X (.type "list") (fun xs H Q=>∃ p ys,xs = [.ref p]/\(SqL K' H p ys\/SqT K' H p ys)/\∀ l H',H l = none->Same H H'->H' l = some (.lst ys)->Q (.ref l) H'):=by
 subst h
 exact fun pins s σ H xs us Q I r ⟨p,ys,e,hx,q⟩=>Xr pins s σ H xs us Q I r ⟨p,ys,e,hx,fun l hl=>q l _ hl (Same.laid hl) Bn⟩
end
section
variable {σ:St} {H:Hp} {Q:VK} {K:PySem.W.Frag}
theorem Aij {t:TA} (q:t σ H fun xs H1=>xs.length <= sizeLine/\∀ p H2,H1 p = none->Same H1 H2->H2 p = some (.lst xs)->Q (.ref p) H2):AaU t σ H Q:=q
theorem Fs {a:Addr} {xs:List V} {y:V} (h:H a = some (.lst xs)) (hl:xs.length < sizeLine) (q:∀ H',Chg a H H'->H' a = some (.lst (xs ++ [y]))->Q .non H'):Qq (.ref a) [y] H Q:=⟨a,xs,y,rfl,rfl,h,hl,q⟩
end
def CP (J:It) (D:Addr) (g:TG) (tc:TT) (te:TE) (k:Nat) (fr:List Nat) (σ:St) (H1:Hp) (Q:VK):Prop :=
 ∃ W:Nat->Nat->Hp->Prop,(∃ m,W 0 m H1)/\∀ i m H,W i m H->(J.stop i H/\Q (.ref D) H)\/(J.go i H/\∀ x H',J.yld i H x H'->g x (compσ k fr σ) H' fun σ2 H2 =>
  σ2.drop k = (compσ k fr σ).drop k/\tc σ2 H2 fun b H3=>if b = true then te σ2 H3 (fun y H4=>∃ ys,H4 D = some (.lst ys)/\ys.length < sizeLine/\∃ m',m' < m/\W (i + 1) m' (upd H4 D (.lst (ys ++ [y])))) else ∃ m',m' < m/\W (i + 1) m' H3)
theorem Ve {σ:St} {H:Hp} {Q:VK} {wi:TI} {g:TG} {tc:TT} {te:TE} {k:Nat} {fr:List Nat} (q:wi σ H fun J H1=>∀ D,H1 D = none->CP J D g tc te k fr σ (upd H1 D (.lst [])) Q):Jx wi g tc te k fr σ H Q:=q
theorem CP.list {K:PySem.W.Frag} {σ:St} {H:Hp} {Q:VK} {D a:Addr} {g:TG} {tc:TT} {te:TE} {k:Nat} {fr:List Nat} (xs:List V) (Pv:Nat->Hp->Prop)
  (h0:Pv 0 H) (hl:∀ i H',i <= xs.length->Pv i H'->SqL K H' a xs)
  (hs:∀ i x H' (N:Hp->Prop),xs[i]? = some x->Pv i H'->(∀ H'',Pv (i + 1) H''->N H'')->g x (compσ k fr σ) H' fun σ2 H2=>σ2.drop k = (compσ k fr σ).drop k/\tc σ2 H2 fun b H3 =>
   if b = true then te σ2 H3 (fun y H4=>∃ ys,H4 D = some (.lst ys)/\ys.length < sizeLine/\N (upd H4 D (.lst (ys ++ [y])))) else N H3)
  (hd:∀ H',Pv xs.length H'->Q (.ref D) H'):CP (Itl K a) D g tc te k fr σ H Q:=Acc Pv h0 hl hs hd
theorem CP.range {σ:St} {H:Hp} {Q:VK} {D:Addr} {lo:Int} {n:Nat} {g:TG} {tc:TT} {te:TE} {k:Nat} {fr:List Nat} (Pv:Nat->Hp->Prop) (h0:Pv 0 H)
  (hs:∀ i H' (N:Hp->Prop),i < n->Pv i H'->(∀ H'',Pv (i + 1) H''->N H'')->g (.int (lo + i)) (compσ k fr σ) H' fun σ2 H2=>σ2.drop k = (compσ k fr σ).drop k/\tc σ2 H2 fun b H3 =>
   if b = true then te σ2 H3 (fun y H4=>∃ ys,H4 D = some (.lst ys)/\ys.length < sizeLine/\N (upd H4 D (.lst (ys ++ [y])))) else N H3)
  (hd:∀ H',Pv n H'->Q (.ref D) H'):CP (Itr lo n) D g tc te k fr σ H Q:=AaR Pv h0 hs hd
def Xu (e:Addr->Bool):V->Bool
 | .ref p=>e p
 | _=>false
def AaA (e:Addr->Bool):Value->Bool
 | .ref p=>e p
 | _=>false
theorem Xl {e:Addr->Bool}:∀ {xs:List V} {us:List Value},Vals xs us->(∀ x ∈ xs,∃ p,x = V.ref p)->us.any (AaA e) = xs.any (Xu e)
 | _,_,.nil,_=>rfl
 | y :: xs,u :: us,.cons r t,f=>by
  obtain ⟨p,rfl⟩:=f y List.mem_cons_self
  cases r
  rw [List.any_cons,List.any_cons,Xl t fun x hx=>f x (List.mem_cons_of_mem _ hx)]
  rfl
theorem Adn {xs:List V} {us:List Value} (r:Vals xs us):∀ u ∈ us,∃ x ∈ xs,RelV x u:=by
 induction r with
 | nil=>intro u hu; cases hu
 | cons r t ih =>
  intro u hu
  rcases List.mem_cons.mp hu with e | hu
  ·subst e; exact ⟨_,List.mem_cons_self,r⟩
  ·obtain ⟨x,hx,rx⟩:=ih u hu
   exact ⟨x,List.mem_cons_of_mem _ hx,rx⟩
def Ahc (K:PySem.W.Frag) (neg:Bool):R2:=fun x y H Q=>∃ p xs e,y = .ref p/\SqL K H p xs/\(∀ x ∈ xs,∃ r,x = V.ref r)/\(∀ r,V.ref r ∈ xs->EqD K H 40 (.ref r) x (e r))/\Q (.bl (if neg then !(xs.any (Xu e)) else xs.any (Xu e))) H
theorem Vz {X:Cx} (hu:X.A.units + 64 < cLine):OpR X (compareOp .NotIn) (Ahc X.K true):=by
 intro pins s σ H x y v u Q I rx ry h
 obtain ⟨p,xs,e,rfl,hq,fr,he,q⟩:=h
 cases ry
 obtain ⟨its,r,pl,hz⟩:=I.list hq
 refine SeqAt.notIn_listAt (AaA e) pl.isList (fun w hw=>?_) ⟨.bl _,H,I,rfl,?_⟩
 ·obtain ⟨z,hz,rz⟩:=Adn r w (by simpa using hw)
  obtain ⟨a,rfl⟩:=fr z hz
  have:=(he a hz).at I (A:=X.A.in1) (by rw [Li]; omega) rz rx
  cases rz
  exact this
 ·rw [show its.toArray.any (AaA e) = its.any (AaA e) by simp,Xl r fr]
  exact q
end L2
set_option Elab.async false
set_option linter.all false
set_option maxRecDepth 100000
set_option maxHeartbeats 4000000
namespace L2
open PySem PySem.Spec PyProof.Rows
theorem Ru:∀ {ns:List Int} {us:List Value},Vals (ns.map V.int) us->IntsAre us ns
 | [],_,.nil=>.nil
 | n :: ns,_,.cons r t=>by
  obtain ⟨k,rfl⟩:=(show ∃ t,_ = Value.int n t from r)
  exact .cons n k (Ru t)
theorem Sn:∀ {ns:List Int} {us:List Value},IntsAre us ns->Vals (ns.map V.int) us
 | _,_,.nil=>.nil
 | _,_,.cons n t h=>.cons ⟨t,rfl⟩ (Sn h)
section
variable {X:Cx}
theorem Za (K':PySem.W.Frag) (h:X.K = K':=by rfl):Ga X (.builtin "sorted") (fun xs H Q=>∃ (p:Addr) (ns:List Int),xs = [.ref p]/\SqL K' H p (ns.map V.int)/\ns.length < 64/\∀ (l:Addr) (H':Hp) (ns':List Int),H l = none->Same H H'->H' l = some (.lst (ns'.map V.int))->ns'.Perm ns->ns'.Pairwise (· <= ·)->Q (.ref l) H'):=by
 subst h
 intro pins s σ H xs us Q I r h
 obtain ⟨p,ns,rfl,hq,hl,q⟩:=h
 obtain ⟨u,rfl,rx⟩:=Wr r
 cases rx
 obtain ⟨its,r',pl,hz⟩:=I.list hq
 have hlen:=r'.length
 rw [List.length_map] at hlen
 refine sorted_ints pl.isList (Ru r') (by omega) fun out ns' hi hp hs=>?_
 obtain ⟨e,he⟩:=sortedAll_at s.heap its out
 have hf:H (s.heap.objs.size + 1) = none:=I.hok.fresh (Nat.le_succ _)
 have hl':(ns'.map V.int).length <= sizeLine:=by rw [List.length_map,hp.length_eq]; exact Nat.le_of_lt (Nx (by omega))
 refine ⟨.ref (s.heap.objs.size + 1),upd H (s.heap.objs.size + 1) (.lst (ns'.map V.int)),I.laid (t':=s.toks) (fun b o hb=>sortedAll_old hb) (Nat.le_succ _) ⟨hl',out.toList,e,Sn hi,by rw [Array.toArray_toList]; exact he⟩,rfl,q _ _ ns' hf (Same.laid hf) Bn hp hs⟩
end
section
variable {X:Cx}
end
end L2
set_option Elab.async false
set_option linter.all false
set_option maxRecDepth 100000
set_option maxHeartbeats 4000000
namespace L2
open PySem PySem.Spec PyProof.Rows
structure Lft (fs xs:List Addr) (h h':Heap):Prop where
 keep:∀ b o,h.get? b = some o->b ∉ xs->b ∉ fs->h'.get? b = some o
 slot:∀ b o,h.get? b = some o->b ∉ xs->∃ sl,h'.get? b = some { o with slots:=sl }
def Trk (T e:Addr) (cls:Value) (h:Heap):Prop :=
 ∃ oe vs oT ts,h.get? e = some oe/\oe.cls = cls/\oe.dict = none/\oe.data = .fields vs/\vs[1]? = some (.ref T)/\T ≠ e/\h.get? T = some oT/\oT.data = .fields ts/\ts[3]? = some .none
theorem Obj.dict_mapFields (f:Array Value->Array Value) (o:Obj):(o.mapFields f).dict = o.dict:=by
 unfold Obj.mapFields
 split <;> rfl
section
variable {M:Model} {A:Around} {E:Value->Shared->Prop} {s:Shared} {base:Heap} {env:Env} {outer:List Env} {L e:Addr} {Q:Unit->Shared->Prop}
theorem Uf {oe:Obj} {vs:Array Value} {hd0:Value} {nx:Bool} (ha:A.frames = some (env :: outer)) (ff:s.heap.FunFrames base (env :: outer)) (hL:env.frame = some L) (ge:s.heap.get? e = some oe) (dn:oe.dict = none) (de:oe.data = .fields vs) (n1:1 < vs.size)
  (q:∀ h' T,s.heap.objs.size <= T->Lft (frs (env :: outer)) [e] s.heap h'->Trk T e oe.cls h'->Q () { s with heap:=h' }) :
  wpAny M A (do let a <- frameOf env; let pl <- entryPlaceOf L nx; let b <- EntryCells.newEntry hd0 a .none (rawInt L) .none pl; setField (.ref e) 1 b) (fun _ s'=>wpAny M A (setFlight (.ref e) none) Q E s') E s:=by
 have out:e ∉ frs (env :: outer):=fun z=>by
  obtain ⟨_,o,go,nf⟩:=ff.mem z
  rw [ge] at go
  cases go
  exact nf vs de
 refine wpAny_bind (wpAny_frameOf_fun ha ff hL fun k sk=>?_)
 refine wpAny_bind (wpAny_entryPlaceOf fun pl ip=>?_)
 unfold EntryCells.newEntry; unfold newFields
 refine wpAny_bind (wpAny_newObj_type ?_ (ip.sizeOk5 _ _ _ _ _))
 have gk:k.get? e = some oe:=(sk.2.1 e out).trans ge
 generalize hob:({ cls:=.type "traceback",dict:=none,data:=.fields ([hd0,.ref L,.none,rawInt L,.none] ++ (if pl.isEmpty then List.replicate 6 Value.none else pl)).toArray }:Obj) = ob
 have dob:ob.data = .fields ([hd0,.ref L,.none,rawInt L,.none] ++ (if pl.isEmpty then List.replicate 6 Value.none else pl)).toArray:=by rw [<- hob]
 have g2:=Heap.get?_push_of_some (h:=k) ob gk
 refine wpAny_setField g2 de n1 ?_
 have nTe:k.objs.size ≠ e:=Nat.ne_of_gt (Heap.lt_size gk)
 have d3:=Obj.data_mapFields de (·.setIfInBounds 1 (Value.ref k.objs.size))
 have g3:=Heap.get?_update_self (Obj.mapFields (·.setIfInBounds 1 (Value.ref k.objs.size))) g2 (Obj.isFreed_of_fields d3)
 have t2:(k.push ob).get? k.objs.size = some ob:=Heap.get?_push_size k (by rw [<- hob]; rfl)
 have t3:=(Heap.get?_update_other (k.push ob) (Obj.mapFields (·.setIfInBounds 1 (Value.ref k.objs.size))) nTe.symm).trans t2
 unfold setFlight
 refine wpAny_bind (wpAny_field g3 d3 (x:=.ref k.objs.size) (by simp [n1]) ?_)
 rw [if_pos (by simp)]
 have n3:3 < ([hd0,.ref L,.none,rawInt L,.none] ++ (if pl.isEmpty then List.replicate 6 Value.none else pl)).toArray.size:=by simp only [List.size_toArray,List.length_append,List.length_cons,List.length_nil]; omega
 refine wpAny_setField t3 dob n3 (q _ k.objs.size ?_ ⟨fun b o gb nb fb=>?_,fun b o gb nb=>?_⟩ ?_)
 ·exact Nat.le_of_eq sk.1.symm
 ·have gb':k.get? b = some o:=(sk.2.1 b fb).trans gb
  rw [Heap.get?_update_other _ _ (Nat.ne_of_gt (Heap.lt_size gb')),Heap.get?_update_other _ _ (fun z=>nb (by rw [z]; exact List.mem_cons_self))]
  exact Heap.get?_push_of_some _ gb'
 ·obtain ⟨sl,gb'⟩:=sk.2.2 b o gb
  refine ⟨sl,?_⟩
  rw [Heap.get?_update_other _ _ (Nat.ne_of_gt (Heap.lt_size gb')),Heap.get?_update_other _ _ (fun z=>nb (by rw [z]; exact List.mem_cons_self))]
  exact Heap.get?_push_of_some _ gb'
 ·refine ⟨_,_,_,_,(Heap.get?_update_other _ _ nTe).trans g3,Obj.cls_mapFields _ _,(Obj.dict_mapFields _ _).trans dn,d3,by simp [n1],nTe,Heap.get?_update_self _ t3 (Obj.isFreed_of_fields (Obj.data_mapFields dob _)),Obj.data_mapFields dob _,?_⟩
  simp
theorem Zg {oe:Obj} {vs:Array Value} (ha:A.frames = some (env :: outer)) (ff:s.heap.FunFrames base (env :: outer)) (hL:env.frame = some L) (ge:s.heap.get? e = some oe) (dn:oe.dict = none) (de:oe.data = .fields vs) (v1:vs[1]? = some .none)
  (q:∀ h' T,s.heap.objs.size <= T->Lft (frs (env :: outer)) [e] s.heap h'->Trk T e oe.cls h'->Q () { s with heap:=h' }):wpAny M A (noteFrame (.ref e) env) (fun _ s'=>wpAny M A (setFlight (.ref e) none) Q E s') E s:=by
 unfold noteFrame
 simp only [hL]
 refine wpAny_bind (wpAny_field ge de v1 ?_)
 rw [if_neg (by decide)]
 exact Uf ha ff hL ge dn de (Array.getElem?_eq_some_iff.mp v1).1 q
theorem Ug {T0:Addr} {cls:Value} (ha:A.frames = some (env :: outer)) (ff:s.heap.FunFrames base (env :: outer)) (hL:env.frame = some L) (tr:Trk T0 e cls s.heap)
  (q:∀ h' T,s.heap.objs.size <= T->Lft (frs (env :: outer)) [e,T0] s.heap h'->Trk T e cls h'->Q () { s with heap:=h' }):wpAny M A (noteFrame (.ref e) env) (fun _ s'=>wpAny M A (setFlight (.ref e) none) Q E s') E s:=by
 obtain ⟨oe,vs,oT,ts,ge,rfl,dn,de,v1,nTe,gT,dT,t3⟩:=tr
 unfold noteFrame
 simp only [hL]
 refine wpAny_bind (wpAny_field ge de v1 ?_)
 rw [if_pos (by simp)]
 refine wpAny_bind (wpAny_field gT dT t3 ?_)
 rw [if_neg (by simp [rawInt])]
 refine wpAny_bind (wpAny_setField gT dT (Array.getElem?_eq_some_iff.mp t3).1 ?_)
 have oth:∀ b,b ≠ T0->(s.heap.update T0 (Obj.mapFields (·.setIfInBounds 3 Value.none))).get? b = s.heap.get? b:=fun b nb=>Heap.get?_update_other _ _ nb.symm
 have nrec:∀ b o,s.heap.get? b = some o->(∀ us,o.data ≠ .fields us)->b ≠ T0:=fun b o gb nf z=>by
  rw [z,gT] at gb
  cases gb
  exact nf ts dT
 have sz:(s.heap.update T0 (Obj.mapFields (·.setIfInBounds 3 Value.none))).objs.size = s.heap.objs.size:=by simp [Heap.update]
 refine Uf (s:={ s with heap:=s.heap.update T0 (Obj.mapFields (·.setIfInBounds 3 Value.none)) }) ha (ff.of_keeps fun b o gb nf=>⟨o,(oth b (nrec b o gb nf)).trans gb,rfl⟩) hL ((oth e nTe.symm).trans ge) dn de (Array.getElem?_eq_some_iff.mp v1).1 fun h' T hT lf tk=>q h' T (by rw [<- sz]; exact hT) ⟨fun b o gb nb fb=>?_,fun b o gb nb=>?_⟩ tk
 ·exact lf.keep b o ((oth b fun z=>nb (by rw [z]; exact List.mem_cons_of_mem _ List.mem_cons_self)).trans gb) (fun z=>nb (by rw [List.mem_singleton.mp z]; exact List.mem_cons_self)) fb
 ·exact lf.slot b o ((oth b fun z=>nb (by rw [z]; exact List.mem_cons_of_mem _ List.mem_cons_self)).trans gb) fun z=>nb (by rw [List.mem_singleton.mp z]; exact List.mem_cons_self)
end
section
variable {P:Program} {w:World} {H:Hp} {h h':Heap} {a:Addr} {o:HO}
theorem ObjOk.obj (x:ObjOk P w H h a o):∃ ob,h.get? a = some ob:=by
 cases o with
 | lst xs=>obtain ⟨_,_,_,_,e⟩:=x; exact ⟨_,e⟩
 | tup xs=>obtain ⟨_,_,_,_,e,_⟩:=x; exact ⟨_,e⟩
 | dK kvs=>obtain ⟨_,_,_,_,_,_,_,e,_⟩:=x; exact ⟨_,e⟩
 | dT kvs=>obtain ⟨_,_,_,_,_,_,_,e,_⟩:=x; exact ⟨_,e⟩
 | set S n=>obtain ⟨_,_,_,_,e,_⟩:=x; exact ⟨_,e⟩
 | ins C dx fs=>obtain ⟨_,_,_,e,_⟩:=x; exact ⟨_,e⟩
 | own y=>obtain ⟨_,e⟩:=x; exact ⟨_,e⟩
 | xd fs=>obtain ⟨_,⟨_,_,_,e,_⟩,_⟩:=x; exact ⟨_,e⟩
 | rng lo hi=>obtain ⟨_,_,_,e⟩:=x; exact ⟨_,e⟩
 | frz ob u=>exact ⟨_,x.1⟩
 | tbl ps=>exact ⟨_,x⟩
 | met f y=>exact ⟨_,x⟩
 | ext φ=>exact x.2.1
theorem HOk.none_of (x:HOk P w H h) (e:h.get? a = none):H a = none:=by
 cases q:H a with
 | none=>rfl
 | some u =>
  obtain ⟨ob,z⟩:=(x a u q).obj
  rw [e] at z; cases z
end
def CX1 (P:Program) (w:World):CXT:=fun outer H s E e s'=>∃ x T C H',e = .ref x/\Trk T x (.ref C) s'.heap/\s.heap.get? x = none/\s.heap.get? T = none/\H' x = none/\H' T = none /\
 s'.os = s.os/\AllBare s'.gens/\Un (frs outer) [] H H' s.heap s'.heap/\HOk P w H' s'.heap/\E (.ref C) none H'
section
variable {P:Program} {w:World} {K:PySem.W.Frag} {mg:Str->Option Value} {base:Heap} {N:List Str} {qual:Str} {scope:Scope} {f:Addr} {cd:Value} {A:Around} {outer:List Env} {s0:Shared} {H0:Hp} {E:XK}
theorem Ab9 {pins:List (Addr × Obj)} {σ:St} {H:Hp} {s:Shared} {x T C:Addr} {xs:List Addr} {h':Heap} (I:Inv (Jh (CX1 P w) P w K mg base N qual scope f cd A outer s0 H0 E) pins σ H s)
  (lf:Lft (frs (envOfC qual scope s0.heap.objs.size f cd :: outer)) xs s.heap h') (hxs:∀ y ∈ xs,s0.heap.get? y = none/\H y = none) (hx:x ∈ xs) (tk:Trk T x (.ref C) h') (hT:s.heap.objs.size <= T) (hE:E (.ref C) none H) :
  CX1 P w outer H0 s0 E (.ref x) { s with heap:=h' }:=by
 have old:∀ b o,s0.heap.get? b = some o->b ∉ xs:=fun b o e z=>by rw [(hxs b z).1] at e; cases e
 have trk:∀ b u,H b = some u->b ∉ xs:=fun b u e z=>by rw [(hxs b z).2] at e; cases e
 have nfr:∀ b o,s0.heap.get? b = some o->b ∉ frs outer->b ∉ frs (envOfC qual scope s0.heap.objs.size f cd :: outer):=fun b o e n z=>by
  rcases List.mem_cons.mp (I.stkSub b z) with q | q
  ·have:=Heap.lt_size e
   rw [q] at this
   exact Nat.lt_irrefl _ this
  ·exact n q
 have ne0:∀ b:Addr,b ∉ ([]:List Addr):=fun b z=>by cases z
 refine ⟨x,T,C,H,rfl,tk,(hxs x hx).1,Heap.get?_none_of_le (Nat.le_trans I.sz hT),(hxs x hx).2,I.hok.fresh hT,I.os,I.bare,⟨fun b o e n nf _=>?_,fun b o e n hf _=>?_,fun b o e n z=>I.base.free b o e n z,fun b o e _=>?_,I.base.tups,I.base.frzs,I.base.tbls⟩,fun b u e=>?_,hE⟩
 ·exact lf.keep b o (I.base.keep b o e n nf (ne0 b)) (old b o e) (nfr b o e nf)
 ·obtain ⟨sl,z⟩:=I.base.slot b o e n hf (ne0 b)
  obtain ⟨sl',z'⟩:=lf.slot b _ z (old b o e)
  exact ⟨sl',z'⟩
 ·obtain ⟨o',z⟩:=I.base.there b o e (ne0 b)
  obtain ⟨sl',z'⟩:=lf.slot b _ z (old b o e)
  exact ⟨_,z'⟩
 ·refine (I.hok b u e).stay (fun c v hc q'=>?_) (fun _ q'=>q') fun _ _ q'=>q'
  have hc':∃ u',H c = some u':=by
   rcases hc with z | z
   ·exact ⟨u,by rw [z]; exact e⟩
   ·exact ⟨_,z⟩
  obtain ⟨u',hu⟩:=hc'
  exact lf.keep c v q' (trk c u' hu) fun z=>by rw [I.stkFree c z] at hu; cases hu
theorem Bw:Nk (CX1 P w) (Jh (CX1 P w) P w K mg base N qual scope f cd A outer s0 H0 E) E:=by
 intro pins σ H s e s' I hc
 obtain ⟨x,T,C,H',rfl,tk,gx,gT,nx,nT,os,bare,un,hok,hE⟩:=hc
 obtain ⟨hh,g,d,t,os'⟩:=s'
 obtain rfl:os' = s.os:=os
 have I':=I.call (h':=hh) (g':=g) (d':=d) (t':=t) (ch:=[]) un hok bare (fun b z=>absurd z (by simp))
 have old:∀ y,s.heap.get? y = none->s0.heap.get? y = none:=fun y e=>by
  cases q:s0.heap.get? y with
  | none=>rfl
  | some o =>
   obtain ⟨o',z⟩:=I.base.there y o q (fun z=>by cases z)
   rw [e] at z; cases z
 show wpAny _ _ (leaving (envOfC qual scope s0.heap.objs.size f cd) (.ref x)) _ _ _
 unfold leaving
 refine wpAny_bind (Ug (base:=base) (outer:=outer) (L:=s0.heap.objs.size) I'.ok.frames I'.stack rfl tk fun h' T' hT' lf tk'=>?_)
 exact Ab9 I' lf (fun y hy=>by
  rcases List.mem_cons.mp hy with q | q
  ·rw [q]; exact ⟨old _ gx,nx⟩
  ·rw [List.mem_singleton.mp q]; exact ⟨old _ gT,nT⟩) List.mem_cons_self tk' hT' hE
theorem AgN {X:Cx}:Nk (CX1 P w) X E0:=fun _ _ _ _ _ _ _ h=>by
 obtain ⟨_,_,_,_,_,_,_,_,_,_,_,_,_,_,z⟩:=h
 exact z.elim
end
theorem Yr {K:PySem.W.Frag} {h:Heap} {mg:Str->Option Value} {x:Str} {C:Addr} {bmB:List Value} {newId:String} (X:K.In h) (b:mg x = some (.ref C)) (q:PySem.W.excIn K C bmB newId = true):OwnCls x C bmB newId mg h:=by
 refine ⟨b,?_⟩
 unfold PySem.W.excIn at q
 split at q
 ·rename_i d1 c1 s1 l1
  split at q
  ·rename_i C2 m2 z0 z1 z2 z3 nw z5 e1 e2
   simp only [beq_iff_eq,Bool.and_eq_true,Bool.not_eq_true'] at q
   obtain ⟨⟨⟨⟨⟨a1,a2⟩,a3⟩,a4⟩,a5⟩,a6⟩:=q
   subst a1 a2
   obtain ⟨n1,b1,mr,nsp,qn,hd,sn,sub,ab,col,del⟩:=c1
   dsimp only at e1 a3 a5 a6
   subst e1 a3
   have es:s1 = #[z0,z1,z2,z3,some (.builtin nw),z5]:=by
    obtain ⟨ls⟩:=s1
    dsimp only at e2
    rw [e2]
   subst es
   exact ⟨m2,nsp,n1,qn,b1,hd,sn,sub,ab,col,d1,z0,z1,z2,z3,z5,_,X _ _ l1,.of_isNs (PySem.W.isNs_of_in X a5),PySem.W.nsMap_none_of_in X a5 a6,PySem.W.tail_of_in X a4⟩
  ·cases q
 ·cases q
def AcU (C:Addr) (E:XK) (t:TA):TS:=fun _ σ H=>t σ H fun vs H1=>vs.length <= sizeLine/\E (.ref C) none H1
section
variable {P:Program} {w:World} {K:PySem.W.Frag} {mg:Str->Option Value} {base:Heap} {N:List Str} {qual:Str} {scope:Scope} {f:Addr} {cd:Value} {A:Around} {outer:List Env} {s0:Shared} {H0:Hp} {E:XK}
theorem Xm {x:Str} {C:Addr} {B newId initId:String} {bmB:List Value} {np cpos pos:Pos} {e:Expr} {es:List Expr} {t:TA} (FB:ExcBaseFacts B newId initId bmB) (q:PySem.W.excIn K C bmB newId = true) (hm:mg x = some (.ref C)) (hh:A.handled = none)
  (hg:Gl (Jh (CX1 P w) P w K mg base N qual scope f cd A outer s0 H0 E) x) (ha:PA (Jh (CX1 P w) P w K mg base N qual scope f cd A outer s0 H0 E) (e :: es) t)
  (hdb:(x == ("__debug__" : Str)) = false:=by decide)
  (he:starEach (e :: es) (envOfC qual scope s0.heap.objs.size f cd) = (false,eval e (envOfC qual scope s0.heap.objs.size f cd)) :: starEach es (envOfC qual scope s0.heap.objs.size f cd):=by rfl)
  (hpl:(backTo cpos (starEach es (envOfC qual scope s0.heap.objs.size f cd))).any (·.1) = false:=by rfl) :
  PS (Jh (CX1 P w) P w K mg base N qual scope f cd A outer s0 H0 E) (.Raise (some (.Call (.Name x np) (e :: es) [] cpos)) none pos) (AcU C E t):=by
 intro pins s σ H D I h
 have O:OwnCls x C bmB newId mg base:=Yr I.ok.mod.kin hm q
 obtain ⟨tl,N',nm,qn,bs,hdct,sn,sub,ab,col,dd,k0,k1,k2,k3,k5,mN,hC,hN,hni,T⟩:=O.obj
 refine wpAny_Raise_call_subT (C:=C) (nm:=nm) (q:=qn) (N:=N') (bs:=bs) (bm:=tl) (hdct:=hdct) (sn:=sn) (sub:=sub) (ab:=ab) (col:=col) (dd:=dd) (k0:=k0) (k1:=k1) (k2:=k2) (k3:=k3) (k5:=k5) FB (mN:=mN) (T.hasType FB.hasBase) hh (by
  show (backTo cpos (starEach (e :: es) (envOfC qual scope s0.heap.objs.size f cd))).any (·.1) = false
  rw [he]
  show (false || (backTo cpos (starEach es (envOfC qual scope s0.heap.objs.size f cd))).any (·.1)) = false
  rw [hpl]; rfl) hni (Nd I hg hm ⟨rfl,?_⟩ hdb)
 have ha':=ha cpos pins s σ H _ I h
 show wpAny _ _ (evalArgs (.ref C) true (backTo cpos (starEach (e :: es) (envOfC qual scope s0.heap.objs.size f cd))) []) _ _ _
 have ha2:wpAny (model P w) (A.deeper (envOfC qual scope s0.heap.objs.size f cd)) (spliced (backTo cpos (starEach (e :: es) (envOfC qual scope s0.heap.objs.size f cd)))) _ _ s:=ha'
 rw [he] at ha2 ⊢
 refine Calls.evalArgs_plain (thn ha2 fun us s1 z=>?_)
 obtain ⟨vs,H1,I1,r,z1,z2⟩:=z
 refine ⟨rfl,by rw [<- r.length]; exact z1,I1.bk _ _ hC,hN.keeps I1.bk,T.keeps I1.bk,fun h' ex mk=>?_⟩
 obtain ⟨tt,ge,_,_⟩:=mk.there
 have I2:Inv (Jh (CX1 P w) P w K mg base N qual scope f cd A outer s0 H0 E) pins σ H1 { s1 with heap:=h' }:=Inv.call I1 (h':=h') (g':=s1.gens) (d':=s1.drawn) (t':=s1.toks) (ch:=[]) (Un.kept mk.keeps) (I1.hok.kept mk.keeps) I1.bare (fun b z=>absurd z (by simp))
 have old:s0.heap.get? ex = none:=by
  cases q:s0.heap.get? ex with
  | none=>rfl
  | some o =>
   obtain ⟨o',z⟩:=I1.base.there ex o q (fun z=>by cases z)
   rw [mk.new] at z; cases z
 show wpAny _ _ (leaving (envOfC qual scope s0.heap.objs.size f cd) (.ref ex)) _ _ _
 unfold leaving
 refine wpAny_bind (Zg (base:=base) (outer:=outer) (L:=s0.heap.objs.size) I2.ok.frames I2.stack rfl ge rfl rfl rfl fun h'' T' hT' lf tk'=>?_)
 exact Ab9 I2 lf (fun y hy=>by rw [List.mem_singleton.mp hy]; exact ⟨old,I1.hok.none_of mk.new⟩) List.mem_cons_self tk' hT' z2
end
theorem Fun.ok1 {P:Program} {w:World} {K:PySem.W.Frag} {mg:Str->Option Value} {base:Heap} {x qual:Str} {st:Stmt} {f:Addr} {fd:FuncData} {N ps:List Str} {k:Nat} {sp:Sp} (F:Fun K x qual st f fd) (S:Ca N ps (Bc st)) (len:∀ vs H Q E,sp vs H Q E->vs.length = ps.length)
  (hbody:∀ (cdv:Value) (A:Around) (outer:List Env) (s:Shared) (H:Hp) (vs:List V) (Q:VK) (E:XK),Room k (A.deeper (envOfC qual (Bc st) s.heap.objs.size f cdv))->sp vs H Q E ->
   ∃ t,PSs (Jh (CX1 P w) P w K mg base N qual (Bc st) f cdv A outer s H E) (Bk st) t/\t { nx:=fun _ H'=>Q .non H',rt:=Q } (Nv N vs) H):FnOk P w K mg base (CX1 P w) (k + 1) f fd ps sp:=by
 obtain ⟨oc,od,kV,doc,pm,an,cdv,ct,osl,rfl,lk,hcd⟩:=F.ex
 exact Aka lk hcd S len fun A outer s H vs Q E hr hsp=>hbody cdv A outer s H vs Q E hr hsp
def Nw (X:Cx) (pins:List (Addr × Obj)) (b:Addr):Prop:=X.s₀.heap.get? b = none/\b ≠ X.env.locals/\(∀ y c,X.env.cells.lookup y = some c->c ≠ b)/\∀ p ∈ X.pn ++ pins,p.1 ≠ b
section
variable {X:Cx} {pins:List (Addr × Obj)} {σ:St} {H:Hp} {s:Shared}
theorem Inv.nw (hex:X.ex = []) (I:Inv X pins σ H s) {b:Addr} (e:s.heap.get? b = none):Nw X pins b:=by
 refine ⟨?_,fun z=>?_,fun y c l z=>?_,fun p hp z=>?_⟩
 ·cases q:X.s₀.heap.get? b with
  | none=>rfl
  | some o =>
   obtain ⟨o',z⟩:=I.base.there b o q (by rw [hex]; intro w; cases w)
   rw [e] at z; cases z
 ·obtain ⟨_,⟨o,_,_,ho,_⟩,_⟩:=I.loc
  rw [<- z,e] at ho; cases ho
 ·obtain ⟨v,o,ho,_⟩:=I.cell y c l
  rw [z,e] at ho; cases ho
 ·have:=(I.pin p hp).1
  rw [z,e] at this; cases this
theorem Inv.touch (I:Inv X pins σ H s) {xs:List Addr} {h':Heap} (lf:Lft (frs X.stack) xs s.heap h') (hx:∀ b ∈ xs,Nw X pins b/\H b = none):Inv X pins σ H { s with heap:=h' }:=by
 have old:∀ b o,X.s₀.heap.get? b = some o->b ∉ xs:=fun b o e z=>by rw [(hx b z).1.1] at e; cases e
 have trk:∀ b u,H b = some u->b ∉ xs:=fun b u e z=>by rw [(hx b z).2] at e; cases e
 have nloc:X.env.locals ∉ xs:=fun z=>(hx _ z).1.2.1 rfl
 have ncell:∀ y c,X.env.cells.lookup y = some c->c ∉ xs:=fun y c l z=>(hx _ z).1.2.2.1 y c l rfl
 have nfr:∀ b o,X.s₀.heap.get? b = some o->b ∉ X.fs->b ∉ frs X.stack:=fun b o e n z=>by
  rcases List.mem_cons.mp (I.stkSub b z) with q | q
  ·have:=Nat.lt_of_lt_of_le (Heap.lt_size e) I.ok.above
   rw [q] at this
   exact Nat.lt_irrefl _ this
  ·exact n q
 have cellOk:∀ c v,s.heap.IsCell c v->c ∉ xs->h'.IsCell c v:=fun c v ⟨o,ho,hd⟩ n=>by
  obtain ⟨sl,z⟩:=lf.slot c o ho n
  exact ⟨_,z,hd⟩
 refine ⟨I.ok,I.os,I.bare,⟨fun b o e n nf nx=>?_,fun b o e n hf nx=>?_,fun b o e n z=>I.base.free b o e n z,fun b o e nx=>?_,I.base.tups,I.base.frzs,I.base.tbls⟩,?_,fun y c l=>?_,I.free,I.freeC,fun p hp=>?_,fun b u e=>?_,I.len⟩
 ·exact lf.keep b o (I.base.keep b o e n nf nx) (old b o e) (nfr b o e nf)
 ·obtain ⟨sl,z⟩:=I.base.slot b o e n hf nx
  obtain ⟨sl',z'⟩:=lf.slot b _ z (old b o e)
  exact ⟨sl',z'⟩
 ·obtain ⟨o',z⟩:=I.base.there b o e nx
  obtain ⟨sl',z'⟩:=lf.slot b _ z (old b o e)
  exact ⟨_,z'⟩
 ·obtain ⟨m,⟨o,es,ep,ho,hd,r⟩,hl⟩:=I.loc
  obtain ⟨sl,z⟩:=lf.slot _ o ho nloc
  refine ⟨m,⟨_,es,ep,z,hd,r⟩,fun i x v e1 e2 e3=>?_⟩
  obtain ⟨u,ru,l⟩:=hl i x v e1 e2 e3
  refine ⟨u,ru,?_⟩
  rcases l with l | ⟨l1,c,l2,l3⟩
  ·exact .inl l
  ·exact .inr ⟨l1,c,l2,cellOk c _ l3 (ncell x c l2)⟩
 ·obtain ⟨v,z⟩:=I.cell y c l
  exact ⟨v,cellOk c v z (ncell y c l)⟩
 ·obtain ⟨p1,p2,p3,p4,p5⟩:=I.pin p hp
  refine ⟨lf.keep p.1 p.2 p1 (fun z=>(hx _ z).1.2.2.2 p hp rfl) (fun z=>?_),p2,p3,p4,p5⟩
  rcases List.mem_cons.mp (I.stkSub _ z) with q | q
  ·exact p3 q
  ·exact p4 q
 ·refine (I.hok b u e).stay (fun c v hc q'=>?_) (fun _ q'=>q') fun _ _ q'=>q'
  have hc':∃ u',H c = some u':=by
   rcases hc with z | z
   ·exact ⟨u,by rw [z]; exact e⟩
   ·exact ⟨_,z⟩
  obtain ⟨u',hu⟩:=hc'
  exact lf.keep c v q' (trk c u' hu) fun z=>by rw [I.stkFree c z] at hu; cases hu
end
def XP (X:Cx) (pins:List (Addr × Obj)) (σ:St) (Ex:Addr->Hp->Prop) (e:Value) (s':Shared):Prop :=
 ∃ x T C H',e = .ref x/\Inv X pins σ H' s'/\Trk T x (.ref C) s'.heap/\Nw X pins x/\Nw X pins T/\H' x = none/\H' T = none/\Ex C H'
def exK (Ex:Addr->Hp->Prop):XK:=fun cls _ H=>∃ C,cls = .ref C/\Ex C H
theorem Aj8 {X:Cx} {P:Program} {w:World} (hex:X.ex = []) (hP:X.prog = P) (hw:X.w = w) {pins:List (Addr × Obj)} {σ:St} {H:Hp} {s s':Shared} {Ex:Addr->Hp->Prop} {e:Value} (I:Inv X pins σ H s) (h:CX1 P w X.stack H s (exK Ex) e s'):XP X pins σ Ex e s':=by
 obtain ⟨x,T,C,H',rfl,tk,gx,gT,nx,nT,os,bare,un,hok,C',ec,hE⟩:=h
 cases ec
 obtain ⟨hh,g,d,t,os'⟩:=s'
 obtain rfl:os' = s.os:=os
 subst hP hw
 exact ⟨x,T,C,H',rfl,I.call (h':=hh) (g':=g) (d':=d) (t':=t) (ch:=[]) un hok bare (fun b z=>absurd z (by simp)),tk,I.nw hex gx,I.nw hex gT,nx,nT,hE⟩
theorem AfM {M:Model} {A:Around} {E:Value->Shared->Prop} {h:Heap} {g:Array GenState} {d:Drawn} {t:Nat} {os:OsState} {e C D:Addr} {oe:Obj} {Q:Bool->Shared->Prop}
  {nm q:Str} {N:Addr} {bs bm:List Value} {hdct:Bool} {sn:List Str} {sub:List Value} {ab:Bool} {col:Option Bool} {dd:Option Addr} {k0 k1 k2 k3 k5:Option Value} {newId:String}
  {nm' q':Str} {N':Addr} {bs' bm':List Value} {hdct':Bool} {sn':List Str} {sub':List Value} {ab':Bool} {col':Option Bool} {dd':Option Addr} {k0' k1' k2' k3' k5':Option Value} {newId':String}
  (gC:h.get? C = some (excClassObj nm q C N bs bm hdct sn sub ab col dd k0 k1 k2 k3 k5 newId)) (gD:h.get? D = some (excClassObj nm' q' D N' bs' bm' hdct' sn' sub' ab' col' dd' k0' k1' k2' k3' k5' newId'))
  (ge:h.get? e = some oe) (ce:oe.cls = .ref C) (bD:bm'.contains (.type "BaseException") = true) (hCD:(Value.ref C :: bm).contains (.ref D) = true) (hq:Q true ⟨h,g,d,t,os⟩):wpAny M A (excMatches (.ref e) (.ref D)) Q E ⟨h,g,d,t,os⟩:=by
 have b2:(Value.ref D :: bm').contains (.type "BaseException") = true:=by rw [List.contains_cons,bD,Bool.or_true]
 have ft:=tc_notTuple
 unfold excMatches
 repeat (first
  | (with_reducible refine wpAny_loadPart_at ge ?_; rw [ce])
  | with_reducible refine wpAny_loadPart_at gD ?_
  | (with_reducible refine wpAny_isSubtype_exc gD ?_; rw [b2])
  | (with_reducible refine wpAny_isSubtype_exc gC ?_; rw [hCD])
  | wp_step)
 exact hq
theorem Ab4 {α:Type}:∀ {l:List α},l.Nodup->∀ {i j:Nat} {x:α},l[i]? = some x->l[j]? = some x->i = j
 | [],_,_,_,_,h,_=>by simp at h
 | a :: r,nd,0,0,_,_,_=>rfl
 | a :: r,nd,0,j + 1,x,h1,h2=>by
  have e:a = x:=Option.some.inj h1
  exact absurd (List.mem_of_getElem? (show r[j]? = some a by rw [e]; exact h2)) (List.nodup_cons.mp nd).1
 | a :: r,nd,i + 1,0,x,h1,h2=>by
  have e:a = x:=Option.some.inj h2
  exact absurd (List.mem_of_getElem? (show r[i]? = some a by rw [e]; exact h1)) (List.nodup_cons.mp nd).1
 | a :: r,nd,i + 1,j + 1,x,h1,h2=>congrArg (· + 1) (Ab4 (List.nodup_cons.mp nd).2 (show r[i]? = some x from h1) (show r[j]? = some x from h2))
def excF (x C:Addr):Heap->Prop:=fun h=>∃ o vs,h.get? x = some o/\o.cls = .ref C/\o.dict = none/\o.data = .fields vs
section
variable {X:Cx} {pins:List (Addr × Obj)} {σ:St} {H:Hp} {s:Shared}
theorem Inv.track (I:Inv X pins σ H s) {x C:Addr} {oe:Obj} (nw:Nw X pins x) (hx:H x = none) {vs:Array Value} (ge:s.heap.get? x = some oe) (ce:oe.cls = .ref C) (dn:oe.dict = none) (de:oe.data = .fields vs):Inv X pins σ (upd H x (.ext (excF x C))) s:=by
 have ne:∀ b u,H b = some u->b ≠ x:=fun b u e z=>by rw [z,hx] at e; cases e
 refine ⟨I.ok,I.os,I.bare,⟨I.base.keep,I.base.slot,fun b o e n z=>?_,I.base.there,fun b xs e=>?_,fun b o u e=>?_,fun b ps e=>?_⟩,I.loc,I.cell,?_,fun y c l=>?_,fun p hp=>?_,fun b u e=>?_,I.len⟩
 ·rw [Bg (fun w=>by rw [w,nw.1] at e; cases e)]
  exact I.base.free b o e n z
 ·have z:=I.base.tups b xs e
  rw [Bg (ne _ _ z)]; exact z
 ·have z:=I.base.frzs b o u e
  rw [Bg (ne _ _ z)]; exact z
 ·obtain ⟨more,z⟩:=I.base.tbls b ps e
  exact ⟨more,by rw [Bg (ne _ _ z)]; exact z⟩
 ·rw [Bg nw.2.1.symm]; exact I.free
 ·rw [Bg (nw.2.2.1 y c l)]; exact I.freeC y c l
 ·obtain ⟨p1,p2,p3⟩:=I.pin p hp
  exact ⟨p1,by rw [Bg (nw.2.2.2 p hp)]; exact p2,p3⟩
 ·by_cases z:b = x
  ·subst z
   rw [Bn] at e
   cases e
   exact ⟨⟨oe,vs,ge,ce,dn,de⟩,⟨oe,ge⟩,fun h h' ⟨o,vs,g1,g2⟩ k=>⟨o,vs,k o g1,g2⟩⟩
  ·rw [Bg z] at e
   exact (I.hok b u e).stay (fun c v _ q'=>q') (fun c q'=>by rw [Bg (ne _ _ q')]; exact q') fun c xs q'=>by rw [Bg (ne _ _ q')]; exact q'
def mkX (X:Cx) (v:Value):Cx:={ X with A:=X.A.mark (some v),calm:=false,xe:=fun _ _=>False }
theorem Inv.mark (I:Inv X pins σ H s) (v:Value):Inv (mkX X v) pins σ H s :=
 ⟨⟨I.ok.mod,I.ok.kind,I.ok.glob,I.ok.blt,I.ok.above,I.ok.inj,I.ok.has,I.ok.cab,fun z=>Bool.noConfusion z,I.ok.frames,I.ok.stk,I.ok.exf,I.ok.bs,I.ok.bsz,I.ok.noex,I.ok.exfs,I.ok.funs,I.ok.frf⟩,I.os,I.bare,I.base,I.loc,I.cell,I.free,I.freeC,I.pin,I.hok,I.len⟩
theorem Inv.unmark {v:Value} (ok:X.Ok) (I:Inv (mkX X v) pins σ H s):Inv X pins σ H s:=⟨ok,I.os,I.bare,I.base,I.loc,I.cell,I.free,I.freeC,I.pin,I.hok,I.len⟩
theorem Rn {M:Model} {A:Around} {E:Value->Shared->Prop} {i:Nat} {n:Str} {pos:Pos} {Q:Unit->Shared->Prop} (I:Inv X pins σ H s) (hN:X.N.Nodup) (hi:X.N[i]? = some n) (hl:X.env.kindOf n = some .local)
  (q:∀ s',Inv X pins (σ.set i none) H s'->Q () s'):wpAny M A (do bindName X.env n .none; unbindBehindTheSuite X.env n pos) Q E s:=by
 obtain ⟨m,hn,hlo⟩:=id I.loc
 have hcls:(X.env.scope.kind == .class || (X.env.scope.kind == .module && X.env.locals != X.env.globals)) = false:=by rw [I.ok.kind]; rfl
 refine wpAny_nameGoes_keeps hl hn hcls fun h' v hn' sb=>q _ ?_
 have cne:=I.cne
 have nl:∀ b o,X.s₀.heap.get? b = some o->b ≠ X.env.locals:=fun b o e z=>by
  have:=Nat.lt_of_lt_of_le (Heap.lt_size e) I.ok.above
  rw [z] at this
  exact Nat.lt_irrefl _ this
 refine ⟨I.ok,I.os,I.bare,⟨fun b o e n nf nx=>(sb.2 b (nl b o e)).trans (I.base.keep b o e n nf nx),fun b o e n hf nx=>?_,I.base.free,fun b o e nx=>?_,I.base.tups,I.base.frzs,I.base.tbls⟩,⟨_,hn',fun j y v' e1 e2 e3=>?_⟩,fun y c l=>?_,I.free,I.freeC,fun p hp=>?_,fun b u e=>?_,by rw [List.length_set]; exact I.len⟩
 ·obtain ⟨sl,z⟩:=I.base.slot b o e n hf nx
  exact ⟨sl,(sb.2 b (nl b o e)).trans z⟩
 ·obtain ⟨o',z⟩:=I.base.there b o e nx
  exact ⟨o',(sb.2 b (nl b o e)).trans z⟩
 ·have hj:j ≠ i:=fun z=>by
   subst z
   have hlt:j < σ.length:=by rw [I.len]; exact (List.getElem?_eq_some_iff.mp e1).1
   rw [List.getElem?_set_self hlt] at e2
   cases e2
  have hy:y ≠ n:=fun z=>by
   subst z
   exact hj (Ab4 hN e1 hi)
  rw [List.getElem?_set_ne (Ne.symm hj)] at e2
  obtain ⟨u,ru,l⟩:=hlo j y v' e1 e2 e3
  refine ⟨u,ru,?_⟩
  rcases l with ⟨l1,l2⟩ | ⟨l1,c,l2,o,l3,l4⟩
  ·exact .inl ⟨l1,by show (if y = n then v else m y) = _; rw [if_neg hy]; exact l2⟩
  ·exact .inr ⟨l1,c,l2,o,(sb.2 c (cne y c l2)).trans l3,l4⟩
 ·obtain ⟨v,o,l3,l4⟩:=I.cell y c l
  exact ⟨v,o,(sb.2 c (cne y c l)).trans l3,l4⟩
 ·obtain ⟨p1,p2,p3,p4⟩:=I.pin p hp
  exact ⟨(sb.2 _ p3).trans p1,p2,p3,p4⟩
 ·have ne:∀ c u',H c = some u'->c ≠ X.env.locals:=fun c u' e z=>by rw [z,I.free] at e; cases e
  refine (I.hok b u e).stay (fun c v hc q'=>(sb.2 c ?_).trans q') (fun _ q'=>q') fun _ _ q'=>q'
  rcases hc with z | z
  ·rw [z]; exact ne b u e
  ·exact ne c _ z
theorem AaQ {M:Model} {A:Around} {E:Value->Shared->Prop} {T e:Addr} {cls:Value} {fs:List Addr} {Q:Unit->Shared->Prop} (tk:Trk T e cls s.heap) (q:∀ h',Lft fs [T] s.heap h'->Trk T e cls h'->Q () { s with heap:=h' }):wpAny M A (setFlight (.ref e) none) Q E s:=by
 obtain ⟨oe,vs,oT,ts,ge,ce,dn,de,v1,nTe,gT,dT,t3⟩:=tk
 have n3:3 < ts.size:=(Array.getElem?_eq_some_iff.mp t3).1
 unfold setFlight
 refine wpAny_bind (wpAny_field ge de v1 ?_)
 rw [if_pos (by simp)]
 have oth:∀ b,b ∉ [T]->b ≠ T:=fun b z w=>z (by rw [w]; exact List.mem_cons_self)
 refine wpAny_setField gT dT n3 (q _ ⟨fun b o gb nb _=>?_,fun b o gb nb=>⟨o.slots,?_⟩⟩ ?_)
 ·rw [Heap.get?_update_other _ _ (oth b nb).symm]; exact gb
 ·rw [Heap.get?_update_other _ _ (oth b nb).symm]; exact gb
 ·refine ⟨oe,vs,_,_,(Heap.get?_update_other _ _ nTe).trans ge,ce,dn,de,v1,nTe,Heap.get?_update_self _ gT (Obj.isFreed_of_fields (Obj.data_mapFields dT _)),Obj.data_mapFields dT _,?_⟩
  simp [n3]
end
abbrev TSx:=Ends->(Addr->Hp->Prop)->St->Hp->Prop
def PSx (X:Cx) (b:List Stmt) (t:TSx):Prop :=
 ∀ (pins:List (Addr × Obj)) (s:Shared) (σ:St) (H:Hp) (D:Ends) (Ex:Addr->Hp->Prop),Inv X pins σ H s->t D Ex σ H->wpAny (model X.prog X.w) X.A (execs b X.env) (SP X pins D) (XP X pins σ Ex) s
def Xn (i:Nat) (D:Ends):Ends where
 nx:=fun σ H=>D.nx (σ.set i none) H
 rt:=D.rt
 bk:=fun σ H=>D.bk (σ.set i none) H
 ct:=fun σ H=>D.ct (σ.set i none) H
def Ahw (tb:TSx) (S:Addr->Prop) (i:Nat) (ts:TS):TS:=fun D σ H=>tb D (fun C H1=>S C/\∀ x,H1 x = none->ts (Xn i D) (σ.set i (some (.ref x))) (upd H1 x (.ext (excF x C)))) σ H
theorem Aik {X:Cx} {body:List Stmt} {b0:Stmt} {suite:List Stmt} {y n:Str} {np hpos pos:Pos} {Dc:Addr} {tb:TSx} {ts:TS} {S:Addr->Prop} {i:Nat} {bmB:List Value} {newId:String}
  (hst:X.stack = X.env :: X.outer) (hfr:X.env.frame = some X.env.locals) (hb:PSx X body tb) (hs:∀ v,PSs (mkX X v) (b0 :: suite) ts)
  (hg:Gl X y) (hm:X.mg y = some (.ref Dc)) (qD:PySem.W.excIn X.K Dc bmB newId = true) (hbase:bmB.contains (.type "BaseException") = true)
  (hS:∀ C,S C->∃ z bmC nC,X.mg z = some (.ref C)/\PySem.W.excIn X.K C bmC nC = true/\PySem.W.mroIn X.K C (.ref Dc) = some true)
  (hN:X.N.Nodup) (hi:X.N[i]? = some n) (hl:X.env.kindOf n = some .local) (hdb:(y == ("__debug__" : Str)) = false:=by decide) :
  PS X (.Try body [.ExceptHandler (some (.Name y np)) (some n) (b0 :: suite) hpos] [] [] pos) (Ahw tb S i ts):=by
 intro pins s σ H D I h
 refine wpAny_Try_except (wpAny_mono (hb pins s σ H D _ I h) (fun f s1 q=>?_) (fun e s1 q=>?_))
 ·cases f with
  | next=>exact wpAny_execs_nil q
  | ret v=>exact q
  | brk=>exact q
  | cont=>exact q
 ·obtain ⟨x,T,C,H1,rfl,I1,tk,nx,nT,hx,hT,hSC,q⟩:=q
  refine Ug (base:=X.base) (outer:=X.outer) (L:=X.env.locals) (hst ▸ I1.ok.frames) (hst ▸ I1.stack) hfr tk fun h2 T2 hT2 lf tk2=>?_
  have xs1:∀ b ∈ [x,T],Nw X pins b/\H1 b = none:=fun b hb=>by
   rcases List.mem_cons.mp hb with z | z
   ·rw [z]; exact ⟨nx,hx⟩
   ·rw [List.mem_singleton.mp z]; exact ⟨nT,hT⟩
  have I2:Inv X pins σ H1 { s1 with heap:=h2 }:=I1.touch (by rw [hst]; exact lf) xs1
  have nT2:Nw X pins T2:=by
   refine ⟨Heap.get?_none_of_le (Nat.le_trans I1.sz hT2),fun z=>?_,fun y c l z=>?_,fun p hp z=>?_⟩
   ·have:=I1.lt
    rw [<- z] at this
    exact absurd (Nat.lt_of_lt_of_le this hT2) (Nat.lt_irrefl _)
   ·obtain ⟨v,o,ho,_⟩:=I1.cell y c l
    have:=Heap.lt_size ho
    rw [z] at this
    exact absurd (Nat.lt_of_lt_of_le this hT2) (Nat.lt_irrefl _)
   ·have:=Heap.lt_size (I1.pin p hp).1
    rw [z] at this
    exact absurd (Nat.lt_of_lt_of_le this hT2) (Nat.lt_irrefl _)
  have fT2:H1 T2 = none:=I1.hok.fresh hT2
  obtain ⟨zc,bmC,nC,mC,qC,rC⟩:=hS C hSC
  have OC:=Yr (h:=X.base) I1.ok.mod.kin mC qC
  have OD:=Yr (h:=X.base) I1.ok.mod.kin hm qD
  obtain ⟨tl,N1,nm,qn,bs,hdct,sn,sub,ab,col,dd,k0,k1,k2,k3,k5,mN,gC,_⟩:=OC.obj
  obtain ⟨tl',N1',nm',qn',bs',hdct',sn',sub',ab',col',dd',k0',k1',k2',k3',k5',mN',gD,_,_,TD⟩:=OD.obj
  have cCD:(Value.ref C :: tl).contains (.ref Dc) = true:=by
   obtain ⟨cdm,a1,a2⟩:=Option.bind_eq_some_iff.mp rC
   split at a2
   ·cases a2
   ·have a3:=Option.some.inj a2
    unfold PySem.W.clsIn at a1
    split at a1
    ·rename_i lk
     cases a1
     have:=(I1.ok.mod.kin _ _ lk).symm.trans gC
     cases this
     exact a3
    ·cases a1
  obtain ⟨oe2,vs2,oT2',ts2,ge2,ce2,rest2⟩:=id tk2
  have I2m:=I2.mark (.ref x)
  refine wpAny_handleBy_cons (codeAny_handlers_test (Nd I2m (show Gl (mkX X (.ref x)) y from hg) (show (mkX X (.ref x)).mg y = _ from hm) ?_ hdb)) (by intro z; cases z)
  refine AfM (C:=C) (I2.bk _ _ gC) (I2.bk _ _ gD) ge2 ce2 (TD.hasType hbase) cCD ?_
  refine codeAny_handlers_suite_as (AaQ (fs:=frs X.stack) tk2 fun h3 lf3 tk3=>?_)
  have I3:Inv X pins σ H1 { s1 with heap:=h3 }:=I2.touch lf3 fun b hb=>by rw [List.mem_singleton.mp hb]; exact ⟨nT2,fT2⟩
  obtain ⟨oe3,vs3,oT3,ts3,ge3,ce3,dn3,de3,rest3⟩:=id tk3
  have I4:=(I3.track nx hx ge3 ce3 dn3 de3).mark (.ref x)
  refine Rg (X:=mkX X (.ref x)) I4 hN hi (.inl hl) (v:=.ref x) rfl (fun s4 I5=>?_) (.inr hl)
  refine wpAny_mono (hs (.ref x) pins s4 _ _ (Xn i D) I5 (q x hx)) (fun f s5 q5=>?_) fun _ _ z=>z.elim
  cases f with
  | next =>
   obtain ⟨σ',H',I6,q6⟩:=q5
   exact Rn (I6.unmark I.ok) hN hi hl fun s6 I7=>⟨_,H',I7,q6⟩
  | brk =>
   obtain ⟨σ',H',I6,q6⟩:=q5
   exact Rn (I6.unmark I.ok) hN hi hl fun s6 I7=>⟨_,H',I7,q6⟩
  | cont =>
   obtain ⟨σ',H',I6,q6⟩:=q5
   exact Rn (I6.unmark I.ok) hN hi hl fun s6 I7=>⟨_,H',I7,q6⟩
  | ret u =>
   obtain ⟨v,σ',H',I6,r6,q6⟩:=q5
   exact Rn (I6.unmark I.ok) hN hi hl fun s6 I7=>⟨v,_,H',I7,r6,q6⟩
abbrev TEx:=St->Hp->VK->(Addr->Hp->Prop)->Prop
def PEx (X:Cx) (e:Expr) (t:TEx):Prop :=
 ∀ (pins:List (Addr × Obj)) (s:Shared) (σ:St) (H:Hp) (Q:VK) (Ex:Addr->Hp->Prop),Inv X pins σ H s->t σ H Q Ex->wpAny (model X.prog X.w) X.A (eval e X.env) (EP X pins σ Q) (XP X pins σ Ex) s
section
variable {X:Cx} {k:Nat} {f C:Addr} {fd:FuncData} {ps:List Str} {sp:Sp} {dvs:List V} {ds:List Value} {x m:Str} {p pos apos:Pos} {e o:Expr} {es:List Expr} {ta:TE} {t:TA}
theorem Agy {pins:List (Addr × Obj)} {σ:St} {H:Hp} {s:Shared} {Q:VK} {Ex:Addr->Hp->Prop} {us:List Value} {vs:List V} (hex:X.ex = []) (F:FnOk X.prog X.w X.K X.mg X.base (CX1 X.prog X.w) k f fd ps sp) (hr:Room k X.A) (hb:Binds X.K fd ps ds) (hd:Vals dvs ds)
  (I:Inv X pins σ H s) (r:Vals vs us) (h:sp (vs ++ dvs) H Q (exK Ex)):wpAny (model X.prog X.w) X.A (call (.ref f) us) (EP X pins σ Q) (XP X pins σ Ex) s:=by
 have r2:Vals (vs ++ dvs) (us ++ ds):=r.append hd
 have hl:(us ++ ds).length = ps.length:=by rw [<- r2.length]; exact F.len _ _ _ _ h
 refine wpAny_call (codeAny_mono (F.run X.A X.stack s H ⟨us,[]⟩ (us ++ ds) (vs ++ dvs) Q (exK Ex) hr I.env0 (hb s us I.kIn hl) r2 h) fun r s' hq=>?_)
 cases r with
 | error e=>exact Aj8 hex rfl rfl I hq
 | ok fl =>
  cases fl with
  | ret u=>exact I.after hq
  | next=>exact False.elim hq
  | brk=>exact False.elim hq
  | cont=>exact False.elim hq
theorem AdU {pins:List (Addr × Obj)} {σ:St} {H:Hp} {s:Shared} {R:List V->Hp->Prop} {E:Value->Shared->Prop} (ha:PA X.nox es t) (I:Inv X pins σ H s) (h:t σ H R) :
  wpAny (model X.prog X.w) X.A (spliced (backTo pos (starEach es X.env))) (fun us s'=>∃ xs H',Inv X pins σ H' s'/\Vals xs us/\R xs H') E s :=
 wpAny_mono (ha pos pins s σ H R (I.wish _) h) (fun us s' ⟨xs,H',I',r,q⟩=>⟨xs,H',I'.unwish,r,q⟩) fun _ _ z=>False.elim z
def Aca (sp:Sp) (dvs:List V) (t:TA):TEx:=fun σ H Q Ex=>t σ H fun vs H1=>sp (vs ++ dvs) H1 Q (exK Ex)
theorem Adw (hex:X.ex = []) (F:FnOk X.prog X.w X.K X.mg X.base (CX1 X.prog X.w) k f fd ps sp) (hr:Room k X.A) (hg:Gl X x) (hm:X.mg x = some (.ref f)) (hk:PySem.W.keepIn X.K (.ref f) = true) (hb:Binds X.K fd ps ds) (hd:Vals dvs ds)
  (ha:PA X.nox (e :: es) t) (hdb:(x == ("__debug__" : Str)) = false:=by decide) (he:starEach (e :: es) X.env = (false,eval e X.env) :: starEach es X.env:=by rfl) (hpl:(backTo pos (starEach es X.env)).any (·.1) = false:=by rfl) :
  PEx X (.Call (.Name x p) (e :: es) [] pos) (Aca sp dvs t):=by
 intro pins s σ H Q Ex I h
 refine wpAny_Call_Name_kw (Nd I hg hm ?_ hdb)
 exact PySem.W.callWith_K (h₀:=X.base) I.ok.mod.kin hk (thn (AdU ha I h) fun us s1 ⟨vs,H1,I1,r,q⟩=>⟨I1.kIn,Agy hex F hr hb hd I1 r q⟩) he hpl
def Aet (t:TEx) (i:Nat):TSx:=fun D Ex σ H=>t σ H (fun v H1=>D.nx (σ.set i (some v)) H1) Ex
theorem Agk {i:Nat} {pos':Pos} {t:TEx} (hN:X.N.Nodup) (hi:X.N[i]? = some x) (hx:Loc X.env.scope x) (he:PEx X e t) (hs:swapsWith e (some (.Name x pos')) pos.line X.env = pure false:=by rfl) (hf:X.fn x = true\/X.env.scope.names.lookup x = some .local:=by first | exact .inl rfl | exact .inr rfl | assumption) :
  PSx X [.Assign [.Name x pos'] e pos] (Aet t i):=by
 intro pins s σ H D Ex I h
 refine wpAny_execs_cons (wpAny_mono (wpAny_Assign_Name (Q:=SP X pins D) (thn (he pins s σ H _ Ex I h) fun v s1 ⟨y,H1,I1,r1,q1⟩=>Rg I1 hN hi hx r1 (fun s2 I2=>⟨_,H1,I2,q1⟩) hf) hs) (fun f s1 q=>?_) fun _ _ z=>z)
 cases f with
 | next=>exact wpAny_execs_nil q
 | ret v=>exact q
 | brk=>exact q
 | cont=>exact q
end
section
variable {σ:St} {H:Hp} {Q:VK} {D:Ends} {Ex:Addr->Hp->Prop}
end
end L2
set_option Elab.async false
set_option linter.all false
set_option maxRecDepth 100000
set_option maxHeartbeats 4000000
namespace L2
open PySem PySem.Spec PyProof.Rows
theorem AdZ {M:Model} {A:Around} {E:Value->Shared->Prop} {s:Shared} {x C:Addr} {nv:Value} {R:Unit->Shared->Prop} (L0:PySem.W.Looks M s.heap (typeOf (.ref x)) (.ref C)) (LB:PySem.W.Looks M s.heap (isSubtype (.ref C) (.type "BaseException")) true) (h:R () s) :
  wpAny M A (checkBuiltinCall "BaseException.__getattribute__" ⟨[.ref x,nv],[]⟩) R E s:=by
 have hk:builtinKind "BaseException.__getattribute__" = some .slot:=by decide +kernel
 have hsplit:splitId "BaseException.__getattribute__" = some ("BaseException","__getattribute__"):=by decide +kernel
 have ha:=PySem.F.args_bexc_ga (.ref x) nv
 unfold argsOk at ha
 simp only [checkBuiltinCall,hk,hsplit]
 refine wpAny_bind ?_
 unfold isInstance
 refine wpAny_bind (L0.at ?_)
 refine LB.at ?_
 rw [if_neg (by simp)]
 generalize Manifest.signature? "BaseException.__getattribute__" = sg at ha ⊢
 cases sg with
 | none=>exact wpAny_pure h
 | some sig =>
  dsimp only at ha ⊢
  rw [ha]
  exact wpAny_pure h
theorem AcQ {K:PySem.W.Frag} {C x:Addr} {ox:Obj} {prog:Program} {w:World} {A:Around} {E:Value->Shared->Prop} {s:Shared} {Q:Option Value->Shared->Prop} (X:K.In s.heap) (I:PySem.W.InstAt s.heap x ox C none)
  (hga:PySem.W.findIn K (.ref C) "__getattribute__" = some (some (.builtin "BaseException.__getattribute__"))) (hgx:PySem.W.findIn K (.ref C) "__getattr__" = some none)
  (hcl:PySem.W.findObj K C none "__class__" = some (.bind (.builtin "getset_descriptor.__get__") (.builtin "object.__class__"))) (hmB:PySem.W.mroIn K C (.type "BaseException") = some true) (hmO:PySem.W.mroIn K C (.type "object") = some true)
  (h:Q (some (.ref C)) { s with toks:=s.toks + 1 }):wpAny (model prog w) A (getAttr? (.ref x) "__class__") Q E s:=by
 obtain ⟨hh,g,d,t,os⟩:=s
 have L0:=I.type (M:=model prog w)
 have L1:=PySem.W.looks_findIn (M:=model prog w) X hga
 have L2':=PySem.W.looks_findIn (M:=model prog w) X hgx
 have LB:=PySem.W.looks_mroIn (M:=model prog w) X hmB
 have LF:=PySem.W.looks_find (M:=model prog w) X I hcl
 unfold getAttr? getAttrBy? getAttrBy
 refine wpAny_bind (wpAny_mkText (wpAny_bind (wpAny_attempt (wpAny_holding (wpAny_bind (L0.at (wpAny_bind (L1.at ?_))))))))
 dsimp only
 rw [if_neg (by rw [show (Value.builtin "BaseException.__getattribute__" == Value.builtin "object.__getattribute__") = false by decide +kernel,Bool.and_false]; exact Bool.false_ne_true)]
 unfold getAttrByItsOwn hookBefore
 rw [if_pos (by rfl)]
 refine wpAny_bind (L2'.at ?_)
 refine wpAny_bind (wpAny_attempt (wpAny_holding ?_))
 unfold callGetattribute
 rw [if_neg (by simp)]
 unfold boundAndCalled
 rw [PySem.F.excAttr_ValueError.ga.bind (.ref x)]
 refine wpAny_bind (wpAny_pure ?_)
 dsimp only [List.cons_append,List.nil_append]
 refine wpAny_call (codeAny_call_builtin PySem.F.excAttr_ValueError.ga.plain PySem.F.entry_bexc_ga (AdZ L0 LB ?_))
 unfold Builtin.«object.__getattribute__»
 refine wpAny_bind (wpAny_pure ?_)
 dsimp only
 refine wpAny_bind (wpAny_pure ?_)
 refine wpAny_bind (L0.at ?_)
 refine wpAny_bind (LF.at ?_)
 dsimp only
 unfold Builtin.ObjectAttr.bindTo
 dsimp only
 refine wpAny_bind (wpAny_holding (wpAny_call (PySem.W.class_get (od:=none) (ox:=ox) X I hmO ?_)))
 refine wpAny_pure ?_
 exact PySem.W.handed_on rfl (wpAny_pure h)
structure Jb (K:PySem.W.Frag) (C:Addr):Prop where
 cd:PySem.W.isClsIn K C = true
 ga:PySem.W.findIn K (.ref C) "__getattribute__" = some (some (.builtin "BaseException.__getattribute__"))
 gx:PySem.W.findIn K (.ref C) "__getattr__" = some none
 cl:PySem.W.findIn K (.ref C) "__class__" = some (some (.builtin "object.__class__"))
 sg:PySem.W.specialIn K (.builtin "object.__class__") "__get__" = some (some (.builtin "getset_descriptor.__get__"))
 tk:PySem.W.takesIn K (.builtin "object.__class__") = some true
 mB:PySem.W.mroIn K C (.type "BaseException") = some true
 mO:PySem.W.mroIn K C (.type "object") = some true
theorem Sa {K:PySem.W.Frag} {C:Addr} (h:PySem.W.isClsIn K C = true):∃ c d cd sl,K.lookup C = some ⟨c,d,.cls cd,sl⟩/\PySem.W.clsIn K C = some cd:=by
 have h':(PySem.W.clsIn K C).isSome = true:=h
 cases e:PySem.W.clsIn K C with
 | none=>rw [e] at h'; cases h'
 | some cd =>
  have e':=e
  unfold PySem.W.clsIn at e'
  split at e'
  ·cases e'; exact ⟨_,_,_,_,by assumption,rfl⟩
  ·cases e'
theorem Ach {K:PySem.W.Frag} {C:Addr} {name:Str} {a g:Value} (hc:PySem.W.isClsIn K C = true) (ha:PySem.W.findIn K (.ref C) name = some (some a)) (hg:PySem.W.specialIn K a "__get__" = some (some g)) (ht:PySem.W.takesIn K a = some true):PySem.W.findObj K C none name = some (.bind g a):=by
 obtain ⟨_,_,_,_,_,e⟩:=Sa hc
 simp [PySem.W.findObj,e,ha,hg,ht]
theorem excF.inst {x C:Addr} {h:Heap} (p:excF x C h):∃ ox,PySem.W.InstAt h x ox C none:=by
 obtain ⟨o,vs,g,c,d,e⟩:=p
 refine ⟨o,g,c,?_,?_⟩
 ·unfold PySem.W.notCls; rw [e]
 ·rw [d]; trivial
theorem Ys {K:PySem.W.Frag} {x C:Addr} (N:Jb K C):PySem.W.KitX K (.ref x) (.ref C) (excF x C) where
 ty:=fun _ _ _ p=>by obtain ⟨_,I⟩:=p.inst; exact I.type
 it:=fun M h X _ A' Q' E' s' kk hq=>by
  obtain ⟨_,_,_,_,l,_⟩:=Sa N.cd
  have there:=kk _ _ (X _ _ l)
  unfold isType loadHead
  refine wpAny_bind (wpAny_loadPart there ?_)
  exact wpAny_pure hq
 ne:=fun h tp _ _ _ _ X at_tp=>by
  obtain ⟨_,_,_,_,l,_⟩:=Sa N.cd
  cases hb:(Value.ref C == Value.ref tp) with
  | false=>rfl
  | true =>
   cases Value.ref.inj (beq_iff_eq.mp hb)
   have both:=(X _ _ l).symm.trans at_tp
   cases both
 ca:=fun X p k=>by obtain ⟨_,I⟩:=p.inst; exact AcQ X I N.ga N.gx (Ach N.cd N.cl N.sg N.tk) N.mB N.mO k
theorem Wu {X:Cx}:Ga X (.builtin "isinstance") (fun vs H Q=>∃ x C v b,vs = [.ref x,v]/\H x = some (.ext (excF x C))/\Jb X.K C/\(∀ u,RelV v u->PySem.W.kitOne X.K (.ref C) u = some b)/\Q (.bl b) H):=by
 intro pins s σ H vs us Q I r h
 obtain ⟨x,C,v,b,rfl,hx,kn,hk,q⟩:=h
 obtain ⟨u,u2,rfl,rx,ry⟩:=Aaz r
 cases (show u = Value.ref x from rx)
 obtain ⟨hf,_,_⟩:=(show ObjOk X.prog X.w H s.heap x (.ext (excF x C)) from I.hok x _ hx)
 exact PySem.W.kia_one (Ys kn) I.kIn hf (hk u2 ry) (fun z=>nomatch z) fun tk=>⟨.bl b,H,I.tok tk,rfl,q⟩
theorem Rs {X:Cx} (K':PySem.W.Frag) (h:X.K = K':=by rfl):Ga X (.builtin "isinstance") (fun vs H Q=>∃ x C v b,vs = [.ref x,v]/\H x = some (.ext (excF x C))/\Jb K' C/\(∀ u,RelV v u->PySem.W.kitOne K' (.ref C) u = some b)/\Q (.bl b) H):=by subst h; exact Wu
theorem Wb {X:Cx}:Ga X (.builtin "isinstance") (fun vs H Q=>∃ x a C cs b,vs = [.ref x,.ref a]/\H x = some (.ext (excF x C))/\H a = some (.tup cs)/\Jb X.K C/\(∀ us,Vals cs us->PySem.W.kitAny X.K (.ref C) us = some b)/\Q (.bl b) H):=by
 intro pins s σ H vs us Q I r h
 obtain ⟨x,a,C,cs,b,rfl,hx,ha,kn,hk,q⟩:=h
 obtain ⟨u,u2,rfl,rx,ry⟩:=Aaz r
 cases (show u = Value.ref x from rx)
 cases (show u2 = Value.ref a from ry)
 obtain ⟨hf,_,_⟩:=(show ObjOk X.prog X.w H s.heap x (.ext (excF x C)) from I.hok x _ hx)
 obtain ⟨_,its,rv,o,go,co,n,dn⟩:=(show ObjOk X.prog X.w H s.heap a (.tup cs) from I.hok a _ ha)
 obtain ⟨c1,d1,dt1,sl1⟩:=o
 cases co
 cases dn
 exact PySem.W.kia_tup (Ys kn) I.kIn hf go (hk its rv) (fun z=>nomatch z) fun tk=>⟨.bl b,H,I.tok tk,rfl,q⟩
theorem Ur {X:Cx} (K':PySem.W.Frag) (h:X.K = K':=by rfl):Ga X (.builtin "isinstance") (fun vs H Q=>∃ x a C cs b,vs = [.ref x,.ref a]/\H x = some (.ext (excF x C))/\H a = some (.tup cs)/\Jb K' C/\(∀ us,Vals cs us->PySem.W.kitAny K' (.ref C) us = some b)/\Q (.bl b) H):=by subst h; exact Wb
theorem Xd {K:PySem.W.Frag} {t:Value}:∀ {cs:List V} {us:List Value},Vals cs us->(∀ c ∈ cs,∀ u,RelV c u->PySem.W.kitOne K t u = some false)->PySem.W.kitAny K t us = some false
 | _,_,.nil,_=>rfl
 | _,_,.cons r rs,h=>by
  unfold PySem.W.kitAny
  rw [h _ List.mem_cons_self _ r]
  exact Xd rs fun c hc=>h c (List.mem_cons_of_mem _ hc)
theorem Afk:bootBuiltins "ValueError" = some (.type "ValueError"):=by decide +kernel
section
variable {X:Cx} {pos:Pos} {a b:Expr} {op op' op2:CmpOp} {ops:List CmpOp} {es:List Expr} {e2:Expr} {ta tb:TE} {r:R2} {u:V->TE}
def PTh (X:Cx) (pos:Pos) (ops:List CmpOp) (es:List Expr) (u:V->TE):Prop:=∀ (pins:List (Addr × Obj)) (s:Shared) (σ:St) (H:Hp) (x:V) (v:Value) (Q:Bool->Hp->Prop),Inv X pins σ H s->RelV x v->u x σ H (fun z H'=>∃ k,z = .bl k/\Q k H') ->
 wpAny (model X.prog X.w) X.A (testChain pos v ops (evalEach es X.env)) (TP X pins σ Q) X.xe s
def AeB (r:R2) (tb:TE):V->TE:=fun x σ H Q=>tb σ H fun y H1=>r x y H1 Q
def Ae0 (r:R2) (tb:TE) (u:V->TE):V->TE:=fun x σ H Q=>tb σ H fun y H1=>r x y H1 fun z H2=>∃ k,z = .bl k/\if k = true then u y σ H2 Q else Q (.bl false) H2
def tCh (ta:TE) (u:V->TE):TE:=fun σ H Q=>ta σ H fun x H1=>u x σ H1 Q
theorem Ad2 (ho:OpR X (compareOp op) r) (hb:PE X b tb):PTh X pos [op] [b] (AeB r tb):=by
 intro pins s σ H x v Q I rx h
 refine test_last (thn (hb pins s σ H _ I h) fun w s1 ⟨y,H1,I1,r1,q1⟩=>thn (ho pins s1 σ H1 x y v w _ I1 rx r1 q1) fun c s2 ⟨z,H2,I2,r2,k,e,q2⟩=>?_)
 subst e
 cases r2
 exact wpAny_truthy_bool ⟨H2,I2,q2⟩
theorem Yq (ho:OpR X (compareOp op) r) (hb:PE X b tb) (hu:PTh X pos (op' :: ops) (e2 :: es) u):PTh X pos (op :: op' :: ops) (b :: e2 :: es) (Ae0 r tb u):=by
 intro pins s σ H x v Q I rx h
 refine test_link (thn (hb pins s σ H _ I h) fun w s1 ⟨y,H1,I1,r1,q1⟩=>thn (ho pins s1 σ H1 x y v w _ I1 rx r1 q1) fun c s2 ⟨z,H2,I2,r2,k,e,q2⟩=>?_)
 subst e
 cases r2
 refine wpAny_truthy_bool ?_
 cases k with
 | true=>exact hu pins s2 σ H2 y w Q I2 r1 q2
 | false =>
  obtain ⟨k,e,q⟩:=(show ∃ k,(V.bl false) = .bl k/\Q k H2 from q2)
  cases e
  exact ⟨H2,I2,q⟩
theorem Ajh {e1:Expr} (ha:PE X a ta) (hu:PTh X pos (op :: op' :: ops) (e1 :: e2 :: es) u) (hm:lastMarks (op :: op' :: ops) (e1 :: e2 :: es) = false:=by with_unfolding_all rfl):PT X (.Compare a (op :: op' :: ops) (e1 :: e2 :: es) pos) (Wn (tCh ta u)):=by
 intro pins s σ H Q I h
 exact isTrue_chain (thn (ha pins s σ H _ I h) fun v s1 ⟨x,H1,I1,r1,q1⟩=>hu pins s1 σ H1 x v Q I1 r1 q1) hm
end
end L2
set_option Elab.async false
set_option linter.all false
set_option maxRecDepth 100000
set_option maxHeartbeats 4000000
namespace L2
open PySem PySem.Spec PyProof.Rows
section
variable {a:Array Keyed}
end
section
variable {prog:Program} {w:World} {A:Around} {E:Value->Shared->Prop} {s:Shared} {z:Array Keyed}
end
end L2
namespace L2
open PySem PySem.Spec PyProof.Rows
section
variable {X:Cx} {pins:List (Addr × Obj)} {σ:St} {H:Hp} {s:Shared}
end
section
variable {X:Cx} {CX:CXT} {pins:List (Addr × Obj)} {σ:St} {H:Hp} {s:Shared} {k:Nat} {f:Addr} {fd:FuncData} {ps:List Str} {sp:Sp}
end
end L2
namespace L2
open PySem PySem.Spec PyProof.Rows
section
variable {X:Cx} {CX:CXT} {pins:List (Addr × Obj)} {σ:St} {H:Hp} {s:Shared} {k:Nat} {f C a dx:Addr} {fd:FuncData} {ps:List Str} {sp:Sp} {fs:List (Str × V)} {m x:Str} {A:Around} {E:Value->Shared->Prop} {o e ke:Expr} {to te:TE} {t tk:TA} {pos p kpos:Pos}
def Xk:V->List V->Hp->VK->Prop:=fun x vs H Q=>∃ l b xs zs,x = .ref l/\vs = [.ref b]/\H l = some (.lst xs)/\H b = some (.lst zs)/\xs.length + zs.length <= sizeLine/\∀ H',Chg l H H'->H' l = some (.lst (xs ++ zs))->Q .non H'
end
theorem AaJ {X:Cx}:MtR X "list.extend" Xk:=fun pins s σ H x vs v us Q I rx rv ⟨l,b,xs,zs,e1,e2,h1,h2,hz,q⟩=>AbT pins s σ H x vs v us Q I rx rv ⟨l,b,xs,zs,e1,e2,h1,h2,hz,q _ Chg.put Bn⟩
end L2
namespace L2
open PySem PySem.Spec PyProof.Rows
end L2
namespace L2
open PySem PySem.Spec PyProof.Rows
section
variable {X:Cx} {elts:List Expr} {x1:Nat} {tp p pos:Pos}
end
end L2
namespace L2
open PySem PySem.Spec PyProof.Rows
end L2
namespace L2
open PySem PySem.Spec PyProof.Rows
section
variable {X:Cx} {e de:Expr} {t tk:TA} {pos p kpos:Pos}
end
end L2
set_option Elab.async false
set_option linter.all false
set_option maxRecDepth 100000
set_option maxHeartbeats 4000000
namespace L2
open PySem PySem.Spec PyProof.Rows
section
variable {prog:Program} {w:World} {A:Around} {E:Value->Shared->Prop} {s:Shared} {R:Result->Shared->Prop} {I:Addr} {fp wr:List Addr} {G:Array GenState->Array GenState->Prop} {n:Nat} {P:Nat->Value->Prop} {St:Nat->Shared->Prop}
end
section
variable {X:Cx} {p p2 pos pos2:Pos} {tg:Expr}
theorem AdP (hh:X.A.handled = none) (K':PySem.W.Frag) (h:X.K = K':=by rfl):Ga X (.builtin "all") (fun xs H Q=>∃ (p:Addr) (bs:List Bool),xs = [.ref p]/\SqL K' H p (bs.map V.bl)/\Q (.bl (bs.all id)) H):=by
 subst h
 intro pins s σ H xs us Q I r h
 obtain ⟨p,bs,rfl,hq,q⟩:=h
 obtain ⟨u,rfl,rx⟩:=Wr r
 cases rx
 obtain ⟨its,r',pl,hz⟩:=I.list hq
 have hlen:=r'.length
 rw [List.length_map] at hlen
 have hlt:p < s.heap.objs.size:=by obtain ⟨_,e,_⟩:=pl.isList; exact Heap.lt_size e
 refine call_all_walk (wpAny_pyIter_list pl.isList ?_)
 refine ⟨s.heap.objs.size,[s.heap.objs.size,p],[s.heap.objs.size],its.toArray.size,_,_,fun i=>(bs[i]?).getD true,rfl,Walks.list (A:=X.A.in1) hh _ p (Nat.ne_of_lt hlt) its.toArray,
  ⟨⟨_,Heap.get?_push_size _ rfl,rfl,rfl⟩,pl.isList.push _⟩,fun i v s' Q' E' hP hQ=>?_,fun h' tk hk=>?_⟩
 ·have hi:i < bs.length:=by
   have:i < its.length:=by
    have hP':its[i]? = some v:=by simpa using hP
    exact (List.getElem?_eq_some_iff.mp hP').1
   omega
  obtain ⟨u,hu,ru⟩:=r'.get (show (bs.map V.bl)[i]? = some (.bl bs[i]) by rw [List.getElem?_map,List.getElem?_eq_getElem hi]; rfl)
  have eu:u = v:=by
   have hP':its[i]? = some v:=by simpa using hP
   rw [hP'] at hu; exact (Option.some.inj hu).symm
  subst eu
  cases ru
  simp only [List.getElem?_eq_getElem hi,Option.getD_some] at hQ
  exact wpAny_truthy_bool hQ
 ·have e:((List.range its.toArray.size).all fun i=>(bs[i]?).getD true) = bs.all id:=by
   rw [Bool.eq_iff_iff,List.all_eq_true,List.all_eq_true]
   constructor
   ·intro h b hb
    obtain ⟨i,hi,rfl⟩:=List.getElem_of_mem hb
    have:=h i (by simp; omega)
    rw [List.getElem?_eq_getElem hi] at this
    exact this
   ·intro h i hi
    have hi':i < bs.length:=by simp at hi; omega
    rw [List.getElem?_eq_getElem hi']
    exact h _ (List.getElem_mem hi')
  rw [e]
  exact ⟨.bl (bs.all id),H,I.kept (t':=tk) (fun b o e=>hk b o (fun hm=>by rw [List.mem_singleton.mp hm] at e; exact Nat.lt_irrefl _ (Heap.lt_size e)) (Heap.get?_push_of_some _ e)),rfl,q⟩
end
end L2
set_option Elab.async false
set_option linter.all false
set_option maxRecDepth 100000
set_option maxHeartbeats 4000000
namespace L2
open PySem PySem.Spec PyProof.Rows
theorem AcB:bootBuiltins "zip" = some (.type "zip"):=by kernel_rfl
theorem Inv.turnedL {X:Cx} {pins:List (Addr × Obj)} {σ:St} {H:Hp} {s:Shared} {h':Heap} {t':Nat} {ch:List Addr} (I:Inv X pins σ H s) (k:∀ b o,b ∉ ch->s.heap.get? b = some o->h'.get? b = some o) (hf:∀ b ∈ ch,Sf X pins H b):Inv X pins σ H { s with heap:=h',toks:=t' }:=by
 have nit:∀ b u,H b = some u->b ∉ ch:=fun b u e z=>by rw [(hf b z).1] at e; cases e
 refine I.step (g':=s.gens) (d':=s.drawn) (ch:=ch) (fun b hb=>?_) (fun b o _ _ hc e _=>k b o hc e) (fun b o _ _ hc e _=>⟨o.slots,k b o hc e⟩) (fun _ _ _ _ n=>n)
  (fun b o hc e=>⟨o,k b o hc e⟩) (fun _ _ e=>e) (fun _ _ _ e=>e) (fun b ps e=>⟨#[],by rw [e]; simp⟩) (fun m hm=>?_) (fun b u e=>?_) I.bare
 ·obtain ⟨f0,f1,f2,f3,f4,f5⟩:=hf b hb
  exact ⟨f3,f1,f4,f5⟩
 ·obtain ⟨o,es,ep,ho,r⟩:=hm
  exact ⟨o,es,ep,k _ o (fun z=>(hf _ z).2.1 rfl) ho,r⟩
 ·refine (I.hok b u e).stay (fun c v hc q=>k c v ?_ q) (fun _ q=>q) fun _ _ q=>q
  rcases hc with z | z
  ·rw [z]; exact nit b u e
  ·exact nit c _ z
def Itz (K:PySem.W.Frag) (a b:Addr):It :=
 ⟨fun i H=>∃ xs x ys y,SqL K H a xs/\xs[i]? = some x/\SqL K H b ys/\ys[i]? = some y,
  fun i H v H'=>∃ t x y,H t = none/\(∀ xs,SqL K H a xs->xs[i]? = some x)/\(∀ ys,SqL K H b ys->ys[i]? = some y)/\v = .ref t/\H' = upd H t (.tup [x,y]),
  fun i H=>∃ xs ys,SqL K H a xs/\SqL K H b ys/\(xs.length <= i\/ys.length <= i)⟩
theorem Adt {P:Program} {w:World} {K:PySem.W.Frag} {elts:List Expr} {x1:Nat} {tp:Pos} (a b z TI TO i1 i2:Addr) (D:ZipApart z TI TO i1 i2 a b) :
  Uz P w K (.Tuple elts x1 tp) (Itz K a b) [z,TI,TO,i1,i2] z (fun i h=>IsZip h z TI TO .none/\IsPair h TI (.ref i1) (.ref i2)/\(∃ x y,IsPair h TO x y)/\h.IsListIter i1 a i/\h.IsListIter i2 b i) where
 mem:=by simp
 obj:=fun i h st c hc=>by
  obtain ⟨hz,hTI,⟨x,y,hTO⟩,⟨o1,e1,c1,d1⟩,⟨o2,e2,c2,d2⟩⟩:=st
  simp only [List.mem_cons,List.not_mem_nil,or_false] at hc
  rcases hc with rfl | rfl | rfl | rfl | rfl
  ·exact ⟨_,hz,fun v z=>nomatch z⟩
  ·exact ⟨_,hTI,fun v z=>nomatch z⟩
  ·exact ⟨_,hTO,fun v z=>nomatch z⟩
  ·exact ⟨o1,e1,fun v z=>by rw [d1] at z; cases z⟩
  ·exact ⟨o2,e2,fun v z=>by rw [d2] at z; cases z⟩
 keep:=fun i h h' st k=>by
  obtain ⟨hz,hTI,⟨x,y,hTO⟩,h1,h2⟩:=st
  exact ⟨k z (by simp) _ hz,k TI (by simp) _ hTI,⟨x,y,k TO (by simp) _ hTO⟩,h1.at fun o e=>k i1 (by simp) o e,h2.at fun o e=>k i2 (by simp) o e⟩
 item:=by
  intro X hP hw hK hc i pins s σ H E I hf st hg
  subst hP hw hK
  obtain ⟨xs,x,ys,y,hq,hx,hq2,hy⟩:=hg
  obtain ⟨hz,hTI,⟨oa,ob,hTO⟩,h1,h2⟩:=st
  obtain ⟨its,rv,p,hzz⟩:=I.list hq
  obtain ⟨its2,rv2,p2,hzz2⟩:=I.list hq2
  obtain ⟨u,hu,ru⟩:=rv.get hx
  obtain ⟨u2,hu2,ru2⟩:=rv2.get hy
  have hfr:H s.heap.objs.size = none:=I.hok.fresh (Nat.le_refl _)
  have lt:∀ c ∈ [z,TI,TO,i1,i2],s.heap.objs.size ≠ c:=fun c hc=>by
   simp only [List.mem_cons,List.not_mem_nil,or_false] at hc
   rcases hc with rfl | rfl | rfl | rfl | rfl
   ·exact Nat.ne_of_gt (Heap.lt_size hz)
   ·exact Nat.ne_of_gt (Heap.lt_size hTI)
   ·exact Nat.ne_of_gt (Heap.lt_size hTO)
   ·obtain ⟨_,e,_⟩:=h1; exact Nat.ne_of_gt (Heap.lt_size e)
   ·obtain ⟨_,e,_⟩:=h2; exact Nat.ne_of_gt (Heap.lt_size e)
  refine wpAny_pyNext_zip_item D hz hTI hTO h1 h2 p.isList p2.isList (x:=u) (y:=u2) (by simpa using hu) (by simpa using hu2) fun h' a1 a2 a3 a4 a5 a6 hk=>⟨_,rfl,?_⟩
  refine wpAny_letOwnedTupleGo_zip (s:={ s with heap:=h' }) a1 fun h2' hz2 hs=>?_
  have kp:∀ c o,c ∉ [z,TI,TO,i1,i2]->s.heap.get? c = some o->h2'.get? c = some o:=fun c o hc q=>by
   simp only [List.mem_cons,List.not_mem_nil,or_false,not_or] at hc
   exact (hs.2 c hc.1).trans (hk c o hc.1 hc.2.2.1 hc.2.2.2.1 hc.2.2.2.2 q)
  have hT2:h2'.get? s.heap.objs.size = some { cls:=.type "tuple",data:=.seq #[u,u2] }:=(hs.2 _ (lt z (by simp))).trans a5
  have nt:∀ b v,H b = some v->b ≠ s.heap.objs.size:=fun b v q=>Bq q hfr
  have nit:∀ b v,H b = some v->b ∉ [z,TI,TO,i1,i2]:=fun b v q hb=>by rw [(hf b hb).1] at q; cases q
  refine ⟨.ref s.heap.objs.size,upd H s.heap.objs.size (.tup [x,y]),?_,rfl,⟨_,x,y,hfr,(fun zs hy=>by rw [I.list_inj hy hq]; exact hx),(fun zs hz=>by rw [I.list_inj hz hq2]; exact hy),rfl,rfl⟩,
   ⟨hz2,(hs.2 TI D.TIz).trans (hk TI _ D.TIz D.TITO D.TIi1 D.TIi2 hTI),⟨_,_,(hs.2 TO D.TOz).trans a2⟩,a3.at fun o q=>(hs.2 i1 D.i1z).trans q,a4.at fun o q=>(hs.2 i2 D.i2z).trans q⟩,fun c hc=>?_⟩
  ·refine Inv.step (s:=s) (h':=h2') I (g':=s.gens) (d':=s.drawn) (t':=s.toks) (ch:=[z,TI,TO,i1,i2]) (fun b hb=>?_) (fun b o _ _ hc q _=>kp b o hc q) (fun b o _ _ hc q _=>⟨o.slots,kp b o hc q⟩)
    (fun b o hc q n=>by rw [Bg (Nat.ne_of_lt (Heap.lt_size q))]; exact n) (fun b o hc q=>⟨o,kp b o hc q⟩) (fun b xs q=>by rw [Bg (nt b _ q)]; exact q) (fun b o v q=>by rw [Bg (nt b _ q)]; exact q)
    (fun b ps q=>⟨#[],by rw [Bg (nt b _ q),q]; simp⟩) (fun m hm=>?_) (fun b v q=>?_) I.bare
   ·obtain ⟨f0,f1,f2,f3,f4,f5⟩:=hf b hb
    exact ⟨f3,f1,f4,f5⟩
   ·obtain ⟨o,es,ep,ho,r⟩:=hm
    exact ⟨o,es,ep,kp _ o (fun z=>(hf _ z).2.1 rfl) ho,r⟩
   ·by_cases hb:b = s.heap.objs.size
    ·subst hb
     rw [Bn] at q
     cases q
     exact ⟨by show 2 <= sizeLine; decide,[u,u2],.cons ru (.cons ru2 .nil),_,hT2,rfl,_,rfl⟩
    ·rw [Bg hb] at q
     refine (I.hok b v q).stay (fun c v' hc q'=>?_) (fun c q'=>by rw [Bg (nt c _ q')]; exact q') fun c xs q'=>by rw [Bg (nt c _ q')]; exact q'
     rcases hc with z | z
     ·rw [z] at q' ⊢; exact kp b v' (nit b _ q) q'
     ·exact kp c v' (nit c _ z) q'
  ·rw [Bg (Ne.symm (lt c hc))]; exact (hf c hc).1
 done:=by
  intro X hP hw hK hc i pins s σ H E I hf st hg
  subst hP hw hK
  obtain ⟨xs,ys,hq,hq2,he⟩:=hg
  obtain ⟨hz,hTI,⟨oa,ob,hTO⟩,h1,h2⟩:=st
  obtain ⟨its,rv,p,hzz⟩:=I.list hq
  obtain ⟨its2,rv2,p2,hzz2⟩:=I.list hq2
  have hl:=rv.length
  have hl2:=rv2.length
  refine wpAny_pyNext_zip_end (I.ok.hd hc) D hz hTI hTO h1 h2 p.isList p2.isList (he.imp (fun h=>by simp; omega) (fun h=>by simp; omega)) fun h' hk=>⟨rfl,I.turnedL (t':=s.toks) (ch:=[z,TI,TO,i1,i2]) (fun c o hc q=>?_) hf⟩
  simp only [List.mem_cons,List.not_mem_nil,or_false,not_or] at hc
  exact hk c o hc.1 hc.2.2.1 hc.2.2.2.1 hc.2.2.2.2 q
 self:=fun A i s Q E st h=>wpAny_pyIter_zip st.1 h
theorem Zc {n a b:Nat} (la:a < n) (lb:b < n):ZipApart (n + 4) (n + 2) (n + 3) n (n + 1) a b:=by
 constructor <;> (intro h; have h':@Eq Nat _ _:=h; omega)
section
variable {X:Cx} {elts:List Expr} {x1:Nat} {tp p pos:Pos}
def AdI (K:PySem.W.Frag) (ta tb:TE):TI:=fun σ H R=>ta σ H fun x H1=>tb σ H1 fun y H2=>∃ a b,x = .ref a/\y = .ref b/\(∃ xs,SqL K H2 a xs)/\(∃ ys,SqL K H2 b ys)/\R (Itz K a b) H2
theorem Ail {l m:Expr} {tl tm:TE} (hl:PE X l tl) (hm':PE X m tm) (hg:Gl X "zip") (hm:X.mg "zip" = none) (hs:starEach [l,m] X.env = [(false,eval l X.env),(false,eval m X.env)]:=by rfl) (hs2:starEach [m] X.env = [(false,eval m X.env)]:=by rfl):PI X (.Tuple elts x1 tp) (.Call (.Name "zip" p) [l,m] [] pos) (AdI X.K tl tm):=by
 intro pins s σ H R I h
 have pa:PA X [l,m] (Gm tl (Gm tm Us)):=Ba hl (Ba hm' Be hs2) (by rw [hs,hs2])
 refine Call_ (Oq I hg hm AcB (PyProof.Rows.callWith_type1 (thn (pa pos pins s σ H (fun vs H1=>match vs with
  | [x,y]=>∃ a b,x = .ref a/\y = .ref b/\(∃ xs,SqL X.K H1 a xs)/\(∃ ys,SqL X.K H1 b ys)/\R (Itz X.K a b) H1
  | _=>False) I h) fun us s1 ⟨vs,H1,I1,r1,q1⟩=>?_) (by rw [hs,hs2]) (by rw [hs2]; rfl)))
 match vs,q1 with
 | [x,y],⟨a,b,e1,e2,⟨xs,hq⟩,⟨ys,hq2⟩,q⟩ =>
  subst e1 e2
  cases r1 with
  | cons r rr =>
   cases rr with
   | cons r' rr =>
    cases rr
    cases r
    cases r'
    obtain ⟨its,rv,pl,hz⟩:=I1.list hq
    obtain ⟨its2,rv2,pl2,hz2⟩:=I1.list hq2
    have la:a < s1.heap.objs.size:=by obtain ⟨o,e,_⟩:=pl.isList; exact Heap.lt_size e
    have lb:b < s1.heap.objs.size:=by obtain ⟨o,e,_⟩:=pl2.isList; exact Heap.lt_size e
    have D:=Zc la lb
    refine call_zip_2 pl.isList pl2.isList fun h' z1 z2 z3 z4 z5 z6 hk=>?_
    have I2:Inv X pins σ H1 { s1 with heap:=h' }:=I1.kept (t':=s1.toks) hk
    refine wpAny_pyIter_zip (s:={ s1 with heap:=h' }) z1 ⟨_,[s1.heap.objs.size + 4,s1.heap.objs.size + 2,s1.heap.objs.size + 3,s1.heap.objs.size,s1.heap.objs.size + 1],_,_,H1,rfl,I2,Adt a b _ _ _ _ _ D,⟨z1,z2,⟨_,_,z3⟩,z4,z5⟩,fun c hc=>?_,q⟩
    have hge:s1.heap.objs.size <= c:=by
     simp only [List.mem_cons,List.not_mem_nil,or_false] at hc
     rcases hc with rfl | rfl | rfl | rfl | rfl
     ·exact Nat.le_add_right _ _
     ·exact Nat.le_add_right _ _
     ·exact Nat.le_add_right _ _
     ·exact Nat.le_refl _
     ·exact Nat.le_add_right _ _
    exact I1.fpOk hge (I1.hok.fresh hge)
theorem AgC (K':PySem.W.Frag) {l m:Expr} {tl tm:TE} (hl:PE X l tl) (hm':PE X m tm) (hg:Gl X "zip") (hm:X.mg "zip" = none) (hK:X.K = K':=by rfl) (hs:starEach [l,m] X.env = [(false,eval l X.env),(false,eval m X.env)]:=by rfl) (hs2:starEach [m] X.env = [(false,eval m X.env)]:=by rfl):PI X (.Tuple elts x1 tp) (.Call (.Name "zip" p) [l,m] [] pos) (AdI K' tl tm):=by
 subst hK
 exact Ail hl hm' hg hm hs hs2
theorem Af6 {K:PySem.W.Frag} {a b:Addr} {xs ys:List V} {g:TG} {tb:TS} {D:Ends} {σ:St} {H:Hp} (Pv:Nat->St->Hp->Prop) (h0:Pv 0 σ H) (hl:∀ i σ H,Pv i σ H->SqL K H a xs/\SqL K H b ys)
  (hs:∀ i x y t σ H,xs[i]? = some x->ys[i]? = some y->H t = none->Pv i σ H->g (.ref t) σ (upd H t (.tup [x,y])) fun σ2 H2=>tb { D with nx:=Pv (i + 1),ct:=Pv (i + 1),bk:=D.nx } σ2 H2) (hd:∀ σ H,Pv (min xs.length ys.length) σ H->D.nx σ H) :
  ∃ W:Nat->Nat->St->Hp->Prop,(∃ m,W 0 m σ H)/\∀ i m σ H,W i m σ H ->
   ((Itz K a b).stop i H/\D.nx σ H)\/((Itz K a b).go i H/\∃ N:St->Hp->Prop,(∀ σ' H',N σ' H'->∃ m',m' < m/\W (i + 1) m' σ' H')/\∀ x H',(Itz K a b).yld i H x H'->g x σ H' fun σ2 H2=>tb { D with nx:=N,ct:=N,bk:=D.nx } σ2 H2):=by
 refine ⟨fun i m σ H=>m = min xs.length ys.length - i/\i <= min xs.length ys.length/\Pv i σ H,⟨min xs.length ys.length,by simp,Nat.zero_le _,h0⟩,?_⟩
 rintro i m σ H ⟨rfl,hi,p⟩
 obtain ⟨q,q2⟩:=hl i σ H p
 by_cases hlt:i < min xs.length ys.length
 ·have h1:i < xs.length:=by omega
  have h2:i < ys.length:=by omega
  refine .inr ⟨⟨xs,xs[i],ys,ys[i],q,by simp [h1],q2,by simp [h2]⟩,Pv (i + 1),fun σ' H' p'=>⟨min xs.length ys.length - (i + 1),by omega,rfl,hlt,p'⟩,fun x H' y=>?_⟩
  obtain ⟨t,y,z,ht,hy,hz,rfl,rfl⟩:=y
  exact hs i y z t σ _ (hy xs q) (hz ys q2) ht p
 ·have e:i = min xs.length ys.length:=by omega
  subst e
  exact .inl ⟨⟨xs,ys,q,q2,by omega⟩,hd σ H p⟩
end
theorem Ad1 {X:Cx} {es':List Expr} {pos:Pos} {es:List Expr} {te:TE} {t:TA} (h:PE X (.List es' pos) te) (h2:PA X es t):PA X (.List es' pos :: es) (Gm te t):=Ba h h2 rfl
theorem Fj {X:Cx} {c:Const} {n:Nat} {pos:Pos} {es:List Expr} {te:TE} {t:TA} (h:PE X (.Constant c n pos) te) (h2:PA X es t):PA X (.Constant c n pos :: es) (Gm te t):=Ba h h2 rfl
section
variable {X:Cx}
end
theorem CP.dkeys {σ:St} {H:Hp} {Q:VK} {D a:Addr} {o:Obj} {kvs:List (Key × V)} {g:TG} {tc:TT} {te:TE} {k:Nat} {fr:List Nat} (Pv:Nat->Hp->Prop)
  (h0:Pv 0 H) (hl:∀ i H',Pv i H'->H' a = some (.frz o (.dK kvs)))
  (hs:∀ i kv H' (N:Hp->Prop),kvs[i]? = some kv->Pv i H'->(∀ H'',Pv (i + 1) H''->N H'')->g (kV kv.1) (compσ k fr σ) H' fun σ2 H2=>σ2.drop k = (compσ k fr σ).drop k/\tc σ2 H2 fun b H3 =>
   if b = true then te σ2 H3 (fun y H4=>∃ ys,H4 D = some (.lst ys)/\ys.length < sizeLine/\N (upd H4 D (.lst (ys ++ [y])))) else N H3)
  (hd:∀ H',Pv kvs.length H'->Q (.ref D) H'):CP (Itd a o kvs) D g tc te k fr σ H Q:=by
 refine ⟨fun i m H=>m = kvs.length - i/\i <= kvs.length/\Pv i H,⟨kvs.length,by simp,Nat.zero_le _,h0⟩,?_⟩
 rintro i m H ⟨rfl,hi,p⟩
 have q:=hl i H p
 by_cases hlt:i < kvs.length
 ·refine .inr ⟨⟨q,hlt⟩,fun x H' y=>?_⟩
  obtain ⟨rfl,kv,hy,rfl⟩:=y
  exact hs i kv H' (fun H''=>∃ m',m' < kvs.length - i/\m' = kvs.length - (i + 1)/\i + 1 <= kvs.length/\Pv (i + 1) H'') hy p fun H'' p''=>⟨kvs.length - (i + 1),by omega,rfl,hlt,p''⟩
 ·have e:i = kvs.length:=by omega
  subst e
  exact .inl ⟨⟨q,Nat.le_refl _⟩,hd H p⟩
end L2
set_option Elab.async false
set_option linter.all false
set_option maxRecDepth 100000
set_option maxHeartbeats 4000000
namespace My
open PySem L2
def top (i:Nat):Stmt:=PySem.Challenge.pw_bothhands_k74_parts.main.body.getD i (.Pass ⟨0,0,0,0⟩)
abbrev Lv:Stmt:=top 39
theorem sc_qbd:Ca ["_law_cell","_law_by","_law_low","_law_step"] ["_law_cell"] (Bc Lv):=⟨rfl,rfl,rfl,by decide +kernel,rfl,by decide +kernel,by decide +kernel⟩
abbrev Lr:Stmt:=top 40
theorem sc_qbk:Ca ["_law_cell","_law_more","_law_signs_here","_law_words_here","_law_told_here","_law_k","_law_word","_law_rank"] ["_law_cell","_law_more","_law_signs_here"] (Bc Lr):=⟨rfl,rfl,rfl,by decide +kernel,rfl,by decide +kernel,by decide +kernel⟩
abbrev Qm:Stmt:=top 41
theorem sc_qz:Ca ["_law_cell","_law_told_here","_law_signs_here","_law_words_here","_law_sign","_law_word","_law_rank","_law_marks","_law_bases","_law_joins_here","_law_held","_law_k","_law_base","_law_mark"] ["_law_cell","_law_told_here","_law_signs_here"] (Bc Qm):=⟨rfl,rfl,rfl,by decide +kernel,rfl,by decide +kernel,by decide +kernel⟩
abbrev Rc:Stmt:=top 37
theorem AjX:Ca ["_law_script","_law_k"] ["_law_script","_law_k"] (Bc Rc):=⟨rfl,rfl,rfl,by decide +kernel,rfl,by decide +kernel,by decide +kernel⟩
abbrev Lp:Stmt:=top 42
theorem sc_qbb:Ca ["_law_script","_law_cell","_law_signs_here","_law_told_here","_law_joins_here","_law_mates"] ["_law_script"] (Bc Lp):=⟨rfl,rfl,rfl,by decide +kernel,rfl,by decide +kernel,by decide +kernel⟩
abbrev Nb:Stmt:=top 43
theorem sc_qbf:Ca ["_law_lists_here","_law_words_here","_law_sign","_law_word","_law_rank","_law_one","_law_other"] ["_law_lists_here"] (Bc Nb):=⟨rfl,rfl,rfl,by decide +kernel,rfl,by decide +kernel,by decide +kernel⟩
abbrev Oz:Stmt:=top 22
theorem Akg:Ca ["held","words"] ["held","words"] (Bc Oz):=⟨rfl,rfl,rfl,by decide +kernel,rfl,by decide +kernel,by decide +kernel⟩
abbrev Qr:Stmt:=top 23
theorem sc_qc:Ca ["rows","length","row"] ["rows","length"] (Bc Qr):=⟨rfl,rfl,rfl,by decide +kernel,rfl,by decide +kernel,by decide +kernel⟩
abbrev Qs:Stmt:=top 9
theorem AjF:Ca ["thing"] ["thing"] (Bc Qs):=⟨rfl,rfl,rfl,by decide +kernel,rfl,by decide +kernel,by decide +kernel⟩
abbrev Lx:Stmt:=top 10
theorem Aii:Ca ["thing"] ["thing"] (Bc Lx):=⟨rfl,rfl,rfl,by decide +kernel,rfl,by decide +kernel,by decide +kernel⟩
abbrev Lw:Stmt:=top 27
theorem Aht:Ca ["kinds","sign","kind"] ["kinds","sign","kind"] (Bc Lw):=⟨rfl,rfl,rfl,by decide +kernel,rfl,by decide +kernel,by decide +kernel⟩
abbrev Qt:Stmt:=top 24
theorem Ajb:Ca ["thing"] ["thing"] (Bc Qt):=⟨rfl,rfl,rfl,by decide +kernel,rfl,by decide +kernel,by decide +kernel⟩
abbrev Ra:Stmt:=top 25
theorem Ajv:Ca ["kind","thing"] ["kind","thing"] (Bc Ra):=⟨rfl,rfl,rfl,by decide +kernel,rfl,by decide +kernel,by decide +kernel⟩
abbrev Qd:Stmt:=top 28
theorem sc_qo:Ca ["signs","mates","kinds","sign","kind","rank","first","second"] ["signs","mates"] (Bc Qd):=⟨rfl,rfl,rfl,by decide +kernel,rfl,by decide +kernel,by decide +kernel⟩
abbrev Ql:Stmt:=top 29
theorem sc_qs:Ca ["signs","ranks","sign","kind","rank"] ["signs"] (Bc Ql):=⟨rfl,rfl,rfl,by decide +kernel,rfl,by decide +kernel,by decide +kernel⟩
abbrev Qb:Stmt:=top 30
theorem sc_qx:Ca ["mates","found","first","second"] ["mates"] (Bc Qb):=⟨rfl,rfl,rfl,by decide +kernel,rfl,by decide +kernel,by decide +kernel⟩
abbrev Re:Stmt:=top 26
theorem AjJ:Ca ["kinds","sign"] ["kinds","sign"] (Bc Re):=⟨rfl,rfl,rfl,by decide +kernel,rfl,by decide +kernel,by decide +kernel⟩
abbrev Qx:Stmt:=top 31
theorem sc_qk:Ca ["kinds","whole","base","mark","kind"] ["kinds","whole","base","mark"] (Bc Qx):=⟨rfl,rfl,rfl,by decide +kernel,rfl,by decide +kernel,by decide +kernel⟩
abbrev Qp:Stmt:=top 32
theorem sc_qd:Ca ["pairs","whole","sign","going"] ["pairs","whole"] (Bc Qp):=⟨rfl,rfl,rfl,by decide +kernel,rfl,by decide +kernel,by decide +kernel⟩
abbrev Qw:Stmt:=top 33
theorem sc_qr:Ca ["kinds","joins","pairs","whole","base","mark"] ["kinds","joins"] (Bc Qw):=⟨rfl,rfl,rfl,by decide +kernel,rfl,by decide +kernel,by decide +kernel⟩
abbrev Ov:Stmt:=top 34
theorem sc_qi:Ca ["pairs","wholes","whole","pair"] ["pairs"] (Bc Ov):=⟨rfl,rfl,rfl,by decide +kernel,rfl,by decide +kernel,by decide +kernel⟩
abbrev Qv:Stmt:=Aap (top 35) 0
theorem Aje:Ca ["self","signs","mates","joins"] ["self","signs","mates","joins"] (Bc Qv):=⟨rfl,rfl,rfl,by decide +kernel,rfl,by decide +kernel,by decide +kernel⟩
abbrev Na:Stmt:=top 46
theorem sc_qbj:Ca ["_law_groups_here","_law_cells","_law_found","_law_cell","_law_group"] ["_law_groups_here","_law_cells"] (Bc Na):=⟨rfl,rfl,rfl,by decide +kernel,rfl,by decide +kernel,by decide +kernel⟩
abbrev Rr:Stmt:=top 47
theorem sc_qq:Ca ["_law_words_here","_law_signs_here","_law_found","_law_sign"] ["_law_words_here","_law_signs_here"] (Bc Rr):=⟨rfl,rfl,rfl,by decide +kernel,rfl,by decide +kernel,by decide +kernel⟩
abbrev Qy:Stmt:=Aap (top 35) 1
theorem Ajq:Ca ["self","sign"] ["self","sign"] (Bc Qy):=⟨rfl,rfl,rfl,by decide +kernel,rfl,by decide +kernel,by decide +kernel⟩
abbrev Ln:Stmt:=top 14
theorem sc_qbg:Ca ["book","text","wholes","sign"] ["book","text"] (Bc Ln):=⟨rfl,rfl,rfl,by decide +kernel,rfl,by decide +kernel,by decide +kernel⟩
abbrev Rh:Stmt:=top 11
theorem Aj7:Ca ["thing","greatest"] ["thing","greatest"] (Bc Rh):=⟨rfl,rfl,rfl,by decide +kernel,rfl,by decide +kernel,by decide +kernel⟩
abbrev Rf:Stmt:=top 12
theorem Akb:Ca ["start","end","number"] ["start","end","number"] (Bc Rf):=⟨rfl,rfl,rfl,by decide +kernel,rfl,by decide +kernel,by decide +kernel⟩
abbrev Ly:Stmt:=top 15
theorem sc_qbl:Ca ["wholes","signs","whole"] ["wholes"] (Bc Ly):=⟨rfl,rfl,rfl,by decide +kernel,rfl,by decide +kernel,by decide +kernel⟩
abbrev Lz:Stmt:=top 17
theorem sc_qbn:Ca ["book","text","start","end","wholes"] ["book","text","start","end"] (Bc Lz):=⟨rfl,rfl,rfl,by decide +kernel,rfl,by decide +kernel,by decide +kernel⟩
abbrev Oy:Stmt:=top 49
theorem sc_qy:Ca ["_law_book","_law_text_here","_law_start","_law_end","_law_found","_law_good","e"] ["_law_book","_law_text_here","_law_start","_law_end"] (Bc Oy):=⟨rfl,rfl,rfl,by decide +kernel,rfl,by decide +kernel,by decide +kernel⟩
abbrev Qa:Stmt:=top 44
theorem sc_qp:Ca ["_law_lists_here","_law_words_here","_law_chosen","_law_groups_here","_law_word"] ["_law_lists_here","_law_words_here","_law_chosen"] (Bc Qa):=⟨rfl,rfl,rfl,by decide +kernel,rfl,by decide +kernel,by decide +kernel⟩
abbrev Lq:Stmt:=top 45
theorem sc_qbc:Ca ["_law_lists_here","_law_words_here","_law_groups_here"] ["_law_lists_here","_law_words_here"] (Bc Lq):=⟨rfl,rfl,rfl,by decide +kernel,rfl,by decide +kernel,by decide +kernel⟩
abbrev Lu:Stmt:=top 50
theorem sc_qbi:Ca ["_law_some","_law_found","_law_whole_here"] ["_law_some"] (Bc Lu):=⟨rfl,rfl,rfl,by decide +kernel,rfl,by decide +kernel,by decide +kernel⟩
abbrev Lo:Stmt:=top 38
theorem AgK:Ca ["_law_found"] ["_law_found"] (Bc Lo):=⟨rfl,rfl,rfl,by decide +kernel,rfl,by decide +kernel,by decide +kernel⟩
abbrev Gs:Stmt:=top 51
theorem sc_qbp:Ca ["_law_script","_law_lists_here","_law_words_here","_law_cell","_law_book","_law_text_here","_law_some","_law_start","_law_end","_law_handed","_law_found","_law_good","_law_cuts","_law_signs_here","_law_one","_law_other","_law_piece"] ["_law_script"] (Bc Gs):=⟨rfl,rfl,rfl,by decide +kernel,rfl,by decide +kernel,by decide +kernel⟩
structure Adr where
 f_qbd:Addr
 d_qbd:FuncData
 f_qbk:Addr
 d_qbk:FuncData
 f_qz:Addr
 d_qz:FuncData
 f_qh:Addr
 d_qh:FuncData
 f_qbb:Addr
 d_qbb:FuncData
 f_qbf:Addr
 d_qbf:FuncData
 f_qb:Addr
 d_qb:FuncData
 f_qc:Addr
 d_qc:FuncData
 f_qa:Addr
 d_qa:FuncData
 f_qbm:Addr
 d_qbm:FuncData
 f_qbh:Addr
 d_qbh:FuncData
 f_qf:Addr
 d_qf:FuncData
 f_qm:Addr
 d_qm:FuncData
 f_qo:Addr
 d_qo:FuncData
 f_qs:Addr
 d_qs:FuncData
 f_qx:Addr
 d_qx:FuncData
 f_qn:Addr
 d_qn:FuncData
 f_qk:Addr
 d_qk:FuncData
 f_qd:Addr
 d_qd:FuncData
 f_qr:Addr
 d_qr:FuncData
 f_qi:Addr
 d_qi:FuncData
 f_qt:Addr
 d_qt:FuncData
 f_qbj:Addr
 d_qbj:FuncData
 f_qq:Addr
 d_qq:FuncData
 f_qu:Addr
 d_qu:FuncData
 f_qbg:Addr
 d_qbg:FuncData
 f_qe:Addr
 d_qe:FuncData
 f_ql:Addr
 d_ql:FuncData
 f_qbl:Addr
 d_qbl:FuncData
 f_qbn:Addr
 d_qbn:FuncData
 f_qy:Addr
 d_qy:FuncData
 f_qp:Addr
 d_qp:FuncData
 f_qbc:Addr
 d_qbc:FuncData
 f_qbi:Addr
 d_qbi:FuncData
 f_qbe:Addr
 d_qbe:FuncData
 f_qbp:Addr
 d_qbp:FuncData
 C_Book:Addr
 a_JOINED_KINDS:Addr
 a_TOLD_KINDS:Addr
 C_HandsError:Addr
 C_NoBook:Addr
 C_NoPlace:Addr
 C_NoStep:Addr
 C_NoWhat:Addr
 C_NoWidth:Addr
structure Txt (K:PySem.W.Frag) (mg:Str->Option Value) (t:Adr):Prop where
 F_qbd:Fun K "_law_signs" "_law_signs" Lv t.f_qbd t.d_qbd
 m_qbd:mg "_law_signs" = some (.ref t.f_qbd)
 F_qbk:Fun K "_law_told" "_law_told" Lr t.f_qbk t.d_qbk
 m_qbk:mg "_law_told" = some (.ref t.f_qbk)
 F_qz:Fun K "_law_joins" "_law_joins" Qm t.f_qz t.d_qz
 m_qz:mg "_law_joins" = some (.ref t.f_qz)
 F_qh:Fun K "_law_cell_at" "_law_cell_at" Rc t.f_qh t.d_qh
 m_qh:mg "_law_cell_at" = some (.ref t.f_qh)
 F_qbb:Fun K "_law_lists" "_law_lists" Lp t.f_qbb t.d_qbb
 m_qbb:mg "_law_lists" = some (.ref t.f_qbb)
 F_qbf:Fun K "_law_words" "_law_words" Nb t.f_qbf t.d_qbf
 m_qbf:mg "_law_words" = some (.ref t.f_qbf)
 F_qb:Fun K "refuse_unless" "refuse_unless" Oz t.f_qb t.d_qb
 m_qb:mg "refuse_unless" = some (.ref t.f_qb)
 F_qc:Fun K "check_tuples" "check_tuples" Qr t.f_qc t.d_qc
 m_qc:mg "check_tuples" = some (.ref t.f_qc)
 F_qa:Fun K "is_whole_number" "is_whole_number" Qs t.f_qa t.d_qa
 m_qa:mg "is_whole_number" = some (.ref t.f_qa)
 F_qbm:Fun K "is_sign" "is_sign" Lx t.f_qbm t.d_qbm
 m_qbm:mg "is_sign" = some (.ref t.f_qbm)
 F_qbh:Fun K "add_kind" "add_kind" Lw t.f_qbh t.d_qbh
 m_qbh:mg "add_kind" = some (.ref t.f_qbh)
 F_qf:Fun K "is_told_kind" "is_told_kind" Qt t.f_qf t.d_qf
 m_qf:mg "is_told_kind" = some (.ref t.f_qf)
 F_qm:Fun K "is_rank_of" "is_rank_of" Ra t.f_qm t.d_qm
 m_qm:mg "is_rank_of" = some (.ref t.f_qm)
 F_qo:Fun K "kinds_told" "kinds_told" Qd t.f_qo t.d_qo
 m_qo:mg "kinds_told" = some (.ref t.f_qo)
 F_qs:Fun K "ranks_told" "ranks_told" Ql t.f_qs t.d_qs
 m_qs:mg "ranks_told" = some (.ref t.f_qs)
 F_qx:Fun K "both_ways" "both_ways" Qb t.f_qx t.d_qx
 m_qx:mg "both_ways" = some (.ref t.f_qx)
 F_qn:Fun K "kind_among" "kind_among" Re t.f_qn t.d_qn
 m_qn:mg "kind_among" = some (.ref t.f_qn)
 F_qk:Fun K "check_join" "check_join" Qx t.f_qk t.d_qk
 m_qk:mg "check_join" = some (.ref t.f_qk)
 F_qd:Fun K "ends_in_time" "ends_in_time" Qp t.f_qd t.d_qd
 m_qd:mg "ends_in_time" = some (.ref t.f_qd)
 F_qr:Fun K "pairs_told" "pairs_told" Qw t.f_qr t.d_qr
 m_qr:mg "pairs_told" = some (.ref t.f_qr)
 F_qi:Fun K "wholes_told" "wholes_told" Ov t.f_qi t.d_qi
 m_qi:mg "wholes_told" = some (.ref t.f_qi)
 F_qt:Fun K "__init__" "Book.__init__" Qv t.f_qt t.d_qt
 F_qbj:Fun K "_law_text" "_law_text" Na t.f_qbj t.d_qbj
 m_qbj:mg "_law_text" = some (.ref t.f_qbj)
 F_qq:Fun K "_law_wholes" "_law_wholes" Rr t.f_qq t.d_qq
 m_qq:mg "_law_wholes" = some (.ref t.f_qq)
 F_qu:Fun K "kind" "Book.kind" Qy t.f_qu t.d_qu
 M_qu:Adx K t.C_Book "kind" t.f_qu
 F_qbg:Fun K "wholes_of" "wholes_of" Ln t.f_qbg t.d_qbg
 m_qbg:mg "wholes_of" = some (.ref t.f_qbg)
 F_qe:Fun K "is_number_to" "is_number_to" Rh t.f_qe t.d_qe
 m_qe:mg "is_number_to" = some (.ref t.f_qe)
 F_ql:Fun K "check_span" "check_span" Rf t.f_ql t.d_ql
 m_ql:mg "check_span" = some (.ref t.f_ql)
 F_qbl:Fun K "signs_of" "signs_of" Ly t.f_qbl t.d_qbl
 m_qbl:mg "signs_of" = some (.ref t.f_qbl)
 F_qbn:Fun K "part_of" "part_of" Lz t.f_qbn t.d_qbn
 m_qbn:mg "part_of" = some (.ref t.f_qbn)
 F_qy:Fun K "_law_asked" "_law_asked" Oy t.f_qy t.d_qy
 m_qy:mg "_law_asked" = some (.ref t.f_qy)
 F_qp:Fun K "_law_groups" "_law_groups" Qa t.f_qp t.d_qp
 m_qp:mg "_law_groups" = some (.ref t.f_qp)
 F_qbc:Fun K "_law_marky" "_law_marky" Lq t.f_qbc t.d_qbc
 m_qbc:mg "_law_marky" = some (.ref t.f_qbc)
 F_qbi:Fun K "_law_flat" "_law_flat" Lu t.f_qbi t.d_qbi
 m_qbi:mg "_law_flat" = some (.ref t.f_qbi)
 F_qbe:Fun K "_law_whole" "_law_whole" Lo t.f_qbe t.d_qbe
 m_qbe:mg "_law_whole" = some (.ref t.f_qbe)
 F_qbp:Fun K "law" "law" Gs t.f_qbp t.d_qbp
 m_qbp:mg "law" = some (.ref t.f_qbp)
 m_Book:mg "Book" = some (.ref t.C_Book)
 cl_Book:Cls K t.C_Book
 K_Book:Mk K t.C_Book t.f_qt
 n_Book_kinds:NoAttr K t.C_Book "kinds"
 n_Book_ranks:NoAttr K t.C_Book "ranks"
 n_Book_mates:NoAttr K t.C_Book "mates"
 n_Book_pairs:NoAttr K t.C_Book "pairs"
 n_Book_wholes:NoAttr K t.C_Book "wholes"
 m_HandsError:mg "HandsError" = some (.ref t.C_HandsError)
 x_HandsError:PySem.W.excIn K t.C_HandsError [.type "ValueError",.type "Exception",.type "BaseException",.type "object"] "ValueError.__new__" = true
 m_NoBook:mg "NoBook" = some (.ref t.C_NoBook)
 x_NoBook:PySem.W.excIn K t.C_NoBook [.type "ValueError",.type "Exception",.type "BaseException",.type "object"] "ValueError.__new__" = true
 m_NoPlace:mg "NoPlace" = some (.ref t.C_NoPlace)
 x_NoPlace:PySem.W.excIn K t.C_NoPlace [.type "ValueError",.type "Exception",.type "BaseException",.type "object"] "ValueError.__new__" = true
 m_NoStep:mg "NoStep" = some (.ref t.C_NoStep)
 x_NoStep:PySem.W.excIn K t.C_NoStep [.type "ValueError",.type "Exception",.type "BaseException",.type "object"] "ValueError.__new__" = true
 m_NoWhat:mg "NoWhat" = some (.ref t.C_NoWhat)
 x_NoWhat:PySem.W.excIn K t.C_NoWhat [.type "ValueError",.type "Exception",.type "BaseException",.type "object"] "ValueError.__new__" = true
 m_NoWidth:mg "NoWidth" = some (.ref t.C_NoWidth)
 x_NoWidth:PySem.W.excIn K t.C_NoWidth [.type "ValueError",.type "Exception",.type "BaseException",.type "object"] "ValueError.__new__" = true
 r_NoPlace_HandsError:PySem.W.mroIn K t.C_NoPlace (.ref t.C_HandsError) = some true
 N_NoPlace:Jb K t.C_NoPlace
 i_NoPlace_NoPlace:PySem.W.kitOne K (.ref t.C_NoPlace) (.ref t.C_NoPlace) = some true
 i_NoPlace_ValueError:PySem.W.kitOne K (.ref t.C_NoPlace) (.type "ValueError") = some true
 i_NoPlace_NoBook:PySem.W.kitOne K (.ref t.C_NoPlace) (.ref t.C_NoBook) = some false
 i_NoPlace_NoStep:PySem.W.kitOne K (.ref t.C_NoPlace) (.ref t.C_NoStep) = some false
 i_NoPlace_NoWhat:PySem.W.kitOne K (.ref t.C_NoPlace) (.ref t.C_NoWhat) = some false
 i_NoPlace_NoWidth:PySem.W.kitOne K (.ref t.C_NoPlace) (.ref t.C_NoWidth) = some false
 z_ValueError:mg "ValueError" = none
 z_all:mg "all" = none
 z_bool:mg "bool" = none
 z_int:mg "int" = none
 z_isinstance:mg "isinstance" = none
 z_len:mg "len" = none
 z_list:mg "list" = none
 z_range:mg "range" = none
 z_sorted:mg "sorted" = none
 z_str:mg "str" = none
 z_tuple:mg "tuple" = none
 z_zip:mg "zip" = none
 g_JOINED_KINDS:mg "JOINED_KINDS" = some (.ref t.a_JOINED_KINDS)
 q_JOINED_KINDS:∀ H,SqT K H t.a_JOINED_KINDS [.str "fore",.str "back",.str "num",.str "blank",.str "plain"]
 g_MOST_GOINGS:∃ u,mg "MOST_GOINGS" = some u/\RelV (.int 7) u
 g_TOLD_KINDS:mg "TOLD_KINDS" = some (.ref t.a_TOLD_KINDS)
 q_TOLD_KINDS:∀ H,SqT K H t.a_TOLD_KINDS [.str "fore",.str "back",.str "num",.str "blank",.str "mark",.str "forein",.str "backin",.str "out"]
abbrev Sg:=Int × Str × Int
def toldK:List Str:=["fore","back","num","blank","mark","forein","backin","out"]
def Lg (k:Str) (r:Int):Prop:=(k = "mark"/\1 <= r)\/(¬ k = "mark"/\r = 0)
def TripAt (H:Hp) (x:V) (s:Sg):Prop:=∃ p,x = .ref p/\H p = some (.tup [.int s.1,.str s.2.1,.int s.2.2])
def PairAt (H:Hp) (x:V) (m:Int × Int):Prop:=∃ p,x = .ref p/\H p = some (.tup [.int m.1,.int m.2])
def LAt {β α:Type} (R:Hp->β->α->Prop) (H:Hp) (xs:List β) (ys:List α):Prop:=xs.length = ys.length/\∀ (i:Nat) (x:β) (y:α),xs[i]? = some x->ys[i]? = some y->R H x y
theorem LAt.get {β α:Type} {R:Hp->β->α->Prop} {H:Hp} {xs:List β} {ys:List α} (h:LAt R H xs ys) {i:Nat} {x:β} (e:xs[i]? = some x):∃ y,ys[i]? = some y/\R H x y:=by
 have hi:i < xs.length:=(List.getElem?_eq_some_iff.mp e).1
 have hy:i < ys.length:=by rw [<- h.1]; exact hi
 exact ⟨ys[i],List.getElem?_eq_getElem hy,h.2 i x _ e (List.getElem?_eq_getElem hy)⟩
theorem LAt.mono {β α:Type} {R R':Hp->β->α->Prop} {H H':Hp} {xs:List β} {ys:List α} (h:LAt R H xs ys) (m:∀ x y,R H x y->R' H' x y):LAt R' H' xs ys:=⟨h.1,fun i x y e1 e2=>m x y (h.2 i x y e1 e2)⟩
theorem LAt.snoc {β α:Type} {R:Hp->β->α->Prop} {H:Hp} {xs:List β} {ys:List α} {x:β} {y:α} (h:LAt R H xs ys) (r:R H x y):LAt R H (xs ++ [x]) (ys ++ [y]):=by
 refine ⟨by simp [h.1],fun i u v e1 e2=>?_⟩
 by_cases hi:i < xs.length
 ·rw [List.getElem?_append_left hi] at e1
  rw [List.getElem?_append_left (by rw [<- h.1]; exact hi)] at e2
  exact h.2 i u v e1 e2
 ·rw [List.getElem?_append_right (by omega)] at e1
  rw [List.getElem?_append_right (by rw [<- h.1]; omega),<- h.1] at e2
  have hz:i - xs.length = 0:=by
   have:=(List.getElem?_eq_some_iff.mp e1).1
   simp at this; omega
  rw [hz] at e1 e2
  simp at e1 e2
  rw [<- e1,<- e2]; exact r
theorem LAt.nil {β α:Type} {R:Hp->β->α->Prop} {H:Hp}:LAt R H ([]:List β) ([]:List α):=⟨rfl,fun i x y e=>by simp at e⟩
structure Wi (s:Sg):Prop where
 nn:0 <= s.1
 kd:s.2.1 ∈ toldK
 rk:Lg s.2.1 s.2.2
def kK (signs:List Sg):List (Key × V):=signs.map fun s=>(.inl s.1,.str s.2.1)
def kR (signs:List Sg):List (Key × V):=signs.map fun s=>(.inl s.1,.int s.2.2)
def kM:List (Int × Int)->List (Key × V)
 | []=>[]
 | m :: r=>(.inl m.1,.str "open") :: (.inl m.2,.str "shut") :: kM r
def kB:List (Int × Int)->List (Key × V)
 | []=>[]
 | m :: r=>(.inl m.1,.int m.2) :: (.inl m.2,.int m.1) :: kB r
def Dv:List (Int × Int)->List Int
 | []=>[]
 | m :: r=>m.1 :: m.2 :: Dv r
theorem Tm (xs ys:List (Int × Int)):Dv (xs ++ ys) = Dv xs ++ Dv ys:=by
 induction xs with
 | nil=>rfl
 | cons x r ih=>simp [Dv,ih]
theorem Np (xs ys:List (Int × Int)):kM (xs ++ ys) = kM xs ++ kM ys:=by
 induction xs with
 | nil=>rfl
 | cons x r ih=>simp [kM,ih]
theorem Vm (xs ys:List (Int × Int)):kB (xs ++ ys) = kB xs ++ kB ys:=by
 induction xs with
 | nil=>rfl
 | cons x r ih=>simp [kB,ih]
theorem Aad (xs:List (Int × Int)):(kM xs).map (·.1) = (Dv xs).map Sum.inl:=by
 induction xs with
 | nil=>rfl
 | cons x r ih=>simp [kM,Dv,ih]
theorem AfQ (xs:List (Int × Int)):(kB xs).map (·.1) = (Dv xs).map Sum.inl:=by
 induction xs with
 | nil=>rfl
 | cons x r ih=>simp [kB,Dv,ih]
theorem AiS (xs:List (Int × Int)):(kM xs).length = 2 * xs.length:=by
 induction xs with
 | nil=>rfl
 | cons x r ih=>simp [kM,ih]; omega
theorem AhD (xs:List (Int × Int)):(kB xs).length = 2 * xs.length:=by
 induction xs with
 | nil=>rfl
 | cons x r ih=>simp [kB,ih]; omega
theorem Jj {kvs:List (Key × V)} {n:Int} (h:¬ (Sum.inl n:Key) ∈ kvs.map (·.1)):Ci kvs (Sum.inl n) = none:=by
 cases e:Ci kvs (Sum.inl n:Key) with
 | none=>rfl
 | some v=>exact absurd (Zr e) h
theorem Wy {kvs:List (Key × V)} (nd:(kvs.map (·.1)).Nodup) {k:Key} {v:V} (h:(k,v) ∈ kvs):Ci kvs k = some v:=by
 induction kvs with
 | nil=>cases h
 | cons p r ih =>
  have nd':(p.1 :: r.map (·.1)).Nodup:=nd
  obtain ⟨h1,h2⟩:=List.nodup_cons.mp nd'
  rcases List.mem_cons.mp h with e | e
  ·subst e; exact Js rfl
  ·have:¬ p.1 = k:=fun z=>h1 (by rw [z]; exact List.mem_map.mpr ⟨_,e,rfl⟩)
   rw [Jv this]; exact ih h2 e
theorem Nq {l:List Int} (h:l.Nodup):(l.map (Sum.inl:Int->Key)).Nodup:=by
 induction l with
 | nil=>exact List.nodup_nil
 | cons a r ih =>
  obtain ⟨h1,h2⟩:=List.nodup_cons.mp h
  refine List.nodup_cons.mpr ⟨fun m=>h1 ?_,ih h2⟩
  obtain ⟨b,hb,e⟩:=List.mem_map.mp m
  cases e; exact hb
theorem inl_mem {l:List Int} {n:Int}:(Sum.inl n:Key) ∈ l.map (Sum.inl:Int->Key) ↔ n ∈ l:=by
 constructor
 ·intro m; obtain ⟨b,hb,e⟩:=List.mem_map.mp m; cases e; exact hb
 ·intro m; exact List.mem_map.mpr ⟨n,m,rfl⟩
theorem Fu {n:Nat} (h:n <= 1000):n < sizeLine:=Nx h
theorem Cu {α:Type} {l:List α} {i:Nat} {x:α} (h:l[i]? = some x):l.take (i + 1) = l.take i ++ [x]:=by
 obtain ⟨hi,e⟩:=List.getElem?_eq_some_iff.mp h
 rw [List.take_add_one,List.getElem?_eq_getElem hi,e]
 rfl
theorem Same.new {d:Addr} {H:Hp} {o:HO} (h:H d = none):Same H (upd H d o):=fun q u e=>by rw [Bg (Bq e h)]; exact e
theorem TripAt.mono {H H':Hp} {x:V} {s:Sg} (h:TripAt H x s) (k:∀ q xs,H q = some (.tup xs)->H' q = some (.tup xs)):TripAt H' x s:=by
 obtain ⟨p,e,hp⟩:=h
 exact ⟨p,e,k p _ hp⟩
theorem PairAt.mono {H H':Hp} {x:V} {s:Int × Int} (h:PairAt H x s) (k:∀ q xs,H q = some (.tup xs)->H' q = some (.tup xs)):PairAt H' x s:=by
 obtain ⟨p,e,hp⟩:=h
 exact ⟨p,e,k p _ hp⟩
theorem Cg {CX:CXT} {P:Program} {w:World} {K:PySem.W.Frag} {mg:Str->Option Value} {base:Heap} {N:List Str} {qual:Str} {sc:Scope} {f:Addr} {cd:Value} {A:Around} {outer:List Env} {s:Shared} {H:Hp} {E:XK}:(Jh CX P w K mg base N qual sc f cd A outer s H E).K = K:=rfl
section
variable {σ:St} {H:Hp} {Q:VK} {K:PySem.W.Frag} {a d:Addr} {n:Int}
theorem Abg {A B:Prop} (h:B):if (!true) = true then A else B:=Qo h
theorem Aa1 {A B:Prop} (h:A):if (!false) = true then A else B:=Ny h
theorem Ade {P:Bool->Prop} (q:P true):∃ x m t b,[V.int n,V.ty "int"] = [x,V.ty m]/\Fi K H x t/\PySem.W.kitOne K t (.type m) = some b/\P b:=⟨_,_,_,_,rfl,.int n,Ze,q⟩
theorem AbA {P:Bool->Prop} (q:P false):∃ x m t b,[V.int n,V.ty "bool"] = [x,V.ty m]/\Fi K H x t/\PySem.W.kitOne K t (.type m) = some b/\P b:=⟨_,_,_,_,rfl,.int n,Xy,q⟩
theorem AdW {z:Str} {P:Bool->Prop} (q:P true):∃ x m t b,[V.str z,V.ty "str"] = [x,V.ty m]/\Fi K H x t/\PySem.W.kitOne K t (.type m) = some b/\P b:=⟨_,_,_,_,rfl,.str z,Yy,q⟩
theorem AhI {xs:List V} (h:H a = some (.lst xs)) {P:Bool->Prop} (q:P true):∃ x m t b,[V.ref a,V.ty "list"] = [x,V.ty m]/\Fi K H x t/\PySem.W.kitOne K t (.type m) = some b/\P b:=⟨_,_,_,_,rfl,.lst h,Wa,q⟩
theorem Ajt {xs:List V} (h:H a = some (.tup xs)) {P:Bool->Prop} (q:P true):∃ x m t b,[V.ref a,V.ty "tuple"] = [x,V.ty m]/\Fi K H x t/\PySem.W.kitOne K t (.type m) = some b/\P b:=⟨_,_,_,_,rfl,.tup h,Yx,q⟩
theorem AcY {xs:List V} (h:SqL K H a xs) {P:List V->Prop} (q:P xs):∃ p ys,[V.ref a] = [V.ref p]/\(SqL K H p ys\/SqT K H p ys)/\P ys:=⟨a,xs,rfl,.inl h,q⟩
theorem Ah2 {xs:List V} (h:H a = some (.tup xs)) {P:List V->Prop} (q:P xs):∃ p ys,[V.ref a] = [V.ref p]/\(SqL K H p ys\/SqT K H p ys)/\P ys:=⟨a,xs,rfl,.inr (SqT.of h),q⟩
theorem Akj {kvs:List (Key × V)} (h:H d = some (.dK kvs)) {P:Option V->Prop} (q:P (Ci kvs (.inl n))):∃ a o,V.ref d = V.ref a/\DGet H a (.int n) o/\P o:=⟨d,_,rfl,DGet.k (k:=Sum.inl n) h,q⟩
theorem AcZ {kvs:List (Key × V)} {v:V} {R:Hp->Prop} (h:H d = some (.dK kvs)) (q:R (upd H d (.dK (Fy kvs (.inl n) v)))) (hl:kvs.length < sizeLine):∃ a H4,V.ref d = V.ref a/\DPut H a (.int n) v H4/\R H4:=⟨d,_,rfl,DPut.k (k:=Sum.inl n) h hl,q⟩
theorem AjA {kvs:List (Key × V)} {P:Addr->Prop} (h:H d = some (.dK kvs)) (q:P d):∃ a,V.ref d = V.ref a/\IsD H a/\P a:=⟨d,rfl,.inl ⟨_,.inl h⟩,q⟩
theorem AiJ {kvs:List (Key × V)} {P:Option V->Prop} (h:H d = some (.dK kvs)) (q:P (Ci kvs (.inl n))):∃ o,DGet H d (.int n) o/\P o:=⟨_,DGet.k (k:=Sum.inl n) h,q⟩
theorem AjC {P:Prop} {xs:List V} (h:H a = some (.lst xs)) (q:P):tyV K "list" (.ref a) H/\P:=⟨.inl ⟨rfl,_,SqL.of h⟩,q⟩
theorem Wg {xs:List V} {i:Int} {v:V} (h:SqL K H a xs) (q:Q v H) (hv:atI xs i = some v):Aa8 K (.ref a) (.int i) H Q:=⟨a,xs,i,v,rfl,rfl,h,hv,q⟩
theorem Ajz {xs:List V} {i:Int} {v:V} (h:H a = some (.tup xs)) (q:Q v H) (hv:atI xs i = some v):Aa0 K (.ref a) (.int i) H Q:=⟨a,xs,i,v,rfl,rfl,SqT.of h,hv,q⟩
end
section
variable {S:List Sg} {M:List (Int × Int)} {s:Sg} {m:Int × Int} {n:Int}
theorem Agb (s:List Sg):(kK s).map (·.1) = (s.map (·.1)).map Sum.inl:=by simp [kK]
theorem Aat:(kK S ++ kM M).map (·.1) = (S.map (·.1) ++ Dv M).map (Sum.inl:Int->Key):=by rw [List.map_append,Agb,Aad,<- List.map_append]
theorem Abe (nd:(S.map (·.1) ++ Dv M).Nodup):((kK S ++ kM M).map (·.1)).Nodup:=by rw [Aat]; exact Nq nd
theorem AhO (h:m ∈ M):(Sum.inl m.1,V.str "open") ∈ kM M/\(Sum.inl m.2,V.str "shut") ∈ kM M:=by
 induction M with
 | nil=>cases h
 | cons x r ih =>
  rcases List.mem_cons.mp h with e | e
  ·subst e; exact ⟨List.mem_cons_self,List.mem_cons_of_mem _ List.mem_cons_self⟩
  ·exact ⟨List.mem_cons_of_mem _ (List.mem_cons_of_mem _ (ih e).1),List.mem_cons_of_mem _ (List.mem_cons_of_mem _ (ih e).2)⟩
theorem AfW (nd:(S.map (·.1) ++ Dv M).Nodup) (h:m ∈ M):(Ci (kK S ++ kM M) (Sum.inl m.1)).getD (.str "plain") = .str "open":=by
 rw [Wy (Abe nd) (List.mem_append_right _ (AhO h).1)]; rfl
theorem Vf (nd:(S.map (·.1) ++ Dv M).Nodup) (h:s ∈ S):(Ci (kK S ++ kM M) (Sum.inl s.1)).getD (.str "plain") = .str s.2.1:=by
 rw [Wy (v:=.str s.2.1) (Abe nd) (List.mem_append_left _ (List.mem_map.mpr ⟨s,h,rfl⟩))]; rfl
theorem Ab0 (h:¬ n ∈ S.map (·.1) ++ Dv M):(Ci (kK S ++ kM M) (Sum.inl n)).getD (.str "plain") = .str "plain":=by
 rw [Jj (by rw [Aat]; exact fun w=>h (inl_mem.mp w))]; rfl
end
abbrev Jn:=Int × Int × Int
def joinedK:List Str:=["fore","back","num","blank","plain"]
def TrjAt (H:Hp) (x:V) (j:Jn):Prop:=∃ p,x = .ref p/\H p = some (.tup [.int j.1,.int j.2.1,.int j.2.2])
def KvAt (H:Hp) (kv:Key × V) (j:Jn):Prop:=kv.1 = Sum.inl j.1/\∃ p,kv.2 = .ref p/\H p = some (.tup [.int j.2.1,.int j.2.2])
theorem TrjAt.mono {H H':Hp} {x:V} {j:Jn} (h:TrjAt H x j) (k:∀ q xs,H q = some (.tup xs)->H' q = some (.tup xs)):TrjAt H' x j:=by
 obtain ⟨p,e,hp⟩:=h
 exact ⟨p,e,k p _ hp⟩
theorem KvAt.mono {H H':Hp} {x:Key × V} {j:Jn} (h:KvAt H x j) (k:∀ q xs,H q = some (.tup xs)->H' q = some (.tup xs)):KvAt H' x j:=by
 obtain ⟨e1,p,e,hp⟩:=h
 exact ⟨e1,p,e,k p _ hp⟩
theorem LAt.tripS {H H':Hp} {xs:List V} {S:List Sg} (h:LAt TripAt H xs S) (s:Same H H'):LAt TripAt H' xs S:=h.mono fun _ _ z=>z.mono fun _ _ e=>s _ _ e
theorem LAt.pairS {H H':Hp} {xs:List V} {S:List (Int × Int)} (h:LAt PairAt H xs S) (s:Same H H'):LAt PairAt H' xs S:=h.mono fun _ _ z=>z.mono fun _ _ e=>s _ _ e
theorem LAt.trjS {H H':Hp} {xs:List V} {S:List Jn} (h:LAt TrjAt H xs S) (s:Same H H'):LAt TrjAt H' xs S:=h.mono fun _ _ z=>z.mono fun _ _ e=>s _ _ e
theorem LAt.kvS {H H':Hp} {xs:List (Key × V)} {S:List Jn} (h:LAt KvAt H xs S) (s:Same H H'):LAt KvAt H' xs S:=h.mono fun _ _ z=>z.mono fun _ _ e=>s _ _ e
theorem LAt.take {β α:Type} {R:Hp->β->α->Prop} {H:Hp} {xs:List β} {ys:List α} (h:LAt R H xs ys) (n:Nat):LAt R H (xs.take n) (ys.take n) :=
 ⟨by rw [List.length_take,List.length_take,h.1],fun i x y e1 e2=>by
  rw [List.getElem?_take] at e1 e2
  split at e1
  ·rename_i hi
   rw [if_pos hi] at e2
   exact h.2 i x y e1 e2
  ·cases e1⟩
theorem LAt.drop {β α:Type} {R:Hp->β->α->Prop} {H:Hp} {xs:List β} {ys:List α} (h:LAt R H xs ys) (n:Nat):LAt R H (xs.drop n) (ys.drop n) :=
 ⟨by rw [List.length_drop,List.length_drop,h.1],fun i x y e1 e2=>by
  rw [List.getElem?_drop] at e1 e2
  exact h.2 _ x y e1 e2⟩
theorem LAt.append {β α:Type} {R:Hp->β->α->Prop} {H:Hp} {xs xs':List β} {ys ys':List α} (h:LAt R H xs ys) (h':LAt R H xs' ys'):LAt R H (xs ++ xs') (ys ++ ys') :=
 ⟨by rw [List.length_append,List.length_append,h.1,h'.1],fun i x y e1 e2=>by
  by_cases hi:i < xs.length
  ·rw [List.getElem?_append_left hi] at e1
   rw [List.getElem?_append_left (by rw [<- h.1]; exact hi)] at e2
   exact h.2 i x y e1 e2
  ·rw [List.getElem?_append_right (by omega)] at e1
   rw [List.getElem?_append_right (by rw [<- h.1]; omega),<- h.1] at e2
   exact h'.2 _ x y e1 e2⟩
theorem Jo {α:Type}:∀ {l:List α},(∀ (i j:Nat) (x:α),l[i]? = some x->l[j]? = some x->i = j)->l.Nodup
 | [],_=>List.nodup_nil
 | a :: r,h=>List.nodup_cons.mpr ⟨fun m=>by
   obtain ⟨j,hj⟩:=List.getElem?_of_mem m
   have:=h 0 (j + 1) a rfl (by simpa using hj)
   omega,Jo fun i j x h1 h2=>by
   have:=h (i + 1) (j + 1) x (by simpa using h1) (by simpa using h2)
   omega⟩
theorem LAt.uncons {β α:Type} {R:Hp->β->α->Prop} {H:Hp} {x:β} {xs:List β} {y:α} {ys:List α} (h:LAt R H (x :: xs) (y :: ys)):R H x y/\LAt R H xs ys :=
 ⟨h.2 0 x y rfl rfl,by simpa using h.1,fun i u v e1 e2=>h.2 (i + 1) u v e1 e2⟩
def Dn:List Jn->Int->Option (Int × Int)
 | [],_=>none
 | j :: r,n=>if j.1 = n then some j.2 else Dn r n
def Do (J:List Jn) (n:Int):Int:=match Dn J n with | some m=>m.1 | none=>n
def jGo (J:List Jn):Nat->Int->Int
 | 0,n=>n
 | k + 1,n=>Do J (jGo J k n)
theorem Ub {J:List Jn} {n:Int} {m:Int × Int} (h:Dn J n = some m):(n,m) ∈ J:=by
 induction J with
 | nil=>cases h
 | cons x r ih =>
  unfold Dn at h
  split at h
  ·rename_i e
   cases h
   rw [<- e]; exact List.mem_cons_self
  ·exact List.mem_cons_of_mem _ (ih h)
theorem Yt {H:Hp} {kvs:List (Key × V)} {J:List Jn} (h:LAt KvAt H kvs J) (n:Int) :
  (Dn J n = none/\Ci kvs (Sum.inl n) = none)\/∃ m p,Dn J n = some m/\Ci kvs (Sum.inl n) = some (.ref p)/\H p = some (.tup [.int m.1,.int m.2]):=by
 induction kvs generalizing J with
 | nil =>
  cases J with
  | nil=>exact .inl ⟨rfl,rfl⟩
  | cons j r=>have:=h.1; simp at this
 | cons kv ks ih =>
  cases J with
  | nil=>have:=h.1; simp at this
  | cons j r =>
   obtain ⟨⟨h1,p,e,hp⟩,h3⟩:=h.uncons
   unfold Dn
   by_cases z:j.1 = n
   ·rw [if_pos z]
    exact .inr ⟨j.2,p,rfl,by rw [Js (by rw [h1,z]),e],hp⟩
   ·rw [if_neg z,Jv (by rw [h1]; intro w; exact z (Sum.inl.inj w))]
    exact ih h3
def kW (J:List Jn):List (List Key × V):=J.map fun j=>([Sum.inl j.2.1,Sum.inl j.2.2],V.int j.1)
theorem Aj4 {J:List Jn} {a b:Int} (h:¬ (a,b) ∈ J.map (·.2)):Ci (kW J) [Sum.inl a,Sum.inl b] = none:=by
 cases e:Ci (kW J) ([Sum.inl a,Sum.inl b]:List Key) with
 | none=>rfl
 | some v =>
  have:=Zr e
  unfold kW at this
  rw [List.map_map] at this
  obtain ⟨j,hj,z⟩:=List.mem_map.mp this
  have z':([Sum.inl j.2.1,Sum.inl j.2.2]:List Key) = [Sum.inl a,Sum.inl b]:=z
  injection z' with z1 z2
  injection z2 with z3 z4
  exact absurd (List.mem_map.mpr ⟨j,hj,Prod.ext (Sum.inl.inj z1) (Sum.inl.inj z3)⟩) h
def knd (kk:List (Key × V)) (n:Int):V:=(Ci kk (Sum.inl n)).getD (.str "plain")
structure AaT (kk:List (Key × V)) (J:List Jn):Prop where
 nn:∀ j ∈ J,0 <= j.1/\0 <= j.2.1/\0 <= j.2.2
 mr:∀ j ∈ J,knd kk j.2.2 = .str "mark"
 kd:∀ j ∈ J,∃ k ∈ joinedK,knd kk j.1 = .str k/\knd kk j.2.1 = .str k
 nw:(J.map (·.1)).Nodup
 np:(J.map (·.2)).Nodup
 en:∀ j ∈ J,Dn J (jGo J 7 j.1) = none
 ln:J.length <= 400
theorem Air {c A B:Prop} [Decidable c] (hc:c) (h:A):if decide c = true then A else B:=by
 rw [if_pos (decide_eq_true hc)]; exact h
theorem Adf {H:Hp} {a:Addr} {u o:HO} (h:H a = some u):upd (upd H a o) a u = H:=by
 rw [Fo]; funext b; unfold upd; split
 ·rename_i e; rw [e,h]
 ·rfl
theorem Ai1 {H:Hp} {a:Addr} {u:HO} {o:Obj}:Rd (upd H a (.frz o u)) a u:=.inr ⟨o,Bn⟩
theorem Ro {α:Type} {l:List α} {i:Nat} {x:α} (nd:l.Nodup) (h:l[i]? = some x):¬ x ∈ l.take i:=by
 obtain ⟨hi,e⟩:=List.getElem?_eq_some_iff.mp h
 rw [<- List.take_append_drop i l,List.drop_eq_getElem_cons hi,e] at nd
 intro m
 exact (List.nodup_append.mp nd).2.2 _ m _ List.mem_cons_self rfl
theorem Ni {α β:Type} {l:List α} {f:α->β} {i:Nat} {x:α} (nd:(l.map f).Nodup) (h:l[i]? = some x):¬ f x ∈ (l.take i).map f:=by
 rw [List.map_take]
 exact Ro nd (by rw [List.getElem?_map,h]; rfl)
def bkF (dk dr dm dp dw:Addr):List (Str × V):=Br "wholes" (.ref dw) (Br "pairs" (.ref dp) (Br "mates" (.ref dm) (Br "ranks" (.ref dr) (Br "kinds" (.ref dk) []))))
theorem Ac6 {dk dr dm dp dw:Addr}:(bkF dk dr dm dp dw).lookup ("kinds" : Str) = some (.ref dk):=by
 unfold bkF
 rw [Cm,if_neg (by decide +kernel),Cm,if_neg (by decide +kernel),Cm,if_neg (by decide +kernel),Cm,if_neg (by decide +kernel),Cm,if_pos rfl]
theorem AhW {dk dr dm dp dw:Addr} {m:Str} (h1:¬ m = "wholes") (h2:¬ m = "pairs") (h3:¬ m = "mates") (h4:¬ m = "ranks") (h5:¬ m = "kinds"):(bkF dk dr dm dp dw).lookup m = none:=by
 unfold bkF
 rw [Cm,if_neg h1,Cm,if_neg h2,Cm,if_neg h3,Cm,if_neg h4,Cm,if_neg h5]
 rfl
theorem AdD {dk dr dm dp dw:Addr}:(bkF dk dr dm dp dw).lookup ("kind" : Str) = none:=AhW (by decide +kernel) (by decide +kernel) (by decide +kernel) (by decide +kernel) (by decide +kernel)
def BookAt (C:Addr) (H:Hp) (b:Addr) (k r m p:List (Key × V)) (w:List (List Key × V)):Prop :=
 ∃ dx dk dr dm dp dw,H b = some (.ins C dx (bkF dk dr dm dp dw))/\H dk = some (.dK k)/\H dr = some (.dK r)/\H dm = some (.dK m)/\H dp = some (.dK p)/\H dw = some (.dT w)
theorem BookAt.mono {C:Addr} {H H':Hp} {b:Addr} {k r m p:List (Key × V)} {w:List (List Key × V)} (h:BookAt C H b k r m p w) (s:∀ q o,H q = some o->(∀ xs,o ≠ .lst xs)->H' q = some o):BookAt C H' b k r m p w:=by
 obtain ⟨dx,dk,dr,dm,dp,dw,h1,h2,h3,h4,h5,h6⟩:=h
 exact ⟨dx,dk,dr,dm,dp,dw,s _ _ h1 (fun _ z=>nomatch z),s _ _ h2 (fun _ z=>nomatch z),s _ _ h3 (fun _ z=>nomatch z),s _ _ h4 (fun _ z=>nomatch z),s _ _ h5 (fun _ z=>nomatch z),s _ _ h6 (fun _ z=>nomatch z)⟩
theorem Ahs {C b:Addr} {H:Hp} {k r m p:List (Key × V)} {w:List (List Key × V)} {nm:Str} {P:Prop} (h:BookAt C H b k r m p w) (hm:∀ {dk dr dm dp dw:Addr},(bkF dk dr dm dp dw).lookup nm = none) (q:P) :
  ∃ a dx fs,V.ref b = V.ref a/\H a = some (.ins C dx fs)/\fs.lookup nm = none/\P:=by
 obtain ⟨dx,dk,dr,dm,dp,dw,h1,_⟩:=h
 exact ⟨b,dx,_,rfl,h1,hm,q⟩
def Keep (p:Addr) (H H':Hp):Prop:=∀ q o,H q = some o->q ≠ p->H' q = some o
theorem Keep.trans {p:Addr} {H H1 H2:Hp} (a:Keep p H H1) (b:Keep p H1 H2):Keep p H H2:=fun q o h n=>b q o (a q o h n) n
theorem Keep.new {p d:Addr} {H:Hp} {o:HO} (h:H d = none):Keep p H (upd H d o):=fun q u e _=>by rw [Bg (Bq e h)]; exact e
theorem Keep.put {p:Addr} {H:Hp} {o:HO}:Keep p H (upd H p o):=fun q u e n=>by rw [Bg n]; exact e
theorem Keep.free {p:Addr} {H H':Hp} {o:HO} (k:Keep p H H') (hp:H' p = some o) {d:Addr} (h:H' d = none):H d = none:=by
 cases e:H d with
 | none=>rfl
 | some u =>
  by_cases z:d = p
  ·subst z; rw [hp] at h; cases h
  ·rw [k _ _ e z] at h; cases h
def Aaj (C:Addr):Sp:=fun vs H Q _=>∃ p dx a b cc xs ys zs signs mates J,vs = [.ref p,.ref a,.ref b,.ref cc]/\H p = some (.ins C dx [])/\H a = some (.lst xs)/\H b = some (.lst ys)/\H cc = some (.lst zs)/\LAt TripAt H xs signs/\LAt PairAt H ys mates/\LAt TrjAt H zs J /\
 (∀ s ∈ signs,Wi s)/\(∀ m ∈ mates,0 <= m.1/\0 <= m.2)/\(signs.map (·.1) ++ Dv mates).Nodup/\AaT (kK signs ++ kM mates) J/\signs.length + 2 * mates.length <= 400 /\
 ∀ H' kvs dx dk dr dm dp dw,Keep p H H'->H dk = none->H dr = none->H dm = none->H dp = none->H dw = none->H' p = some (.ins C dx (bkF dk dr dm dp dw))->H' dk = some (.dK (kK signs ++ kM mates))->H' dr = some (.dK (kR signs))->H' dm = some (.dK (kB mates))->H' dp = some (.dK kvs)->H' dw = some (.dT (kW J))->LAt KvAt H' kvs J->Q .non H'
def Zp (C:Addr):Sp:=fun vs H Q _=>∃ b n k r m p w,vs = [.ref b,.int n]/\BookAt C H b k r m p w/\Q ((Ci k (Sum.inl n)).getD (.str "plain")) H
theorem AbP {C b:Addr} {n:Int} {k r m p:List (Key × V)} {w:List (List Key × V)} {H:Hp} {Q:VK} {E:XK} (h:BookAt C H b k r m p w) (q:Q ((Ci k (Sum.inl n)).getD (.str "plain")) H):Zp C [.ref b,.int n] H Q E:=⟨b,n,k,r,m,p,w,rfl,h,q⟩
inductive PV where
 | non | bl (b:Bool) | int (i:Int) | str (x:Str)
 | lst (xs:List PV) | tup (xs:List PV) | ctp (xs:List PV)
 | dk (kvs:List (Key × PV)) | dt (kvs:List (List Key × PV))
 | bk (S:List Sg) (M:List (Int × Int)) (J:List Jn)
 | scr (ns:List Int)
 | exc (c:Addr) | cls (c:Addr) | ty (n:String)
inductive Rep (K:PySem.W.Frag) (C:Addr) (G:Hp):V->PV->Prop where
 | non:Rep K C G .non .non
 | bl (b:Bool):Rep K C G (.bl b) (.bl b)
 | int (i:Int):Rep K C G (.int i) (.int i)
 | str (x:Str):Rep K C G (.str x) (.str x)
 | lst {a:Addr} {vs:List V} {ps:List PV} (e:G a = some (.lst vs)) (l:vs.length = ps.length) (h:∀ (i:Nat) (v:V) (p:PV),vs[i]? = some v->ps[i]? = some p->Rep K C G v p):Rep K C G (.ref a) (.lst ps)
 | tup {a:Addr} {vs:List V} {ps:List PV} (e:G a = some (.tup vs)) (l:vs.length = ps.length) (h:∀ (i:Nat) (v:V) (p:PV),vs[i]? = some v->ps[i]? = some p->Rep K C G v p):Rep K C G (.ref a) (.tup ps)
 | ctp {a:Addr} {vs:List V} {ps:List PV} (e:∀ H,SqT K H a vs) (l:vs.length = ps.length) (h:∀ (i:Nat) (v:V) (p:PV),vs[i]? = some v->ps[i]? = some p->Rep K C G v p):Rep K C G (.ref a) (.ctp ps)
 | dk {a:Addr} {kvs:List (Key × V)} {ps:List (Key × PV)} (e:G a = some (.dK kvs)) (l:kvs.length = ps.length) (hk:∀ (i:Nat) (v:Key × V) (p:Key × PV),kvs[i]? = some v->ps[i]? = some p->v.1 = p.1)
   (h:∀ (i:Nat) (v:Key × V) (p:Key × PV),kvs[i]? = some v->ps[i]? = some p->Rep K C G v.2 p.2):Rep K C G (.ref a) (.dk ps)
 | dt {a:Addr} {kvs:List (List Key × V)} {ps:List (List Key × PV)} (e:G a = some (.dT kvs)) (l:kvs.length = ps.length) (hk:∀ (i:Nat) (v:List Key × V) (p:List Key × PV),kvs[i]? = some v->ps[i]? = some p->v.1 = p.1)
   (h:∀ (i:Nat) (v:List Key × V) (p:List Key × PV),kvs[i]? = some v->ps[i]? = some p->Rep K C G v.2 p.2):Rep K C G (.ref a) (.dt ps)
 | bk {b:Addr} {S:List Sg} {M:List (Int × Int)} {J:List Jn} {kvs:List (Key × V)} (h:BookAt C G b (kK S ++ kM M) (kR S) (kB M) kvs (kW J)) (l:LAt KvAt G kvs J):Rep K C G (.ref b) (.bk S M J)
 | scr {a:Addr} {ns:List Int} (h:SqL K G a (ns.map V.int)):Rep K C G (.ref a) (.scr ns)
 | exc {a c:Addr} (e:G a = some (.ext (excF a c))):Rep K C G (.ref a) (.exc c)
 | cls {c:Addr}:Rep K C G (.ref c) (.cls c)
 | ty {n:String}:Rep K C G (.ty n) (.ty n)
section
variable {K:PySem.W.Frag} {C:Addr} {ω:Om} {G G' H H':Hp} {v:V} {p:PV} {a:Addr}
theorem Rep.mono (h:Rep K C G v p) (s:Same G G'):Rep K C G' v p:=by
 induction h with
 | non=>exact .non
 | bl b=>exact .bl b
 | int i=>exact .int i
 | str x=>exact .str x
 | lst e l _ ih=>exact .lst (s _ _ e) l ih
 | tup e l _ ih=>exact .tup (s _ _ e) l ih
 | ctp e l _ ih=>exact .ctp e l ih
 | dk e l hk _ ih=>exact .dk (s _ _ e) l hk ih
 | dt e l hk _ ih=>exact .dt (s _ _ e) l hk ih
 | bk h l=>exact .bk (h.mono fun _ _ e _=>s _ _ e) (l.kvS s)
 | scr h=>exact .scr (s.seq h)
 | exc e=>exact .exc (s _ _ e)
 | cls=>exact .cls
 | ty=>exact .ty
def KRep {κ:Type} (K:PySem.W.Frag) (C:Addr) (G:Hp) (v:κ × V) (p:κ × PV):Prop:=v.1 = p.1/\Rep K C G v.2 p.2
theorem KRep.mono {κ:Type} {v:κ × V} {p:κ × PV} (h:KRep K C G v p) (s:Same G G'):KRep K C G' v p:=⟨h.1,h.2.mono s⟩
abbrev Reps (K:PySem.W.Frag) (C:Addr) (G:Hp) (vs:List V) (ps:List PV):Prop:=LAt (Rep K C) G vs ps
theorem Reps.mono {vs:List V} {ps:List PV} (h:Reps K C G vs ps) (s:Same G G'):Reps K C G' vs ps:=LAt.mono h fun _ _ z=>z.mono s
theorem KReps.mono {κ:Type} {vs:List (κ × V)} {ps:List (κ × PV)} (h:LAt (KRep K C) G vs ps) (s:Same G G'):LAt (KRep K C) G' vs ps:=LAt.mono h fun _ _ z=>z.mono s
theorem Rep.ofL {vs:List V} {ps:List PV} (e:G a = some (.lst vs)) (h:Reps K C G vs ps):Rep K C G (.ref a) (.lst ps):=.lst e h.1 h.2
theorem Rep.ofT {vs:List V} {ps:List PV} (e:G a = some (.tup vs)) (h:Reps K C G vs ps):Rep K C G (.ref a) (.tup ps):=.tup e h.1 h.2
theorem Rep.ofD {vs:List (Key × V)} {ps:List (Key × PV)} (e:G a = some (.dK vs)) (h:LAt (KRep K C) G vs ps):Rep K C G (.ref a) (.dk ps):=.dk e h.1 (fun i v p h1 h2=>(h.2 i v p h1 h2).1) (fun i v p h1 h2=>(h.2 i v p h1 h2).2)
theorem Rep.ofDt {vs:List (List Key × V)} {ps:List (List Key × PV)} (e:G a = some (.dT vs)) (h:LAt (KRep K C) G vs ps):Rep K C G (.ref a) (.dt ps):=.dt e h.1 (fun i v p h1 h2=>(h.2 i v p h1 h2).1) (fun i v p h1 h2=>(h.2 i v p h1 h2).2)
def Rl (o:HO):Prop:=∀ xs,o ≠ .tup xs
def OwnA (K:PySem.W.Frag) (C:Addr) (G H:Hp) (a:Addr):PV->Prop
 | .lst ps=>∃ vs,H a = some (.lst vs)/\Reps K C G vs ps
 | .dk ps=>∃ kvs,H a = some (.dK kvs)/\LAt (KRep K C) G kvs ps
 | .dt ps=>∃ kvs,H a = some (.dT kvs)/\LAt (KRep K C) G kvs ps
 | _=>False
theorem OwnA.ofL {vs:List V} {ps:List PV} (e:H a = some (.lst vs)) (r:Reps K C G vs ps):OwnA K C G H a (.lst ps):=⟨vs,e,r⟩
theorem OwnA.ofD {vs:List (Key × V)} {ps:List (Key × PV)} (e:H a = some (.dK vs)) (r:LAt (KRep K C) G vs ps):OwnA K C G H a (.dk ps):=⟨vs,e,r⟩
theorem OwnA.here (h:OwnA K C G H a p):H a ≠ none:=by
 cases p <;> first | exact h.elim | (obtain ⟨_,e,_⟩:=h; rw [e]; exact fun z=>nomatch z)
theorem OwnA.thing (h:OwnA K C G H a p):∃ o,H a = some o/\Rl o:=by
 cases p <;> first | exact h.elim | (obtain ⟨_,e,_⟩:=h; exact ⟨_,e,fun _ z=>nomatch z⟩)
theorem OwnA.mono (h:OwnA K C G H a p) (s:Same G G') (e:H' a = H a):OwnA K C G' H' a p:=by
 cases p <;> first | exact h.elim | (obtain ⟨vs,e1,l⟩:=h; exact ⟨vs,by rw [e]; exact e1,l.mono s⟩) | (obtain ⟨vs,e1,l⟩:=h; exact ⟨vs,by rw [e]; exact e1,KReps.mono l s⟩)
def RepB (K:PySem.W.Frag) (C:Addr) (G H:Hp) (v:V) (p:PV):Prop:=Rep K C G v p\/∃ a,v = .ref a/\OwnA K C G H a p
structure Grow (G H G' H':Hp):Prop where
 g:Same G G'
 h:Same H H'
 i:Same G' H'
 n:∀ a o,H a = some o->Rl o->G a = none->G' a = none
theorem Grow.refl (s:Same G H):Grow G H G H:=⟨Same.refl _,Same.refl _,s,fun _ _ _ _ h=>h⟩
theorem _root_.L2.Same.eq (s:Same H H') {a:Addr} (h:H a ≠ none):H' a = H a:=by
 cases e:H a with
 | none=>exact absurd e h
 | some o=>exact s _ _ e
theorem Grow.trans {G1 H1:Hp} (x:Grow G H G1 H1) (y:Grow G1 H1 G' H'):Grow G H G' H':=⟨x.g.trans y.g,x.h.trans y.h,y.i,fun a o h1 t h2=>y.n a o (x.h _ _ h1) t (x.n a o h1 t h2)⟩
theorem RepB.grow (h:RepB K C G H v p) (w:Grow G H G' H'):RepB K C G' H' v p:=by
 rcases h with h | ⟨a,e,h⟩
 ·exact .inl (h.mono w.g)
 ·exact .inr ⟨a,e,h.mono w.g (w.h.eq h.here)⟩
theorem Grow.put {o:HO} (s:Same G H) (n:H a = none) (s2:Same H H') (e:H' a = some o):Grow G H (upd G a o) H':=by
 have gn:G a = none:=s.free n
 refine ⟨Same.new gn,s2,fun b u h=>?_,fun b u h1 _ h2=>?_⟩
 ·by_cases z:b = a
  ·subst z; rw [Bn] at h; rw [e]; exact h
  ·rw [Bg z] at h; exact s2 _ _ (s _ _ h)
 ·rw [Bg (by intro z; subst z; rw [n] at h1; cases h1)]; exact h2
theorem Grow.own (s:Same G H) (s2:Same H H'):Grow G H G H':=⟨Same.refl _,s2,s.trans s2,fun _ _ _ _ h=>h⟩
end
inductive Sl where
 | un | sh (p:PV) | bo (p:PV) | ow (p:PV) | fz (z:Addr × Obj × List (Key × V)) (kvs:List (Key × PV)) | bz (kvs:List (Key × PV)) | fl (z:Addr × List V) (ps:List PV) | om (a:Addr) (p:PV)
abbrev Bf:=List Sl
def SlOk (K:PySem.W.Frag) (C:Addr) (G0 H0:Hp) (own:Nat->Option Addr) (G:Hp) (σ:St) (H:Hp) (i:Nat):Sl->Prop
 | .un=>True
 | .sh p=>∃ v,σ[i]? = some (some v)/\Rep K C G v p
 | .bo p=>∃ v,σ[i]? = some (some v)/\RepB K C G0 H0 v p
 | .ow p=>∃ a,σ[i]? = some (some (.ref a))/\own i = some a/\OwnA K C G H a p
 | .fz z kvs=>σ[i]? = some (some (.ref z.1))/\own i = some z.1/\H z.1 = some (.frz z.2.1 (.dK z.2.2))/\LAt (KRep K C) G z.2.2 kvs
 | .bz kvs=>∃ a o vs,σ[i]? = some (some (.ref a))/\H0 a = some (.frz o (.dK vs))/\LAt (KRep K C) G vs kvs
 | .fl z ps=>σ[i]? = some (some (.ref z.1))/\own i = some z.1/\H z.1 = some (.lst z.2)/\Reps K C G z.2 ps
 | .om a p=>σ[i]? = some (some (.ref a))/\own i = some a/\OwnA K C G H a p
structure Om where
 E:XK
 X:Nat->Prop
 ca:Nat->Addr
def Om.no:Om:=⟨fun _ _ _=>False,fun _=>False,fun _=>0⟩
structure Sat (K:PySem.W.Frag) (C:Addr) (ω:Om) (B G0 H0:Hp) (own:Nat->Option Addr) (G:Hp) (σ:St) (H:Hp) (ρ:Bf):Prop where
 kb:Same B G
 gr:Grow G0 H0 G H
 len:σ.length = ρ.length
 inj:∀ i j a,own i = some a->own j = some a->i = j
 fr:∀ i a,own i = some a->H0 a = none/\G a = none/\∃ o,H a = some o/\Rl o
 sl:∀ i s,ρ[i]? = some s->SlOk K C G0 H0 own G σ H i s
 ex:∀ x H',Same H0 H'->ω.X x->ω.E (.ref (ω.ca x)) none H'
abbrev UE:=Bf->(PV->Prop)->Prop
abbrev UT:=Bf->(Bool->Prop)->Prop
abbrev UA:=Bf->(List PV->Prop)->Prop
structure De where
 nx:Bf->Prop
 rt:PV->Prop
 bk:Bf->Prop
 ct:Bf->Prop
abbrev US:=De->Bf->Prop
section
variable (K:PySem.W.Frag) (C:Addr) (ω:Om)
def EB (t:TE) (u:UE):Prop:=∀ (B G0 H0:Hp) (own:Nat->Option Addr) (G:Hp) (σ:St) (H:Hp) (ρ:Bf) (P:PV->Prop) (Q:VK),Sat K C ω B G0 H0 own G σ H ρ->u ρ P->(∀ v p G' H',Grow G H G' H'->RepB K C G' H' v p->P p->Q v H')->t σ H Q
def EU (t:TE) (u:UE):Prop:=∀ (B G0 H0:Hp) (own:Nat->Option Addr) (G:Hp) (σ:St) (H:Hp) (ρ:Bf) (P:PV->Prop) (Q:VK),Sat K C ω B G0 H0 own G σ H ρ->u ρ P->(∀ v p G' H',Grow G H G' H'->Rep K C G' v p->P p->Q v H')->t σ H Q
def EF (t:TE) (u:UE):Prop:=∀ (B G0 H0:Hp) (own:Nat->Option Addr) (G:Hp) (σ:St) (H:Hp) (ρ:Bf) (P:PV->Prop) (Q:VK),Sat K C ω B G0 H0 own G σ H ρ->u ρ P->(∀ a p G' H',Grow G H G' H'->H a = none->G' a = none->OwnA K C G' H' a p->P p->Q (.ref a) H')->t σ H Q
def TU (t:TT) (u:UT):Prop:=∀ (B G0 H0:Hp) (own:Nat->Option Addr) (G:Hp) (σ:St) (H:Hp) (ρ:Bf) (P:Bool->Prop) (Q:Bool->Hp->Prop),Sat K C ω B G0 H0 own G σ H ρ->u ρ P->(∀ b G' H',Grow G H G' H'->P b->Q b H')->t σ H Q
def ArgsOk (G H:Hp):List Bool->List V->List PV->Prop
 | [],[],[]=>True
 | true :: ms,v :: vs,p :: ps=>Rep K C G v p/\ArgsOk G H ms vs ps
 | false :: ms,v :: vs,p :: ps=>RepB K C G H v p/\ArgsOk G H ms vs ps
 | _,_,_=>False
def AU (ms:List Bool) (t:TA) (u:UA):Prop:=∀ (B G0 H0:Hp) (own:Nat->Option Addr) (G:Hp) (σ:St) (H:Hp) (ρ:Bf) (P:List PV->Prop) (Q:List V->Hp->Prop),Sat K C ω B G0 H0 own G σ H ρ->u ρ P->(∀ vs ps G' H',Grow G H G' H'->ArgsOk K C G' H' ms vs ps->P ps->Q vs H')->t σ H Q
inductive Rm where
 | sh | fr | mu (a:Addr)
def ROk (rm:Rm) (H0 G H:Hp) (v:V) (p:PV):Prop:=match rm with
 | .sh=>Rep K C G v p
 | .fr=>∃ a,v = .ref a/\H0 a = none/\G a = none/\OwnA K C G H a p
 | .mu b=>∃ p1 p2 a,p = .tup [p1,p2]/\v = .ref a/\H0 a = none/\a ≠ b/\G a = none/\OwnA K C G H a p1/\G b = none/\OwnA K C G H b p2
structure Fits (rm:Rm) (B G0 H0:Hp) (D:Ends) (d:De):Prop where
 nx:∀ own G σ H ρ,Sat K C ω B G0 H0 own G σ H ρ->d.nx ρ->D.nx σ H
 rt:∀ G H v p,Grow G0 H0 G H->ROk K C rm H0 G H v p->d.rt p->D.rt v H
 bk:∀ own G σ H ρ,Sat K C ω B G0 H0 own G σ H ρ->d.bk ρ->D.bk σ H
 ct:∀ own G σ H ρ,Sat K C ω B G0 H0 own G σ H ρ->d.ct ρ->D.ct σ H
def SU (rm:Rm) (t:TS) (u:US):Prop:=∀ (B G0 H0:Hp) (own:Nat->Option Addr) (G:Hp) (σ:St) (H:Hp) (ρ:Bf) (D:Ends) (d:De),Sat K C ω B G0 H0 own G σ H ρ->Fits K C ω rm B G0 H0 D d->u d ρ->t D σ H
def GU (top:Nat) (g:TG) (u:PV->Bf->(Bf->Prop)->Prop):Prop:=∀ (B G0 H0:Hp) (own:Nat->Option Addr) (G:Hp) (σ:St) (H:Hp) (ρ:Bf) (v:V) (p:PV) (P:Bf->Prop) (R:St->Hp->Prop),Sat K C ω B G0 H0 own G σ H ρ->Rep K C G v p->u p ρ P ->
 (∀ own' σ' ρ',Sat K C ω B G0 H0 own' G σ' H ρ'->σ'.drop top = σ.drop top->P ρ'->R σ' H)->g v σ H R
def GsU (top:Nat) (g:TGs) (u:List PV->Bf->(Bf->Prop)->Prop):Prop:=∀ (B G0 H0:Hp) (own:Nat->Option Addr) (G:Hp) (σ:St) (H:Hp) (ρ:Bf) (vs:List V) (ps:List PV) (P:Bf->Prop) (R:St->Hp->Prop),Sat K C ω B G0 H0 own G σ H ρ->Reps K C G vs ps->u ps ρ P ->
 (∀ own' σ' ρ',Sat K C ω B G0 H0 own' G σ' H ρ'->σ'.drop top = σ.drop top->P ρ'->R σ' H)->g vs σ H R
end
section
variable {K:PySem.W.Frag} {C:Addr} {ω:Om} {B G0 H0 G G' H H':Hp} {own:Nat->Option Addr} {σ:St} {ρ:Bf}
theorem SlOk.grow {i:Nat} {s:Sl} (h:SlOk K C G0 H0 own G σ H i s) (w:Grow G H G' H'):SlOk K C G0 H0 own G' σ H' i s:=by
 cases s with
 | un=>trivial
 | sh p=>obtain ⟨v,e,r⟩:=h; exact ⟨v,e,r.mono w.g⟩
 | bo p=>exact h
 | ow p=>obtain ⟨a,e,o,r⟩:=h; exact ⟨a,e,o,r.mono w.g (w.h.eq r.here)⟩
 | fz z kvs=>obtain ⟨e,o,h1,h2⟩:=h; exact ⟨e,o,w.h _ _ h1,KReps.mono h2 w.g⟩
 | bz kvs=>obtain ⟨a,o,vs,e,h1,h2⟩:=h; exact ⟨a,o,vs,e,h1,KReps.mono h2 w.g⟩
 | fl z ps=>obtain ⟨e,o,h1,h2⟩:=h; exact ⟨e,o,w.h _ _ h1,h2.mono w.g⟩
 | om a p=>obtain ⟨e,o,r⟩:=h; exact ⟨e,o,r.mono w.g (w.h.eq r.here)⟩
theorem Sat.grow (S:Sat K C ω B G0 H0 own G σ H ρ) (w:Grow G H G' H'):Sat K C ω B G0 H0 own G' σ H' ρ :=
 ⟨S.kb.trans w.g,S.gr.trans w,S.len,S.inj,fun i a e=>let ⟨f0,fg,o,ho,ht⟩:=S.fr i a e; ⟨f0,w.n a o ho ht fg,o,w.h _ _ ho,ht⟩,fun i s e=>(S.sl i s e).grow w,S.ex⟩
theorem Sat.base {B':Hp} (S:Sat K C ω B G0 H0 own G σ H ρ) (h:Same B' G):Sat K C ω B' G0 H0 own G σ H ρ:=⟨h,S.gr,S.len,S.inj,S.fr,S.sl,S.ex⟩
def Ft (own:Nat->Option Addr) (i:Nat):Nat->Option Addr:=fun j=>if j = i then none else own j
def Oi (own:Nat->Option Addr) (i:Nat) (a:Addr):Nat->Option Addr:=fun j=>if j = i then some a else own j
theorem Cs {own:Nat->Option Addr} {i j:Nat} {a:Addr} (h:Ft own i j = some a):j ≠ i/\own j = some a:=by
 unfold Ft at h
 split at h
 ·cases h
 ·rename_i z; exact ⟨z,h⟩
theorem Gz {α:Type} {l:List α} {i j:Nat} {x s:α} (h:(l.set i x)[j]? = some s):(j = i/\s = x/\i < l.length)\/(j ≠ i/\l[j]? = some s):=by
 by_cases z:j = i
 ·subst z
  rw [List.getElem?_set_self'] at h
  cases e:l[j]? with
  | none=>rw [e] at h; cases h
  | some y=>rw [e] at h; cases h; exact .inl ⟨rfl,rfl,(List.getElem?_eq_some_iff.mp e).1⟩
 ·rw [List.getElem?_set_ne (Ne.symm z)] at h; exact .inr ⟨z,h⟩
theorem Of {α:Type} {l:List α} {i j:Nat} {x:α} (z:j ≠ i):(l.set i x)[j]? = l[j]?:=List.getElem?_set_ne (Ne.symm z)
theorem Oe {α:Type} {l:List α} {i:Nat} {x:α} (h:i < l.length):(l.set i x)[i]? = some x:=by rw [List.getElem?_set_self h]
theorem SlOk.other {own':Nat->Option Addr} {σ':St} {i:Nat} {s:Sl} (h:SlOk K C G0 H0 own G σ H i s) (e1:σ'[i]? = σ[i]?) (e2:own' i = own i):SlOk K C G0 H0 own' G σ' H i s:=by
 cases s with
 | un=>trivial
 | sh p=>obtain ⟨v,e,r⟩:=h; exact ⟨v,e1.trans e,r⟩
 | bo p=>obtain ⟨v,e,r⟩:=h; exact ⟨v,e1.trans e,r⟩
 | ow p=>obtain ⟨a,e,o,r⟩:=h; exact ⟨a,e1.trans e,e2.trans o,r⟩
 | fz z kvs=>obtain ⟨e,o,r⟩:=h; exact ⟨e1.trans e,e2.trans o,r⟩
 | bz kvs=>obtain ⟨a,o,vs,e,r⟩:=h; exact ⟨a,o,vs,e1.trans e,r⟩
 | fl z ps=>obtain ⟨e,o,r⟩:=h; exact ⟨e1.trans e,e2.trans o,r⟩
 | om a p=>obtain ⟨e,o,r⟩:=h; exact ⟨e1.trans e,e2.trans o,r⟩
theorem Sat.setS (S:Sat K C ω B G0 H0 own G σ H ρ) {i:Nat} {v:V} {p:PV} (r:Rep K C G v p):Sat K C ω B G0 H0 (Ft own i) G (σ.set i (some v)) H (ρ.set i (.sh p)):=by
 refine ⟨S.kb,S.gr,by rw [List.length_set,List.length_set,S.len],fun j k a h1 h2=>S.inj j k a (Cs h1).2 (Cs h2).2,fun j a h=>S.fr j a (Cs h).2,fun j s h=>?_,S.ex⟩
 rcases Gz h with ⟨rfl,rfl,hl⟩ | ⟨z,h⟩
 ·exact ⟨v,Oe (by rw [S.len]; exact hl),r⟩
 ·exact (S.sl j s h).other (Of z) (by unfold Ft; rw [if_neg z])
theorem Sat.setO (S:Sat K C ω B G0 H0 own G σ H ρ) {i:Nat} {a:Addr} {p:PV} (r:OwnA K C G H a p) (f0:H0 a = none) (fg:G a = none) (fo:∀ j,own j ≠ some a):Sat K C ω B G0 H0 (Oi own i a) G (σ.set i (some (.ref a))) H (ρ.set i (.ow p)):=by
 refine ⟨S.kb,S.gr,by rw [List.length_set,List.length_set,S.len],fun j k b h1 h2=>?_,fun j b h=>?_,fun j s h=>?_,S.ex⟩
 ·unfold Oi at h1 h2
  split at h1 <;> split at h2
  ·rename_i z1 z2; rw [z1,z2]
  ·cases h1; exact absurd h2 (fo k)
  ·cases h2; exact absurd h1 (fo j)
  ·exact S.inj j k b h1 h2
 ·unfold Oi at h
  split at h
  ·cases h; exact ⟨f0,fg,r.thing⟩
  ·exact S.fr j b h
 ·rcases Gz h with ⟨rfl,rfl,hl⟩ | ⟨z,h⟩
  ·exact ⟨a,Oe (by rw [S.len]; exact hl),by unfold Oi; rw [if_pos rfl],r⟩
  ·exact (S.sl j s h).other (Of z) (by unfold Oi; rw [if_neg z])
theorem Sat.chg (S:Sat K C ω B G0 H0 own G σ H ρ) {i:Nat} {a:Addr} {p:PV} (e:own i = some a) (hi:σ[i]? = some (some (.ref a))) (c:Chg a H H') (r:OwnA K C G H' a p):Sat K C ω B G0 H0 own G σ H' (ρ.set i (.ow p)):=by
 obtain ⟨f0,fg,fh⟩:=S.fr i a e
 have ng:∀ b o,G b = some o->b ≠ a:=fun b o h z=>by subst z; rw [fg] at h; cases h
 refine ⟨S.kb,⟨S.gr.g,fun b o h=>c _ _ (S.gr.h _ _ h) (by intro z; subst z; rw [f0] at h; cases h),fun b o h=>c _ _ (S.gr.i _ _ h) (ng b o h),S.gr.n⟩,by rw [List.length_set,S.len],S.inj,fun j b h=>?_,fun j s h=>?_,S.ex⟩
 ·obtain ⟨q0,qg,o,qh,qt⟩:=S.fr j b h
  refine ⟨q0,qg,?_⟩
  by_cases z:b = a
  ·subst z; exact r.thing
  ·exact ⟨o,c _ _ qh z,qt⟩
 ·rcases Gz h with ⟨rfl,rfl,hl⟩ | ⟨z,h⟩
  ·exact ⟨a,hi,e,r⟩
  ·have q:=S.sl j s h
   cases s with
   | un=>trivial
   | sh p=>exact q
   | bo p=>exact q
   | bz kvs=>exact q
   | fz y kvs =>
    obtain ⟨e1,o,h1,h2⟩:=q
    exact ⟨e1,o,c _ _ h1 fun w=>z (S.inj j i a (by rw [<- w]; exact o) e),h2⟩
   | fl y ps =>
    obtain ⟨e1,o,h1,h2⟩:=q
    exact ⟨e1,o,c _ _ h1 fun w=>z (S.inj j i a (by rw [<- w]; exact o) e),h2⟩
   | om b p' =>
    obtain ⟨e1,o,r1⟩:=q
    refine ⟨e1,o,r1.mono (Same.refl _) ?_⟩
    cases w:H b with
    | none=>exact absurd w r1.here
    | some o'=>exact c _ _ w fun w=>z (S.inj j i a (by rw [<- w]; exact o) e)
   | ow p' =>
    obtain ⟨b,e1,o,r1⟩:=q
    have nb:b ≠ a:=fun w=>z (S.inj j i a (by rw [<- w]; exact o) e)
    refine ⟨b,e1,o,r1.mono (Same.refl _) ?_⟩
    cases w:H b with
    | none=>exact absurd w r1.here
    | some o=>exact c _ _ w nb
def Od:Sl->Sl
 | .ow p=>.sh p
 | s=>s
def Gy (i:Nat) (ρ:Bf):Bf:=match ρ[i]? with
 | some s=>ρ.set i (Od s)
 | none=>ρ
theorem Sat.share (S:Sat K C ω B G0 H0 own G σ H ρ) (i:Nat):∃ own' G',Sat K C ω B G0 H0 own' G' σ H (Gy i ρ):=by
 cases e:ρ[i]? with
 | none=>exact ⟨own,G,by unfold Gy; rw [e]; exact S⟩
 | some s =>
  have hl:i < ρ.length:=(List.getElem?_eq_some_iff.mp e).1
  have same:Od s = s->∃ own' G',Sat K C ω B G0 H0 own' G' σ H (Gy i ρ):=fun z=>⟨own,G,by
   unfold Gy; rw [e]
   have:ρ.set i (Od s) = ρ:=by
    rw [z]
    refine List.ext_getElem? fun j=>?_
    by_cases w:j = i
    ·subst w; rw [Oe hl,e]
    ·rw [Of w]
   simp only [this]; exact S⟩
  cases s with
  | un=>exact same rfl
  | sh p=>exact same rfl
  | bo p=>exact same rfl
  | fz _ _=>exact same rfl
  | bz _=>exact same rfl
  | fl _ _=>exact same rfl
  | om _ _=>exact same rfl
  | ow p =>
   obtain ⟨a,e1,o,r⟩:=S.sl i _ e
   obtain ⟨f0,fg,ob,hob,_⟩:=S.fr i a o
   have sg:Same G (upd G a ob):=Same.new fg
   have rp:Rep K C (upd G a ob) (.ref a) p:=by
    cases p <;> first | exact r.elim | skip
    ·obtain ⟨vs,h1,h2⟩:=r; rw [hob] at h1; cases h1; exact Rep.ofL Bn (h2.mono sg)
    ·obtain ⟨vs,h1,h2⟩:=r; rw [hob] at h1; cases h1; exact Rep.ofD Bn (KReps.mono h2 sg)
    ·obtain ⟨vs,h1,h2⟩:=r; rw [hob] at h1; cases h1; exact Rep.ofDt Bn (KReps.mono h2 sg)
   have gi:Same (upd G a ob) H:=fun b u h=>by
    by_cases z:b = a
    ·subst z; rw [Bn] at h; rw [hob]; exact h
    ·rw [Bg z] at h; exact S.gr.i _ _ h
   have ge:∀ b,b ≠ a->upd G a ob b = G b:=fun b z=>Bg z
   refine ⟨Ft own i,upd G a ob,S.kb.trans sg,⟨S.gr.g.trans sg,S.gr.h,gi,fun b u h1 t h2=>?_⟩,?_,fun j k b h1 h2=>S.inj j k b (Cs h1).2 (Cs h2).2,fun j b h=>?_,fun j s h=>?_,S.ex⟩
   ·rw [ge b (by intro z; subst z; rw [f0] at h1; cases h1)]; exact S.gr.n b u h1 t h2
   ·unfold Gy; rw [e]; simp only [List.length_set]; exact S.len
   ·obtain ⟨nj,h⟩:=Cs h
    obtain ⟨q0,qg,qh⟩:=S.fr j b h
    exact ⟨q0,by rw [ge b (by intro z; subst z; exact nj (S.inj j i b h o))]; exact qg,qh⟩
   ·have h':(ρ.set i (.sh p))[j]? = some s:=by
     unfold Gy at h; rw [e] at h; exact h
    rcases Gz h' with ⟨rfl,rfl,_⟩ | ⟨z,h2⟩
    ·exact ⟨_,e1,rp⟩
    ·have q:=S.sl j s h2
     cases s with
     | un=>trivial
     | sh p'=>obtain ⟨v,w1,w2⟩:=q; exact ⟨v,w1,w2.mono sg⟩
     | bo p'=>exact q
     | fz y kvs=>obtain ⟨w0,w1,w2,w3⟩:=q; exact ⟨w0,by unfold Ft; rw [if_neg z]; exact w1,w2,KReps.mono w3 sg⟩
     | bz kvs=>obtain ⟨b,o,vs,w0,w1,w2⟩:=q; exact ⟨b,o,vs,w0,w1,KReps.mono w2 sg⟩
     | fl y ps=>obtain ⟨w0,w1,w2,w3⟩:=q; exact ⟨w0,by unfold Ft; rw [if_neg z]; exact w1,w2,w3.mono sg⟩
     | om b p'=>obtain ⟨w0,w1,w2⟩:=q; exact ⟨w0,by unfold Ft; rw [if_neg z]; exact w1,w2.mono sg rfl⟩
     | ow p' =>
      obtain ⟨b,w1,w2,w3⟩:=q
      exact ⟨b,w1,by unfold Ft; rw [if_neg z]; exact w2,w3.mono sg rfl⟩
end
section
variable {K:PySem.W.Frag} {C:Addr} {ω:Om}
theorem EU.eb {t:TE} {u:UE} (h:EU K C ω t u):EB K C ω t u:=fun B G0 H0 own G σ H ρ P Q S hu k=>h B G0 H0 own G σ H ρ P Q S hu fun v p G' H' w r hp=>k v p G' H' w (.inl r) hp
theorem EF.eb {t:TE} {u:UE} (h:EF K C ω t u):EB K C ω t u:=fun B G0 H0 own G σ H ρ P Q S hu k=>h B G0 H0 own G σ H ρ P Q S hu fun a p G' H' w _ _ r hp=>k _ p G' H' w (.inr ⟨a,rfl,r⟩) hp
theorem Vk {G H G' H':Hp} {a:Addr} {p:PV} (w:Grow G H G' H') (n:H a = none) (g:G' a = none) (r:OwnA K C G' H' a p):∃ G'',Grow G H G'' H'/\Rep K C G'' (.ref a) p:=by
 obtain ⟨ob,hob⟩:∃ ob,H' a = some ob:=by
  cases e:H' a with
  | none=>exact absurd e r.here
  | some x=>exact ⟨x,rfl⟩
 have sg:Same G' (upd G' a ob):=Same.new g
 refine ⟨upd G' a ob,⟨w.g.trans sg,w.h,fun b u h=>?_,fun b u h1 t h2=>?_⟩,?_⟩
 ·by_cases z:b = a
  ·subst z; rw [Bn] at h; rw [hob]; exact h
  ·rw [Bg z] at h; exact w.i _ _ h
 ·rw [Bg (by intro z; subst z; rw [n] at h1; cases h1)]; exact w.n b u h1 t h2
 ·cases p <;> first | exact r.elim | skip
  ·obtain ⟨vs,h1,h2⟩:=r; rw [hob] at h1; cases h1; exact Rep.ofL Bn (h2.mono sg)
  ·obtain ⟨vs,h1,h2⟩:=r; rw [hob] at h1; cases h1; exact Rep.ofD Bn (KReps.mono h2 sg)
  ·obtain ⟨vs,h1,h2⟩:=r; rw [hob] at h1; cases h1; exact Rep.ofDt Bn (KReps.mono h2 sg)
theorem EF.eu {t:TE} {u:UE} (h:EF K C ω t u):EU K C ω t u:=fun B G0 H0 own G σ H ρ P Q S hu k=>h B G0 H0 own G σ H ρ P Q S hu fun a p G' H' w n g r hp =>
 let ⟨G'',w2,r2⟩:=Vk w n g r
 k _ p G'' H' w2 r2 hp
def Sl.val:Sl->Option PV
 | .un=>none
 | .sh p=>some p
 | .bo p=>some p
 | .ow p=>some p
 | .fz _ _=>none
 | .bz _=>none
 | .fl _ ps=>some (.lst ps)
 | .om _ p=>some p
def Aif (i:Nat):UE:=fun ρ P=>∃ s p,ρ[i]? = some s/\s.val = some p/\P p
def AeP (i:Nat):UE:=fun ρ P=>∃ p,ρ[i]? = some (.sh p)/\P p
theorem Bb {i:Nat}:EB K C ω (Ff i) (Aif i):=fun B G0 H0 own G σ H ρ P Q S ⟨s,p,h1,h2,h3⟩ k=>by
 have q:=S.sl i s h1
 have w:=Grow.refl S.gr.i
 cases s with
 | un=>cases h2
 | sh p'=>cases h2; obtain ⟨v,e,r⟩:=q; exact ⟨v,e,k v _ G H w (.inl r) h3⟩
 | bo p'=>cases h2; obtain ⟨v,e,r⟩:=q; exact ⟨v,e,k v _ G H w (r.grow S.gr) h3⟩
 | ow p'=>cases h2; obtain ⟨a,e,_,r⟩:=q; exact ⟨_,e,k _ _ G H w (.inr ⟨a,rfl,r⟩) h3⟩
 | fz _ _=>cases h2
 | bz _=>cases h2
 | fl z ps=>cases h2; obtain ⟨e,_,h1,r⟩:=q; exact ⟨_,e,k _ _ G H w (.inr ⟨z.1,rfl,OwnA.ofL h1 r⟩) h3⟩
 | om a p'=>cases h2; obtain ⟨e,_,r⟩:=q; exact ⟨_,e,k _ _ G H w (.inr ⟨a,rfl,r⟩) h3⟩
theorem Cy {i:Nat}:EU K C ω (Ff i) (AeP i):=fun B G0 H0 own G σ H ρ P Q S ⟨p,h1,h3⟩ k=>by
 obtain ⟨v,e,r⟩:=S.sl i _ h1
 exact ⟨v,e,k v _ G H (Grow.refl S.gr.i) r h3⟩
def uC (p:PV):UE:=fun _ P=>P p
theorem Ob {v:V} {p:PV} (h:∀ G,Rep K C G v p):EU K C ω (tC v) (uC p):=fun B G0 H0 own G σ H ρ P Q S hu k=>k v p G H (Grow.refl S.gr.i) (h G) hu
theorem Bj {i:Int}:EU K C ω (tC (.int i)) (uC (.int i)):=Ob fun _=>.int i
theorem Ua {b:Bool}:EU K C ω (tC (.bl b)) (uC (.bl b)):=Ob fun _=>.bl b
theorem Cq {x:Str}:EU K C ω (tC (.str x)) (uC (.str x)):=Ob fun _=>.str x
theorem AhX:EU K C ω (tC .non) (uC .non):=Ob fun _=>.non
theorem RepB.int {G H:Hp} {v:V} {i:Int} (h:RepB K C G H v (.int i)):v = .int i:=by
 rcases h with h | ⟨a,_,h⟩
 ·cases h; rfl
 ·exact h.elim
theorem RepB.bl {G H:Hp} {v:V} {b:Bool} (h:RepB K C G H v (.bl b)):v = .bl b:=by
 rcases h with h | ⟨a,_,h⟩
 ·cases h; rfl
 ·exact h.elim
theorem RepB.str {G H:Hp} {v:V} {b:Str} (h:RepB K C G H v (.str b)):v = .str b:=by
 rcases h with h | ⟨a,_,h⟩
 ·cases h; rfl
 ·exact h.elim
theorem RepB.lst {G H:Hp} {v:V} {ps:List PV} (i:Same G H) (h:RepB K C G H v (.lst ps)):∃ a vs,v = .ref a/\H a = some (.lst vs)/\Reps K C G vs ps:=by
 rcases h with h | ⟨a,e,vs,h1,h2⟩
 ·cases h with
  | lst e l q=>exact ⟨_,_,rfl,i _ _ e,l,q⟩
 ·exact ⟨a,vs,e,h1,h2⟩
theorem RepB.tup {G H:Hp} {v:V} {ps:List PV} (i:Same G H) (h:RepB K C G H v (.tup ps)):∃ a vs,v = .ref a/\H a = some (.tup vs)/\Reps K C G vs ps:=by
 rcases h with h | ⟨a,e,h⟩
 ·cases h with
  | tup e l q=>exact ⟨_,_,rfl,i _ _ e,l,q⟩
 ·exact h.elim
theorem RepB.scr {G H:Hp} {v:V} {ns:List Int} (i:Same G H) (h:RepB K C G H v (.scr ns)):∃ a,v = .ref a/\SqL K H a (ns.map V.int):=by
 rcases h with h | ⟨a,e,h⟩
 ·cases h with
  | scr e=>exact ⟨_,rfl,i.seq e⟩
 ·exact h.elim
theorem RepB.dk {G H:Hp} {v:V} {ps:List (Key × PV)} (i:Same G H) (h:RepB K C G H v (.dk ps)):∃ a kvs,v = .ref a/\H a = some (.dK kvs)/\LAt (KRep K C) G kvs ps:=by
 rcases h with h | ⟨a,e,vs,h1,h2⟩
 ·cases h with
  | dk e l hk q=>exact ⟨_,_,rfl,i _ _ e,l,fun i v p h1 h2=>⟨hk i v p h1 h2,q i v p h1 h2⟩⟩
 ·exact ⟨a,vs,e,h1,h2⟩
theorem RepB.dt {G H:Hp} {v:V} {ps:List (List Key × PV)} (i:Same G H) (h:RepB K C G H v (.dt ps)):∃ a kvs,v = .ref a/\H a = some (.dT kvs)/\LAt (KRep K C) G kvs ps:=by
 rcases h with h | ⟨a,e,vs,h1,h2⟩
 ·cases h with
  | dt e l hk q=>exact ⟨_,_,rfl,i _ _ e,l,fun i v p h1 h2=>⟨hk i v p h1 h2,q i v p h1 h2⟩⟩
 ·exact ⟨a,vs,e,h1,h2⟩
theorem two {ta tb:TE} {ua ub:UE} {r:R2} (ha:EB K C ω ta ua) (hb:EB K C ω tb ub) {B G0 H0:Hp} {own:Nat->Option Addr} {G:Hp} {σ:St} {H:Hp} {ρ:Bf} {Q:VK} {P:PV->PV->Prop} (S:Sat K C ω B G0 H0 own G σ H ρ)
  (hu:ua ρ fun p=>ub ρ fun q=>P p q) (k:∀ v w p q G' H',Grow G H G' H'->RepB K C G' H' v p->RepB K C G' H' w q->P p q->r v w H' Q):tOp r ta tb σ H Q :=
 ha B G0 H0 own G σ H ρ _ _ S hu fun v p G1 H1 w1 r1 h1=>hb B G0 H0 own G1 σ H1 ρ _ _ (S.grow w1) h1 fun w q G2 H2 w2 r2 h2=>k v w p q G2 H2 (w1.trans w2) (r1.grow w2) r2 h2
def bI0 (g:Int->Int->PV) (p q:PV) (P:PV->Prop):Prop:=∃ i j,p = .int i/\q = .int j/\P (g i j)
def uI0 (g:Int->Int->PV) (ua ub:UE):UE:=fun ρ P=>ua ρ fun p=>ub ρ fun q=>bI0 g p q P
def bI (c:Int->Int->Prop) (g:Int->Int->PV) (p q:PV) (P:PV->Prop):Prop:=∃ i j,p = .int i/\q = .int j/\c i j/\P (g i j)
def uI (c:Int->Int->Prop) (g:Int->Int->PV) (ua ub:UE):UE:=fun ρ P=>ua ρ fun p=>ub ρ fun q=>bI c g p q P
theorem Gb {g:Int->Int->V} {g':Int->Int->PV} {ta tb:TE} {ua ub:UE} (hg:∀ G i j,Rep K C G (g i j) (g' i j)) (ha:EB K C ω ta ua) (hb:EB K C ω tb ub):EU K C ω (tOp (rI0 g) ta tb) (uI0 g' ua ub) :=
 fun B G0 H0 own G σ H ρ P Q S hu k=>two ha hb S hu fun v w p q G' H' gr r1 r2 ⟨i,j,e1,e2,h⟩=>by
  subst e1 e2
  exact ⟨i,j,r1.int,r2.int,k _ _ G' H' gr (hg G' i j) h⟩
theorem Cl {c:Int->Int->Prop} {g:Int->Int->V} {g':Int->Int->PV} {ta tb:TE} {ua ub:UE} (hg:∀ G i j,Rep K C G (g i j) (g' i j)) (ha:EB K C ω ta ua) (hb:EB K C ω tb ub):EU K C ω (tOp (rI c g) ta tb) (uI c g' ua ub) :=
 fun B G0 H0 own G σ H ρ P Q S hu k=>two ha hb S hu fun v w p q G' H' gr r1 r2 ⟨i,j,e1,e2,hc,h⟩=>by
  subst e1 e2
  exact ⟨i,j,r1.int,r2.int,hc,k _ _ G' H' gr (hg G' i j) h⟩
def bU (g:Int->PV) (p:PV) (P:PV->Prop):Prop:=∃ i,p = .int i/\P (g i)
def uU (g:Int->PV) (ua:UE):UE:=fun ρ P=>ua ρ fun p=>bU g p P
theorem Akv {g:Int->V} {g':Int->PV} {ta:TE} {ua:UE} (hg:∀ G i,Rep K C G (g i) (g' i)) (ha:EB K C ω ta ua):EU K C ω (tUn (rU g) ta) (uU g' ua) :=
 fun B G0 H0 own G σ H ρ P Q S hu k=>ha B G0 H0 own G σ H ρ _ _ S hu fun v p G' H' w r ⟨i,e,h⟩=>by
  subst e
  exact ⟨i,r.int,k _ _ G' H' w (hg G' i) h⟩
def Aed (neg:Bool) (p q:PV) (P:PV->Prop):Prop:=(∃ i j,p = .int i/\q = .int j/\P (.bl (if neg then !decide (i = j) else decide (i = j))))\/(∃ i j,p = .str i/\q = .str j/\P (.bl (if neg then !decide (i = j) else decide (i = j))))
def AiW (neg:Bool) (ua ub:UE):UE:=fun ρ P=>ua ρ fun p=>ub ρ fun q=>Aed neg p q P
theorem AaG {ta tb:TE} {ua ub:UE} (ha:EB K C ω ta ua) (hb:EB K C ω tb ub):EU K C ω (tOp rEq ta tb) (AiW false ua ub) :=
 fun B G0 H0 own G σ H ρ P Q S hu k=>two ha hb S hu fun v w p q G' H' gr r1 r2 h=>by
  rcases h with ⟨i,j,e1,e2,h⟩ | ⟨i,j,e1,e2,h⟩
  ·subst e1 e2; rw [r1.int,r2.int]; exact Aeh (k _ _ G' H' gr (.bl _) h)
  ·subst e1 e2; rw [r1.str,r2.str]; exact Aeo (k _ _ G' H' gr (.bl _) h)
def isN:PV->Bool
 | .non=>true
 | _=>false
theorem AgW {G H:Hp} {v:V} {p:PV} (r:RepB K C G H v p):decide (v = .non) = isN p:=by
 rcases r with r | ⟨a,e,r⟩
 ·cases r <;> first | rfl | exact decide_eq_false (fun z=>nomatch z)
 ·subst e
  cases p <;> first | exact r.elim | exact decide_eq_false (fun z=>nomatch z)
def AiO (neg:Bool) (ua:UE):UE:=fun ρ P=>ua ρ fun p=>P (.bl (if neg then !isN p else isN p))
theorem AfS {ta:TE} {ua:UE} (ha:EB K C ω ta ua):EU K C ω (AeK ta) (AiO true ua) :=
 fun B G0 H0 own G σ H ρ P Q S hu k=>ha B G0 H0 own G σ H ρ _ _ S hu fun v p G' H' w r h=>by rw [AgW r]; exact k _ _ G' H' w (.bl _) h
def bB (p:PV) (P:Bool->Prop):Prop:=∃ b,p = .bl b/\P b
def uB (ua:UE):UT:=fun ρ P=>ua ρ fun p=>bB p P
theorem Lm {ta:TE} {ua:UE} (ha:EB K C ω ta ua):TU K C ω (tB ta) (uB ua) :=
 fun B G0 H0 own G σ H ρ P Q S hu k=>ha B G0 H0 own G σ H ρ _ _ S hu fun v p G' H' w r ⟨b,e,h⟩=>by subst e; exact ⟨b,r.bl,k b G' H' w h⟩
theorem Nc {ta:TE} {ua:UE} (ha:EB K C ω ta ua):TU K C ω (Wn ta) (uB ua) :=
 fun B G0 H0 own G σ H ρ P Q S hu k=>ha B G0 H0 own G σ H ρ _ _ S hu fun v p G' H' w r ⟨b,e,h⟩=>by subst e; exact ⟨b,r.bl,k b G' H' w h⟩
def uOr (ua ub:UT):UT:=fun ρ P=>ua ρ fun b=>if b = true then P true else ub ρ P
def AhL (ua:UT):UT:=fun ρ P=>ua ρ fun b=>P (!b)
theorem Aa9 {ta tb:TT} {ua ub:UT} (ha:TU K C ω ta ua) (hb:TU K C ω tb ub):TU K C ω (tOr ta tb) (uOr ua ub) :=
 fun B G0 H0 own G σ H ρ P Q S hu k=>ha B G0 H0 own G σ H ρ _ _ S hu fun b G' H' w h=>by
  cases b with
  | false=>exact Qo (hb B G0 H0 own G' σ H' ρ P Q (S.grow w) (by simpa using h) fun c G2 H2 w2 h2=>k c G2 H2 (w.trans w2) h2)
  | true=>exact Ny (k _ G' H' w (by simpa using h))
theorem Oo {ta:TT} {ua:UT} (ha:TU K C ω ta ua):TU K C ω (AdC ta) (AhL ua) :=
 fun B G0 H0 own G σ H ρ P Q S hu k=>ha B G0 H0 own G σ H ρ _ _ S hu fun b G' H' w h=>k _ G' H' w h
def Afi (ua ub:UE):UE:=fun ρ P=>ua ρ fun p=>bB p fun b=>if b = true then ub ρ P else P (.bl false)
def AeC (ua:UE):UE:=fun ρ P=>ua ρ fun p=>bB p fun b=>P (.bl (!b))
theorem Ol {ta tb:TE} {ua ub:UE} (ha:EB K C ω ta ua) (hb:EU K C ω tb ub):EU K C ω (Aa3 ta tb) (Afi ua ub) :=
 fun B G0 H0 own G σ H ρ P Q S hu k=>ha B G0 H0 own G σ H ρ _ _ S hu fun v p G' H' w r ⟨b,e,h⟩=>by
  subst e
  refine ⟨b,r.bl,?_⟩
  cases b with
  | true=>exact Ny (hb B G0 H0 own G' σ H' ρ P Q (S.grow w) (by simpa using h) fun c p2 G2 H2 w2 h2=>k c p2 G2 H2 (w.trans w2) h2)
  | false=>exact Qo (k _ _ G' H' w (.bl _) (by simpa using h))
theorem Zl {ta:TE} {ua:UE} (ha:EB K C ω ta ua):EU K C ω (Aa6 ta) (AeC ua) :=
 fun B G0 H0 own G σ H ρ P Q S hu k=>ha B G0 H0 own G σ H ρ _ _ S hu fun v p G' H' w r ⟨b,e,h⟩=>by subst e; exact ⟨b,r.bl,k _ _ G' H' w (.bl _) h⟩
end
section
variable {K:PySem.W.Frag} {C:Addr} {ω:Om}
theorem ArgsOk.len {G H:Hp}:∀ {ms:List Bool} {vs:List V} {ps:List PV},ArgsOk K C G H ms vs ps->vs.length = ms.length/\ps.length = ms.length
 | [],[],[],_=>⟨rfl,rfl⟩
 | true :: _,_ :: _,_ :: _,h=>⟨congrArg Nat.succ h.2.len.1,congrArg Nat.succ h.2.len.2⟩
 | false :: _,_ :: _,_ :: _,h=>⟨congrArg Nat.succ h.2.len.1,congrArg Nat.succ h.2.len.2⟩
 | [],_ :: _,_,h=>h.elim
 | [],[],_ :: _,h=>h.elim
 | true :: _,[],_,h=>by cases h
 | false :: _,[],_,h=>by cases h
 | true :: _,_ :: _,[],h=>by cases h
 | false :: _,_ :: _,[],h=>by cases h
theorem ArgsOk.reps {G H:Hp}:∀ {n:Nat} {vs:List V} {ps:List PV},ArgsOk K C G H (List.replicate n true) vs ps->Reps K C G vs ps
 | 0,[],[],_=>LAt.nil
 | 0,_ :: _,_,h=>by cases h
 | 0,[],_ :: _,h=>by cases h
 | _ + 1,[],_,h=>by cases h
 | _ + 1,_ :: _,[],h=>by cases h
 | n + 1,v :: vs,p :: ps,h=>by
  have h1:Rep K C G v p:=h.1
  have h2:Reps K C G vs ps:=ArgsOk.reps (n:=n) h.2
  exact ⟨congrArg Nat.succ h2.1,fun i x y e1 e2=>by
   cases i with
   | zero=>cases e1; cases e2; exact h1
   | succ i=>exact h2.2 i x y (by simpa using e1) (by simpa using e2)⟩
def AgM:UA:=fun _ P=>P []
def AaL (ua:UE) (ur:UA):UA:=fun ρ P=>ua ρ fun p=>ur ρ fun ps=>P (p :: ps)
theorem Bm:AU K C ω [] Us AgM:=fun B G0 H0 own G σ H ρ P Q S hu k=>k [] [] G H (Grow.refl S.gr.i) trivial hu
theorem Bt {ms:List Bool} {ta:TE} {tr:TA} {ua:UE} {ur:UA} (ha:EU K C ω ta ua) (hr:AU K C ω ms tr ur):AU K C ω (true :: ms) (Gm ta tr) (AaL ua ur) :=
 fun B G0 H0 own G σ H ρ P Q S hu k=>ha B G0 H0 own G σ H ρ _ _ S hu fun v p G1 H1 w1 r1 h1=>hr B G0 H0 own G1 σ H1 ρ _ _ (S.grow w1) h1 fun vs ps G2 H2 w2 r2 h2=>k (v :: vs) (p :: ps) G2 H2 (w1.trans w2) ⟨r1.mono w2.g,r2⟩ h2
theorem Bz {ms:List Bool} {ta:TE} {tr:TA} {ua:UE} {ur:UA} (ha:EB K C ω ta ua) (hr:AU K C ω ms tr ur):AU K C ω (false :: ms) (Gm ta tr) (AaL ua ur) :=
 fun B G0 H0 own G σ H ρ P Q S hu k=>ha B G0 H0 own G σ H ρ _ _ S hu fun v p G1 H1 w1 r1 h1=>hr B G0 H0 own G1 σ H1 ρ _ _ (S.grow w1) h1 fun vs ps G2 H2 w2 r2 h2=>k (v :: vs) (p :: ps) G2 H2 (w1.trans w2) ⟨r1.grow w2,r2⟩ h2
def AiB (u:UA):UE:=fun ρ P=>u ρ fun ps=>P (.lst ps)
def Aid (u:UA):UE:=fun ρ P=>u ρ fun ps=>P (.tup ps)
theorem Dx (n:Nat) {t:TA} {u:UA} (h:AU K C ω (List.replicate n true) t u) (hn:n <= 1000:=by decide):EF K C ω (AaU t) (AiB u) :=
 fun B G0 H0 own G σ H ρ P Q S hu k=>h B G0 H0 own G σ H ρ _ _ S hu fun vs ps G1 H1 w1 r1 h1=>by
  have hl:vs.length = n:=by rw [r1.len.1,List.length_replicate]
  refine ⟨Nat.le_of_lt (Nx (by omega)),fun a H2 ha s2 e2=>?_⟩
  have w2:=w1.trans (Grow.own w1.i s2)
  exact k a _ G1 H2 w2 (w1.h.free ha) (w1.i.free ha) (OwnA.ofL e2 r1.reps) h1
theorem Gq (n:Nat) {t:TA} {u:UA} (h:AU K C ω (List.replicate n true) t u) (hn:n <= 1000:=by decide):EU K C ω (Aef t) (Aid u) :=
 fun B G0 H0 own G σ H ρ P Q S hu k=>h B G0 H0 own G σ H ρ _ _ S hu fun vs ps G1 H1 w1 r1 h1=>by
  have hl:vs.length = n:=by rw [r1.len.1,List.length_replicate]
  refine ⟨Nat.le_of_lt (Nx (by omega)),fun a H2 ha s2 e2=>?_⟩
  have w2:=Grow.put w1.i ha s2 e2
  exact k _ _ _ H2 (w1.trans w2) (Rep.ofT Bn (r1.reps.mono w2.g)) h1
theorem LAt.get' {β α:Type} {R:Hp->β->α->Prop} {H:Hp} {xs:List β} {ys:List α} (h:LAt R H xs ys) {i:Nat} {y:α} (e:ys[i]? = some y):∃ x,xs[i]? = some x/\R H x y:=by
 have hi:i < ys.length:=(List.getElem?_eq_some_iff.mp e).1
 have hx:i < xs.length:=by rw [h.1]; exact hi
 exact ⟨xs[i],List.getElem?_eq_getElem hx,h.2 i _ y (List.getElem?_eq_getElem hx) e⟩
theorem LAt.atI {β α:Type} {R:Hp->β->α->Prop} {H:Hp} {xs:List β} {ys:List α} (h:LAt R H xs ys) {i:Int} {y:α} (e:L2.atI ys i = some y):∃ x,L2.atI xs i = some x/\R H x y:=by
 unfold L2.atI at e ⊢
 rw [h.1]
 cases z:ixN ys.length i with
 | none=>rw [z] at e; cases e
 | some j=>rw [z] at e; exact h.get' e
theorem Dy {G:Hp} (ns:List Int):Reps K C G (ns.map V.int) (ns.map PV.int) :=
 ⟨by simp,fun i v p h1 h2=>by
  rw [List.getElem?_map] at h1 h2
  cases e:ns[i]? with
  | none=>rw [e] at h1; cases h1
  | some n=>rw [e] at h1 h2; cases h1; cases h2; exact .int n⟩
def Xj (p q:PV) (P:PV->Prop):Prop:=∃ i ps x,q = .int i/\(p = .lst ps\/∃ ns,p = .scr ns/\ps = ns.map .int)/\atI ps i = some x/\P x
def Ai2 (ua ub:UE):UE:=fun ρ P=>ua ρ fun p=>ub ρ fun q=>Xj p q P
theorem Dp {ta tb:TE} {ua ub:UE} (ha:EB K C ω ta ua) (hb:EB K C ω tb ub):EU K C ω (tOp (Aa8 K) ta tb) (Ai2 ua ub) :=
 fun B G0 H0 own G σ H ρ P Q S hu k=>two ha hb S hu fun v w p q G' H' gr r1 r2 ⟨i,ps,x,e1,e2,e3,h⟩=>by
  subst e1
  rcases e2 with e2 | ⟨ns,e2,e4⟩
  ·subst e2
   obtain ⟨a,vs,rfl,ea,l⟩:=r1.lst gr.i
   obtain ⟨y,hy,ry⟩:=l.atI e3
   exact ⟨a,vs,i,y,rfl,r2.int,SqL.of ea,hy,k y x G' H' gr ry h⟩
  ·subst e2 e4
   obtain ⟨a,rfl,ea⟩:=r1.scr gr.i
   obtain ⟨y,hy,ry⟩:=(Dy (K:=K) (C:=C) (G:=G') ns).atI e3
   exact ⟨a,_,i,y,rfl,r2.int,ea,hy,k y x G' H' gr ry h⟩
def Sb (p q:PV) (P:PV->Prop):Prop:=∃ i ps x,q = .int i/\p = .tup ps/\atI ps i = some x/\P x
def AgO (ua ub:UE):UE:=fun ρ P=>ua ρ fun p=>ub ρ fun q=>Sb p q P
theorem Fn {ta tb:TE} {ua ub:UE} (ha:EB K C ω ta ua) (hb:EB K C ω tb ub):EU K C ω (tOp (Aa0 K) ta tb) (AgO ua ub) :=
 fun B G0 H0 own G σ H ρ P Q S hu k=>two ha hb S hu fun v w p q G' H' gr r1 r2 ⟨i,ps,x,e1,e2,e3,h⟩=>by
  subst e1 e2
  obtain ⟨a,vs,rfl,ea,l⟩:=r1.tup gr.i
  obtain ⟨y,hy,ry⟩:=l.atI e3
  exact ⟨a,vs,i,y,rfl,r2.int,SqT.of ea,hy,k y x G' H' gr ry h⟩
abbrev UO:=Bf->(Option Int->Prop)->Prop
def OU (K:PySem.W.Frag) (C:Addr) (ω:Om) (t:TO) (u:UO):Prop:=∀ (B G0 H0:Hp) (own:Nat->Option Addr) (G:Hp) (σ:St) (H:Hp) (ρ:Bf) (P:Option Int->Prop) (Q:Option Int->Hp->Prop),Sat K C ω B G0 H0 own G σ H ρ->u ρ P->(∀ o G' H',Grow G H G' H'->P o->Q o H')->t σ H Q
def Zv:UO:=fun _ P=>P none
def Aa7 (p:PV) (P:Option Int->Prop):Prop:=∃ i,p = .int i/\P (some i)
def AeU (ua:UE):UO:=fun ρ P=>ua ρ fun p=>Aa7 p P
theorem Va:OU K C ω Zu Zv:=fun B G0 H0 own G σ H ρ P Q S hu k=>k none G H (Grow.refl S.gr.i) hu
theorem Fb {ta:TE} {ua:UE} (ha:EB K C ω ta ua):OU K C ω (AeW ta) (AeU ua) :=
 fun B G0 H0 own G σ H ρ P Q S hu k=>ha B G0 H0 own G σ H ρ _ _ S hu fun v p G' H' w r ⟨i,e,h⟩=>by subst e; exact ⟨i,r.int,k _ G' H' w h⟩
def Di {α:Type} (xs:List α) (lo hi:Option Int):List α:=(xs.drop (HT.sIx xs.length 0 lo)).take (HT.sIx xs.length xs.length hi - HT.sIx xs.length 0 lo)
theorem Nl {α β:Type} (f:α->β) (xs:List α) (lo hi:Option Int):Di (xs.map f) lo hi = (Di xs lo hi).map f:=by
 unfold Di; rw [List.length_map,List.map_take,List.map_drop]
theorem Reps.cut {G:Hp} {vs:List V} {ps:List PV} (h:Reps K C G vs ps) (lo hi:Option Int):Reps K C G (Tw vs lo hi) (Di ps lo hi):=by
 unfold Tw Di
 rw [h.1]
 exact (LAt.drop h _).take _
def AaD (p:PV) (lo hi:Option Int) (P:PV->Prop):Prop:=∃ ps,(p = .lst ps\/∃ ns,p = .scr ns/\ps = ns.map .int)/\P (.lst (Di ps lo hi))
def AiQ (ua:UE) (ul uh:UO):UE:=fun ρ P=>ua ρ fun p=>ul ρ fun lo=>uh ρ fun hi=>AaD p lo hi P
theorem Lh {ta:TE} {tl th:TO} {ua:UE} {ul uh:UO} (ha:EB K C ω ta ua) (hl:OU K C ω tl ul) (hh:OU K C ω th uh):EF K C ω (tSl (Aey K) ta tl th) (AiQ ua ul uh) :=
 fun B G0 H0 own G σ H ρ P Q S hu k=>ha B G0 H0 own G σ H ρ _ _ S hu fun v p G1 H1 w1 r1 h1=>hl B G0 H0 own G1 σ H1 ρ _ _ (S.grow w1) h1 fun lo G2 H2 w2 h2=>hh B G0 H0 own G2 σ H2 ρ _ _ ((S.grow w1).grow w2) h2 fun hi G3 H3 w3 h3=>by
  have w:=(w1.trans w2).trans w3
  have r:=(r1.grow w2).grow w3
  obtain ⟨ps,e,h⟩:=h3
  rcases e with e | ⟨ns,e,e4⟩
  ·subst e
   obtain ⟨a,vs,rfl,ea,l⟩:=r.lst w3.i
   exact ⟨a,vs,rfl,SqL.of ea,fun b H4 hb s4 e4=>k b _ G3 H4 (w.trans (Grow.own w3.i s4)) (w.h.free hb) (w3.i.free hb) (OwnA.ofL e4 (l.cut lo hi)) h⟩
  ·subst e e4
   obtain ⟨a,rfl,ea⟩:=r.scr w3.i
   exact ⟨a,_,rfl,ea,fun b H4 hb s4 e4=>k b _ G3 H4 (w.trans (Grow.own w3.i s4)) (w.h.free hb) (w3.i.free hb) (OwnA.ofL e4 ((Dy ns).cut lo hi)) h⟩
theorem AdA {G:Hp} {vs ws:List V} {ps qs:List PV} (h:Reps K C G vs ps) (h':Reps K C G ws qs):Reps K C G (vs ++ ws) (ps ++ qs):=LAt.append h h'
def AdM (p q:PV) (P:PV->Prop):Prop:=∃ ps qs,p = .lst ps/\q = .lst qs/\ps.length + qs.length <= 100000/\P (.lst (ps ++ qs))
def AgS (ua ub:UE):UE:=fun ρ P=>ua ρ fun p=>ub ρ fun q=>AdM p q P
theorem Xp {n:Nat} (h:n <= 100000):n < sizeLine:=Nat.lt_of_le_of_lt h (by decide)
theorem Ud {ta tb:TE} {ua ub:UE} (ha:EB K C ω ta ua) (hb:EB K C ω tb ub):EF K C ω (tOp Ae8 ta tb) (AgS ua ub) :=
 fun B G0 H0 own G σ H ρ P Q S hu k=>two ha hb S hu fun v w p q G' H' gr r1 r2 ⟨ps,qs,e1,e2,hl,h⟩=>by
  subst e1 e2
  obtain ⟨a,vs,rfl,ea,l⟩:=r1.lst gr.i
  obtain ⟨b,ws,rfl,eb,l2⟩:=r2.lst gr.i
  exact ⟨a,b,vs,ws,rfl,rfl,ea,eb,Nat.le_of_lt (Xp (by rw [l.1,l2.1]; exact hl)),fun c H4 hc s4 e4=>k c _ G' H4 (gr.trans (Grow.own gr.i s4)) (gr.h.free hc) (gr.i.free hc) (OwnA.ofL e4 (AdA l l2)) h⟩
def uCB (ur:List PV->(PV->Prop)->Prop) (u:UA):UE:=fun ρ P=>u ρ fun ps=>ur ps P
theorem Wd {ms:List Bool} {r:List V->Hp->VK->Prop} {ur:List PV->(PV->Prop)->Prop} {t:TA} {u:UA}
  (hr:∀ G H vs ps P Q,Same G H->ArgsOk K C G H ms vs ps->ur ps P->(∀ v p,Rep K C G v p->P p->Q v H)->r vs H Q) (ha:AU K C ω ms t u):EU K C ω (tCB r t) (uCB ur u) :=
 fun B G0 H0 own G σ H ρ P Q S hu k=>ha B G0 H0 own G σ H ρ _ _ S hu fun vs ps G1 H1 w1 r1 h1=>hr G1 H1 vs ps P Q w1.i r1 h1 fun v p rv hp=>k v p G1 H1 w1 rv hp
theorem Jw {G H:Hp} {m:Bool} {vs:List V} {ps:List PV} (h:ArgsOk K C G H [m] vs ps):∃ v p,vs = [v]/\ps = [p]/\RepB K C G H v p:=by
 match vs,ps,m,h with
 | [v],[p],true,h=>exact ⟨v,p,rfl,rfl,.inl h.1⟩
 | [v],[p],false,h=>exact ⟨v,p,rfl,rfl,h.1⟩
 | [],_,true,h=>cases h
 | [],_,false,h=>cases h
 | _ :: _,[],true,h=>cases h
 | _ :: _,[],false,h=>cases h
 | _ :: _ :: _,[_],true,h=>cases h.2
 | _ :: _ :: _,[_],false,h=>cases h.2
 | [_],_ :: _ :: _,true,h=>cases h.2
 | [_],_ :: _ :: _,false,h=>cases h.2
 | _ :: _ :: _,_ :: _ :: _,true,h=>cases h.2
 | _ :: _ :: _,_ :: _ :: _,false,h=>cases h.2
theorem Qj {G H:Hp} {m n:Bool} {vs:List V} {ps:List PV} (h:ArgsOk K C G H [m,n] vs ps):∃ v w p q,vs = [v,w]/\ps = [p,q]/\RepB K C G H v p/\RepB K C G H w q:=by
 match vs,ps,m,h with
 | v :: vs,p :: ps,true,h=>obtain ⟨w,q,rfl,rfl,r⟩:=Jw h.2; exact ⟨v,w,p,q,rfl,rfl,.inl h.1,r⟩
 | v :: vs,p :: ps,false,h=>obtain ⟨w,q,rfl,rfl,r⟩:=Jw h.2; exact ⟨v,w,p,q,rfl,rfl,h.1,r⟩
 | [],_,true,h=>cases h
 | [],_,false,h=>cases h
 | _ :: _,[],true,h=>cases h
 | _ :: _,[],false,h=>cases h
def AaV (ps:List PV) (P:PV->Prop):Prop:=∃ n:Nat,(ps = [.scr []]/\n = 0\/(∃ xs,ps = [.lst xs]/\n = xs.length)\/(∃ xs,ps = [.tup xs]/\n = xs.length)\/∃ ns,ps = [.scr ns]/\n = ns.length)/\P (.int n)
theorem Fc {m:Bool} {t:TA} {u:UA} (ha:AU K C ω [m] t u):EU K C ω (tCB (fun xs H Q=>∃ p ys,xs = [.ref p]/\(SqL K H p ys\/SqT K H p ys)/\Q (.int ys.length) H) t) (uCB AaV u) :=
 Wd (fun G H vs ps P Q i ok h k=>by
  obtain ⟨v,p,rfl,rfl,r⟩:=Jw ok
  obtain ⟨n,h1,h2⟩:=h
  rcases h1 with ⟨e,rfl⟩ | ⟨xs,e,rfl⟩ | ⟨xs,e,rfl⟩ | ⟨ns,e,rfl⟩
  ·cases e
   obtain ⟨a,rfl,ea⟩:=r.scr i
   exact ⟨a,_,rfl,.inl ea,k _ _ (.int _) h2⟩
  ·cases e
   obtain ⟨a,vs,rfl,ea,l⟩:=r.lst i
   exact ⟨a,vs,rfl,.inl (SqL.of ea),by rw [l.1]; exact k _ _ (.int _) h2⟩
  ·cases e
   obtain ⟨a,vs,rfl,ea,l⟩:=r.tup i
   exact ⟨a,vs,rfl,.inr (SqT.of ea),by rw [l.1]; exact k _ _ (.int _) h2⟩
  ·cases e
   obtain ⟨a,rfl,ea⟩:=r.scr i
   exact ⟨a,_,rfl,.inl ea,by rw [List.length_map]; exact k _ _ (.int _) h2⟩) ha
def AcW (ps:List PV) (P:PV->Prop):Prop:=∃ xs,(ps = [.lst xs]\/ps = [.tup xs]\/∃ ns,ps = [.scr ns]/\xs = ns.map .int)/\P (.lst xs)
theorem Th {m:Bool} {t:TA} {u:UA} (ha:AU K C ω [m] t u):EF K C ω (tCB (fun xs H Q=>∃ p ys,xs = [.ref p]/\(SqL K H p ys\/SqT K H p ys)/\∀ l H',H l = none->Same H H'->H' l = some (.lst ys)->Q (.ref l) H') t) (uCB AcW u) :=
 fun B G0 H0 own G σ H ρ P Q S hu k=>ha B G0 H0 own G σ H ρ _ _ S hu fun vs ps G1 H1 w1 r1 h1=>by
  obtain ⟨v,p,rfl,rfl,r⟩:=Jw r1
  obtain ⟨xs,h1,h2⟩:=h1
  rcases h1 with e | e | ⟨ns,e,rfl⟩
  ·cases e
   obtain ⟨a,vs,rfl,ea,l⟩:=r.lst w1.i
   exact ⟨a,vs,rfl,.inl (SqL.of ea),fun b H4 hb s4 e4=>k b _ G1 H4 (w1.trans (Grow.own w1.i s4)) (w1.h.free hb) (w1.i.free hb) (OwnA.ofL e4 l) h2⟩
  ·cases e
   obtain ⟨a,vs,rfl,ea,l⟩:=r.tup w1.i
   exact ⟨a,vs,rfl,.inr (SqT.of ea),fun b H4 hb s4 e4=>k b _ G1 H4 (w1.trans (Grow.own w1.i s4)) (w1.h.free hb) (w1.i.free hb) (OwnA.ofL e4 l) h2⟩
  ·cases e
   obtain ⟨a,rfl,ea⟩:=r.scr w1.i
   exact ⟨a,_,rfl,.inl ea,fun b H4 hb s4 e4=>k b _ G1 H4 (w1.trans (Grow.own w1.i s4)) (w1.h.free hb) (w1.i.free hb) (OwnA.ofL e4 (Dy ns)) h2⟩
end
section
variable {K:PySem.W.Frag} {C:Addr} {ω:Om} {rm:Rm}
def Ae9:US:=fun d ρ=>d.nx ρ
def AdF (u w:US):US:=fun d ρ=>u { d with nx:=w d } ρ
theorem Fx:SU K C ω rm AaP Ae9:=fun B G0 H0 own G σ H ρ D d S F h=>F.nx own G σ H ρ S h
theorem Bo {t t':TS} {u u':US} (h:SU K C ω rm t u) (h':SU K C ω rm t' u'):SU K C ω rm (Adv t t') (AdF u u'):=fun B G0 H0 own G σ H ρ D d S F hu =>
 h B G0 H0 own G σ H ρ { D with nx:=t' D } { d with nx:=u' d } S ⟨fun own' G' σ' H' ρ' S' q=>h' B G0 H0 own' G' σ' H' ρ' D d S' F q,F.rt,F.bk,F.ct⟩ hu
def Yg (i:Nat) (u:US):US:=fun d ρ=>u d (Gy i ρ)
theorem Ws (i:Nat) {t:TS} {u:US} (h:SU K C ω rm t u):SU K C ω rm t (Yg i u):=fun B G0 H0 own G σ H ρ D d S F hu =>
 let ⟨own',G',S'⟩:=S.share i
 h B G0 H0 own' G' σ H _ D d S' F hu
def AeT (ua:UE):US:=fun d ρ=>ua ρ fun _=>d.nx ρ
theorem AfV {ta:TE} {ua:UE} (ha:EB K C ω ta ua):SU K C ω rm (Sv ta) (AeT ua):=fun B G0 H0 own G σ H ρ D d S F hu =>
 ha B G0 H0 own G σ H ρ _ _ S hu fun v p G' H' w _ h=>F.nx own G' σ H' ρ (S.grow w) h
def Aeb (ua:UE):US:=fun d ρ=>ua ρ d.rt
theorem Gf {ta:TE} {ua:UE} (ha:EU K C ω ta ua):SU K C ω .sh (Vh ta) (Aeb ua):=fun B G0 H0 own G σ H ρ D d S F hu =>
 ha B G0 H0 own G σ H ρ _ _ S hu fun v p G' H' w r h=>F.rt G' H' v p (S.gr.trans w) r h
theorem Zj {ta:TE} {ua:UE} (ha:EF K C ω ta ua):SU K C ω .fr (Vh ta) (Aeb ua):=fun B G0 H0 own G σ H ρ D d S F hu =>
 ha B G0 H0 own G σ H ρ _ _ S hu fun a p G' H' w n g r h=>F.rt G' H' _ p (S.gr.trans w) ⟨a,rfl,S.gr.h.free n,g,r⟩ h
def Afw (i:Nat):US:=fun d ρ=>∃ p,ρ[i]? = some (.ow p)/\d.rt p
theorem Jq {i:Nat}:SU K C ω .fr (Vh (Ff i)) (Afw i):=fun B G0 H0 own G σ H ρ D d S F ⟨p,e,h⟩=>by
 obtain ⟨a,e1,o,r⟩:=S.sl i _ e
 obtain ⟨f0,fg,_⟩:=S.fr i a o
 exact ⟨_,e1,F.rt G H _ p S.gr ⟨a,rfl,f0,fg,r⟩ h⟩
def AhG (uc:UT) (u w:US):US:=fun d ρ=>uc ρ fun b=>if b = true then u d ρ else w d ρ
theorem Gu {tc:TT} {t t':TS} {uc:UT} {u u':US} (hc:TU K C ω tc uc) (h:SU K C ω rm t u) (h':SU K C ω rm t' u'):SU K C ω rm (AdH tc t t') (AhG uc u u'):=fun B G0 H0 own G σ H ρ D d S F hu =>
 hc B G0 H0 own G σ H ρ _ _ S hu fun b G' H' w q=>by
  cases b with
  | true=>exact Ny (h B G0 H0 own G' σ H' ρ D d (S.grow w) F (by simpa using q))
  | false=>exact Qo (h' B G0 H0 own G' σ H' ρ D d (S.grow w) F (by simpa using q))
def Ahp (i:Nat) (ua:UE):US:=fun d ρ=>ua ρ fun p=>d.nx (ρ.set i (.sh p))
theorem Ch {i:Nat} {ta:TE} {ua:UE} (ha:EU K C ω ta ua):SU K C ω rm (Qk ta (La i)) (Ahp i ua):=fun B G0 H0 own G σ H ρ D d S F hu =>
 ha B G0 H0 own G σ H ρ _ _ S hu fun v p G' H' w r h=>F.nx _ G' _ H' _ ((S.grow w).setS r) h
def Aer (i:Nat) (ua:UE):US:=fun d ρ=>ua ρ fun p=>d.nx (ρ.set i (.ow p))
theorem Du {i:Nat} {ta:TE} {ua:UE} (ha:EF K C ω ta ua):SU K C ω rm (Qk ta (La i)) (Aer i ua):=fun B G0 H0 own G σ H ρ D d S F hu =>
 ha B G0 H0 own G σ H ρ _ _ S hu fun a p G' H' w n g r h=>F.nx _ G' _ H' _ ((S.grow w).setO r (S.gr.h.free n) g fun j z=>(let ⟨_,_,o,ho,_⟩:=S.fr j a z; by rw [n] at ho; cases ho)) h
def Ac9 (i:Nat):PV->Bf->(Bf->Prop)->Prop:=fun p ρ P=>P (ρ.set i (.sh p))
theorem Yu {α:Type}:∀ {l:List α} {i top:Nat} {x:α},i < top->(l.set i x).drop top = l.drop top
 | [],_,_,_,_=>rfl
 | _ :: _,_,0,_,h=>by omega
 | _ :: _,0,_ + 1,_,_=>rfl
 | _ :: l,i + 1,t + 1,x,h=>Yu (l:=l) (i:=i) (top:=t) (by omega)
theorem Ck {top i:Nat} (hi:i < top:=by decide):GU K C ω top (La i) (Ac9 i):=fun B G0 H0 own G σ H ρ v p P R S r h k=>k _ _ _ (S.setS r) (Yu hi) h
def Ace:List PV->Bf->(Bf->Prop)->Prop:=fun ps ρ P=>ps = []/\P ρ
def Zk (u:PV->Bf->(Bf->Prop)->Prop) (us:List PV->Bf->(Bf->Prop)->Prop):List PV->Bf->(Bf->Prop)->Prop:=fun ps ρ P=>∃ p r,ps = p :: r/\u p ρ fun ρ'=>us r ρ' P
theorem Ou {top:Nat}:GsU K C ω top AdL Ace:=fun B G0 H0 own G σ H ρ vs ps P R S r ⟨e,h⟩ k=>by
 subst e
 exact ⟨List.eq_nil_of_length_eq_zero r.1,k _ _ _ S rfl h⟩
theorem Dw {top:Nat} {g:TG} {gs:TGs} {u:PV->Bf->(Bf->Prop)->Prop} {us:List PV->Bf->(Bf->Prop)->Prop} (hg:GU K C ω top g u) (hs:GsU K C ω top gs us):GsU K C ω top (Aa2 g gs) (Zk u us):=fun B G0 H0 own G σ H ρ vs ps P R S r ⟨p,q,e,h⟩ k=>by
 subst e
 match vs,r with
 | [],r=>have:=r.1; simp at this
 | v :: vs,r =>
  obtain ⟨r1,r2⟩:=r.uncons
  exact ⟨v,vs,rfl,hg B G0 H0 own G σ H ρ v p _ _ S r1 h fun own' σ' ρ' S' dr h'=>hs B G0 H0 own' G σ' H ρ' vs q P R S' r2 h' fun own2 σ2 ρ2 S2 dr2 h2=>k own2 σ2 ρ2 S2 (dr2.trans dr) h2⟩
def Wo (n:Nat) (us:List PV->Bf->(Bf->Prop)->Prop):PV->Bf->(Bf->Prop)->Prop:=fun p ρ P=>∃ ps,p = .tup ps/\ps.length = n/\us ps ρ P
theorem Sq {top n:Nat} {gs:TGs} {us:List PV->Bf->(Bf->Prop)->Prop} (hs:GsU K C ω top gs us):GU K C ω top (Wv K n gs) (Wo n us):=fun B G0 H0 own G σ H ρ v p P R S r ⟨ps,e,hl,h⟩ k=>by
 subst e
 cases r with
 | tup e l q=>exact ⟨_,_,rfl,SqT.of (S.gr.i _ _ e),by rw [l]; exact hl,hs B G0 H0 own G σ H ρ _ ps P R S ⟨l,q⟩ h k⟩
def Ahr (ua:UE) (ug:PV->Bf->(Bf->Prop)->Prop):US:=fun d ρ=>ua ρ fun p=>ug p ρ d.nx
theorem Ait {top:Nat} {ta:TE} {ua:UE} {g:TG} {ug:PV->Bf->(Bf->Prop)->Prop} (ha:EU K C ω ta ua) (hg:GU K C ω top g ug):SU K C ω rm (Qk ta g) (Ahr ua ug):=fun B G0 H0 own G σ H ρ D d S F hu =>
 ha B G0 H0 own G σ H ρ _ _ S hu fun v p G' H' w r h=>hg B G0 H0 own G' σ H' ρ v p _ _ (S.grow w) r h fun own' σ' ρ' S' _ q=>F.nx own' G' σ' H' ρ' S' q
theorem No {G:Hp} {vs:List V} {ps:List PV} {v:V} {p:PV} (h:Reps K C G vs ps) (r:Rep K C G v p):Reps K C G (vs ++ [v]) (ps ++ [p]):=LAt.snoc h r
theorem Sat.list {B G0 H0 G H:Hp} {own:Nat->Option Addr} {σ:St} {ρ:Bf} {i:Nat} {ps:List PV} (S:Sat K C ω B G0 H0 own G σ H ρ) (e:ρ[i]? = some (.ow (.lst ps))):∃ a vs,σ[i]? = some (some (.ref a))/\own i = some a/\H a = some (.lst vs)/\Reps K C G vs ps:=by
 obtain ⟨a,e1,o,vs,h1,h2⟩:=S.sl i _ e
 exact ⟨a,vs,e1,o,h1,h2⟩
theorem Uv {B G0 H0 G H:Hp} {own:Nat->Option Addr} {σ:St} {ρ:Bf} {i:Nat} {r:V->List V->Hp->VK->Prop} {t:TA} {Q:VK} {ps:List PV} (S:Sat K C ω B G0 H0 own G σ H ρ) (e:ρ[i]? = some (.ow (.lst ps)))
  (k:∀ a vs,σ[i]? = some (some (.ref a))->own i = some a->H a = some (.lst vs)->Reps K C G vs ps->t σ H fun xs H2=>r (.ref a) xs H2 Q):tBM K "list" r (Ff i) t σ H Q:=by
 obtain ⟨a,vs,e1,o,h1,h2⟩:=S.list e
 exact ⟨_,e1,.inl ⟨rfl,_,SqL.of h1⟩,k a vs e1 o h1 h2⟩
def AdQ (i:Nat) (ρ:Bf) (N:Bf->Prop) (qs:List PV):Prop:=∃ q ps,qs = [q]/\ρ[i]? = some (.ow (.lst ps))/\ps.length < 100000/\N (ρ.set i (.ow (.lst (ps ++ [q]))))
def Ae2 (i:Nat) (u:UA):US:=fun d ρ=>(∃ ps,ρ[i]? = some (.ow (.lst ps)))/\u ρ fun qs=>AdQ i ρ d.nx qs
theorem Go {i:Nat} {t:TA} {u:UA} (ha:AU K C ω [true] t u):SU K C ω rm (Sv (tBM K "list" Qq (Ff i) t)) (Ae2 i u):=fun B G0 H0 own G σ H ρ D d S F ⟨⟨ps0,e0⟩,hu⟩ =>
 Uv S e0 fun a vs0 e1 o _ _=>ha B G0 H0 own G σ H ρ _ _ S hu fun xs qs G' H' w ok ⟨q,ps,eq,ep,hl,h⟩=>by
  have S':=S.grow w
  obtain ⟨a',vs,e1',o',h1,h2⟩:=S'.list ep
  rw [o] at o'; cases o'
  subst eq
  match xs,ok with
  | [x],ok =>
   have rx:Rep K C G' x q:=ok.1
   exact ⟨a,vs,x,rfl,rfl,h1,Xp (by rw [h2.1]; omega),fun H2 c e2=>F.nx own G' σ H2 _ (S'.chg o e1 c (OwnA.ofL e2 (No h2 rx))) h⟩
  | [],ok=>cases ok
  | _ :: _ :: _,ok=>cases ok.2
theorem Zq:EF K C ω Xx (fun _ P=>P (.dk [])):=fun B G0 H0 own G σ H ρ P Q S hu k p hp =>
 k p _ G _ (Grow.own S.gr.i (Same.new hp)) hp (S.gr.i.free hp) (by first | exact OwnA.ofD Bn LAt.nil | exact OwnA.ofDt Bn LAt.nil) hu
def kP:Key->PV
 | .inl i=>.int i
 | .inr x=>.str x
def Fd {κ:Type} [DecidableEq κ] (kvs:List (κ × PV)) (k:κ):Option PV:=(kvs.find? fun kv=>decide (kv.1 = k)).map (·.2)
def Jr {κ:Type} [DecidableEq κ] (kvs:List (κ × PV)) (k:κ) (v:PV):List (κ × PV) :=
 if kvs.any (fun kv=>decide (kv.1 = k)) then kvs.map (fun kv=>if kv.1 = k then (kv.1,v) else kv) else kvs ++ [(k,v)]
theorem Uc {κ:Type} [DecidableEq κ] {G:Hp}:∀ {kvs:List (κ × V)} {ps:List (κ × PV)} (k:κ),LAt (KRep K C) G kvs ps->(Ci kvs k = none/\Fd ps k = none)\/∃ v p,Ci kvs k = some v/\Fd ps k = some p/\Rep K C G v p
 | [],[],_,_=>.inl ⟨rfl,rfl⟩
 | [],_ :: _,_,h=>by have:=h.1; simp at this
 | _ :: _,[],_,h=>by have:=h.1; simp at this
 | x :: xs,y :: ys,k,h=>by
  obtain ⟨⟨e,r⟩,h2⟩:=h.uncons
  unfold Ci Fd
  rw [List.find?_cons,List.find?_cons,<- e]
  by_cases z:x.1 = k
  ·rw [decide_eq_true z]; exact .inr ⟨_,_,rfl,rfl,r⟩
  ·rw [decide_eq_false z]; exact Uc k h2
theorem Abj {G H:Hp} {v:V} {k:Key} (h:RepB K C G H v (kP k)):v = kV k:=by
 cases k with
 | inl i=>exact h.int
 | inr x=>exact h.str
end
section
variable {K:PySem.W.Frag} {C:Addr} {ω:Om} {rm:Rm}
theorem Aic {κ:Type} [DecidableEq κ] {G:Hp} {kvs:List (κ × V)} {ps:List (κ × PV)} {k:κ} {v:V} {p:PV} (h:LAt (KRep K C) G kvs ps) (r:Rep K C G v p):LAt (KRep K C) G (Fy kvs k v) (Jr ps k p):=by
 have hany:(kvs.any fun kv=>decide (kv.1 = k)) = (ps.any fun kv=>decide (kv.1 = k)):=by
  clear r
  induction kvs generalizing ps with
  | nil=>cases ps with
   | nil=>rfl
   | cons y ys=>have:=h.1; simp at this
  | cons x xs ih=>cases ps with
   | nil=>have:=h.1; simp at this
   | cons y ys =>
    obtain ⟨⟨e,_⟩,h2⟩:=h.uncons
    rw [List.any_cons,List.any_cons,e,ih h2]
 unfold Fy Jr
 rw [hany]
 split
 ·refine ⟨by rw [List.length_map,List.length_map,h.1],fun i x y e1 e2=>?_⟩
  rw [List.getElem?_map] at e1 e2
  obtain ⟨x',hx,rfl⟩:=Option.map_eq_some_iff.mp e1
  obtain ⟨y',hy,rfl⟩:=Option.map_eq_some_iff.mp e2
  obtain ⟨q1,q2⟩:=h.2 i x' y' hx hy
  by_cases z:x'.1 = k
  ·rw [if_pos z,if_pos (by rw [<- q1]; exact z)]; exact ⟨q1,r⟩
  ·rw [if_neg z,if_neg (by rw [<- q1]; exact z)]; exact ⟨q1,q2⟩
 ·exact LAt.snoc h ⟨rfl,r⟩
def Ad8 (neg:Bool) (q p:PV) (P:PV->Prop):Prop:=∃ kvs k,p = .dk kvs/\q = kP k/\P (.bl (if neg then !(Fd kvs k).isSome else (Fd kvs k).isSome))
def AiV (neg:Bool) (ua ub:UE):UE:=fun ρ P=>ua ρ fun q=>ub ρ fun p=>Ad8 neg q p P
theorem Uy {G H:Hp} {v w:V} {kvs:List (Key × PV)} {k:Key} (i:Same G H) (r1:RepB K C G H w (.dk kvs)) (r2:RepB K C G H v (kP k)):∃ a o,w = .ref a/\IsD H a/\DGet H a v o/\((o = none/\Fd kvs k = none)\/∃ x p,o = some x/\Fd kvs k = some p/\Rep K C G x p):=by
 obtain ⟨a,vs,rfl,ea,l⟩:=r1.dk i
 rw [Abj r2]
 refine ⟨a,Ci vs k,rfl,.inl ⟨_,.inl ea⟩,DGet.k ea,?_⟩
 rcases Uc k l with ⟨h1,h2⟩ | ⟨x,p,h1,h2,h3⟩
 ·exact .inl ⟨h1,h2⟩
 ·exact .inr ⟨x,p,h1,h2,h3⟩
theorem Ai0 {ta tb:TE} {ua ub:UE} (ha:EB K C ω ta ua) (hb:EB K C ω tb ub):EU K C ω (AdB ta tb) (AiV false ua ub):=fun B G0 H0 own G σ H ρ P Q S hu k =>
 ha B G0 H0 own G σ H ρ _ _ S hu fun v q G1 H1 w1 r1 h1=>hb B G0 H0 own G1 σ H1 ρ _ _ (S.grow w1) h1 fun w p G2 H2 w2 r2 ⟨kvs,key,e1,e2,h⟩=>by
  subst e1 e2
  obtain ⟨a,o,rfl,_,hg,ho⟩:=Uy w2.i r2 (r1.grow w2)
  refine ⟨a,o,rfl,hg,?_⟩
  have:o.isSome = (Fd kvs key).isSome:=by
   rcases ho with ⟨h1,h2⟩ | ⟨x,p,h1,h2,h3⟩
   ·rw [h1,h2]; rfl
   ·rw [h1,h2]; rfl
  rw [this]
  exact k _ _ G2 H2 (w1.trans w2) (.bl _) h
def Uj (p q:PV) (P:PV->Prop):Prop:=∃ kvs k x,p = .dk kvs/\q = kP k/\Fd kvs k = some x/\P x
def Aeq (ua ub:UE):UE:=fun ρ P=>ua ρ fun p=>ub ρ fun q=>Uj p q P
theorem Aac {ta tb:TE} {ua ub:UE} (ha:EB K C ω ta ua) (hb:EB K C ω tb ub):EU K C ω (Wh ta tb) (Aeq ua ub):=fun B G0 H0 own G σ H ρ P Q S hu k =>
 ha B G0 H0 own G σ H ρ _ _ S hu fun v q G1 H1 w1 r1 h1=>hb B G0 H0 own G1 σ H1 ρ _ _ (S.grow w1) h1 fun w p G2 H2 w2 r2 ⟨kvs,key,x,e1,e2,e3,h⟩=>by
  subst e1 e2
  obtain ⟨a,o,rfl,_,hg,ho⟩:=Uy w2.i (r1.grow w2) r2
  rcases ho with ⟨h1,h2⟩ | ⟨y,p,h1,h2,h3⟩
  ·rw [e3] at h2; cases h2
  ·rw [e3] at h2; cases h2
   subst h1
   exact ⟨a,y,rfl,hg,k _ _ G2 H2 (w1.trans w2) h3 h⟩
def Ym (kvs:List (Key × PV)) (q z:PV) (P:PV->Prop):Prop:=∃ k,q = kP k/\P ((Fd kvs k).getD z)
def Acr (i:Nat) (ub uc:UE):UE:=fun ρ P=>∃ s kvs,ρ[i]? = some s/\s.val = some (.dk kvs)/\ub ρ fun q=>uc ρ fun z=>Ym kvs q z P
theorem Adb {i:Nat} {tb tc:TE} {ub uc:UE} (hb:EB K C ω tb ub) (hc:EU K C ω tc uc):EU K C ω (Yl (Ff i) tb tc) (Acr i ub uc):=fun B G0 H0 own G σ H ρ P Q S ⟨s,kvs,e,ev,hu⟩ k =>
 Bb B G0 H0 own G σ H ρ (fun p=>p = .dk kvs) _ S ⟨s,_,e,ev,rfl⟩ fun v q G1 H1 w1 r1 e0=>by
  subst e0
  obtain ⟨a,vs,rfl,ea,l⟩:=r1.dk w1.i
  refine ⟨a,rfl,.inl ⟨_,.inl ea⟩,hb B G0 H0 own G1 σ H1 ρ _ _ (S.grow w1) hu fun w p G2 H2 w2 r2 h2=>hc B G0 H0 own G2 σ H2 ρ _ _ ((S.grow w1).grow w2) h2 fun z pz G3 H3 w3 r3 ⟨key,e2,h⟩=>?_⟩
  subst e2
  obtain ⟨a',o,e,_,hg,ho⟩:=Uy w3.i ((r1.grow w2).grow w3) (r2.grow w3)
  cases e
  refine ⟨o,hg,?_⟩
  have w:=(w1.trans w2).trans w3
  rcases ho with ⟨h1,h2⟩ | ⟨y,p,h1,h2,h3⟩
  ·rw [h2] at h; subst h1; exact k _ _ G3 H3 w r3 h
  ·rw [h2] at h; subst h1; exact k _ _ G3 H3 w h3 h
def AaH (i:Nat) (ρ:Bf) (N:Bf->Prop) (p q:PV):Prop:=∃ kvs k,ρ[i]? = some (.ow (.dk kvs))/\q = kP k/\kvs.length < 100000/\N (ρ.set i (.ow (.dk (Jr kvs k p))))
def Aee (i:Nat) (ub uv:UE):US:=fun d ρ=>(∃ kvs,ρ[i]? = some (.ow (.dk kvs)))/\uv ρ fun p=>ub ρ fun q=>AaH i ρ d.nx p q
theorem Os {i:Nat} {tb tv:TE} {ub uv:UE} (hb:EB K C ω tb ub) (hv:EU K C ω tv uv):SU K C ω rm (Abd (Ff i) tb tv) (Aee i ub uv):=fun B G0 H0 own G σ H ρ D d S F ⟨⟨kvs0,e0⟩,hu⟩ =>
 hv B G0 H0 own G σ H ρ _ _ S hu fun v p G1 H1 w1 r1 h1=>by
  have S1:=S.grow w1
  obtain ⟨a,ea,o,_⟩:=S.sl i _ e0
  refine ⟨_,ea,hb B G0 H0 own G1 σ H1 ρ _ _ S1 h1 fun w q G2 H2 w2 r2 ⟨kvs,k,e,e2,hl,h⟩=>?_⟩
  subst e2
  have S2:=S1.grow w2
  obtain ⟨a',ea',o',vs,ha,l⟩:=S2.sl i _ e
  rw [o] at o'; cases o'
  rw [Abj r2]
  exact ⟨a,_,rfl,DPut.k ha (Xp (by rw [l.1]; omega)),F.nx own G2 σ _ _ (S2.chg o ea Chg.put (OwnA.ofD Bn (Aic l (r1.mono w2.g)))) h⟩
end
section
variable {K:PySem.W.Frag} {C:Addr} {ω:Om} {rm:Rm}
abbrev UI:=Bf->(List PV->Prop)->Prop
def Wq (ps:List PV) (ug:PV->Bf->(Bf->Prop)->Prop) (ub:US):US:=fun d ρ=>∃ I:Nat->Bf->Prop,I 0 ρ/\(∀ k p ρ,ps[k]? = some p->I k ρ->ug p ρ fun ρ'=>ub { d with nx:=I (k + 1),ct:=I (k + 1),bk:=d.nx } ρ')/\∀ ρ,I ps.length ρ->d.nx ρ
def AdN (ui:UI) (ug:PV->Bf->(Bf->Prop)->Prop) (ub:US):US:=fun d ρ=>ui ρ fun ps=>Wq ps ug ub d ρ
def bL (p:PV) (R:List PV->Prop):Prop:=∃ ps,(p = .lst ps\/∃ ns,p = .scr ns/\ps = ns.map .int)/\R ps
def uiL (ua:UE):UI:=fun ρ R=>ua ρ fun p=>bL p R
theorem Lc {B B1 G0 H0:Hp} {D:Ends} {d:De} {N:Bf->Prop} {M:St->Hp->Prop} (F:Fits K C ω rm B G0 H0 D d) (hb:Same B B1) (hM:∀ own G σ H ρ,Sat K C ω B1 G0 H0 own G σ H ρ->N ρ->M σ H) :
  Fits K C ω rm B1 G0 H0 { D with nx:=M,ct:=M,bk:=D.nx } { d with nx:=N,ct:=N,bk:=d.nx } :=
 ⟨hM,F.rt,fun own G σ H ρ S h=>F.nx own G σ H ρ (S.base (hb.trans S.kb)) h,hM⟩
theorem Acq {top:Nat} {ta:TE} {ua:UE} {g:TG} {ug:PV->Bf->(Bf->Prop)->Prop} {tb:TS} {ub:US} (ha:EU K C ω ta ua) (hg:GU K C ω top g ug) (hb:SU K C ω rm tb ub):SU K C ω rm (Nh (Qh K ta) g tb) (AdN (uiL ua) ug ub) :=
 fun B G0 H0 own G σ H ρ D d S F hu=>ha B G0 H0 own G σ H ρ _ _ S hu fun v p G1 H1 w1 r1 ⟨ps,e,I,i0,ist,iend⟩=>by
  have S1:=S.grow w1
  obtain ⟨a,vs,rfl,sq,rp⟩:∃ a vs,v = .ref a/\SqL K G1 a vs/\Reps K C G1 vs ps:=by
   rcases e with e | ⟨ns,e,e2⟩
   ·subst e
    cases r1 with
    | lst e l q=>exact ⟨_,_,rfl,SqL.of e,l,q⟩
   ·subst e e2
    cases r1 with
    | scr e=>exact ⟨_,_,rfl,e,Dy ns⟩
  refine ⟨a,rfl,⟨vs,w1.i.seq sq⟩,Qf (xs:=vs) (fun k σ' H'=>∃ own' G' ρ',Sat K C ω G1 G0 H0 own' G' σ' H' ρ'/\I k ρ') ⟨own,G1,ρ,S1.base (Same.refl _),i0⟩ (fun k σ' H' _ ⟨own',G',ρ',S',_⟩=>(S'.kb.trans S'.gr.i).seq sq) (fun k x σ' H' hx ⟨own',G',ρ',S',hi⟩=>?_) fun σ' H' ⟨own',G',ρ',S',hi⟩=>?_⟩
  ·obtain ⟨q,hq,rq⟩:=rp.get hx
   exact hg G1 G0 H0 own' G' σ' H' ρ' x q _ _ S' (rq.mono S'.kb) (ist k q ρ' hq hi) fun own2 σ2 ρ2 S2 _ h2=>hb G1 G0 H0 own2 G' σ2 H' ρ2 _ _ S2 (Lc F S1.kb fun own3 G3 σ3 H3 ρ3 S3 h3=>⟨own3,G3,ρ3,S3,h3⟩) h2
  ·rw [rp.1] at hi
   exact F.nx own' G' σ' H' ρ' (S'.base (S1.kb.trans S'.kb)) (iend ρ' hi)
def uiB (i:Nat):UI:=fun ρ R=>∃ s p ps,ρ[i]? = some s/\(s = .bo p\/s = .sh p)/\(p = .lst ps\/∃ ns,p = .scr ns/\ps = ns.map .int)/\R ps
theorem Sw {top:Nat} {i:Nat} {g:TG} {ug:PV->Bf->(Bf->Prop)->Prop} {tb:TS} {ub:US} (hg:GU K C ω top g ug) (hb:SU K C ω rm tb ub):SU K C ω rm (Nh (Qh K (Ff i)) g tb) (AdN (uiB i) ug ub) :=
 fun B G0 H0 own G σ H ρ D d S F ⟨s,p,ps,es,ek,e,I,i0,ist,iend⟩=>by
  have key:∃ a vs,σ[i]? = some (some (.ref a))/\(∀ G' H',Same G G'->Same H0 H'->Same G' H'->SqL K H' a vs)/\Reps K C G vs ps:=by
   rcases ek with ek | ek
   ·subst ek
    obtain ⟨v,ev,rb⟩:=S.sl i _ es
    rcases e with e | ⟨ns,e,e2⟩
    ·subst e
     rcases rb with rb | ⟨a,e2,vs,h1,h2⟩
     ·cases rb with
      | lst e l q=>exact ⟨_,_,ev,fun G' H' s1 s2 s3=>SqL.of (s3 _ _ (s1 _ _ (S.gr.g _ _ e))),l,fun j x y h1 h2=>(q j x y h1 h2).mono S.gr.g⟩
     ·subst e2
      exact ⟨a,vs,ev,fun G' H' s1 s2 s3=>SqL.of (s2 _ _ h1),h2.mono S.gr.g⟩
    ·subst e e2
     rcases rb with rb | ⟨a,e2,h⟩
     ·cases rb with
      | scr e=>exact ⟨_,_,ev,fun G' H' s1 s2 s3=>s3.seq (s1.seq (S.gr.g.seq e)),Dy ns⟩
     ·exact h.elim
   ·subst ek
    obtain ⟨v,ev,rb⟩:=S.sl i _ es
    rcases e with e | ⟨ns,e,e2⟩
    ·subst e
     cases rb with
     | lst e l q=>exact ⟨_,_,ev,fun G' H' s1 s2 s3=>SqL.of (s3 _ _ (s1 _ _ e)),l,q⟩
    ·subst e e2
     cases rb with
     | scr e=>exact ⟨_,_,ev,fun G' H' s1 s2 s3=>s3.seq (s1.seq e),Dy ns⟩
  obtain ⟨a,vs,ev,sq,rp⟩:=key
  refine ⟨_,ev,a,rfl,⟨vs,sq G H (Same.refl _) S.gr.h S.gr.i⟩,Qf (xs:=vs) (fun k σ' H'=>∃ own' G' ρ',Sat K C ω G G0 H0 own' G' σ' H' ρ'/\I k ρ') ⟨own,G,ρ,S.base (Same.refl _),i0⟩ (fun k σ' H' _ ⟨own',G',ρ',S',_⟩=>sq G' H' S'.kb S'.gr.h S'.gr.i) (fun k x σ' H' hx ⟨own',G',ρ',S',hi⟩=>?_) fun σ' H' ⟨own',G',ρ',S',hi⟩=>?_⟩
  ·obtain ⟨q,hq,rq⟩:=rp.get hx
   exact hg G G0 H0 own' G' σ' H' ρ' x q _ _ S' (rq.mono S'.kb) (ist k q ρ' hq hi) fun own2 σ2 ρ2 S2 _ h2=>hb G G0 H0 own2 G' σ2 H' ρ2 _ _ S2 (Lc F S.kb fun own3 G3 σ3 H3 ρ3 S3 h3=>⟨own3,G3,ρ3,S3,h3⟩) h2
  ·rw [rp.1] at hi
   exact F.nx own' G' σ' H' ρ' (S'.base (S.kb.trans S'.kb)) (iend ρ' hi)
def Ul (lo:Int) (n:Nat) (ug:PV->Bf->(Bf->Prop)->Prop) (ub:US):US:=fun d ρ=>∃ I:Nat->Bf->Prop,I 0 ρ/\(∀ k ρ,k < n->I k ρ->ug (.int (lo + k)) ρ fun ρ'=>ub { d with nx:=I (k + 1),ct:=I (k + 1),bk:=d.nx } ρ')/\∀ ρ,I n ρ->d.nx ρ
def bR1 (R:Nat->Prop) (ps:List PV):Prop:=∃ j:Int,ps = [.int j]/\-(2 ^ 62) <= j/\j < 2 ^ 62/\R j.toNat
def AeE (u:UA) (ug:PV->Bf->(Bf->Prop)->Prop) (ub:US):US:=fun d ρ=>u ρ fun ps=>bR1 (fun n=>Ul 0 n ug ub d ρ) ps
def bR2 (R:Int->Nat->Prop) (ps:List PV):Prop:=∃ i j:Int,ps = [.int i,.int j]/\(-(2 ^ 62) <= i/\i < 2 ^ 62/\-(2 ^ 62) <= j/\j < 2 ^ 62)/\R i (j - i).toNat
def Ae4 (u:UA) (ug:PV->Bf->(Bf->Prop)->Prop) (ub:US):US:=fun d ρ=>u ρ fun ps=>bR2 (fun i n=>Ul i n ug ub d ρ) ps
theorem AeN {top:Nat} {B G0 H0 G H:Hp} {own:Nat->Option Addr} {σ:St} {ρ:Bf} {D:Ends} {d:De} {lo:Int} {n:Nat} {g:TG} {ug:PV->Bf->(Bf->Prop)->Prop} {tb:TS} {ub:US} (hg:GU K C ω top g ug) (hb:SU K C ω rm tb ub) (S:Sat K C ω B G0 H0 own G σ H ρ) (F:Fits K C ω rm B G0 H0 D d) (h:Ul lo n ug ub d ρ) :
  ∃ W:Nat->Nat->St->Hp->Prop,(∃ m,W 0 m σ H)/\∀ i m σ H,W i m σ H->((Itr lo n).stop i H/\D.nx σ H)\/((Itr lo n).go i H/\∃ N:St->Hp->Prop,(∀ σ' H',N σ' H'->∃ m',m' < m/\W (i + 1) m' σ' H')/\∀ x H',(Itr lo n).yld i H x H'->g x σ H' fun σ2 H2=>tb { D with nx:=N,ct:=N,bk:=D.nx } σ2 H2):=by
 obtain ⟨I,i0,ist,iend⟩:=h
 refine Vy (fun k σ' H'=>∃ own' G' ρ',Sat K C ω B G0 H0 own' G' σ' H' ρ'/\I k ρ') ⟨own,G,ρ,S,i0⟩ (fun k σ' H' hk ⟨own',G',ρ',S',hi⟩=>?_) fun σ' H' ⟨own',G',ρ',S',hi⟩=>F.nx own' G' σ' H' ρ' S' (iend ρ' hi)
 exact hg B G0 H0 own' G' σ' H' ρ' _ _ _ _ S' (.int _) (ist k ρ' hk hi) fun own2 σ2 ρ2 S2 _ h2=>hb B G0 H0 own2 G' σ2 H' ρ2 _ _ S2 (Lc F (Same.refl _) fun own3 G3 σ3 H3 ρ3 S3 h3=>⟨own3,G3,ρ3,S3,h3⟩) h2
theorem AfG {top:Nat} {m:Bool} {t:TA} {u:UA} {g:TG} {ug:PV->Bf->(Bf->Prop)->Prop} {tb:TS} {ub:US} (ha:AU K C ω [m] t u) (hg:GU K C ω top g ug) (hb:SU K C ω rm tb ub):SU K C ω rm (Nh (Um t) g tb) (AeE u ug ub) :=
 fun B G0 H0 own G σ H ρ D d S F hu=>ha B G0 H0 own G σ H ρ _ _ S hu fun vs ps G1 H1 w1 ok ⟨j,e,h1,h2,h⟩=>by
  obtain ⟨v,p,rfl,e2,r⟩:=Jw ok
  rw [e] at e2; cases e2
  exact ⟨j,by rw [r.int],h1,h2,AeN hg hb (S.grow w1) F h⟩
theorem Agm {top:Nat} {m n:Bool} {t:TA} {u:UA} {g:TG} {ug:PV->Bf->(Bf->Prop)->Prop} {tb:TS} {ub:US} (ha:AU K C ω [m,n] t u) (hg:GU K C ω top g ug) (hb:SU K C ω rm tb ub):SU K C ω rm (Nh (AeY t) g tb) (Ae4 u ug ub) :=
 fun B G0 H0 own G σ H ρ D d S F hu=>ha B G0 H0 own G σ H ρ _ _ S hu fun vs ps G1 H1 w1 ok ⟨i,j,e,h1,h⟩=>by
  obtain ⟨v,w,p,q,rfl,e2,r1,r2⟩:=Qj ok
  rw [e] at e2; cases e2
  exact ⟨i,j,by rw [r1.int,r2.int],h1,AeN hg hb (S.grow w1) F h⟩
end
section
variable {K:PySem.W.Frag} {C:Addr} {ω:Om}
def boS:Sl->Sl
 | .ow p=>.bo p
 | .fz _ kvs=>.bz kvs
 | .fl _ ps=>.bo (.lst ps)
 | .om _ p=>.bo p
 | s=>s
def compρ (k:Nat) (fr:List Nat) (ρ:Bf):Bf:=List.replicate k .un ++ fr.map fun i=>boS ((ρ[i]?).getD .un)
theorem Sat.comp {B G0 H0 G1 H1:Hp} {own:Nat->Option Addr} {σ:St} {ρ:Bf} (S:Sat K C ω B G0 H0 own G1 σ H1 ρ) (k:Nat) (fr:List Nat) {G H:Hp} (w:Grow G1 H1 G H):Sat K C Om.no G1 G1 H1 (fun _=>none) G (compσ k fr σ) H (compρ k fr ρ):=by
 refine ⟨w.g,w,?_,fun i j a h=>(by cases h),fun i a h=>(by cases h),fun i s h=>?_,fun _ _ _ z=>z.elim⟩
 ·unfold compσ compρ; simp
 ·by_cases hk:i < k
  ·unfold compρ at h
   rw [List.getElem?_append_left (by rw [List.length_replicate]; exact hk),List.getElem?_replicate,if_pos hk] at h
   cases h; trivial
  ·unfold compρ at h
   rw [List.getElem?_append_right (by rw [List.length_replicate]; omega),List.length_replicate,List.getElem?_map] at h
   obtain ⟨j,hj,e⟩:=Option.map_eq_some_iff.mp h
   have hσ:(compσ k fr σ)[i]? = some (σ[j]?).join:=by
    unfold compσ
    rw [List.getElem?_append_right (by rw [List.length_replicate]; omega),List.length_replicate,List.getElem?_map,hj]; rfl
   cases e2:ρ[j]? with
   | none=>rw [e2] at e; cases e; trivial
   | some s0 =>
    rw [e2] at e
    have q:=S.sl j s0 e2
    cases s0 with
    | un=>cases e; trivial
    | sh p=>cases e; obtain ⟨v,ev,r⟩:=q; exact ⟨v,by rw [hσ,ev]; rfl,r.mono w.g⟩
    | bo p=>cases e; obtain ⟨v,ev,r⟩:=q; exact ⟨v,by rw [hσ,ev]; rfl,r.grow S.gr⟩
    | ow p=>cases e; obtain ⟨a,ev,_,r⟩:=q; exact ⟨_,by rw [hσ,ev]; rfl,.inr ⟨a,rfl,r⟩⟩
    | fz z kvs=>cases e; obtain ⟨ev,_,h1,h2⟩:=q; exact ⟨z.1,z.2.1,z.2.2,by rw [hσ,ev]; rfl,h1,KReps.mono h2 w.g⟩
    | bz kvs=>cases e; obtain ⟨a,o,vs,ev,h1,h2⟩:=q; exact ⟨a,o,vs,by rw [hσ,ev]; rfl,S.gr.h _ _ h1,KReps.mono h2 w.g⟩
    | fl z ps=>cases e; obtain ⟨ev,_,h1,h2⟩:=q; exact ⟨_,by rw [hσ,ev]; rfl,.inr ⟨z.1,rfl,OwnA.ofL h1 h2⟩⟩
    | om a p=>cases e; obtain ⟨ev,_,r⟩:=q; exact ⟨_,by rw [hσ,ev]; rfl,.inr ⟨a,rfl,r⟩⟩
def Afh:UT:=fun _ P=>P true
theorem Ji:TU K C ω Afc Afh:=fun B G0 H0 own G σ H ρ P Q S hu k=>k true G H (Grow.refl S.gr.i) hu
def Rz (ps:List PV) (ug:PV->Bf->(Bf->Prop)->Prop) (uc:UT) (ue:UE) (ρ':Bf) (P:PV->Prop):Prop:=∃ I:Nat->List PV->Prop,I 0 []/\(∀ n p rs,ps[n]? = some p->I n rs->ug p ρ' fun ρ2=>uc ρ2 fun b=>if b = true then ue ρ2 fun q=>I (n + 1) (rs ++ [q]) else I (n + 1) rs)/\∀ rs,I ps.length rs->P (.lst rs)
def CSt (K:PySem.W.Frag) (C:Addr) (G1 H1:Hp) (D:Addr) (I:Nat->List PV->Prop) (n:Nat) (H:Hp):Prop:=∃ G ys rs,Grow G1 H1 G H/\G D = none/\H D = some (.lst ys)/\Reps K C G ys rs/\rs.length <= n/\I n rs
theorem Ry {B G0 H0 G1 H1:Hp} {own:Nat->Option Addr} {σ:St} {ρ:Bf} (S:Sat K C ω B G0 H0 own G1 σ H1 ρ) {k:Nat} {fr:List Nat} {g:TG} {ug:PV->Bf->(Bf->Prop)->Prop} {tc:TT} {uc:UT} {te:TE} {ue:UE} (hg:GU K C Om.no k g ug) (hc:TU K C Om.no tc uc) (he:EU K C Om.no te ue) {D:Addr} (hD:H1 D = none) {I:Nat->List PV->Prop} {n:Nat} (hn:n < 100000) {x:V} {p:PV} {H':Hp} {N:Hp->Prop}
  (rx:∀ G,Same G1 G->Rep K C G x p) (st:CSt K C G1 H1 D I n H') (hN:∀ H'',CSt K C G1 H1 D I (n + 1) H''->N H'') (hs:∀ rs,I n rs->ug p (compρ k fr ρ) fun ρ2=>uc ρ2 fun b=>if b = true then ue ρ2 fun q=>I (n + 1) (rs ++ [q]) else I (n + 1) rs) :
  g x (compσ k fr σ) H' fun σ2 H2=>σ2.drop k = (compσ k fr σ).drop k/\tc σ2 H2 fun b H3=>if b = true then te σ2 H3 (fun y H4=>∃ ys,H4 D = some (.lst ys)/\ys.length < sizeLine/\N (upd H4 D (.lst (ys ++ [y])))) else N H3:=by
 obtain ⟨G,ys,rs,w,gD,eD,ry,hl,hi⟩:=st
 refine hg G1 G1 H1 _ G _ H' _ x p _ _ (S.comp k fr w) (rx G w.g) (hs rs hi) fun own' σ' ρ' S' dr h=>⟨dr,hc G1 G1 H1 own' G σ' H' ρ' _ _ S' h fun b G3 H3 w3 h3=>?_⟩
 cases b with
 | false=>exact Qo (hN _ ⟨G3,ys,rs,w.trans w3,w3.n D _ eD (fun _ z=>nomatch z) gD,w3.h _ _ eD,ry.mono w3.g,by omega,by simpa using h3⟩)
 | true =>
  refine Ny (he G1 G1 H1 own' G3 σ' H3 ρ' _ _ (S'.grow w3) (by simpa using h3) fun y q G4 H4 w4 r4 h4=>?_)
  have w34:=w3.trans w4
  have g4:G4 D = none:=w34.n D _ eD (fun _ z=>nomatch z) gD
  have e4:H4 D = some (.lst ys):=w34.h _ _ eD
  refine ⟨ys,e4,Xp (by rw [ry.1]; omega),hN _ ⟨G4,_,_,⟨(w.trans w34).g,fun b u h=>?_,fun b u h=>?_,(w.trans w34).n⟩,g4,Bn,No (ry.mono w34.g) r4,by rw [List.length_append]; simp; omega,h4⟩⟩
  ·rw [Bg (by intro z; subst z; rw [hD] at h; cases h)]; exact (w.trans w34).h _ _ h
  ·rw [Bg (by intro z; subst z; rw [g4] at h; cases h)]; exact w34.i _ _ h
theorem Sr {G1 H1:Hp} {D:Addr} {I:Nat->List PV->Prop} (i:Same G1 H1) (hD:H1 D = none) (h:I 0 []):CSt K C G1 H1 D I 0 (upd H1 D (.lst [])) :=
 ⟨G1,[],[],Grow.own i (Same.new hD),i.free hD,Bn,LAt.nil,by simp,h⟩
def Aex (ua:UE) (ug:PV->Bf->(Bf->Prop)->Prop) (uc:UT) (ue:UE) (k:Nat) (fr:List Nat):UE:=fun ρ P=>ua ρ fun p=>bL p fun ps=>ps.length <= 100000/\Rz ps ug uc ue (compρ k fr ρ) P
theorem Jm {ta:TE} {ua:UE} {k:Nat} {fr:List Nat} {g:TG} {ug:PV->Bf->(Bf->Prop)->Prop} {tc:TT} {uc:UT} {te:TE} {ue:UE} (ha:EB K C ω ta ua) (hg:GU K C Om.no k g ug) (hc:TU K C Om.no tc uc) (he:EU K C Om.no te ue):EF K C ω (Jx (Qh K ta) g tc te k fr) (Aex ua ug uc ue k fr) :=
 fun B G0 H0 own G σ H ρ P Q S hu kk=>Ve (AkB (ha B G0 H0 own G σ H ρ _ _ S hu fun v p G1 H1 w1 r1 ⟨ps,e,hl,I,i0,ist,iend⟩=>by
  have S1:=S.grow w1
  obtain ⟨a,vs,rfl,sq,rp⟩:∃ a vs,v = .ref a/\SqL K H1 a vs/\Reps K C G1 vs ps:=by
   rcases e with e | ⟨ns,e,e2⟩
   ·subst e
    obtain ⟨a,vs,rfl,ea,l⟩:=r1.lst w1.i
    exact ⟨a,vs,rfl,SqL.of ea,l⟩
   ·subst e e2
    obtain ⟨a,rfl,ea⟩:=r1.scr w1.i
    exact ⟨a,_,rfl,ea,Dy ns⟩
  refine ⟨a,rfl,⟨vs,sq⟩,fun D hD=>CP.list vs (CSt K C G1 H1 D I) (Sr w1.i hD i0) (fun n H' _ ⟨G',_,_,w,_⟩=>w.h.seq sq) (fun n x H' N hx st hN=>?_) fun H' st=>?_⟩
  ·obtain ⟨q,hq,rq⟩:=rp.get hx
   have hn:n < ps.length:=(List.getElem?_eq_some_iff.mp hq).1
   exact Ry S1 hg hc he hD (by omega) (fun G' s=>rq.mono s) st hN fun rs hi=>ist n q rs hq hi
  ·obtain ⟨G',ys,rs,w,gD,eD,ry,_,hi⟩:=st
   rw [rp.1] at hi
   exact kk D _ G' H' (w1.trans w) (w1.h.free hD) gD (OwnA.ofL eD ry) (iend rs hi)))
def Yd (ug:PV->Bf->(Bf->Prop)->Prop) (uc:UT) (ue:UE) (ρ':Bf) (P:PV->Prop) (ps:List PV):Prop:=∃ j:Int,ps = [.int j]/\-(2 ^ 62) <= j/\j < 100000/\∃ I:Nat->List PV->Prop,I 0 []/\(∀ n rs,n < j.toNat->I n rs->ug (.int (0 + n)) ρ' fun ρ2=>uc ρ2 fun b=>if b = true then ue ρ2 fun q=>I (n + 1) (rs ++ [q]) else I (n + 1) rs)/\∀ rs,I j.toNat rs->P (.lst rs)
def AcD (u:UA) (ug:PV->Bf->(Bf->Prop)->Prop) (uc:UT) (ue:UE) (k:Nat) (fr:List Nat):UE:=fun ρ P=>u ρ fun ps=>Yd ug uc ue (compρ k fr ρ) P ps
theorem AdJ {m:Bool} {t:TA} {u:UA} {k:Nat} {fr:List Nat} {g:TG} {ug:PV->Bf->(Bf->Prop)->Prop} {tc:TT} {uc:UT} {te:TE} {ue:UE} (ha:AU K C ω [m] t u) (hg:GU K C Om.no k g ug) (hc:TU K C Om.no tc uc) (he:EU K C Om.no te ue):EF K C ω (Jx (Um t) g tc te k fr) (AcD u ug uc ue k fr) :=
 fun B G0 H0 own G σ H ρ P Q S hu kk=>Ve (AjL (ha B G0 H0 own G σ H ρ _ _ S hu fun vs ps G1 H1 w1 ok ⟨j,e,h1,h2,I,i0,ist,iend⟩=>by
  have S1:=S.grow w1
  obtain ⟨v,p,rfl,e2,r⟩:=Jw ok
  rw [e] at e2; cases e2
  refine ⟨j,by rw [r.int],h1,by omega,fun D hD=>CP.range (CSt K C G1 H1 D I) (Sr w1.i hD i0) (fun n H' N hx st hN=>Ry S1 hg hc he hD (by omega) (fun G' s=>.int _) st hN fun rs hi=>ist n rs hx hi) fun H' st=>?_⟩
  obtain ⟨G',ys,rs,w,gD,eD,ry,_,hi⟩:=st
  exact kk D _ G' H' (w1.trans w) (w1.h.free hD) gD (OwnA.ofL eD ry) (iend rs hi)))
end
section
variable {K:PySem.W.Frag} {C:Addr} {ω:Om}
abbrev PSp:=List PV->(PV->Prop)->Prop
def spOf (K:PySem.W.Frag) (C:Addr) (ms:List Bool) (rm:Rm) (psp:PSp):Sp:=fun vs H Q _=>∃ G ps P,Same G H/\ArgsOk K C G H ms vs ps/\psp ps P/\∀ G' H' v p,Grow G H G' H'->ROk K C rm H G' H' v p->P p->Q v H'
def Tb (psp:PSp) (u:UA):UE:=fun ρ P=>u ρ fun ps=>psp ps P
theorem Gk {ms:List Bool} {psp:PSp} {E:XK} {t:TA} {u:UA} (ha:AU K C ω ms t u):EU K C ω (Jz (spOf K C ms .sh psp) [] E t) (Tb psp u) :=
 fun B G0 H0 own G σ H ρ P Q S hu k=>ha B G0 H0 own G σ H ρ _ _ S hu fun vs ps G1 H1 w1 ok h=>by
  rw [List.append_nil]
  exact ⟨G1,ps,P,w1.i,ok,h,fun G' H' v p w r hp=>k v p G' H' (w1.trans w) r hp⟩
theorem Gx {ms:List Bool} {psp:PSp} {E:XK} {t:TA} {u:UA} (ha:AU K C ω ms t u):EF K C ω (Jz (spOf K C ms .fr psp) [] E t) (Tb psp u) :=
 fun B G0 H0 own G σ H ρ P Q S hu k=>ha B G0 H0 own G σ H ρ _ _ S hu fun vs ps G1 H1 w1 ok h=>by
  rw [List.append_nil]
  exact ⟨G1,ps,P,w1.i,ok,h,fun G' H' v p w ⟨a,e,n,g,r⟩ hp=>by subst e; exact k a p G' H' (w1.trans w) (w1.h.free n) g r hp⟩
def Da (n:Nat) (ms:List Bool) (ps:List PV):Bf:=List.zipWith (fun m p=>if m = true then Sl.sh p else Sl.bo p) ms ps ++ List.replicate (n - ps.length) .un
def Fh (rm:Rm) (P:PV->Prop):Bf->Prop:=match rm with
 | .sh=>fun _=>P .non
 | .fr=>fun _=>False
 | .mu _=>fun _=>False
theorem ArgsOk.slots {G H:Hp} {own:Nat->Option Addr}:∀ {ms:List Bool} {vs:List V} {ps:List PV} {i:Nat} {s:Sl} {σ:St} (k:Nat),ArgsOk K C G H ms vs ps->(∀ j v,vs[j]? = some v->σ[k + j]? = some (some v))->(List.zipWith (fun m p=>if m = true then Sl.sh p else Sl.bo p) ms ps)[i]? = some s->SlOk K C G H own G σ H (k + i) s
 | true :: ms,v :: vs,p :: ps,0,s,σ,k,ok,hσ,h=>by cases h; exact ⟨v,hσ 0 v rfl,ok.1⟩
 | false :: ms,v :: vs,p :: ps,0,s,σ,k,ok,hσ,h=>by cases h; exact ⟨v,hσ 0 v rfl,ok.1⟩
 | true :: ms,v :: vs,p :: ps,i + 1,s,σ,k,ok,hσ,h=>by
  have:=ArgsOk.slots (i:=i) (s:=s) (σ:=σ) (own:=own) (k + 1) ok.2 (fun j w hj=>by rw [show k + 1 + j = k + (j + 1) by omega]; exact hσ (j + 1) w (by simpa using hj)) (by simpa using h)
  rwa [show k + 1 + i = k + (i + 1) by omega] at this
 | false :: ms,v :: vs,p :: ps,i + 1,s,σ,k,ok,hσ,h=>by
  have:=ArgsOk.slots (i:=i) (s:=s) (σ:=σ) (own:=own) (k + 1) ok.2 (fun j w hj=>by rw [show k + 1 + j = k + (j + 1) by omega]; exact hσ (j + 1) w (by simpa using hj)) (by simpa using h)
  rwa [show k + 1 + i = k + (i + 1) by omega] at this
 | [],_,_,_,_,_,_,_,_,h=>by simp at h
 | _ :: _,_,[],_,_,_,_,_,_,h=>by simp at h
 | true :: _,[],_ :: _,_,_,_,_,ok,_,_=>by cases ok
 | false :: _,[],_ :: _,_,_,_,_,ok,_,_=>by cases ok
theorem Dm {ms:List Bool} {rm:Rm} {psp:PSp} {N:List Str} {vs:List V} {H:Hp} {Q:VK} {E:XK} {t:TS} {u:US} (h:spOf K C ms rm psp vs H Q E) (hn:ms.length <= N.length) (hs:SU K C Om.no rm t u)
  (hp:∀ ps P,psp ps P->u ⟨Fh rm P,P,fun _=>False,fun _=>False⟩ (Da N.length ms ps)):t { nx:=fun _ H'=>Q .non H',rt:=Q } (L2.Nv N vs) H:=by
 obtain ⟨G,ps,P,i,ok,hq,k⟩:=h
 obtain ⟨l1,l2⟩:=ok.len
 have hz:(List.zipWith (fun m p=>if m = true then Sl.sh p else Sl.bo p) ms ps).length = ps.length:=by rw [List.length_zipWith,l2]; omega
 refine hs G G H (fun _=>none) G _ H _ _ ⟨Fh rm P,P,fun _=>False,fun _=>False⟩ ⟨Same.refl _,Grow.refl i,?_,fun i j a z=>(by cases z),fun i a z=>(by cases z),fun j s hj=>?_,fun _ _ _ z=>z.elim⟩ ⟨fun own' G' σ' H' ρ' S' q=>?_,fun G' H' v p w r hp=>k G' H' v p w r hp,fun _ _ _ _ _ _ q=>q.elim,fun _ _ _ _ _ _ q=>q.elim⟩ (hp ps P hq)
 ·unfold L2.Nv Da
  rw [List.length_append,List.length_append,List.length_map,hz,List.length_replicate,List.length_replicate,l1,l2]
 ·unfold Da at hj
  by_cases z:j < ps.length
  ·rw [List.getElem?_append_left (by rw [hz]; exact z)] at hj
   have q:=ArgsOk.slots (own:=fun _=>none) (σ:=L2.Nv N vs) 0 ok (fun j v hv=>by
    unfold L2.Nv
    rw [Nat.zero_add,List.getElem?_append_left (by rw [List.length_map]; exact (List.getElem?_eq_some_iff.mp hv).1),List.getElem?_map,hv]; rfl) hj
   rwa [Nat.zero_add] at q
  ·rw [List.getElem?_append_right (by rw [hz]; omega),List.getElem?_replicate] at hj
   split at hj
   ·cases hj; trivial
   ·cases hj
 ·cases rm with
  | sh=>exact k G' H' .non .non S'.gr .non q
  | fr=>exact q.elim
  | mu _=>exact q.elim
theorem spOf.len {ms:List Bool} {rm:Rm} {psp:PSp} {vs:List V} {H:Hp} {Q:VK} {E:XK} (h:spOf K C ms rm psp vs H Q E):vs.length = ms.length:=by
 obtain ⟨G,ps,P,i,ok,_⟩:=h
 exact ok.len.1
end
section
variable {K:PySem.W.Frag} {C:Addr} {ω:Om}
def Qz:PV->Bool
 | .non=>true
 | .int _=>true
 | .str _=>true
 | _=>false
theorem Ti {G:Hp} {v:V} {p:PV} (h:Rep K C G v p) (f:Qz p = true):Jd v = true:=by
 cases h <;> first | rfl | (cases f; done)
theorem Ux {G:Hp} {v w:V} {p q:PV} (h1:Rep K C G v p) (h2:Rep K C G w q) (f1:Qz p = true) (f2:Qz q = true):eqV v w = true ↔ p = q:=by
 cases h1 <;> first | (cases f1; done) | (cases h2 <;> first | (cases f2; done) | (simp [eqV]))
inductive Cmp:Nat->PV->PV->Prop where
 | flat {n:Nat} {p q:PV} (hp:Qz p = true) (hq:Qz q = true):Cmp n p q
 | bl {n:Nat} {x y:Bool}:Cmp n (.bl x) (.bl y)
 | lst {n:Nat} {xs ys:List PV} (h:xs.length = ys.length->∀ (i:Nat) (x y:PV),xs[i]? = some x->ys[i]? = some y->Cmp n x y):Cmp (n + 1) (.lst xs) (.lst ys)
 | tup {n:Nat} {xs ys:List PV} (h:∀ (i:Nat) (x y:PV),xs[i]? = some x->ys[i]? = some y->Cmp n x y):Cmp (n + 1) (.tup xs) (.tup ys)
theorem Le {α:Type} {xs ys:List α} (hl:xs.length = ys.length) (h:∀ (i:Nat) (x y:α),xs[i]? = some x->ys[i]? = some y->x = y):xs = ys:=by
 refine List.ext_getElem? fun i=>?_
 cases e1:xs[i]? with
 | none=>rw [List.getElem?_eq_none (by have:=List.getElem?_eq_none_iff.mp e1; omega)]
 | some x =>
  have hi:i < ys.length:=by have:=(List.getElem?_eq_some_iff.mp e1).1; omega
  rw [List.getElem?_eq_getElem hi,h i x _ e1 (List.getElem?_eq_getElem hi)]
theorem Cmp.fn {G:Hp} {n:Nat} {p q:PV} (c:Cmp n p q):∀ {v:V},Rep K C G v p->Rep K C G v q->p = q:=by
 induction c with
 | flat hp hq=>intro v h1 h2; cases h1 <;> first | (cases hp; done) | (cases h2 <;> first | (cases hq; done) | rfl)
 | bl=>intro v h1 h2; cases h1; cases h2; rfl
 | @lst n xs ys h ih =>
  intro v h1 h2
  cases h1 with
  | lst e1 l1 q1=>cases h2 with
   | lst e2 l2 q2 =>
    rw [e1] at e2; cases e2
    have hl:xs.length = ys.length:=l1.symm.trans l2
    refine congrArg _ (Le hl fun i x y hx hy=>?_)
    have hi:=(List.getElem?_eq_some_iff.mp hx).1
    obtain ⟨w,hw⟩:=(⟨_,List.getElem?_eq_getElem (by rw [l1]; exact hi)⟩:∃ w,_ = some w)
    exact ih hl i x y hx hy (q1 i w x hw hx) (q2 i w y hw hy)
 | @tup n xs ys h ih =>
  intro v h1 h2
  cases h1 with
  | tup e1 l1 q1=>cases h2 with
   | tup e2 l2 q2 =>
    rw [e1] at e2; cases e2
    have hl:xs.length = ys.length:=l1.symm.trans l2
    refine congrArg _ (Le hl fun i x y hx hy=>?_)
    have hi:=(List.getElem?_eq_some_iff.mp hx).1
    obtain ⟨w,hw⟩:=(⟨_,List.getElem?_eq_getElem (by rw [l1]; exact hi)⟩:∃ w,_ = some w)
    exact ih i x y hx hy (q1 i w x hw hx) (q2 i w y hw hy)
noncomputable def pd (a:Prop):Bool:=@decide a (Classical.propDecidable a)
theorem pd_iff {a:Prop}:pd a = true ↔ a:=by unfold pd; exact @decide_eq_true_iff a (Classical.propDecidable a)
theorem Sm {n:Nat} {e:Nat->Bool}:(List.range n).all e = true ↔ ∀ i,i < n->e i = true:=by
 rw [List.all_eq_true]
 exact ⟨fun h i hi=>h i (List.mem_range.mpr hi),fun h i hi=>h i (List.mem_range.mp hi)⟩
theorem Gh {a b:Bool} (h:a = true ↔ b = true):a = b:=by
 cases a <;> cases b <;> simp_all
theorem Cmp.eqD {G H:Hp} (s:Same G H) {n:Nat} {p q:PV} (c:Cmp n p q):∀ {v w:V} {b:Bool},Rep K C G v p->Rep K C G w q->(b = true ↔ p = q)->EqD K H n v w b:=by
 induction c with
 | flat hp hq =>
  intro v w b h1 h2 hb
  have e:b = eqV v w:=Gh (hb.trans (Ux h1 h2 hp hq).symm)
  rw [e]
  exact EqD.flat (Ti h1 hp) (Ti h2 hq)
 | @bl n x y =>
  intro v w b h1 h2 hb
  cases h1
  cases h2
  have e:b = eqV (.bl x) (.bl y):=Gh (by rw [hb]; cases x <;> cases y <;> simp [eqV])
  rw [e]
  exact EqD.flat rfl rfl
 | @lst n xs ys h ih =>
  intro v w b h1 h2 hb
  have cc:Cmp (n + 1) (.lst xs) (.lst ys):=.lst h
  have h1':=h1
  have h2':=h2
  cases h1 with
  | @lst a1 vs1 _ e1 l1 q1=>cases h2 with
   | @lst a2 vs2 _ e2 l2 q2 =>
    by_cases z:a1 = a2
    ·subst z
     rw [show b = true from hb.mpr (cc.fn h1' h2')]
     exact EqD.same _
    ·by_cases hl:xs.length = ys.length
     ·have e:b = (List.range vs1.length).all (fun i=>pd (xs[i]? = ys[i]?)):=Gh (by
       rw [hb,Sm]
       constructor
       ·intro e i _; rw [pd_iff,PV.lst.inj e]
       ·intro e
        refine congrArg _ (List.ext_getElem? fun i=>?_)
        by_cases hi:i < vs1.length
        ·exact pd_iff.mp (e i hi)
        ·rw [List.getElem?_eq_none (by omega),List.getElem?_eq_none (by omega)])
      rw [e]
      refine EqD.lst _ z (SqL.of (s _ _ e1)) (SqL.of (s _ _ e2)) (by omega) fun i x y hx hy=>?_
      have hi:=(List.getElem?_eq_some_iff.mp hx).1
      have hx':xs[i]? = some xs[i]:=List.getElem?_eq_getElem (by omega)
      have hy':ys[i]? = some ys[i]:=List.getElem?_eq_getElem (by omega)
      refine ih hl i _ _ hx' hy' (q1 i x _ hx hx') (q2 i y _ hy hy') ?_
      rw [pd_iff,hx',hy']
      exact ⟨fun z=>Option.some.inj z,fun z=>congrArg some z⟩
     ·have e:b = false:=by
       cases b with
       | false=>rfl
       | true=>exact absurd (congrArg List.length (PV.lst.inj (hb.mp rfl))) hl
      rw [e]
      exact EqD.lstN z (SqL.of (s _ _ e1)) (SqL.of (s _ _ e2)) (by omega)
 | @tup n xs ys h ih =>
  intro v w b h1 h2 hb
  have cc:Cmp (n + 1) (.tup xs) (.tup ys):=.tup h
  have h1':=h1
  have h2':=h2
  cases h1 with
  | @tup a1 vs1 _ e1 l1 q1=>cases h2 with
   | @tup a2 vs2 _ e2 l2 q2 =>
    by_cases z:a1 = a2
    ·subst z
     rw [show b = true from hb.mpr (cc.fn h1' h2')]
     exact EqD.same _
    ·have e:b = ((List.range (min vs1.length vs2.length)).all (fun i=>pd (xs[i]? = ys[i]?)) && vs1.length == vs2.length):=Gh (by
      rw [hb,Bool.and_eq_true,Sm]
      constructor
      ·intro e
       have e':=PV.tup.inj e
       exact ⟨fun i _=>by rw [pd_iff,e'],by rw [l1,l2,e']; exact beq_self_eq_true _⟩
      ·rintro ⟨e,el⟩
       have el':vs1.length = vs2.length:=by simpa using el
       refine congrArg _ (List.ext_getElem? fun i=>?_)
       by_cases hi:i < vs1.length
       ·exact pd_iff.mp (e i (by omega))
       ·rw [List.getElem?_eq_none (by omega),List.getElem?_eq_none (by omega)])
     rw [e]
     refine EqD.tup _ z (SqT.of (s _ _ e1)) (SqT.of (s _ _ e2)) fun i x y hx hy=>?_
     have hi:=(List.getElem?_eq_some_iff.mp hx).1
     have hj:=(List.getElem?_eq_some_iff.mp hy).1
     have hx':xs[i]? = some xs[i]:=List.getElem?_eq_getElem (by omega)
     have hy':ys[i]? = some ys[i]:=List.getElem?_eq_getElem (by omega)
     refine ih i _ _ hx' hy' (q1 i x _ hx hx') (q2 i y _ hy hy') ?_
     rw [pd_iff,hx',hy']
     exact ⟨fun z=>Option.some.inj z,fun z=>congrArg some z⟩
def CmpL (xs ys:List PV):Prop:=xs.length = ys.length->∀ (i:Nat) (x y:PV),xs[i]? = some x->ys[i]? = some y->Cmp 40 x y
theorem CmpL.leq {G H:Hp} (s:Same G H) {vs ws:List V} {xs ys:List PV} (c:CmpL xs ys) (h1:Reps K C G vs xs) (h2:Reps K C G ws ys) {b:Bool} (hb:b = true ↔ xs = ys):LEq K H vs ws b:=by
 by_cases hl:xs.length = ys.length
 ·refine .inr ⟨by rw [h1.1,h2.1,hl],fun i=>pd (xs[i]? = ys[i]?),fun i x y hx hy=>?_,Gh ?_⟩
  ·obtain ⟨p,hp,rp⟩:=h1.get hx
   obtain ⟨q,hq,rq⟩:=h2.get hy
   refine (c hl i p q hp hq).eqD s rp rq ?_
   rw [pd_iff,hp,hq]
   exact ⟨fun z=>Option.some.inj z,fun z=>congrArg some z⟩
  ·rw [hb,Sm,h1.1]
   constructor
   ·intro e i _; rw [pd_iff,e]
   ·intro e
    refine List.ext_getElem? fun i=>?_
    by_cases hi:i < xs.length
    ·exact pd_iff.mp (e i hi)
    ·rw [List.getElem?_eq_none (by omega),List.getElem?_eq_none (by omega)]
 ·refine .inl ⟨by rw [h1.1,h2.1]; exact hl,?_⟩
  cases b with
  | false=>rfl
  | true=>exact absurd (congrArg List.length (hb.mp rfl)) hl
def Xb (neg:Bool) (p q:PV) (P:PV->Prop):Prop:=∃ xs ys,p = .lst xs/\q = .lst ys/\CmpL xs ys/\∀ b:Bool,(b = true ↔ xs = ys)->P (.bl (if neg then !b else b))
def Ain (neg:Bool) (ua ub:UE):UE:=fun ρ P=>ua ρ fun p=>ub ρ fun q=>Xb neg p q P
theorem Ss {neg:Bool} {ta tb:TE} {ua ub:UE} (ha:EB K C ω ta ua) (hb:EB K C ω tb ub):EU K C ω (tOp (Xw K neg) ta tb) (Ain neg ua ub) :=
 fun B G0 H0 own G σ H ρ P Q S hu k=>two ha hb S hu fun v w p q G' H' gr r1 r2 ⟨xs,ys,e1,e2,c,h⟩=>by
  subst e1 e2
  obtain ⟨a,vs,rfl,ea,l⟩:=r1.lst gr.i
  obtain ⟨b,ws,rfl,eb,l2⟩:=r2.lst gr.i
  exact ⟨a,b,vs,ws,pd (xs = ys),rfl,rfl,SqL.of ea,SqL.of eb,c.leq gr.i l l2 pd_iff,k _ _ G' H' gr (.bl _) (h _ pd_iff)⟩
def AhM:PV->Option (List PV)
 | .lst xs=>some xs
 | .tup xs=>some xs
 | .ctp xs=>some xs
 | _=>none
def bIn (neg:Bool) (p q:PV) (P:PV->Prop):Prop:=∃ xs,AhM q = some xs/\Qz p = true/\(∀ x ∈ xs,Qz x = true)/\∀ b:Bool,(b = true ↔ p ∈ xs)->P (.bl (if neg then !b else b))
def uIn (neg:Bool) (ua ub:UE):UE:=fun ρ P=>ua ρ fun p=>ub ρ fun q=>bIn neg p q P
theorem RepB.seq {G H:Hp} {v:V} {q:PV} {xs:List PV} (i:Same G H) (h:RepB K C G H v q) (e:AhM q = some xs):∃ a vs,v = .ref a/\(SqL K H a vs\/SqT K H a vs)/\Reps K C G vs xs:=by
 cases q <;> first | cases e | skip
 ·obtain ⟨a,vs,e,ea,l⟩:=h.lst i; exact ⟨a,vs,e,.inl (SqL.of ea),l⟩
 ·obtain ⟨a,vs,e,ea,l⟩:=h.tup i; exact ⟨a,vs,e,.inr (SqT.of ea),l⟩
 ·rcases h with h | ⟨a,_,h⟩
  ·cases h with
   | ctp e l q=>exact ⟨_,_,rfl,.inr (e H),l,q⟩
  ·exact h.elim
theorem Ai6 {neg:Bool} {ta tb:TE} {ua ub:UE} (ha:EU K C ω ta ua) (hb:EB K C ω tb ub):EU K C ω (tOp (rIn K neg) ta tb) (uIn neg ua ub) :=
 fun B G0 H0 own G σ H ρ P Q S hu k=>ha B G0 H0 own G σ H ρ _ _ S hu fun v p G1 H1 w1 r1 h1=>hb B G0 H0 own G1 σ H1 ρ _ _ (S.grow w1) h1 fun w q G2 H2 w2 r2 ⟨xs,e,f1,f2,h⟩=>by
  obtain ⟨a,vs,rfl,sq,l⟩:=r2.seq w2.i e
  have r1':=r1.mono w2.g
  have hb:inV v vs = pd (p ∈ xs):=Gh (by
   rw [pd_iff]
   unfold inV
   rw [List.any_eq_true]
   constructor
   ·rintro ⟨y,hy,e⟩
    obtain ⟨i,hi⟩:=List.getElem?_of_mem hy
    obtain ⟨x,hx,rx⟩:=l.get hi
    rw [<- (Ux rx r1' (f2 x (List.mem_of_getElem? hx)) f1).mp e]
    exact List.mem_of_getElem? hx
   ·intro m
    obtain ⟨i,hi⟩:=List.getElem?_of_mem m
    obtain ⟨y,hy,ry⟩:=l.get' hi
    exact ⟨y,List.mem_of_getElem? hy,(Ux ry r1' f1 f1).mpr rfl⟩)
  refine ⟨a,vs,rfl,sq,Ti r1' f1,?_,?_⟩
  ·rw [List.all_eq_true]
   intro y hy
   obtain ⟨i,hi⟩:=List.getElem?_of_mem hy
   obtain ⟨x,hx,rx⟩:=l.get hi
   exact Ti rx (f2 x (List.mem_of_getElem? hx))
  ·rw [hb]; exact k _ _ G2 H2 (w1.trans w2) (.bl _) (h _ pd_iff)
def tyP:PV->Option String
 | .non=>some "NoneType"
 | .bl _=>some "bool"
 | .int _=>some "int"
 | .str _=>some "str"
 | .lst _=>some "list"
 | .tup _=>some "tuple"
 | .dk _=>some "dict"
 | .dt _=>some "dict"
 | _=>none
def kit (T n:String):Bool:=T == n || (T == "bool" && n == "int")
def Aew:List String:=["NoneType","bool","int","str","list","tuple","dict"]
def AeQ:List String:=["bool","int","str","list","tuple","dict"]
theorem Aga:∀ T ∈ Aew,∀ n ∈ AeQ,(if (Value.type T == Value.type n) = true then some true else if PySem.W.kitMeta n = true then (fastBuiltinMro T).map (·.contains (Value.type n)) else none) = some (kit T n):=by decide +kernel
theorem Ajo {G H:Hp} (i:Same G H) {v:V} {p:PV} {T:String} (h:RepB K C G H v p) (e:tyP p = some T):Fi K H v (.type T)/\T ∈ Aew:=by
 cases p <;> first | cases e | skip
 ·rcases h with h | ⟨_,_,h⟩
  ·cases h; exact ⟨.non,by decide⟩
  ·exact h.elim
 ·rw [h.bl]; exact ⟨.bl _,by decide⟩
 ·rw [h.int]; exact ⟨.int _,by decide⟩
 ·rw [h.str]; exact ⟨.str _,by decide⟩
 ·obtain ⟨a,vs,rfl,ea,l⟩:=h.lst i; exact ⟨.lst ea,by decide⟩
 ·obtain ⟨a,vs,rfl,ea,l⟩:=h.tup i; exact ⟨.tup ea,by decide⟩
 ·obtain ⟨a,vs,rfl,ea,l⟩:=h.dk i; exact ⟨.dK ea,by decide⟩
 ·obtain ⟨a,vs,rfl,ea,l⟩:=h.dt i; exact ⟨.dT ea,by decide⟩
def Yf (n:String) (p:PV) (P:PV->Prop):Prop:=∃ T,tyP p = some T/\P (.bl (kit T n))
def Ahe (n:String) (ua:UE):UE:=fun ρ P=>ua ρ fun p=>Yf n p P
theorem Xi {n:String} {ta:TE} {ua:UE} (ha:EB K C ω ta ua) (hn:n ∈ AeQ:=by decide):EU K C ω (tCB (fun vs H Q=>∃ x n t b,vs = [x,.ty n]/\Fi K H x t/\PySem.W.kitOne K t (.type n) = some b/\Q (.bl b) H) (Gm ta (Gm (tC (.ty n)) Us))) (Ahe n ua) :=
 fun B G0 H0 own G σ H ρ P Q S hu k=>ha B G0 H0 own G σ H ρ _ _ S hu fun v p G1 H1 w1 r1 ⟨T,e,h⟩=>by
  obtain ⟨ty,hT⟩:=Ajo w1.i r1 e
  exact ⟨v,n,_,_,rfl,ty,Oh (Aga T hT n hn),k _ _ G1 H1 w1 (.bl _) h⟩
end
section
variable {K:PySem.W.Frag} {C:Addr} {ω:Om}
def vP:V->PV
 | .int i=>.int i
 | .str x=>.str x
 | .bl b=>.bl b
 | _=>.non
def scV:V->Bool
 | .int _=>true
 | .str _=>true
 | .bl _=>true
 | .non=>true
 | _=>false
theorem Ah5 {G:Hp} {v w:V} (hs:scV w = true) (h:Rep K C G v (vP w)):v = w:=by
 cases w <;> first | (cases hs; done) | (cases h; rfl)
theorem Ahn {G:Hp} {w:V} (hs:scV w = true):Rep K C G w (vP w):=by
 cases w <;> first | (cases hs; done) | constructor
theorem AcC {G:Hp} {vs ws:List V} (hs:∀ w ∈ ws,scV w = true) (h:Reps K C G vs (ws.map vP)):vs = ws:=by
 refine Le (by rw [h.1,List.length_map]) fun i x y hx hy=>?_
 exact Ah5 (hs y (List.mem_of_getElem? hy)) (h.2 i x (vP y) hx (by rw [List.getElem?_map,hy]; rfl))
theorem Acj {G:Hp} {ws:List V} (hs:∀ w ∈ ws,scV w = true):Reps K C G ws (ws.map vP) :=
 ⟨by rw [List.length_map],fun i v p h1 h2=>by
  rw [List.getElem?_map,h1] at h2
  cases h2
  exact Ahn (hs v (List.mem_of_getElem? h1))⟩
theorem To {G:Hp} {v:V} {ws:List V} (hs:∀ w ∈ ws,scV w = true) (h:Rep K C G v (.tup (ws.map vP))):∃ p,v = .ref p/\G p = some (.tup ws):=by
 cases h with
 | tup e l q=>rw [AcC hs ⟨l,q⟩] at e; exact ⟨_,rfl,e⟩
theorem Tv {G:Hp} {p:Addr} {ws:List V} (hs:∀ w ∈ ws,scV w = true) (e:G p = some (.tup ws)):Rep K C G (.ref p) (.tup (ws.map vP)):=Rep.ofT e (Acj hs)
def sgW (s:Sg):List V:=[.int s.1,.str s.2.1,.int s.2.2]
def prW (m:Int × Int):List V:=[.int m.1,.int m.2]
def jnW (j:Jn):List V:=[.int j.1,.int j.2.1,.int j.2.2]
def sgP (s:Sg):PV:=.tup [.int s.1,.str s.2.1,.int s.2.2]
def prP (m:Int × Int):PV:=.tup [.int m.1,.int m.2]
def jnP (j:Jn):PV:=.tup [.int j.1,.int j.2.1,.int j.2.2]
theorem Ac8 (s:Sg):∀ w ∈ sgW s,scV w = true:=by intro w hw; simp [sgW] at hw; rcases hw with rfl | rfl | rfl <;> rfl
theorem Acx (s:Int × Int):∀ w ∈ prW s,scV w = true:=by intro w hw; simp [prW] at hw; rcases hw with rfl | rfl <;> rfl
theorem AbS (s:Jn):∀ w ∈ jnW s,scV w = true:=by intro w hw; simp [jnW] at hw; rcases hw with rfl | rfl | rfl <;> rfl
theorem Adc {G:Hp} {v:V} {s:Sg}:Rep K C G v (sgP s) ↔ TripAt G v s:=⟨fun h=>let ⟨p,e,hp⟩:=To (Ac8 s) h; ⟨p,e,hp⟩,fun ⟨p,e,hp⟩=>by subst e; exact Tv (Ac8 s) hp⟩
theorem Ady {G:Hp} {v:V} {s:Int × Int}:Rep K C G v (prP s) ↔ PairAt G v s:=⟨fun h=>let ⟨p,e,hp⟩:=To (Acx s) h; ⟨p,e,hp⟩,fun ⟨p,e,hp⟩=>by subst e; exact Tv (Acx s) hp⟩
theorem AfJ {G:Hp} {v:V} {s:Jn}:Rep K C G v (jnP s) ↔ TrjAt G v s:=⟨fun h=>let ⟨p,e,hp⟩:=To (AbS s) h; ⟨p,e,hp⟩,fun ⟨p,e,hp⟩=>by subst e; exact Tv (AbS s) hp⟩
theorem Tx {α:Type} {R:Hp->V->α->Prop} {f:α->PV} (hf:∀ {G:Hp} {v:V} {s:α},Rep K C G v (f s) ↔ R G v s) {G:Hp} {vs:List V} {S:List α}:Reps K C G vs (S.map f) ↔ LAt R G vs S:=by
 constructor
 ·intro h
  refine ⟨by rw [h.1,List.length_map],fun i x y hx hy=>hf.mp (h.2 i x (f y) hx (by rw [List.getElem?_map,hy]; rfl))⟩
 ·intro h
  refine ⟨by rw [h.1,List.length_map],fun i x y hx hy=>?_⟩
  rw [List.getElem?_map] at hy
  obtain ⟨s,hs,e⟩:=Option.map_eq_some_iff.mp hy
  rw [<- e]
  exact hf.mpr (h.2 i x s hx hs)
def Nn (G H H':Hp):Hp:=fun a=>match H' a with
 | some (.tup xs)=>some (.tup xs)
 | o=>match H a with
  | none=>o
  | some _=>G a
theorem Rw {G H H':Hp} {a:Addr} {xs:List V} (e:H' a = some (.tup xs)):Nn G H H' a = some (.tup xs):=by unfold Nn; rw [e]
theorem Dt {G H H':Hp} {a:Addr} {o:HO} (n:H a = none) (e:H' a = some o):Nn G H H' a = some o:=by
 unfold Nn; rw [e,n]; cases o <;> rfl
theorem Rt {G H H':Hp} {a:Addr} {o:HO} (h:H a = some o) (s:Same H H') (t:Rl o):Nn G H H' a = G a:=by
 unfold Nn; rw [s _ _ h,h]
 cases o <;> first | rfl | exact absurd rfl (t _)
theorem Qe {G H H':Hp} (i:Same G H) (s:Same H H'):Grow G H (Nn G H H') H':=by
 refine ⟨fun a o h=>?_,s,fun a o h=>?_,fun a o h t hg=>by rw [Rt h s t]; exact hg⟩
 ·have h1:=i _ _ h
  by_cases t:Rl o
  ·rw [Rt h1 s t]; exact h
  ·have:∃ xs,o = .tup xs:=Classical.byContradiction fun z=>t fun xs w=>z ⟨xs,w⟩
   obtain ⟨xs,rfl⟩:=this
   exact Rw (s _ _ h1)
 ·cases e:H' a with
  | none =>
   unfold Nn at h; rw [e] at h
   cases e2:H a with
   | none=>rw [e2] at h; cases h
   | some u=>rw [s _ _ e2] at e; cases e
  | some u =>
   by_cases t:Rl u
   ·cases e2:H a with
    | none=>rw [Dt e2 e] at h; exact h
    | some w =>
     have:=s _ _ e2
     rw [e] at this; cases this
     rw [Rt e2 s t] at h
     rw [i _ _ h] at e2; cases e2; rfl
   ·have:∃ xs,u = .tup xs:=Classical.byContradiction fun z=>t fun xs w=>z ⟨xs,w⟩
    obtain ⟨xs,rfl⟩:=this
    rw [Rw e] at h; exact h
theorem AjB {G H:Hp} {l m n:Bool} {vs:List V} {ps:List PV} (h:ArgsOk K C G H [l,m,n] vs ps):∃ v w x p q r,vs = [v,w,x]/\ps = [p,q,r]/\RepB K C G H v p/\RepB K C G H w q/\RepB K C G H x r:=by
 match vs,ps,l,h with
 | v :: vs,p :: ps,true,h=>obtain ⟨w,x,q,r,rfl,rfl,h1,h2⟩:=Qj h.2; exact ⟨v,w,x,p,q,r,rfl,rfl,.inl h.1,h1,h2⟩
 | v :: vs,p :: ps,false,h=>obtain ⟨w,x,q,r,rfl,rfl,h1,h2⟩:=Qj h.2; exact ⟨v,w,x,p,q,r,rfl,rfl,h.1,h1,h2⟩
 | [],_,true,h=>cases h
 | [],_,false,h=>cases h
 | _ :: _,[],true,h=>cases h
 | _ :: _,[],false,h=>cases h
def bMk (P:PV->Prop) (ps:List PV):Prop:=∃ S M J,ps = [.lst (S.map sgP),.lst (M.map prP),.lst (J.map jnP)]/\(∀ s ∈ S,Wi s)/\(∀ m ∈ M,0 <= m.1/\0 <= m.2)/\(S.map (·.1) ++ Dv M).Nodup/\AaT (kK S ++ kM M) J/\S.length + 2 * M.length <= 400/\P (.bk S M J)
def uMk (u:UA):UE:=fun ρ P=>u ρ fun ps=>bMk P ps
theorem Aj3 {E:XK} {t:TA} {u:UA} (ha:AU K C ω [false,false,false] t u):EU K C ω (Afs C (Aaj C) [] E t) (uMk u) :=
 fun B G0 H0 own G σ H ρ P Q St hu k=>ha B G0 H0 own G σ H ρ _ _ St hu fun vs ps G1 H1 w1 ok ⟨S,M,J,e,so,mo,nd,jo,hl,h⟩=>by
  obtain ⟨v,w,y,p,q,r,rfl,e2,r1,r2,r3⟩:=AjB ok
  rw [e] at e2; cases e2
  obtain ⟨a1,xs,rfl,ea1,l1⟩:=r1.lst w1.i
  obtain ⟨a2,ys,rfl,ea2,l2⟩:=r2.lst w1.i
  obtain ⟨a3,zs,rfl,ea3,l3⟩:=r3.lst w1.i
  intro x dx hx hdx ndx
  have sB:Same H1 (upd (upd H1 dx (.own x)) x (.ins C dx [])):=fun q' o e=>by rw [Bg (Bq e hx),Bg (Bq e hdx)]; exact e
  have sG:=w1.i.trans sB
  refine ⟨x,dx,a1,a2,a3,xs,ys,zs,S,M,J,rfl,Bn,sB _ _ ea1,sB _ _ ea2,sB _ _ ea3,((Tx Adc).mp l1).tripS sG,((Tx Ady).mp l2).pairS sG,((Tx AfJ).mp l3).trjS sG,so,mo,nd,jo,hl,fun H2 kvs dx' dk dr dm dp dw kp fk fr fm fp fw e1 e2 e3 e4 e5 e6 lkv=>⟨rfl,?_⟩⟩
  have s2:Same H1 H2:=fun q' o e=>kp q' o (sB q' o e) (Bq e hx)
  have g:=Qe w1.i s2
  refine k _ _ _ H2 (w1.trans g) (.bk (kvs:=kvs) ⟨dx',dk,dr,dm,dp,dw,Dt hx e1,Dt (sB.free fk) e2,Dt (sB.free fr) e3,Dt (sB.free fm) e4,Dt (sB.free fp) e5,Dt (sB.free fw) e6⟩ ?_) h
  exact lkv.mono fun _ _ ⟨z1,p,z2,z3⟩=>⟨z1,p,z2,Rw z3⟩
def Akr:V->Str
 | .str x=>x
 | _=>"plain"
def Gv (S:List Sg) (M:List (Int × Int)) (n:Int):Str:=Akr ((Ci (kK S ++ kM M) (Sum.inl n)).getD (.str "plain"))
theorem RepB.bk {G H:Hp} {v:V} {S:List Sg} {M:List (Int × Int)} {J:List Jn} (h:RepB K C G H v (.bk S M J)):∃ b kvs,v = .ref b/\BookAt C G b (kK S ++ kM M) (kR S) (kB M) kvs (kW J)/\LAt KvAt G kvs J:=by
 rcases h with h | ⟨a,_,h⟩
 ·cases h with
  | bk h l=>exact ⟨_,_,rfl,h,l⟩
 ·exact h.elim
end
section
variable {ρ:Bf} {P:PV->Prop} {B:Bool->Prop} {R:Bf->Prop} {d:De} {ua ub uc:UE} {ta tb:UT} {u w:US} {x y:PV}
theorem Nr (q:u { d with nx:=w d } ρ):AdF u w d ρ:=q
theorem Acw (q:d.nx ρ):Ae9 d ρ:=q
theorem Aaq {i:Nat} {s:Sl} (h:ρ[i]? = some s) (q:u d (ρ.set i (Od s))):Yg i u d ρ:=by unfold Yg Gy; rw [h]; exact q
theorem AcJ (q:ua ρ fun _=>d.nx ρ):AeT ua d ρ:=q
theorem AeH (q:ua ρ d.rt):Aeb ua d ρ:=q
theorem AcL {i:Nat} (h:ρ[i]? = some (.ow x)) (q:d.rt x):Afw i d ρ:=⟨x,h,q⟩
theorem AhT (q:ta ρ fun b=>if b = true then u d ρ else w d ρ):AhG ta u w d ρ:=q
theorem AeD {i:Nat} (q:ua ρ fun p=>d.nx (ρ.set i (.sh p))):Ahp i ua d ρ:=q
theorem AbL {i:Nat} (q:ua ρ fun p=>d.nx (ρ.set i (.ow p))):Aer i ua d ρ:=q
theorem Aen {ug:PV->Bf->(Bf->Prop)->Prop} (q:ua ρ fun p=>ug p ρ d.nx):Ahr ua ug d ρ:=q
theorem Aai {i:Nat} (q:R (ρ.set i (.sh x))):Ac9 i x ρ R:=q
theorem Abq {n:Nat} {ps:List PV} {us:List PV->Bf->(Bf->Prop)->Prop} (hl:ps.length = n) (q:us ps ρ R):Wo n us (.tup ps) ρ R:=⟨ps,rfl,hl,q⟩
theorem Aaf {r:List PV} {ug:PV->Bf->(Bf->Prop)->Prop} {us:List PV->Bf->(Bf->Prop)->Prop} (q:ug x ρ fun ρ'=>us r ρ' R):Zk ug us (x :: r) ρ R:=⟨x,r,rfl,q⟩
theorem Ab1 (q:R ρ):Ace [] ρ R:=⟨rfl,q⟩
theorem Aae {us:List PV->Bf->(Bf->Prop)->Prop} {s:Sg} (q:us [.int s.1,.str s.2.1,.int s.2.2] ρ R):Wo 3 us (sgP s) ρ R:=⟨_,rfl,rfl,q⟩
theorem Zt {us:List PV->Bf->(Bf->Prop)->Prop} {s:Int × Int} (q:us [.int s.1,.int s.2] ρ R):Wo 2 us (prP s) ρ R:=⟨_,rfl,rfl,q⟩
theorem Afy {i:Nat} {s:Sl} (h1:ρ[i]? = some s) (h2:s.val = some x) (q:P x):Aif i ρ P:=⟨s,x,h1,h2,q⟩
theorem Ab8 {i:Nat} (h1:ρ[i]? = some (.sh x)) (q:P x):AeP i ρ P:=⟨x,h1,q⟩
theorem p_c (q:P x):uC x ρ P:=q
theorem AiN {g:Int->Int->PV} (q:ua ρ fun p=>ub ρ fun q=>bI0 g p q P):uI0 g ua ub ρ P:=q
theorem Ah0 {g:Int->Int->PV} {i j:Int} (q:P (g i j)):bI0 g (.int i) (.int j) P:=⟨i,j,rfl,rfl,q⟩
theorem p_i {c:Int->Int->Prop} {g:Int->Int->PV} (q:ua ρ fun p=>ub ρ fun q=>bI c g p q P):uI c g ua ub ρ P:=q
theorem Afr {g:Int->Int->PV} {i j:Int} (q:P (g i j)) (hc:0 < j):bI (fun _ j=>0 < j) g (.int i) (.int j) P:=⟨i,j,rfl,rfl,hc,q⟩
theorem AfD {g:Int->Int->PV} {i j:Int} (q:P (g i j)) (hc:Abb i j):bI Abb g (.int i) (.int j) P:=⟨i,j,rfl,rfl,hc,q⟩
theorem AeX {g:Int->Int->PV} {i j:Int} (q:P (g i j)) (hc:CMul i j):bI CMul g (.int i) (.int j) P:=⟨i,j,rfl,rfl,hc,q⟩
theorem Ae6 {g:Int->Int->PV} {i j:Int} (q:P (g i j)) (hc:Abf i j):bI Abf g (.int i) (.int j) P:=⟨i,j,rfl,rfl,hc,q⟩
theorem p_u {g:Int->PV} (q:ua ρ fun p=>bU g p P):uU g ua ρ P:=q
theorem b_u {g:Int->PV} {i:Int} (q:P (g i)):bU g (.int i) P:=⟨i,rfl,q⟩
theorem AeJ {neg:Bool} (q:ua ρ fun p=>ub ρ fun q=>Aed neg p q P):AiW neg ua ub ρ P:=q
theorem Afv {i j:Str} (q:P (.bl (decide (i = j)))):Aed false (.str i) (.str j) P:=.inr ⟨i,j,rfl,rfl,q⟩
theorem AcV (q:ua ρ fun p=>P (.bl (!isN p))):AiO true ua ρ P:=q
theorem p_b (q:ua ρ fun p=>bB p B):uB ua ρ B:=q
theorem b_b {b:Bool} (q:B b):bB (.bl b) B:=⟨b,rfl,q⟩
theorem Aho (q:ta ρ fun b=>if b = true then B true else tb ρ B):uOr ta tb ρ B:=q
theorem Aff (q:ta ρ fun b=>B (!b)):AhL ta ρ B:=q
theorem AbV (q:ua ρ fun p=>bB p fun b=>if b = true then ub ρ P else P (.bl false)):Afi ua ub ρ P:=q
theorem Acl (q:ua ρ fun p=>bB p fun b=>P (.bl (!b))):AeC ua ρ P:=q
theorem Ael {L:List PV->Prop} (q:L []):AgM ρ L:=q
theorem AcS {L:List PV->Prop} {ur:UA} (q:ua ρ fun p=>ur ρ fun ps=>L (p :: ps)):AaL ua ur ρ L:=q
theorem Afu {ur:UA} (q:ur ρ fun ps=>P (.lst ps)):AiB ur ρ P:=q
theorem AeF {ur:UA} (q:ur ρ fun ps=>P (.tup ps)):Aid ur ρ P:=q
theorem Afz (q:ua ρ fun p=>ub ρ fun q=>Xj p q P):Ai2 ua ub ρ P:=q
theorem Wj {ps:List PV} {i:Int} (h:atI ps i = some x) (q:P x):Xj (.lst ps) (.int i) P:=⟨i,ps,x,rfl,.inl rfl,h,q⟩
theorem AjH {ns:List Int} {i n:Int} (h:atI ns i = some n) (q:P (.int n)):Xj (.scr ns) (.int i) P:=⟨i,_,_,rfl,.inr ⟨ns,rfl,rfl⟩,by
 unfold L2.atI at h ⊢
 rw [List.length_map]
 cases e:ixN ns.length i with
 | none=>rw [e] at h; cases h
 | some j=>rw [e] at h; show (ns.map PV.int)[j]? = _; rw [List.getElem?_map,show ns[j]? = some n from h]; rfl,q⟩
theorem Aek (q:ua ρ fun p=>ub ρ fun q=>Sb p q P):AgO ua ub ρ P:=q
theorem Acd {s:Jn} (q:P (.int s.1)):Sb (jnP s) (.int 0) P:=⟨0,_,_,rfl,rfl,rfl,q⟩
theorem Acy {s:Jn} (q:P (.int s.2.1)):Sb (jnP s) (.int 1) P:=⟨1,_,_,rfl,rfl,rfl,q⟩
theorem Ack {s:Jn} (q:P (.int s.2.2)):Sb (jnP s) (.int 2) P:=⟨2,_,_,rfl,rfl,rfl,q⟩
theorem AcN {a:PV} {r:List PV} (q:P a):Sb (.tup (a :: r)) (.int 0) P:=⟨0,_,_,rfl,rfl,Fm (j:=0) rfl,q⟩
theorem Aco {a b:PV} {r:List PV} (q:P b):Sb (.tup (a :: b :: r)) (.int 1) P:=⟨1,_,_,rfl,rfl,Fm (j:=1) rfl,q⟩
theorem Abu {a b c:PV} {r:List PV} (q:P c):Sb (.tup (a :: b :: c :: r)) (.int 2) P:=⟨2,_,_,rfl,rfl,Fm (j:=2) rfl,q⟩
theorem Xe {O:Option Int->Prop} (q:O none):Zv ρ O:=q
theorem AcI {O:Option Int->Prop} (q:ua ρ fun p=>Aa7 p O):AeU ua ρ O:=q
theorem Acb {O:Option Int->Prop} {i:Int} (q:O (some i)):Aa7 (.int i) O:=⟨i,rfl,q⟩
theorem Afx {ul uh:UO} (q:ua ρ fun p=>ul ρ fun lo=>uh ρ fun hi=>AaD p lo hi P):AiQ ua ul uh ρ P:=q
theorem Afj {ps:List PV} {lo hi:Option Int} (q:P (.lst (Di ps lo hi))):AaD (.lst ps) lo hi P:=⟨ps,.inl rfl,q⟩
theorem Afa {ns:List Int} {lo hi:Option Int} (q:P (.lst ((Di ns lo hi).map .int))):AaD (.scr ns) lo hi P:=⟨_,.inr ⟨ns,rfl,rfl⟩,by rw [Nl]; exact q⟩
theorem Aei (q:ua ρ fun p=>ub ρ fun q=>AdM p q P):AgS ua ub ρ P:=q
theorem AeG {xs ys:List PV} (q:P (.lst (xs ++ ys))) (hl:xs.length + ys.length <= 100000):AdM (.lst xs) (.lst ys) P:=⟨xs,ys,rfl,rfl,hl,q⟩
theorem AgX {ur:List PV->(PV->Prop)->Prop} {us:UA} (q:us ρ fun ps=>ur ps P):uCB ur us ρ P:=q
theorem AbX {xs:List PV} (q:P (.int (xs.length:Nat))):AaV [.lst xs] P:=⟨_,.inr (.inl ⟨xs,rfl,rfl⟩),q⟩
theorem AbF {ns:List Int} (q:P (.int (ns.length:Nat))):AaV [.scr ns] P:=⟨_,.inr (.inr (.inr ⟨ns,rfl,rfl⟩)),q⟩
theorem Zi {xs:List PV} (q:P (.lst xs)):AcW [.lst xs] P:=⟨xs,.inl rfl,q⟩
theorem Aev {i:Nat} {us:UA} {ps:List PV} (h:ρ[i]? = some (.ow (.lst ps))) (q:us ρ fun qs=>AdQ i ρ d.nx qs):Ae2 i us d ρ:=⟨⟨ps,h⟩,q⟩
theorem Aez {i:Nat} {N:Bf->Prop} {ps:List PV} (h:ρ[i]? = some (.ow (.lst ps))) (q:N (ρ.set i (.ow (.lst (ps ++ [x]))))) (hl:ps.length < 100000):AdQ i ρ N [x]:=⟨x,ps,rfl,h,hl,q⟩
theorem Aeg {neg:Bool} (q:ua ρ fun p=>ub ρ fun q=>Ad8 neg p q P):AiV neg ua ub ρ P:=q
theorem Afe {kvs:List (Key × PV)} {n:Int} (q:P (.bl (Fd kvs (.inl n)).isSome)):Ad8 false (.int n) (.dk kvs) P:=⟨kvs,.inl n,rfl,rfl,q⟩
theorem Abv (q:ua ρ fun p=>ub ρ fun q=>Uj p q P):Aeq ua ub ρ P:=q
theorem Up {kvs:List (Key × PV)} {n:Int} (h:Fd kvs (.inl n) = some x) (q:P x):Uj (.dk kvs) (.int n) P:=⟨kvs,.inl n,x,rfl,rfl,h,q⟩
theorem Aao {i:Nat} {s:Sl} {kvs:List (Key × PV)} (h1:ρ[i]? = some s) (h2:s.val = some (.dk kvs)) (q:ub ρ fun q=>uc ρ fun z=>Ym kvs q z P):Acr i ub uc ρ P:=⟨s,kvs,h1,h2,q⟩
theorem Zw {kvs:List (Key × PV)} {n:Int} (q:P ((Fd kvs (.inl n)).getD x)):Ym kvs (.int n) x P:=⟨.inl n,rfl,q⟩
theorem AcG {i:Nat} {kvs:List (Key × PV)} (h:ρ[i]? = some (.ow (.dk kvs))) (q:ub ρ fun p=>ua ρ fun q=>AaH i ρ d.nx p q):Aee i ua ub d ρ:=⟨⟨kvs,h⟩,q⟩
theorem AcM {i:Nat} {kvs:List (Key × PV)} {n:Int} {N:Bf->Prop} (h:ρ[i]? = some (.ow (.dk kvs))) (q:N (ρ.set i (.ow (.dk (Jr kvs (.inl n) x))))) (hl:kvs.length < 100000):AaH i ρ N x (.int n):=⟨kvs,.inl n,h,rfl,hl,q⟩
theorem Afd {ui:UI} {ug:PV->Bf->(Bf->Prop)->Prop} (q:ui ρ fun ps=>Wq ps ug u d ρ):AdN ui ug u d ρ:=q
theorem Ae7 {L:List PV->Prop} (q:ua ρ fun p=>bL p L):uiL ua ρ L:=q
theorem b_L {L:List PV->Prop} {ps:List PV} (q:L ps):bL (.lst ps) L:=⟨ps,.inl rfl,q⟩
theorem AbC {L:List PV->Prop} {i:Nat} (h:ρ[i]? = some (.bo x)) (q:bL x L):uiB i ρ L:=let ⟨ps,e,q⟩:=q; ⟨_,x,ps,h,.inl rfl,e,q⟩
theorem Acv {L:List PV->Prop} {i:Nat} (h:ρ[i]? = some (.sh x)) (q:bL x L):uiB i ρ L:=let ⟨ps,e,q⟩:=q; ⟨_,x,ps,h,.inr rfl,e,q⟩
theorem AcT {us:UA} {ug:PV->Bf->(Bf->Prop)->Prop} (q:us ρ fun ps=>bR1 (fun n=>Ul 0 n ug u d ρ) ps):AeE us ug u d ρ:=q
theorem Abl {us:UA} {ug:PV->Bf->(Bf->Prop)->Prop} (q:us ρ fun ps=>bR2 (fun i n=>Ul i n ug u d ρ) ps):Ae4 us ug u d ρ:=q
theorem Abn {ug:PV->Bf->(Bf->Prop)->Prop} {k:Nat} {fr:List Nat} (q:ua ρ fun p=>bL p fun ps=>ps.length <= 100000/\Rz ps ug ta ue (compρ k fr ρ) P):Aex ua ug ta ue k fr ρ P:=q
theorem Aaa {us:UA} {ug:PV->Bf->(Bf->Prop)->Prop} {ue:UE} {k:Nat} {fr:List Nat} (q:us ρ fun ps=>Yd ug ta ue (compρ k fr ρ) P ps):AcD us ug ta ue k fr ρ P:=q
theorem Acn (q:B true):Afh ρ B:=q
theorem Ac7 {psp:PSp} {us:UA} (q:us ρ fun ps=>psp ps P):Tb psp us ρ P:=q
theorem Afq {neg:Bool} (q:ua ρ fun p=>ub ρ fun q=>Xb neg p q P):Ain neg ua ub ρ P:=q
theorem Ahl {neg:Bool} (q:ua ρ fun p=>ub ρ fun q=>bIn neg p q P):uIn neg ua ub ρ P:=q
theorem AeO {n:String} (q:ua ρ fun p=>Yf n p P):Ahe n ua ρ P:=q
theorem AbZ {xs:List PV} (q:P (.bl true)):Yf "list" (.lst xs) P:=⟨_,rfl,q⟩
theorem AbG {i:Int} (q:P (.bl true)):Yf "int" (.int i) P:=⟨_,rfl,q⟩
theorem AbU {i:Int} (q:P (.bl false)):Yf "bool" (.int i) P:=⟨_,rfl,q⟩
theorem Ahq {L:Nat->Prop} {j:Int} (q:L j.toNat) (h:-(2 ^ 62) <= j/\j < 2 ^ 62):bR1 L [.int j]:=⟨j,rfl,h.1,h.2,q⟩
theorem Ahu {L:Int->Nat->Prop} {i j:Int} (q:L i (j - i).toNat) (h:-(2 ^ 62) <= i/\i < 2 ^ 62/\-(2 ^ 62) <= j/\j < 2 ^ 62):bR2 L [.int i,.int j]:=⟨i,j,rfl,h,q⟩
theorem Gi {α:Type} {f:α->PV} {l:List α} {j:Nat} {a:α} {i:Int} (h:l[j]? = some a) (e:i = (j:Int)) (q:P (f a)):Xj (.lst (l.map f)) (.int i) P:=by
 subst e
 exact ⟨_,_,_,rfl,.inl rfl,Fm (by rw [List.getElem?_map,h]; rfl),q⟩
theorem AgY {us:UA} (q:us ρ fun ps=>bMk P ps):uMk us ρ P:=q
theorem AbJ {xs:List PV} (c:CmpL xs xs) (q:P (.bl false)):Xb true (.lst xs) (.lst xs) P:=⟨xs,xs,rfl,rfl,c,fun b hb=>by rw [hb.mpr rfl]; exact q⟩
theorem Tn {xs ys:List Int}:CmpL (xs.map .int) (ys.map .int):=fun _ i x y hx hy=>by
 rw [List.getElem?_map] at hx hy
 obtain ⟨a,_,rfl⟩:=Option.map_eq_some_iff.mp hx
 obtain ⟨b,_,rfl⟩:=Option.map_eq_some_iff.mp hy
 exact .flat rfl rfl
theorem Yz {xs ys:List Int} (h:xs.map PV.int = ys.map PV.int):xs = ys:=by
 induction xs generalizing ys with
 | nil=>cases ys with
  | nil=>rfl
  | cons _ _=>cases h
 | cons x xs ih=>cases ys with
  | nil=>cases h
  | cons y ys=>injection h with h1 h2; injection h1 with h1; rw [h1,ih h2]
theorem Acf {xs ys:List Int} (q:P (.bl (decide (xs = ys)))):Xb false (.lst (xs.map .int)) (.lst (ys.map .int)) P:=⟨_,_,rfl,rfl,Tn,fun b hb=>by
 have:b = decide (xs = ys):=Gh (by rw [hb,decide_eq_true_iff]; exact ⟨Yz,fun h=>by rw [h]⟩)
 rw [this]; exact q⟩
theorem Gj {α:Type} {S:List α} {enc:α->PV} {f:α->Option PV} {ug:PV->Bf->(Bf->Prop)->Prop} {ue:UE} {ρ':Bf} (q:P (.lst (S.filterMap f))) (h:∀ s ∈ S,∀ Z:Option PV->Prop,Z (f s)->ug (enc s) ρ' fun ρ2=>ta ρ2 fun b=>if b = true then ue ρ2 fun q=>Z (some q) else Z none):Rz (S.map enc) ug ta ue ρ' P:=by
 refine ⟨fun n rs=>rs = (S.take n).filterMap f,rfl,fun n p rs hp hr=>?_,fun rs hr=>?_⟩
 ·rw [List.getElem?_map] at hp
  obtain ⟨s,hs,rfl⟩:=Option.map_eq_some_iff.mp hp
  subst hr
  refine h s (List.mem_of_getElem? hs) (fun o=>(match o with | some q=>(S.take n).filterMap f ++ [q] | none=>(S.take n).filterMap f) = (S.take (n + 1)).filterMap f) ?_
  rw [Cu hs,List.filterMap_append]
  cases e:f s with
  | none=>simp [List.filterMap_cons,e]
  | some x=>simp [List.filterMap_cons,e]
 ·rw [List.length_map,List.take_length] at hr
  rw [hr]; exact q
end
section
variable {K:PySem.W.Frag} {C:Addr} {ω:Om} {rm:Rm}
def Ww (ps:List PV) (P:PV->Prop):Prop:=∃ ns:List Int,(ps = [.lst (ns.map .int)]\/ps = [.scr ns])/\ns.length < 64/\∀ ns':List Int,ns'.Perm ns->ns'.Pairwise (· <= ·)->P (.lst (ns'.map .int))
theorem Rv {G:Hp} {vs:List V} {ns:List Int} (h:Reps K C G vs (ns.map .int)):vs = ns.map V.int:=by
 refine Le (by rw [h.1,List.length_map,List.length_map]) fun i x y hx hy=>?_
 rw [List.getElem?_map] at hy
 obtain ⟨n,hn,rfl⟩:=Option.map_eq_some_iff.mp hy
 have r:=h.2 i x (.int n) hx (by rw [List.getElem?_map,hn]; rfl)
 cases r; rfl
theorem AcK {m:Bool} {t:TA} {u:UA} (ha:AU K C ω [m] t u):EF K C ω (tCB (fun xs H Q=>∃ (p:Addr) (ns:List Int),xs = [.ref p]/\SqL K H p (ns.map V.int)/\ns.length < 64/\∀ (l:Addr) (H':Hp) (ns':List Int),H l = none->Same H H'->H' l = some (.lst (ns'.map V.int))->ns'.Perm ns->ns'.Pairwise (· <= ·)->Q (.ref l) H') t) (uCB Ww u) :=
 fun B G0 H0 own G σ H ρ P Q S hu k=>ha B G0 H0 own G σ H ρ _ _ S hu fun vs ps G1 H1 w1 r1 h1=>by
  obtain ⟨v,p,rfl,rfl,r⟩:=Jw r1
  obtain ⟨ns,h1,hl,h2⟩:=h1
  have key:∃ a,v = .ref a/\SqL K H1 a (ns.map V.int):=by
   rcases h1 with e | e
   ·cases e
    obtain ⟨a,vs,rfl,ea,l⟩:=r.lst w1.i
    exact ⟨a,rfl,SqL.of (by rw [<- Rv l]; exact ea)⟩
   ·cases e
    obtain ⟨a,rfl,ea⟩:=r.scr w1.i
    exact ⟨a,rfl,ea⟩
  obtain ⟨a,rfl,sq⟩:=key
  exact ⟨a,ns,rfl,sq,hl,fun b H4 ns' hb s4 e4 hp hs=>k b _ G1 H4 (w1.trans (Grow.own w1.i s4)) (w1.h.free hb) (w1.i.free hb) (OwnA.ofL e4 (Dy ns')) (h2 ns' hp hs)⟩
theorem AdE {P:PV->Prop} {ns:List Int} (q:∀ ns':List Int,ns'.Perm ns->ns'.Pairwise (· <= ·)->P (.lst (ns'.map .int))) (hl:ns.length < 64):Ww [.lst (ns.map .int)] P:=⟨ns,.inl rfl,hl,q⟩
end
def Aan:PSp:=fun ps P=>∃ ns,ps = [.scr ns]/\ns.length <= 63/\P (.bl true)
def Uk (K:PySem.W.Frag):Sp:=fun vs H Q _=>∃ (a:Addr) (ns:List Int),vs = [.ref a]/\SqL K H a (ns.map V.int)/\ns.length <= 63/\∀ H',Q (.bl true) H'
theorem Agq {K:PySem.W.Frag} {C:Addr}:∀ vs H Q E,Uk K vs H Q E->spOf K C [false] .sh Aan vs H Q E:=fun vs H Q E ⟨a,ns,e,hS,hl,q⟩=>by
 subst e
 refine ⟨H,[.scr ns],fun p=>p = .bl true,Same.refl _,⟨.inl (.scr hS),trivial⟩,⟨ns,rfl,hl,rfl⟩,fun G' H' v p w r hp=>?_⟩
 subst hp
 have r':Rep K C G' v (.bl true):=r
 cases r'
 exact q H'
section
variable {K:PySem.W.Frag} {C:Addr}
abbrev Lk:=List PV->(PV->Prop)->(Addr->Prop)->Prop
def omX (E:XK) (X:Addr->Prop):Om:=⟨E,X,fun x=>x⟩
def spX (K:PySem.W.Frag) (C:Addr) (ms:List Bool) (rm:Rm) (psp:Lk):Sp:=fun vs H Q E=>∃ G ps P X,Same G H/\ArgsOk K C G H ms vs ps/\psp ps P X/\(∀ G' H' v p,Grow G H G' H'->ROk K C rm H G' H' v p->P p->Q v H')/\∀ c H',Same H H'->X c->E (.ref c) none H'
theorem spX.len {ms:List Bool} {rm:Rm} {psp:Lk} {vs:List V} {H:Hp} {Q:VK} {E:XK} (h:spX K C ms rm psp vs H Q E):vs.length = ms.length:=by
 obtain ⟨G,ps,P,X,i,ok,_⟩:=h
 exact ok.len.1
def Xh (X:Addr->Prop) (psp:Lk) (u:UA):UE:=fun ρ P=>u ρ fun ps=>psp ps P X
theorem AdT {E:XK} {X:Addr->Prop} {ms:List Bool} {psp:Lk} {t:TA} {u:UA} (ha:AU K C (omX E X) ms t u):EU K C (omX E X) (Jz (spX K C ms .sh psp) [] E t) (Xh X psp u) :=
 fun B G0 H0 own G σ H ρ P Q S hu k=>ha B G0 H0 own G σ H ρ _ _ S hu fun vs ps G1 H1 w1 ok h=>by
  rw [List.append_nil]
  exact ⟨G1,ps,P,X,w1.i,ok,h,fun G' H' v p w r hp=>k v p G' H' (w1.trans w) r hp,fun c H' s hx=>S.ex c H' ((S.gr.h.trans w1.h).trans s) hx⟩
def AbK (X:Addr->Prop) (c:Addr) (u:UA):US:=fun _ ρ=>u ρ fun _=>X c
theorem Adq {E:XK} {X:Addr->Prop} {rm:Rm} {ms:List Bool} {c:Addr} {t:TA} {u:UA} (ha:AU K C (omX E X) ms t u) (hl:ms.length <= 1000:=by decide):SU K C (omX E X) rm (AcU c E t) (AbK X c u) :=
 fun B G0 H0 own G σ H ρ D d S F hu=>ha B G0 H0 own G σ H ρ _ _ S hu fun vs ps G1 H1 w1 ok h=>⟨by
  rw [ok.len.1]
  have:(1000:Nat) <= PySem.sizeLine:=by unfold PySem.sizeLine; omega
  omega,S.ex c H1 (S.gr.h.trans w1.h) h⟩
def asU (i:Nat) (d:De):De where
 nx:=fun ρ=>d.nx (ρ.set i .un)
 rt:=d.rt
 bk:=fun ρ=>d.bk (ρ.set i .un)
 ct:=fun ρ=>d.ct (ρ.set i .un)
theorem Sat.unset {ω:Om} {B G0 H0 G H:Hp} {own:Nat->Option Addr} {σ:St} {ρ:Bf} (S:Sat K C ω B G0 H0 own G σ H ρ) (i:Nat):Sat K C ω B G0 H0 (Ft own i) G (σ.set i none) H (ρ.set i .un):=by
 refine ⟨S.kb,S.gr,by rw [List.length_set,List.length_set,S.len],fun j k a h1 h2=>S.inj j k a (Cs h1).2 (Cs h2).2,fun j a h=>S.fr j a (Cs h).2,fun j s h=>?_,S.ex⟩
 rcases Gz h with ⟨rfl,rfl,hl⟩ | ⟨z,h⟩
 ·trivial
 ·exact (S.sl j s h).other (Of z) (by unfold Ft; rw [if_neg z])
theorem Fits.as {ω:Om} {rm:Rm} {B G0 H0:Hp} {D:Ends} {d:De} (F:Fits K C ω rm B G0 H0 D d) (i:Nat):Fits K C ω rm B G0 H0 (Xn i D) (asU i d) :=
 ⟨fun own G σ H ρ S q=>F.nx _ _ _ _ _ (S.unset i) q,F.rt,fun own G σ H ρ S q=>F.bk _ _ _ _ _ (S.unset i) q,fun own G σ H ρ S q=>F.ct _ _ _ _ _ (S.unset i) q⟩
theorem Sat.caught {ω:Om} {B G0 H0 G H H1:Hp} {own:Nat->Option Addr} {σ:St} {ρ:Bf} (S:Sat K C ω B G0 H0 own G σ H ρ) (s:Same H H1) {i:Nat} {x c:Addr} (n:H1 x = none) :
  Sat K C ω B G0 H0 (Ft own i) (upd G x (.ext (excF x c))) (σ.set i (some (.ref x))) (upd H1 x (.ext (excF x c))) (ρ.set i (.sh (.exc c))):=by
 have w1:Grow G H G H1:=Grow.own S.gr.i s
 have w2:Grow G H1 (upd G x (.ext (excF x c))) (upd H1 x (.ext (excF x c))):=Grow.put w1.i n (Same.new n) Bn
 exact ((S.grow w1).grow w2).setS (.exc Bn)
abbrev UX:=De->(Addr->Prop)->Bf->Prop
def SX (K:PySem.W.Frag) (C:Addr) (ω:Om) (rm:Rm) (t:TSx) (u:UX):Prop:=∀ (B G0 H0:Hp) (own:Nat->Option Addr) (G:Hp) (σ:St) (H:Hp) (ρ:Bf) (D:Ends) (d:De) (Ex:Addr->Hp->Prop) (X:Addr->Prop),Sat K C ω B G0 H0 own G σ H ρ->Fits K C ω rm B G0 H0 D d ->
 (∀ c H',Same H H'->X c->Ex c H')->u d X ρ->t D Ex σ H
def AfC (psp:Lk) (j:Nat) (u:UA):UX:=fun d X ρ=>u ρ fun ps=>psp ps (fun p=>d.nx (ρ.set j (.sh p))) X
theorem Agc {ω:Om} {rm:Rm} {ms:List Bool} {psp:Lk} {j:Nat} {t:TA} {u:UA} (ha:AU K C ω ms t u):SX K C ω rm (Aet (Aca (spX K C ms .fr psp) [] t) j) (AfC psp j u) :=
 fun B G0 H0 own G σ H ρ D d Ex X Z F hx hu=>ha B G0 H0 own G σ H ρ _ _ Z hu fun vs ps G1 H1 w1 ok h=>by
  rw [List.append_nil]
  refine ⟨G1,ps,_,X,w1.i,ok,h,fun G' H' v p w r hp=>?_,fun c H' s q=>⟨c,rfl,hx c H' (w1.h.trans s) q⟩⟩
  obtain ⟨a,rfl,n,g,r⟩:=r
  obtain ⟨G2,w2,r2⟩:=Vk w n g r
  exact F.nx _ _ _ _ _ (((Z.grow w1).grow w2).setS r2) hp
def AiM (ub:UX) (S:Addr->Prop) (i:Nat) (us:US):US:=fun d ρ=>ub d (fun c=>S c/\us (asU i d) (ρ.set i (.sh (.exc c)))) ρ
theorem Ahb {ω:Om} {rm:Rm} {tb:TSx} {ub:UX} {S:Addr->Prop} {i:Nat} {ts:TS} {us:US} (hb:SX K C ω rm tb ub) (hs:SU K C ω rm ts us):SU K C ω rm (Ahw tb S i ts) (AiM ub S i us) :=
 fun B G0 H0 own G σ H ρ D d Z F hu=>hb B G0 H0 own G σ H ρ D d _ _ Z F (fun c H' s hx=>⟨hx.1,fun x n=>hs B G0 H0 _ _ _ _ _ _ _ (Z.caught s n) (F.as i) hx.2⟩) hu
def isX (K:PySem.W.Frag) (c:Addr) (b:Bool):PV->Prop
 | .cls D=>Jb K c/\PySem.W.kitOne K (.ref c) (.ref D) = some b
 | .ty n=>Jb K c/\PySem.W.kitOne K (.ref c) (.type n) = some b
 | _=>False
def Ad6 (K:PySem.W.Frag) (p q:PV) (P:PV->Prop):Prop:=∃ c b,p = .exc c/\isX K c b q/\P (.bl b)
def AeR (K:PySem.W.Frag) (ps:List PV) (P:PV->Prop):Prop:=∃ p q,ps = [p,q]/\Ad6 K p q P
theorem Wt {G H:Hp} {v:V} {c:Addr} (i:Same G H) (r:RepB K C G H v (.exc c)):∃ x,v = .ref x/\H x = some (.ext (excF x c)):=by
 rcases r with r | ⟨a,_,r⟩
 ·cases r with
  | exc e=>exact ⟨_,rfl,i _ _ e⟩
 ·exact r.elim
theorem Aby {ω:Om} {m n:Bool} {t:TA} {u:UA} (ha:AU K C ω [m,n] t u):EU K C ω (tCB (fun vs H Q=>∃ x C v b,vs = [.ref x,v]/\H x = some (.ext (excF x C))/\Jb K C/\(∀ u,RelV v u->PySem.W.kitOne K (.ref C) u = some b)/\Q (.bl b) H) t) (uCB (AeR K) u) :=
 Wd (fun G H vs ps P Q i ok ⟨p,q,e,c,b,e1,hx,h⟩ k=>by
  subst e e1
  obtain ⟨v,w,p,q',rfl,eq,r1,r2⟩:=Qj ok
  cases eq
  obtain ⟨x,rfl,hH⟩:=Wt i r1
  cases q with
  | cls D =>
   rcases r2 with r2 | ⟨a,_,r2⟩
   ·cases r2 with
    | cls=>exact ⟨x,c,_,b,rfl,hH,hx.1,fun u ru=>by cases (show u = Value.ref D from ru); exact hx.2,k _ _ (.bl b) h⟩
   ·exact r2.elim
  | ty n =>
   rcases r2 with r2 | ⟨a,_,r2⟩
   ·cases r2 with
    | ty=>exact ⟨x,c,_,b,rfl,hH,hx.1,fun u ru=>by cases (show u = Value.type n from ru); exact hx.2,k _ _ (.bl b) h⟩
   ·exact r2.elim
  | _=>exact hx.elim) ha
def Afn (K:PySem.W.Frag) (p q:PV) (P:PV->Prop):Prop:=∃ c qs,p = .exc c/\q = .tup qs/\Jb K c/\(∀ q ∈ qs,isX K c false q)/\P (.bl false)
def AbQ (K:PySem.W.Frag) (ps:List PV) (P:PV->Prop):Prop:=∃ p q,ps = [p,q]/\Afn K p q P
theorem Agi {ω:Om} {m n:Bool} {t:TA} {u:UA} (ha:AU K C ω [m,n] t u):EU K C ω (tCB (fun vs H Q=>∃ x a C cs b,vs = [.ref x,.ref a]/\H x = some (.ext (excF x C))/\H a = some (.tup cs)/\Jb K C/\(∀ us,Vals cs us->PySem.W.kitAny K (.ref C) us = some b)/\Q (.bl b) H) t) (uCB (AbQ K) u) :=
 Wd (fun G H vs ps P Q i ok ⟨p,q,e,c,qs,e1,e2,kn,hx,h⟩ k=>by
  subst e e1 e2
  obtain ⟨v,w,p,q',rfl,eq,r1,r2⟩:=Qj ok
  cases eq
  obtain ⟨x,rfl,hH⟩:=Wt i r1
  obtain ⟨a,cs,rfl,hA,l⟩:=r2.tup i
  refine ⟨x,a,c,cs,false,rfl,hH,hA,kn,fun us vs=>Xd vs fun d hd u ru=>?_,k _ _ (.bl false) h⟩
  obtain ⟨j,hj⟩:=List.getElem?_of_mem hd
  have hl:j < qs.length:=by rw [<- l.1]; exact (List.getElem?_eq_some_iff.mp hj).1
  have hq:qs[j]? = some qs[j]:=List.getElem?_eq_getElem hl
  have r:=l.2 j d _ hj hq
  have z:=hx _ (List.mem_of_getElem? hq)
  generalize qs[j] = q0 at r z
  cases q0 with
  | cls D=>cases r with
   | cls=>cases (show u = Value.ref D from ru); exact z.2
  | ty n=>cases r with
   | ty=>cases (show u = Value.type n from ru); exact z.2
  | _=>exact z.elim) ha
theorem Vw {ms:List Bool} {rm:Rm} {psp:Lk} {N:List Str} {vs:List V} {H:Hp} {Q:VK} {E:XK} {t:TS} {u:(Addr->Prop)->US} (h:spX K C ms rm psp vs H Q E) (hn:ms.length <= N.length) (hs:∀ X,SU K C (omX E X) rm t (u X))
  (hp:∀ ps P X,psp ps P X->u X ⟨Fh rm P,P,fun _=>False,fun _=>False⟩ (Da N.length ms ps)):t { nx:=fun _ H'=>Q .non H',rt:=Q } (L2.Nv N vs) H:=by
 obtain ⟨G,ps,P,X,i,ok,hq,k,kx⟩:=h
 obtain ⟨l1,l2⟩:=ok.len
 have hz:(List.zipWith (fun m p=>if m = true then Sl.sh p else Sl.bo p) ms ps).length = ps.length:=by rw [List.length_zipWith,l2]; omega
 refine hs X G G H (fun _=>none) G _ H _ _ ⟨Fh rm P,P,fun _=>False,fun _=>False⟩ ⟨Same.refl _,Grow.refl i,?_,fun i j a z=>(by cases z),fun i a z=>(by cases z),fun j s hj=>?_,fun c H' s z=>kx c H' s z⟩ ⟨fun own' G' σ' H' ρ' S' q=>?_,fun G' H' v p w r hp=>k G' H' v p w r hp,fun _ _ _ _ _ _ q=>q.elim,fun _ _ _ _ _ _ q=>q.elim⟩ (hp ps P X hq)
 ·unfold L2.Nv Da
  rw [List.length_append,List.length_append,List.length_map,hz,List.length_replicate,List.length_replicate,l1,l2]
 ·unfold Da at hj
  by_cases z:j < ps.length
  ·rw [List.getElem?_append_left (by rw [hz]; exact z)] at hj
   have q:=ArgsOk.slots (own:=fun _=>none) (σ:=L2.Nv N vs) 0 ok (fun j v hv=>by
    unfold L2.Nv
    rw [Nat.zero_add,List.getElem?_append_left (by rw [List.length_map]; exact (List.getElem?_eq_some_iff.mp hv).1),List.getElem?_map,hv]; rfl) hj
   rwa [Nat.zero_add] at q
  ·rw [List.getElem?_append_right (by rw [hz]; omega),List.getElem?_replicate] at hj
   split at hj
   ·cases hj; trivial
   ·cases hj
 ·cases rm with
  | sh=>exact k G' H' .non .non S'.gr .non q
  | fr=>exact q.elim
  | mu _=>exact q.elim
theorem Zo {X:Addr->Prop} {psp:Lk} {us:UA} {ρ:Bf} {P:PV->Prop} (q:us ρ fun ps=>psp ps P X):Xh X psp us ρ P:=q
theorem Zz {X:Addr->Prop} {c:Addr} {us:UA} {ρ:Bf} {d:De} (q:us ρ fun _=>X c):AbK X c us d ρ:=q
theorem Ab7 {X:Addr->Prop} {psp:Lk} {j:Nat} {ua:UA} {ρ:Bf} {d:De} (q:ua ρ fun ps=>psp ps (fun p=>d.nx (ρ.set j (.sh p))) X):AfC psp j ua d X ρ:=q
theorem AfB {ub:UX} {S:Addr->Prop} {i:Nat} {us:US} {ρ:Bf} {d:De} (q:ub d (fun c=>S c/\us (asU i d) (ρ.set i (.sh (.exc c)))) ρ):AiM ub S i us d ρ:=q
theorem Afm {i:Nat} {ρ:Bf} {d:De} (q:d.nx (ρ.set i .un)):(asU i d).nx ρ:=q
theorem Ae1 {p q:PV} {P:PV->Prop} (h:Ad6 K p q P):AeR K [p,q] P:=⟨p,q,rfl,h⟩
theorem AeZ {q:PV} {c:Addr} {b:Bool} {P:PV->Prop} (h:isX K c b q) (z:P (.bl b)):Ad6 K (.exc c) q P:=⟨c,b,rfl,h,z⟩
theorem AbE {p q:PV} {P:PV->Prop} (h:Afn K p q P):AbQ K [p,q] P:=⟨p,q,rfl,h⟩
end
section
variable {K:PySem.W.Frag} {C:Addr} {ω:Om}
def CU (K:PySem.W.Frag) (C:Addr) (ω:Om) (u:V->TE) (w:PV->UE):Prop:=∀ (B G0 H0:Hp) (own:Nat->Option Addr) (G:Hp) (σ:St) (H:Hp) (ρ:Bf) (v:V) (p:PV) (P:PV->Prop) (Q:VK),Sat K C ω B G0 H0 own G σ H ρ->RepB K C G H v p->w p ρ P->(∀ v p G' H',Grow G H G' H'->Rep K C G' v p->P p->Q v H')->u v σ H Q
def Aft (g:Int->Int->PV) (ub:UE):PV->UE:=fun p ρ P=>ub ρ fun q=>bI0 g p q P
def Afg (g:Int->Int->PV) (ub:UE) (w:PV->UE):PV->UE:=fun p ρ P=>ub ρ fun q=>bI0 g p q fun c=>bB c fun b=>if b = true then w q ρ P else P (.bl false)
def uCh (ua:UE) (w:PV->UE):UE:=fun ρ P=>ua ρ fun p=>w p ρ P
theorem Agn {g:Int->Int->V} {g':Int->Int->PV} {tb:TE} {ub:UE} (hg:∀ G i j,Rep K C G (g i j) (g' i j)) (hb:EB K C ω tb ub):CU K C ω (AeB (rI0 g) tb) (Aft g' ub) :=
 fun B G0 H0 own G σ H ρ v p P Q S r hu k=>hb B G0 H0 own G σ H ρ _ _ S hu fun w q G1 H1 w1 r1 ⟨i,j,e1,e2,h⟩=>by
  subst e1 e2
  exact ⟨i,j,r.int,r1.int,k _ _ G1 H1 w1 (hg G1 i j) h⟩
theorem Zs {g:Int->Int->V} {g':Int->Int->PV} {tb:TE} {ub:UE} {u:V->TE} {w:PV->UE} (hg:∀ G i j,Rep K C G (g i j) (g' i j)) (hb:EB K C ω tb ub) (hu:CU K C ω u w):CU K C ω (Ae0 (rI0 g) tb u) (Afg g' ub w) :=
 fun B G0 H0 own G σ H ρ v p P Q S r hw k=>hb B G0 H0 own G σ H ρ _ _ S hw fun v2 q G1 H1 w1 r1 ⟨i,j,e1,e2,b,e3,h⟩=>by
  subst e1 e2
  refine ⟨i,j,r.int,r1.int,b,?_,?_⟩
  ·have z:=hg G1 i j
   rw [e3] at z
   exact RepB.bl (H:=H1) (.inl z)
  ·cases b with
   | true=>exact hu B G0 H0 own G1 σ H1 ρ v2 _ P Q (S.grow w1) r1 h fun v p G' H' w' r' hp=>k v p G' H' (w1.trans w') r' hp
   | false=>exact k _ _ G1 H1 w1 (.bl false) h
theorem Ai9 {ta:TE} {ua:UE} {u:V->TE} {w:PV->UE} (ha:EB K C ω ta ua) (hu:CU K C ω u w):EU K C ω (tCh ta u) (uCh ua w) :=
 fun B G0 H0 own G σ H ρ P Q S hw k=>ha B G0 H0 own G σ H ρ _ _ S hw fun v p G1 H1 w1 r1 h=>hu B G0 H0 own G1 σ H1 ρ v p P Q (S.grow w1) r1 h fun v p G' H' w' r' hp=>k v p G' H' (w1.trans w') r' hp
theorem Ahj {ua:UE} {w:PV->UE} {ρ:Bf} {P:PV->Prop} (q:ua ρ fun p=>w p ρ P):uCh ua w ρ P:=q
theorem Abr {g:Int->Int->PV} {ub:UE} {ρ:Bf} {P:PV->Prop} {p:PV} (h:ub ρ fun q=>bI0 g p q P):Aft g ub p ρ P:=h
theorem Acp {g:Int->Int->PV} {ub:UE} {w:PV->UE} {ρ:Bf} {P:PV->Prop} {p:PV} (h:ub ρ fun q=>bI0 g p q fun c=>bB c fun b=>if b = true then w q ρ P else P (.bl false)):Afg g ub w p ρ P:=h
end
section
variable {K:PySem.W.Frag} {C:Addr} {ω:Om} {rm:Rm}
def Ado (i:Nat) (ρ:Bf) (N:Bf->Prop) (qs:List PV):Prop:=∃ rs ps:List PV,qs = [.lst rs]/\ρ[i]? = some (.ow (.lst ps))/\ps.length + rs.length < 100000/\N (ρ.set i (.ow (.lst (ps ++ rs))))
def Ag7 (i:Nat) (u:UA):US:=fun d ρ=>(∃ ps,ρ[i]? = some (.ow (.lst ps)))/\u ρ fun qs=>Ado i ρ d.nx qs
theorem AiR {i:Nat} {m:Bool} {t:TA} {u:UA} (ha:AU K C ω [m] t u):SU K C ω rm (Sv (tBM K "list" Xk (Ff i) t)) (Ag7 i u):=fun B G0 H0 own G σ H ρ D d S F ⟨⟨ps0,e0⟩,hu⟩ =>
 Uv S e0 fun a vs0 e1 o _ _=>ha B G0 H0 own G σ H ρ _ _ S hu fun xs qs G' H' w ok ⟨rs,ps,eq,ep,hl,h⟩=>by
  have S':=S.grow w
  obtain ⟨a',vs,e1',o',h1,h2⟩:=S'.list ep
  rw [o] at o'; cases o'
  obtain ⟨x,px,rfl,e3,r⟩:=Jw ok
  rw [e3] at eq
  cases eq
  obtain ⟨b,ws,rfl,eb,lb⟩:=r.lst w.i
  exact ⟨a,b,vs,ws,rfl,rfl,h1,eb,by rw [h2.1,lb.1,sizeLine_eq]; omega,fun H2 c e2=>F.nx own G' σ H2 _ (S'.chg o e1 c (OwnA.ofL e2 (LAt.append h2 lb))) h⟩
theorem Akk {ρ:Bf} {d:De} {i:Nat} {us:UA} {ps:List PV} (h:ρ[i]? = some (.ow (.lst ps))) (q:us ρ fun qs=>Ado i ρ d.nx qs):Ag7 i us d ρ:=⟨⟨ps,h⟩,q⟩
theorem AjD {ρ:Bf} {i:Nat} {N:Bf->Prop} {ps rs:List PV} (h:ρ[i]? = some (.ow (.lst ps))) (q:N (ρ.set i (.ow (.lst (ps ++ rs))))) (hl:ps.length + rs.length < 100000):Ado i ρ N [.lst rs]:=⟨rs,ps,rfl,h,hl,q⟩
end
section
variable {K:PySem.W.Frag} {C:Addr} {ω:Om} {rm:Rm}
end
section
variable {K:PySem.W.Frag} {C:Addr} {ω:Om} {rm:Rm}
end
section
variable {K:PySem.W.Frag} {C:Addr} {ω:Om} {rm:Rm}
end
section
variable {K:PySem.W.Frag} {C:Addr} {ω:Om}
end
theorem Sy {u w:US} {d:De} {ρ:Bf} (N:Bf->Prop) (h1:∀ ρ',N ρ'->w d ρ') (h2:u { d with nx:=fun ρ'=>N ρ'\/w d ρ' } ρ):AdF u w d ρ:=by
 have e:(fun ρ'=>N ρ'\/w d ρ') = w d:=funext fun ρ'=>propext ⟨fun z=>z.elim (h1 ρ') id,.inr⟩
 rw [e] at h2
 exact h2
section
variable {K:PySem.W.Frag} {C:Addr} {ω:Om} {rm:Rm}
theorem AdG {G:Hp} {vs:List V} {bs:List Bool} (h:Reps K C G vs (bs.map .bl)):vs = bs.map V.bl:=by
 refine Le (by rw [h.1,List.length_map,List.length_map]) fun i x y hx hy=>?_
 rw [List.getElem?_map] at hy
 obtain ⟨b,hb,rfl⟩:=Option.map_eq_some_iff.mp hy
 have r:=h.2 i x (.bl b) hx (by rw [List.getElem?_map,hb]; rfl)
 cases r; rfl
def AeV (ps:List PV) (P:PV->Prop):Prop:=∃ bs:List Bool,ps = [.lst (bs.map .bl)]/\P (.bl (bs.all id))
theorem AjO {bs:List Bool} {P:PV->Prop} (q:P (.bl (bs.all id))):AeV [.lst (bs.map .bl)] P:=⟨bs,rfl,q⟩
theorem Aip {m:Bool} {t:TA} {u:UA} (ha:AU K C ω [m] t u):EU K C ω (tCB (fun xs H Q=>∃ (p:Addr) (bs:List Bool),xs = [.ref p]/\SqL K H p (bs.map V.bl)/\Q (.bl (bs.all id)) H) t) (uCB AeV u) :=
 Wd (fun G H vs ps P Q s ok ⟨bs,e,h⟩ k=>by
  obtain ⟨v,p,rfl,e2,r⟩:=Jw ok
  rw [e] at e2; cases e2
  obtain ⟨a,vs,rfl,ea,l⟩:=r.lst s
  exact ⟨a,bs,rfl,SqL.of (by rw [<- AdG l]; exact ea),k _ _ (.bl _) h⟩) ha
end
section
variable {K:PySem.W.Frag} {C:Addr} {ω:Om} {rm:Rm}
def zpP (ps qs:List PV):List PV:=List.zipWith (fun p q=>PV.tup [p,q]) ps qs
theorem Agt {ps qs:List PV} {k:Nat} {p q:PV} (h1:ps[k]? = some p) (h2:qs[k]? = some q):(zpP ps qs)[k]? = some (.tup [p,q]):=by
 unfold zpP; rw [List.getElem?_zipWith,h1,h2]
theorem Agh (ps qs:List PV):(zpP ps qs).length = min ps.length qs.length:=by unfold zpP; exact List.length_zipWith
theorem AfY {α β:Type} (f:α->PV) (g:β->PV) (xs:List α) (ys:List β):zpP (xs.map f) (ys.map g) = (xs.zip ys).map fun z=>PV.tup [f z.1,g z.2]:=by
 unfold zpP
 rw [List.zipWith_map,List.zip,List.map_zipWith]
def bLL (p q:PV) (R:List PV->List PV->Prop):Prop:=∃ ps qs,p = .lst ps/\q = .lst qs/\R ps qs
theorem Akt {ps qs:List PV} {R:List PV->List PV->Prop} (h:R ps qs):bLL (.lst ps) (.lst qs) R:=⟨ps,qs,rfl,rfl,h⟩
def Afo (ua ub:UE) (ug:PV->Bf->(Bf->Prop)->Prop) (u:US):US:=fun d ρ=>ua ρ fun p=>ub ρ fun q=>bLL p q fun ps qs=>Wq (zpP ps qs) ug u d ρ
theorem Ag3 {ρ:Bf} {d:De} {ua ub:UE} {ug:PV->Bf->(Bf->Prop)->Prop} {u:US} (q:ua ρ fun p=>ub ρ fun q=>bLL p q fun ps qs=>Wq (zpP ps qs) ug u d ρ):Afo ua ub ug u d ρ:=q
theorem Rep.lstE {G:Hp} {v:V} {ps:List PV} (h:Rep K C G v (.lst ps)):∃ a vs,v = .ref a/\SqL K G a vs/\Reps K C G vs ps:=by
 cases h with
 | lst e l q=>exact ⟨_,_,rfl,SqL.of e,l,q⟩
theorem AfI {top:Nat} {ta tb:TE} {ua ub:UE} {g:TG} {ug:PV->Bf->(Bf->Prop)->Prop} {ts:TS} {us:US} (ha:EU K C ω ta ua) (ha2:EU K C ω tb ub) (hg:GU K C ω top g ug) (hb:SU K C ω rm ts us):SU K C ω rm (Nh (AdI K ta tb) g ts) (Afo ua ub ug us) :=
 fun B G0 H0 own G σ H ρ D d S F hu=>ha B G0 H0 own G σ H ρ _ _ S hu fun v p G1 H1 w1 r1 h1=>ha2 B G0 H0 own G1 σ H1 ρ _ _ (S.grow w1) h1 fun v2 q G2 H2 w2 r2 ⟨ps,qs,e1,e2,I,i0,ist,iend⟩=>by
  subst e1 e2
  have S2:=(S.grow w1).grow w2
  obtain ⟨a,vs,rfl,sq,rp⟩:=(r1.mono w2.g).lstE
  obtain ⟨b,ws,rfl,sq2,rp2⟩:=r2.lstE
  refine ⟨a,b,rfl,rfl,⟨vs,w2.i.seq sq⟩,⟨ws,w2.i.seq sq2⟩,Af6 (xs:=vs) (ys:=ws) (fun k σ' H'=>∃ own' G' ρ',Sat K C ω G2 G0 H0 own' G' σ' H' ρ'/\I k ρ') ⟨own,G2,ρ,S2.base (Same.refl _),i0⟩ (fun k σ' H' ⟨own',G',ρ',S',_⟩=>⟨(S'.kb.trans S'.gr.i).seq sq,(S'.kb.trans S'.gr.i).seq sq2⟩) (fun k x y t σ' H' hx hy ht ⟨own',G',ρ',S',hi⟩=>?_) fun σ' H' ⟨own',G',ρ',S',hi⟩=>?_⟩
  ·obtain ⟨q1,hq1,rq1⟩:=rp.get hx
   obtain ⟨q2,hq2,rq2⟩:=rp2.get hy
   have w3:Grow G' H' (upd G' t (.tup [x,y])) (upd H' t (.tup [x,y])):=Grow.put S'.gr.i ht (Same.new ht) Bn
   have S3:=S'.grow w3
   have rt:Rep K C (upd G' t (.tup [x,y])) (.ref t) (.tup [q1,q2]):=Rep.ofT Bn (LAt.snoc (LAt.snoc LAt.nil ((rq1.mono S'.kb).mono w3.g)) ((rq2.mono S'.kb).mono w3.g))
   exact hg G2 G0 H0 own' _ σ' _ ρ' (.ref t) _ _ _ S3 rt (ist k _ ρ' (Agt hq1 hq2) hi) fun own2 σ2 ρ2 S4 _ h2=>hb G2 G0 H0 own2 _ σ2 _ ρ2 _ _ S4 (Lc F S2.kb fun own3 G3 σ3 H3 ρ3 S5 h3=>⟨own3,G3,ρ3,S5,h3⟩) h2
  ·rw [rp.1,rp2.1,<- Agh] at hi
   exact F.nx own' G' σ' H' ρ' (S'.base (S2.kb.trans S'.kb)) (iend ρ' hi)
def Adu (p q:PV) (P:PV->Prop):Prop:=∃ xs,q = .lst xs/\(∀ x ∈ xs,∃ ys,x = .tup ys)/\(∀ x ∈ xs,Cmp 40 x p)/\∀ b:Bool,(b = true ↔ p ∈ xs)->P (.bl (!b))
def AhR (ua ub:UE):UE:=fun ρ P=>ua ρ fun p=>ub ρ fun q=>Adu p q P
theorem AjR {ρ:Bf} {P:PV->Prop} {ua ub:UE} (q:ua ρ fun p=>ub ρ fun q=>Adu p q P):AhR ua ub ρ P:=q
theorem Acm {ta tb:TE} {ua ub:UE} (ha:EU K C ω ta ua) (hb:EB K C ω tb ub):EU K C ω (tOp (Ahc K true) ta tb) (AhR ua ub) :=
 fun B G0 H0 own G σ H ρ P Q S hu k=>ha B G0 H0 own G σ H ρ _ _ S hu fun v p G1 H1 w1 r1 h1=>hb B G0 H0 own G1 σ H1 ρ _ _ (S.grow w1) h1 fun w q G2 H2 w2 r2 ⟨xs,e,ht,hc,h⟩=>by
  subst e
  obtain ⟨a,vs,rfl,ea,l⟩:=r2.lst w2.i
  have r1':=r1.mono w2.g
  have hr:∀ u ∈ vs,∃ r x,u = V.ref r/\x ∈ xs/\Rep K C G2 (.ref r) x:=fun u hu=>by
   obtain ⟨i,hi⟩:=List.getElem?_of_mem hu
   obtain ⟨x,hx,rx⟩:=LAt.get l hi
   obtain ⟨ys,rfl⟩:=ht x (List.mem_of_getElem? hx)
   cases rx with
   | tup e l' q'=>exact ⟨_,_,rfl,List.mem_of_getElem? hx,.tup e l' q'⟩
  refine ⟨a,vs,fun r=>pd (Rep K C G2 (.ref r) p),rfl,SqL.of ea,fun u hu=>let ⟨r,_,e,_⟩:=hr u hu; ⟨r,e⟩,fun r hm=>?_,?_⟩
  ·obtain ⟨r',x,e,hx,rx⟩:=hr _ hm
   cases e
   refine (hc x hx).eqD w2.i rx r1' ?_
   rw [pd_iff]
   exact ⟨fun z=>(hc x hx).fn rx z,fun z=>by rw [<- z]; exact rx⟩
  ·have key:vs.any (Xu fun r=>pd (Rep K C G2 (.ref r) p)) = pd (p ∈ xs):=Gh (by
    rw [pd_iff,List.any_eq_true]
    constructor
    ·rintro ⟨u,hu,hb⟩
     obtain ⟨r,x,rfl,hx,rx⟩:=hr u hu
     have:Rep K C G2 (.ref r) p:=pd_iff.mp hb
     rw [<- (hc x hx).fn rx this]; exact hx
    ·intro hp
     obtain ⟨i,hi⟩:=List.getElem?_of_mem hp
     obtain ⟨u,hu,ru⟩:=LAt.get' l hi
     obtain ⟨ys,rfl⟩:=ht p hp
     refine ⟨u,List.mem_of_getElem? hu,?_⟩
     cases ru with
     | tup e l' q'=>exact pd_iff.mpr (.tup e l' q'))
   show Q (.bl (!(vs.any (Xu fun r=>pd (Rep K C G2 (.ref r) p))))) H2
   rw [key]
   exact k _ _ G2 H2 (w1.trans w2) (.bl _) (h _ pd_iff)
theorem Ads {E:XK} {ms:List Bool} {psp:Lk} {t:TA} {u:UA} (ha:AU K C ω ms t u):EF K C ω (Jz (spX K C ms .fr psp) [] E t) (Xh (fun _=>False) psp u) :=
 fun B G0 H0 own G σ H ρ P Q S hu k=>ha B G0 H0 own G σ H ρ _ _ S hu fun vs ps G1 H1 w1 ok h=>by
  rw [List.append_nil]
  exact ⟨G1,ps,P,fun _=>False,w1.i,ok,h,fun G' H' v p w ⟨a,e,n,g,r⟩ hp=>by subst e; exact k a p G' H' (w1.trans w) (w1.h.free n) g r hp,fun c H' s hx=>hx.elim⟩
abbrev Fz:=Addr × Obj × List (Key × V)
def fzE (i:Nat) (z:Fz) (kvs:List (Key × PV)) (N:Bf->Prop) (ρ:Bf):Prop:=ρ[i]? = some (.fz z kvs)/\N (ρ.set i (.ow (.dk kvs)))
def Yh (i:Nat) (z:Fz) (kvs:List (Key × PV)) (d:De):De:=⟨fzE i z kvs d.nx,fun _=>False,fzE i z kvs d.bk,fzE i z kvs d.ct⟩
def AiU (i:Nat) (u:US):US:=fun d ρ=>∃ kvs,ρ[i]? = some (.ow (.dk kvs))/\∀ z,u (Yh i z kvs d) (ρ.set i (.fz z kvs))
theorem Og {H:Hp} {a b:Addr} {o u:HO} (n:b ≠ a) (h:H b = some u):upd H a o b = some u:=by rw [Bg n]; exact h
theorem Sat.turn {B G0 H0 G H:Hp} {own:Nat->Option Addr} {σ:St} {ρ:Bf} (S:Sat K C ω B G0 H0 own G σ H ρ) {i:Nat} {a:Addr} {o:HO} {s':Sl} (e:own i = some a) (ht:Rl o) (hs:SlOk K C G0 H0 own G σ (upd H a o) i s'):Sat K C ω B G0 H0 own G σ (upd H a o) (ρ.set i s'):=by
 obtain ⟨f0,fg,_⟩:=S.fr i a e
 have ng:∀ b u,G b = some u->b ≠ a:=fun b u h w=>by subst w; rw [fg] at h; cases h
 have n0:∀ b u,H0 b = some u->b ≠ a:=fun b u h w=>by subst w; rw [f0] at h; cases h
 refine ⟨S.kb,⟨S.gr.g,fun b u h=>Og (n0 b u h) (S.gr.h _ _ h),fun b u h=>Og (ng b u h) (S.gr.i _ _ h),S.gr.n⟩,by rw [List.length_set,S.len],S.inj,fun j b h=>?_,fun j s h=>?_,S.ex⟩
 ·obtain ⟨q0,qg,u,qh,qt⟩:=S.fr j b h
  by_cases w:b = a
  ·subst w; exact ⟨q0,qg,o,Bn,ht⟩
  ·exact ⟨q0,qg,u,Og w qh,qt⟩
 ·rcases Gz h with ⟨rfl,rfl,hl⟩ | ⟨z,h⟩
  ·exact hs
  ·have q:=S.sl j s h
   cases s with
   | un=>trivial
   | sh p=>exact q
   | bo p=>exact q
   | bz kvs=>exact q
   | fz y kvs =>
    obtain ⟨e1,o1,h1,h2⟩:=q
    exact ⟨e1,o1,Og (fun w=>z (S.inj j i a (by rw [<- w]; exact o1) e)) h1,h2⟩
   | fl y ps =>
    obtain ⟨e1,o1,h1,h2⟩:=q
    exact ⟨e1,o1,Og (fun w=>z (S.inj j i a (by rw [<- w]; exact o1) e)) h1,h2⟩
   | om b p' =>
    obtain ⟨e1,o1,r1⟩:=q
    exact ⟨e1,o1,r1.mono (Same.refl _) (Bg fun w=>z (S.inj j i a (by rw [<- w]; exact o1) e))⟩
   | ow p' =>
    obtain ⟨b,e1,o1,r1⟩:=q
    exact ⟨b,e1,o1,r1.mono (Same.refl _) (Bg fun w=>z (S.inj j i a (by rw [<- w]; exact o1) e))⟩
theorem AbY {i:Nat} {t:TS} {u:US} (h:SU K C ω rm t u):SU K C ω rm (Aa5 t) (AiU i u):=fun B G0 H0 own G σ H ρ D d S F ⟨kvs,e,hu⟩=>by
 obtain ⟨a,ea,eo,vs,ha,l⟩:=S.sl i _ e
 refine ⟨a,.dK vs,trivial,ha,fun o=>?_⟩
 have S1:=S.turn (o:=.frz o (.dK vs)) (s':=.fz (a,o,vs) kvs) eo (fun _ z=>nomatch z) ⟨ea,eo,Bn,l⟩
 have key:∀ (N:Bf->Prop) (M:St->Hp->Prop),(∀ own G σ H ρ,Sat K C ω B G0 H0 own G σ H ρ->N ρ->M σ H)->∀ own' G' σ' H' ρ',Sat K C ω B G0 H0 own' G' σ' H' ρ'->fzE i (a,o,vs) kvs N ρ'->∃ o',H' a = some (.frz o' (.dK vs))/\M σ' (upd H' a (.dK vs)):=fun N M hM own' G' σ' H' ρ' S' ⟨e',h'⟩=>by
  obtain ⟨h1,h2,h3,h4⟩:=S'.sl i _ e'
  exact ⟨o,h3,hM own' G' σ' _ _ (S'.turn (o:=.dK vs) (s':=.ow (.dk kvs)) h2 (fun _ z=>nomatch z) ⟨a,h1,h2,OwnA.ofD Bn h4⟩) h'⟩
 exact h B G0 H0 own G σ _ _ _ (Yh i (a,o,vs) kvs d) S1 ⟨key d.nx D.nx F.nx,fun _ _ _ _ _ _ z=>z.elim,key d.bk D.bk F.bk,key d.ct D.ct F.ct⟩ (hu (a,o,vs))
theorem Aha {G:Hp} (k:Key):Rep K C G (kV k) (kP k):=by
 cases k with
 | inl i=>exact .int _
 | inr x=>exact .str _
def Sl.fzv:Sl->Option (List (Key × PV))
 | .fz _ kvs=>some kvs
 | .bz kvs=>some kvs
 | _=>none
def Abm (i:Nat) (ub:UE):UE:=fun ρ P=>∃ s kvs,ρ[i]? = some s/\s.fzv = some kvs/\ub ρ fun q=>Uj (.dk kvs) q P
theorem Xo {i:Nat} {tb:TE} {ub:UE} (hb:EB K C ω tb ub):EU K C ω (Wh (Ff i) tb) (Abm i ub):=fun B G0 H0 own G σ H ρ P Q S ⟨s,kvs,e,ev,hu⟩ k=>by
 have key:∃ a o vs,σ[i]? = some (some (.ref a))/\H a = some (.frz o (.dK vs))/\LAt (KRep K C) G vs kvs:=by
  have q:=S.sl i s e
  cases s with
  | fz z kvs'=>cases ev; obtain ⟨h1,_,h2,h3⟩:=q; exact ⟨_,_,_,h1,h2,h3⟩
  | bz kvs'=>cases ev; obtain ⟨a,o,vs,h1,h2,h3⟩:=q; exact ⟨a,o,vs,h1,S.gr.h _ _ h2,h3⟩
  | _=>cases ev
 obtain ⟨a,o,vs,ea,ha,l⟩:=key
 refine ⟨_,ea,hb B G0 H0 own G σ H ρ _ _ S hu fun w p G1 H1 w1 r1 ⟨kvs',k',x,e1,e2,e3,h⟩=>?_⟩
 cases e1
 subst e2
 rw [Abj r1]
 rcases Uc k' (KReps.mono l w1.g) with ⟨h1,h2⟩ | ⟨y,p,h1,h2,h3⟩
 ·rw [e3] at h2; cases h2
 ·rw [e3] at h2; cases h2
  exact ⟨a,y,rfl,.inl ⟨vs,k',.inr ⟨o,w1.h _ _ ha⟩,rfl,h1.symm⟩,k _ _ G1 H1 w1 h3 h⟩
theorem Sat.slot {B G0 H0 G H:Hp} {own:Nat->Option Addr} {σ:St} {ρ:Bf} (S:Sat K C ω B G0 H0 own G σ H ρ) {i:Nat} {s':Sl} (hs:SlOk K C G0 H0 own G σ H i s'):Sat K C ω B G0 H0 own G σ H (ρ.set i s') :=
 ⟨S.kb,S.gr,by rw [List.length_set,S.len],S.inj,S.fr,fun j s h=>by
  rcases Gz h with ⟨rfl,rfl,hl⟩ | ⟨z,h⟩
  ·exact hs
  ·exact S.sl j s h,S.ex⟩
abbrev Fl:=Addr × List V
def Acs (i:Nat) (z:Fl) (ps:List PV) (ug:PV->Bf->(Bf->Prop)->Prop) (ub:US) (d:De) (ρ:Bf):Prop:=∃ I:Nat->Bf->Prop,I 0 ρ/\(∀ k ρ,I k ρ->ρ[i]? = some (.fl z ps))/\(∀ k p ρ,ps[k]? = some p->I k ρ->ug p ρ fun ρ'=>ub { d with nx:=I (k + 1),ct:=I (k + 1),bk:=d.nx } ρ')/\∀ ρ,I ps.length ρ->d.nx ρ
def Afb (i:Nat) (ug:PV->Bf->(Bf->Prop)->Prop) (ub:US):US:=fun d ρ=>∃ z ps,ρ[i]? = some (.fl z ps)/\Acs i z ps ug ub d ρ
theorem AfP {top:Nat} {i:Nat} {g:TG} {ug:PV->Bf->(Bf->Prop)->Prop} {tb:TS} {ub:US} (hg:GU K C ω top g ug) (hb:SU K C ω rm tb ub):SU K C ω rm (Nh (Qh K (Ff i)) g tb) (Afb i ug ub) :=
 fun B G0 H0 own G σ H ρ D d S F ⟨z,ps,e,I,i0,iz,ist,iend⟩=>by
  obtain ⟨e1,e2,e3,e4⟩:=S.sl i _ e
  refine ⟨_,e1,z.1,rfl,⟨z.2,SqL.of e3⟩,Qf (xs:=z.2) (fun k σ' H'=>∃ own' G' ρ',Sat K C ω G G0 H0 own' G' σ' H' ρ'/\I k ρ') ⟨own,G,ρ,S.base (Same.refl _),i0⟩ (fun k σ' H' _ ⟨own',G',ρ',S',hi⟩=>SqL.of (S'.sl i _ (iz k ρ' hi)).2.2.1) (fun k x σ' H' hx ⟨own',G',ρ',S',hi⟩=>?_) fun σ' H' ⟨own',G',ρ',S',hi⟩=>?_⟩
  ·obtain ⟨q,hq,rq⟩:=LAt.get e4 hx
   exact hg G G0 H0 own' G' σ' H' ρ' x q _ _ S' (rq.mono S'.kb) (ist k q ρ' hq hi) fun own2 σ2 ρ2 S2 _ h2=>hb G G0 H0 own2 G' σ2 H' ρ2 _ _ S2 (Lc F S.kb fun own3 G3 σ3 H3 ρ3 S3 h3=>⟨own3,G3,ρ3,S3,h3⟩) h2
  ·rw [e4.1] at hi
   exact F.nx own' G' σ' H' ρ' (S'.base (S.kb.trans S'.kb)) (iend ρ' hi)
theorem AhZ {i:Nat} {z:Fl} {ps:List PV} {ug:PV->Bf->(Bf->Prop)->Prop} {ub:US} {d:De} {ρ:Bf} (h1:ρ[i]? = some (.fl z ps)) (q:Acs i z ps ug ub d ρ):Afb i ug ub d ρ:=⟨z,ps,h1,q⟩
def Zx (i:Nat) (ug:PV->Bf->(Bf->Prop)->Prop) (uc:UT) (ue:UE) (k:Nat) (fr:List Nat):UE:=fun ρ P=>∃ s kvs,ρ[i]? = some s/\s.fzv = some kvs/\kvs.length <= 100000/\Rz (kvs.map fun kv=>kP kv.1) ug uc ue (compρ k fr ρ) P
theorem Vx {i:Nat} {k:Nat} {fr:List Nat} {g:TG} {ug:PV->Bf->(Bf->Prop)->Prop} {tc:TT} {uc:UT} {te:TE} {ue:UE} (hg:GU K C Om.no k g ug) (hc:TU K C Om.no tc uc) (he:EU K C Om.no te ue):EF K C ω (Jx (iDk (Ff i)) g tc te k fr) (Zx i ug uc ue k fr) :=
 fun B G0 H0 own G σ H ρ P Q S ⟨s,kvs,e,ev,hl,I,i0,ist,iend⟩ kk=>by
  have key:∃ a o vs,σ[i]? = some (some (.ref a))/\H a = some (.frz o (.dK vs))/\LAt (KRep K C) G vs kvs:=by
   have q:=S.sl i s e
   cases s with
   | fz z kvs'=>cases ev; obtain ⟨h1,_,h2,h3⟩:=q; exact ⟨_,_,_,h1,h2,h3⟩
   | bz kvs'=>cases ev; obtain ⟨a,o,vs,h1,h2,h3⟩:=q; exact ⟨a,o,vs,h1,S.gr.h _ _ h2,h3⟩
   | _=>cases ev
  obtain ⟨a,o,vs,ea,ha,l⟩:=key
  refine Ve (show iDk (Ff i) σ H _ from ⟨_,ea,a,o,vs,rfl,ha,fun D hD=>CP.dkeys (CSt K C G H D I) (Sr S.gr.i hD i0) (fun n H' ⟨G',_,_,w,_⟩=>w.h _ _ ha) (fun n kv H' N hx st hN=>?_) fun H' st=>?_⟩)
  ·have hn:n < kvs.length:=by rw [<- l.1]; exact (List.getElem?_eq_some_iff.mp hx).1
   have rq:=l.2 n kv kvs[n] hx (List.getElem?_eq_getElem hn)
   rw [show kv.1 = kvs[n].1 from rq.1]
   exact Ry S hg hc he hD (by omega) (fun G' s=>Aha _) st hN fun rs hi=>ist n _ rs (by rw [List.getElem?_map,List.getElem?_eq_getElem hn]; rfl) hi
  ·obtain ⟨G',ys,rs,w,gD,eD,ry,_,hi⟩:=st
   rw [l.1] at hi
   exact kk D _ G' H' w hD gD (OwnA.ofL eD ry) (iend rs (by rw [List.length_map]; exact hi))
theorem Ad7 {i:Nat} {ug:PV->Bf->(Bf->Prop)->Prop} {uc:UT} {ue:UE} {k:Nat} {fr:List Nat} {ρ:Bf} {P:PV->Prop} {s:Sl} {kvs:List (Key × PV)} (h1:ρ[i]? = some s) (h2:s.fzv = some kvs) (q:kvs.length <= 100000/\Rz (kvs.map fun kv=>kP kv.1) ug uc ue (compρ k fr ρ) P):Zx i ug uc ue k fr ρ P:=⟨s,kvs,h1,h2,q.1,q.2⟩
theorem Aju {i:Nat} {u:US} {d:De} {ρ:Bf} {kvs:List (Key × PV)} (h1:ρ[i]? = some (.ow (.dk kvs))) (q:∀ z,u (Yh i z kvs d) (ρ.set i (.fz z kvs))):AiU i u d ρ:=⟨kvs,h1,q⟩
theorem Af4 {i:Nat} {ub:UE} {ρ:Bf} {P:PV->Prop} {s:Sl} {kvs:List (Key × PV)} (h1:ρ[i]? = some s) (h2:s.fzv = some kvs) (q:ub ρ fun q=>Uj (.dk kvs) q P):Abm i ub ρ P:=⟨s,kvs,h1,h2,q⟩
def era (H:Hp) (a:Addr):Hp:=fun b=>if b = a then none else H b
theorem Wx {H:Hp} {a:Addr}:era H a a = none:=by unfold era; rw [if_pos rfl]
theorem Jg {H:Hp} {a b:Addr} (n:b ≠ a):era H a b = H b:=by unfold era; rw [if_neg n]
theorem Adm {H:Hp} {a:Addr}:Same (era H a) H:=fun b o h=>by
 by_cases z:b = a
 ·subst z; rw [Wx] at h; cases h
 ·rw [Jg z] at h; exact h
abbrev Ts:=PV->PV->PV->(PV->PV->Prop)->Prop
def spM (K:PySem.W.Frag) (C:Addr) (psp:Ts):Sp:=fun vs H Q _=>∃ G x a y p q r P,vs = [x,.ref a,y]/\Same G H/\G a = none/\OwnA K C G H a q/\Rep K C G x p/\Rep K C G y r/\psp p q r P /\
 ∀ G' H' c p1 q',Grow G (era H a) G' H'->H c = none->G' c = none->OwnA K C G' H' c p1->G' a = none->OwnA K C G' H' a q'->P p1 q'->Q (.ref c) H'
theorem spM.len {psp:Ts} {vs:List V} {H:Hp} {Q:VK} {E:XK} (h:spM K C psp vs H Q E):vs.length = 3:=by
 obtain ⟨G,x,a,y,p,q,r,P,rfl,_⟩:=h; rfl
theorem Ab5 {psp:Ts} {N:List Str} {vs:List V} {H:Hp} {Q:VK} {E:XK} {t:TS} {u:Addr->US} (h:spM K C psp vs H Q E) (hn:3 <= N.length) (hs:∀ a,SU K C Om.no (.mu a) t (u a))
  (hp:∀ a p q r P,psp p q r P->u a ⟨fun _=>False,fun x=>∃ p1 p2,x = .tup [p1,p2]/\P p1 p2,fun _=>False,fun _=>False⟩ ([.sh p,.om a q,.sh r] ++ List.replicate (N.length - 3) .un)):t { nx:=fun _ H'=>Q .non H',rt:=Q } (L2.Nv N vs) H:=by
 obtain ⟨G,x,a,y,p,q,r,P,rfl,i,ga,oa,rx,ry,hq,k⟩:=h
 have hσ:∀ j v,([x,.ref a,y]:List V)[j]? = some v->(L2.Nv N [x,.ref a,y])[j]? = some (some v):=fun j v hv=>by
  unfold L2.Nv
  rw [List.getElem?_append_left (by rw [List.length_map]; exact (List.getElem?_eq_some_iff.mp hv).1),List.getElem?_map,hv]; rfl
 refine hs a G G (era H a) (fun j=>if j = 1 then some a else none) G _ H _ _ ⟨fun _=>False,fun x=>∃ p1 p2,x = .tup [p1,p2]/\P p1 p2,fun _=>False,fun _=>False⟩ ⟨Same.refl _,⟨Same.refl _,Adm,i,fun _ _ _ _ h=>h⟩,?_,fun i j b h1 h2=>?_,fun j b h=>?_,fun j s hj=>?_,fun _ _ _ z=>z.elim⟩ ⟨fun _ _ _ _ _ _ z=>z.elim,fun G' H' v pv w ro hd=>?_,fun _ _ _ _ _ _ z=>z.elim,fun _ _ _ _ _ _ z=>z.elim⟩ (hp a p q r P hq)
 ·unfold L2.Nv
  rw [List.length_append,List.length_append,List.length_map,List.length_replicate,List.length_replicate]; rfl
 ·split at h1 <;> split at h2
  ·rename_i z1 z2; rw [z1,z2]
  ·cases h2
  ·cases h1
  ·cases h1
 ·split at h
  ·cases h; exact ⟨Wx,ga,oa.thing⟩
  ·cases h
 ·match j,hj with
  | 0,hj=>cases hj; exact ⟨x,hσ 0 x rfl,rx⟩
  | 1,hj=>cases hj; exact ⟨hσ 1 _ rfl,rfl,oa⟩
  | 2,hj=>cases hj; exact ⟨y,hσ 2 y rfl,ry⟩
  | j + 3,hj =>
   have hj':(List.replicate (N.length - 3) Sl.un)[j]? = some s:=hj
   rw [List.getElem?_replicate] at hj'
   split at hj'
   ·cases hj'; trivial
   ·cases hj'
 ·obtain ⟨p1,p2,c,e1,e2,c0,ca,gc,o1,gb,o2⟩:=ro
  subst e1 e2
  obtain ⟨q1,q2,e,hP⟩:=hd
  cases e
  rw [Jg ca] at c0
  exact k G' H' c p1 p2 w c0 gc o1 gb o2 hP
def AeA (i:Nat) (a:Addr) (j:Nat):US:=fun d ρ=>∃ p1 p2,ρ[j]? = some (.ow p1)/\ρ[i]? = some (.om a p2)/\i ≠ j/\d.rt (.tup [p1,p2])
theorem AgB {i j:Nat} {a:Addr}:SU K C ω (.mu a) (Vh (Ff j)) (AeA i a j):=fun B G0 H0 own G σ H ρ D d S F ⟨p1,p2,e1,e2,ne,h⟩=>by
 obtain ⟨c,h1,o1,r1⟩:=S.sl j _ e1
 obtain ⟨h2,o2,r2⟩:=S.sl i _ e2
 obtain ⟨f0,fg,_⟩:=S.fr j c o1
 obtain ⟨_,fa,_⟩:=S.fr i a o2
 exact ⟨_,h1,F.rt G H _ _ S.gr ⟨p1,p2,c,rfl,rfl,f0,fun z=>ne (S.inj i j a o2 (by rw [<- z]; exact o1)),fg,r1,fa,r2⟩ h⟩
def Aax (i:Nat) (a:Addr) (ρ:Bf) (N:Bf->Prop) (qs:List PV):Prop:=∃ q ps,qs = [q]/\ρ[i]? = some (.om a (.lst ps))/\ps.length < 100000/\N (ρ.set i (.om a (.lst (ps ++ [q]))))
def AeS (i:Nat) (a:Addr) (u:UA):US:=fun d ρ=>(∃ ps,ρ[i]? = some (.om a (.lst ps)))/\u ρ fun qs=>Aax i a ρ d.nx qs
theorem Sat.own {B G0 H0 G H:Hp} {own:Nat->Option Addr} {σ:St} {ρ:Bf} (S:Sat K C ω B G0 H0 own G σ H ρ) {i:Nat} {a:Addr} {p:PV} (e:ρ[i]? = some (.om a p)):Sat K C ω B G0 H0 own G σ H (ρ.set i (.ow p)):=by
 obtain ⟨h1,h2,h3⟩:=S.sl i _ e
 exact S.slot ⟨a,h1,h2,h3⟩
theorem AfH {i:Nat} {a:Addr} {t:TA} {u:UA} (ha:AU K C ω [true] t u):SU K C ω rm (Sv (tBM K "list" Qq (Ff i) t)) (AeS i a u):=fun B G0 H0 own G σ H ρ D d S F ⟨⟨ps0,e0⟩,hu⟩=>by
 have hl:i < ρ.length:=(List.getElem?_eq_some_iff.mp e0).1
 refine Uv (S.own e0) (Oe hl) fun a' vs0 e1 o _ _=>ha B G0 H0 own G σ H ρ _ _ S hu fun xs qs G' H' w ok ⟨q,ps,eq,ep,hl2,h⟩=>?_
 have S':=S.grow w
 obtain ⟨b1,b2,vs,b3,b4⟩:=S'.sl i _ ep
 rw [o] at b2; cases b2
 subst eq
 match xs,ok with
 | [x],ok =>
  have rx:Rep K C G' x q:=ok.1
  refine ⟨a,vs,x,rfl,rfl,b3,Xp (by rw [b4.1]; omega),fun H2 c e2=>F.nx own G' σ H2 _ ?_ h⟩
  have S2:=S'.chg o e1 c (OwnA.ofL e2 (No b4 rx))
  have S3:=S2.slot (i:=i) (s':=.om a (.lst (ps ++ [q]))) ⟨e1,o,OwnA.ofL e2 (No b4 rx)⟩
  rwa [List.set_set] at S3
 | [],ok=>cases ok
 | _ :: _ :: _,ok=>cases ok.2
def flM (i:Nat) (a:Addr) (z:Fl) (ps:List PV) (N:Bf->Prop) (ρ:Bf):Prop:=ρ[i]? = some (.fl z ps)/\N (ρ.set i (.om a (.lst ps)))
def Aep (i:Nat) (a:Addr) (u:US):US:=fun d ρ=>∃ ps,ρ[i]? = some (.om a (.lst ps))/\∀ z,u ⟨flM i a z ps d.nx,d.rt,flM i a z ps d.bk,flM i a z ps d.ct⟩ (ρ.set i (.fl z ps))
theorem Af9 {i:Nat} {a:Addr} {t:TS} {u:US} (h:SU K C ω rm t u):SU K C ω rm t (Aep i a u):=fun B G0 H0 own G σ H ρ D d S F ⟨ps,e,hu⟩=>by
 obtain ⟨ea,eo,vs,ha,l⟩:=S.sl i _ e
 have S1:=S.slot (s':=.fl (a,vs) ps) ⟨ea,eo,ha,l⟩
 have key:∀ (N:Bf->Prop) (M:St->Hp->Prop),(∀ own G σ H ρ,Sat K C ω B G0 H0 own G σ H ρ->N ρ->M σ H)->∀ own' G' σ' H' ρ',Sat K C ω B G0 H0 own' G' σ' H' ρ'->flM i a (a,vs) ps N ρ'->M σ' H':=fun N M hM own' G' σ' H' ρ' S' ⟨e',h'⟩=>by
  obtain ⟨h1,h2,h3,h4⟩:=S'.sl i _ e'
  exact hM own' G' σ' _ _ (S'.slot (s':=.om a (.lst ps)) ⟨h1,h2,OwnA.ofL h3 h4⟩) h'
 exact h B G0 H0 own G σ _ _ _ ⟨flM i a (a,vs) ps d.nx,d.rt,flM i a (a,vs) ps d.bk,flM i a (a,vs) ps d.ct⟩ S1 ⟨key d.nx D.nx F.nx,F.rt,key d.bk D.bk F.bk,key d.ct D.ct F.ct⟩ (hu (a,vs))
def Aej (psp:Ts) (i j:Nat) (u0 u2:UE):US:=fun d ρ=>i ≠ j/\∃ q,ρ[i]? = some (.ow q)/\u0 ρ fun p=>u2 ρ fun r=>psp p q r fun p1 p2=>d.nx ((ρ.set i (.ow p2)).set j (.ow p1))
theorem Agw {psp:Ts} {i j:Nat} {E:XK} {t0 t2:TE} {u0 u2:UE} (h0:EU K C ω t0 u0) (h2:EU K C ω t2 u2):SU K C ω rm (Qk (Jz (spM K C psp) [] E (Gm t0 (Gm (Ff i) (Gm t2 Us)))) (La j)) (Aej psp i j u0 u2) :=
 fun B G0 H0 own G σ H ρ D d S F ⟨ne,q,e,hu⟩=>h0 B G0 H0 own G σ H ρ _ _ S hu fun x p G1 H1 w1 r1 hu2=>by
  have S1:=S.grow w1
  obtain ⟨a,ea,eo,_⟩:=S.sl i _ e
  refine ⟨_,ea,h2 B G0 H0 own G1 σ H1 ρ _ _ S1 hu2 fun y r G2 H2 w2 r2 hp=>?_⟩
  have S2:=S1.grow w2
  obtain ⟨a',ea',eo',oa⟩:=S2.sl i _ e
  rw [eo] at eo'; cases eo'
  obtain ⟨f0,fg,o,ho,ht⟩:=S2.fr i a eo
  show spM K C psp ([x,.ref a,y] ++ []) H2 (fun v H1=>D.nx (σ.set j (some v)) H1) E
  refine ⟨G2,x,a,y,p,q,r,_,rfl,w2.i,fg,oa,r1.mono w2.g,r2,hp,fun G' H' c p1 q' w hc gc oc gb ob hd=>?_⟩
  have n0:∀ b u,H0 b = some u->b ≠ a:=fun b u h z=>by subst z; rw [f0] at h; cases h
  have ng:∀ b u,G2 b = some u->b ≠ a:=fun b u h z=>by subst z; rw [fg] at h; cases h
  have hl:i < ρ.length:=(List.getElem?_eq_some_iff.mp e).1
  have Se:Sat K C ω B G0 H0 (Ft own i) G2 σ (era H2 a) (ρ.set i .un):=by
   refine ⟨S2.kb,⟨S2.gr.g,fun b u h=>by rw [Jg (n0 b u h)]; exact S2.gr.h _ _ h,fun b u h=>by rw [Jg (ng b u h)]; exact S2.gr.i _ _ h,S2.gr.n⟩,by rw [List.length_set,S2.len],fun j k b h1 h2=>S2.inj j k b (Cs h1).2 (Cs h2).2,fun j b h=>?_,fun j s h=>?_,S2.ex⟩
   ·obtain ⟨nj,h⟩:=Cs h
    obtain ⟨q0,qg,o,qh,qt⟩:=S2.fr j b h
    exact ⟨q0,qg,o,by rw [Jg (fun z=>nj (S2.inj j i b h (by rw [z]; exact eo)))]; exact qh,qt⟩
   ·rcases Gz h with ⟨rfl,rfl,hl⟩ | ⟨z,h⟩
    ·trivial
    ·have k:=S2.sl j s h
     have un:Ft own i j = own j:=by unfold Ft; rw [if_neg z]
     cases s with
     | un=>trivial
     | sh p=>exact k
     | bo p=>exact k
     | bz kvs=>exact k
     | fz y kvs =>
      obtain ⟨e1,o1,h1,h2⟩:=k
      exact ⟨e1,un.trans o1,by rw [Jg (fun w=>z (S2.inj j i a (by rw [<- w]; exact o1) eo))]; exact h1,h2⟩
     | fl y ps =>
      obtain ⟨e1,o1,h1,h2⟩:=k
      exact ⟨e1,un.trans o1,by rw [Jg (fun w=>z (S2.inj j i a (by rw [<- w]; exact o1) eo))]; exact h1,h2⟩
     | om b p' =>
      obtain ⟨e1,o1,r1⟩:=k
      exact ⟨e1,un.trans o1,r1.mono (Same.refl _) (Jg fun w=>z (S2.inj j i a (by rw [<- w]; exact o1) eo))⟩
     | ow p' =>
      obtain ⟨b,e1,o1,r1⟩:=k
      exact ⟨b,e1,un.trans o1,r1.mono (Same.refl _) (Jg fun w=>z (S2.inj j i a (by rw [<- w]; exact o1) eo))⟩
  have S3:=Se.grow w
  have S4:=S3.setO (i:=i) ob f0 gb (fun j z=>(Cs z).1 (S2.inj j i a (Cs z).2 eo))
  have es:σ.set i (some (V.ref a)) = σ:=by
   refine List.ext_getElem? fun k=>?_
   by_cases z:k = i
   ·subst z; rw [Oe (by rw [S.len]; exact hl),ea]
   ·rw [Of z]
  rw [es,List.set_set] at S4
  have nc:c ≠ a:=fun z=>by subst z; rw [hc] at ho; cases ho
  refine F.nx _ G' _ H' _ (S4.setO (i:=j) oc (S2.gr.h.free hc) gc fun k z=>?_) hd
  unfold Oi at z
  split at z
  ·cases z; exact nc rfl
  ·obtain ⟨_,_,o',ho',_⟩:=S2.fr k c (Cs z).2
   rw [hc] at ho'; cases ho'
theorem Ahg {i j:Nat} {a:Addr} {d:De} {ρ:Bf} {p1 p2:PV} (h1:ρ[j]? = some (.ow p1)) (h2:ρ[i]? = some (.om a p2)) (ne:i ≠ j) (q:d.rt (.tup [p1,p2])):AeA i a j d ρ:=⟨p1,p2,h1,h2,ne,q⟩
theorem Ai3 {i:Nat} {a:Addr} {u:UA} {d:De} {ρ:Bf} {ps:List PV} (h:ρ[i]? = some (.om a (.lst ps))) (q:u ρ fun qs=>Aax i a ρ d.nx qs):AeS i a u d ρ:=⟨⟨ps,h⟩,q⟩
theorem AhA {i:Nat} {a:Addr} {ρ:Bf} {N:Bf->Prop} {q:PV} {ps:List PV} (h:ρ[i]? = some (.om a (.lst ps))) (k:N (ρ.set i (.om a (.lst (ps ++ [q]))))) (hl:ps.length < 100000):Aax i a ρ N [q]:=⟨q,ps,rfl,h,hl,k⟩
theorem Aio {psp:Ts} {i j:Nat} {u0 u2:UE} {d:De} {ρ:Bf} {q:PV} (ne:i ≠ j) (h:ρ[i]? = some (.ow q)) (k:u0 ρ fun p=>u2 ρ fun r=>psp p q r fun p1 p2=>d.nx ((ρ.set i (.ow p2)).set j (.ow p1))):Aej psp i j u0 u2 d ρ:=⟨ne,q,h,k⟩
theorem AiZ {i:Nat} {a:Addr} {u:US} {d:De} {ρ:Bf} {ps:List PV} (h1:ρ[i]? = some (.om a (.lst ps))) (q:∀ z,u ⟨flM i a z ps d.nx,d.rt,flM i a z ps d.bk,flM i a z ps d.ct⟩ (ρ.set i (.fl z ps))):Aep i a u d ρ:=⟨ps,h1,q⟩
end
theorem Sz {α:Type} {R:List α} {x s:α} {i:Nat} (h:(R ++ [x])[i]? = some s):R[i]? = some s\/(i = R.length/\s = x):=by
 by_cases hi:i < R.length
 ·rw [List.getElem?_append_left hi] at h; exact .inl h
 ·rw [List.getElem?_append_right (by omega)] at h
  have hz:i - R.length = 0:=by
   have:=(List.getElem?_eq_some_iff.mp h).1
   simp at this; omega
  rw [hz] at h
  simp at h
  exact .inr ⟨by omega,h.symm⟩
inductive JB (S:Nat->Int) (R0 Mk:List Sg):Nat->List Sg->List Jn->Prop
 | nil:JB S R0 Mk 0 R0 []
 | skip {k:Nat} {R:List Sg} {J:List Jn} (h:JB S R0 Mk k R J):JB S R0 Mk (k + 1) R J
 | add {k:Nat} {R:List Sg} {J:List Jn} {s m:Sg} (h:JB S R0 Mk k R J) (hs:s ∈ R) (hm:m ∈ Mk) (hn:¬ (s.1,m.1) ∈ J.map (·.2)):JB S R0 Mk (k + 1) (R ++ [(S (10 + k),s.2.1,0)]) (J ++ [(S (10 + k),s.1,m.1)])
section
variable {S:Nat->Int} {R0 Mk R:List Sg} {J:List Jn} {k:Nat}
theorem JB.len (h:JB S R0 Mk k R J):J.length <= k/\R.length = R0.length + J.length:=by
 induction h with
 | nil=>exact ⟨Nat.le_refl _,rfl⟩
 | skip h ih=>exact ⟨by omega,ih.2⟩
 | add h hs hm hn ih=>refine ⟨by simp; omega,by simp; omega⟩
theorem JB.whole (h:JB S R0 Mk k R J):∀ j ∈ J,∃ i,i < k/\j.1 = S (10 + i):=by
 induction h with
 | nil=>intro j hj; cases hj
 | skip h ih=>intro j hj; obtain ⟨i,a,b⟩:=ih j hj; exact ⟨i,by omega,b⟩
 | add h hs hm hn ih =>
  rename_i k R J s m
  intro j hj
  rcases List.mem_append.mp hj with hj | hj
  ·obtain ⟨i,a,b⟩:=ih j hj; exact ⟨i,by omega,b⟩
  ·rw [List.mem_singleton.mp hj]; exact ⟨k,by omega,rfl⟩
theorem JB.join (h:JB S R0 Mk k R J):∀ j ∈ J,(∃ s ∈ R,∃ u ∈ R,s.1 = j.1/\u.1 = j.2.1/\s.2.1 = u.2.1)/\∃ m ∈ Mk,m.1 = j.2.2:=by
 induction h with
 | nil=>intro j hj; cases hj
 | skip h ih=>exact ih
 | add h hs hm hn ih =>
  rename_i k R J s m
  intro j hj
  rcases List.mem_append.mp hj with hj | hj
  ·obtain ⟨⟨a,ha,b,hb,e⟩,d⟩:=ih j hj
   exact ⟨⟨a,List.mem_append_left _ ha,b,List.mem_append_left _ hb,e⟩,d⟩
  ·rw [List.mem_singleton.mp hj]
   exact ⟨⟨_,List.mem_append_right _ List.mem_cons_self,s,List.mem_append_left _ hs,rfl,rfl,rfl⟩,m,hm,rfl⟩
theorem Vu {J:List Jn} {w:Jn} {n:Int} (h:¬ w.1 = n):Dn (J ++ [w]) n = Dn J n:=by
 induction J with
 | nil=>show (if w.1 = n then some w.2 else none) = none; rw [if_neg h]
 | cons x r ih =>
  show (if x.1 = n then some x.2 else Dn (r ++ [w]) n) = if x.1 = n then some x.2 else Dn r n
  rw [ih]
theorem Yj (J:List Jn) (n:Int):∀ k,jGo J (k + 1) n = jGo J k (Do J n)
 | 0=>rfl
 | k + 1=>by
  show Do J (jGo J (k + 1) n) = Do J (jGo J k (Do J n))
  rw [Yj J n k]
theorem Aal {J:List Jn} {w:Jn} (hb:∀ j ∈ J,¬ j.2.1 = w.1):∀ (k:Nat) (n:Int),¬ n = w.1->jGo (J ++ [w]) k n = jGo J k n/\¬ jGo J k n = w.1
 | 0,n,h=>⟨rfl,h⟩
 | k + 1,n,h=>by
  obtain ⟨e,ne⟩:=Aal hb k n h
  show Do (J ++ [w]) (jGo (J ++ [w]) k n) = Do J (jGo J k n)/\¬ Do J (jGo J k n) = w.1
  rw [e]
  unfold Do
  rw [Vu fun z=>ne z.symm]
  refine ⟨rfl,?_⟩
  cases z:Dn J (jGo J k n) with
  | none=>exact ne
  | some m=>exact hb _ (Ub z)
theorem Xa {J:List Jn} {n:Int} {k:Nat} (h:Dn J (jGo J k n) = none):∀ d,jGo J (k + d) n = jGo J k n
 | 0=>rfl
 | d + 1=>by
  show Do J (jGo J (k + d) n) = _
  rw [Xa h d]
  unfold Do
  rw [h]
end
structure AkG (S:List Sg) (M:List (Int × Int)) (J:List Jn):Prop where
 so:∀ s ∈ S,Wi s
 mo:∀ m ∈ M,0 <= m.1/\0 <= m.2
 nd:(S.map (·.1) ++ Dv M).Nodup
 jo:AaT (kK S ++ kM M) J
 ln:S.length + 2 * M.length <= 60
 jl:J.length <= 7
 mr:∃ s ∈ S,s.2.1 = "mark"
section
variable {S:Nat->Int} {R0 Mk R:List Sg} {J:List Jn} {k x y t:Nat}
end
theorem Aci {kvs:List (Key × V)} {k:Key} {v:V} (h:Ci kvs k = some v):(k,v) ∈ kvs:=by
 unfold Ci at h
 obtain ⟨p,h1,h2⟩:=Option.map_eq_some_iff.mp h
 have e0:=List.find?_some h1
 have e:p.1 = k:=of_decide_eq_true e0
 have:p = (k,v):=Prod.ext e h2
 rw [<- this]
 exact List.mem_of_find?_eq_some h1
theorem AhN {M:List (Int × Int)} {p:Key × V} (h:p ∈ kM M):p.2 = .str "open"\/p.2 = .str "shut":=by
 induction M with
 | nil=>cases h
 | cons x r ih =>
  rcases List.mem_cons.mp h with e | h
  ·rw [e]; exact .inl rfl
  ·rcases List.mem_cons.mp h with e | h
   ·rw [e]; exact .inr rfl
   ·exact ih h
theorem Aba (U:List Sg) (M:List (Int × Int)) (n:Int):(Ci (kK U ++ kM M) (Sum.inl n)).getD (.str "plain") = .str (Gv U M n):=by
 unfold Gv
 cases e:Ci (kK U ++ kM M) (Sum.inl n) with
 | none=>rfl
 | some v =>
  rcases List.mem_append.mp (Aci e) with h | h
  ·obtain ⟨s,_,z⟩:=List.mem_map.mp h
   have:V.str s.2.1 = v:=(Prod.mk.inj z).2
   rw [<- this]; rfl
  ·rcases AhN h with z | z
   ·have z:v = .str "open":=z
    rw [z]; rfl
   ·have z:v = .str "shut":=z
    rw [z]; rfl
theorem Vc {U:List Sg} {M:List (Int × Int)} {n:Int} {k:Str} (h:(Ci (kK U ++ kM M) (Sum.inl n)).getD (.str "plain") = .str k):Gv U M n = k:=by
 rw [Aba] at h
 exact V.str.inj h
def Dq (U:List Sg) (M:List (Int × Int)) (n:Int):Bool:=decide (Gv U M n = "mark")
def Nz (mk:Int->Bool) (gs:List (List Int)) (n:Int):List (List Int):=if gs = []\/mk n = false then gs ++ [[n]] else gs.dropLast ++ [gs.getLast?.getD [] ++ [n]]
def grp (mk:Int->Bool) (ts:List Int):List (List Int):=ts.foldl (Nz mk) []
theorem Xc (mk:Int->Bool) (ts:List Int) (n:Int):grp mk (ts ++ [n]) = Nz mk (grp mk ts) n:=by simp [grp]
theorem Rb {mk:Int->Bool} {gs:List (List Int)} {n:Int} (h:gs = []\/mk n = false):Nz mk gs n = gs ++ [[n]]:=if_pos h
theorem Tt {mk:Int->Bool} {gs:List (List Int)} {g:List Int} {n:Int} (h:mk n = true):Nz mk (gs ++ [g]) n = gs ++ [g ++ [n]]:=by
 unfold Nz
 rw [if_neg (by rintro (z | z); (simp at z); (rw [h] at z; cases z))]
 simp
theorem Af1 {mk:Int->Bool} (P:List (List Int)->List Int->Prop) (h0:P [] []) (hs:∀ gs ts n,P gs ts->P (Nz mk gs n) (ts ++ [n])) (ts:List Int):P (grp mk ts) ts:=by
 have key:∀ (ts:List Int) (acc:List (List Int)) (pre:List Int),P acc pre->P (ts.foldl (Nz mk) acc) (pre ++ ts):=by
  intro ts
  induction ts with
  | nil=>intro acc pre h; rw [List.append_nil]; exact h
  | cons n r ih =>
   intro acc pre h
   have:=ih (Nz mk acc n) (pre ++ [n]) (hs acc pre n h)
   rw [List.append_assoc] at this
   exact this
 exact key ts [] [] h0
structure AeL (mk:Int->Bool) (gs:List (List Int)) (ts:List Int):Prop where
 fl:gs.flatten = ts
 ln:gs.length <= ts.length
 ne:∀ g ∈ gs,∃ n r,g = n :: r/\∀ m ∈ r,mk m = true
 hd:∀ (i:Nat) (g:List Int),gs[i]? = some g->0 < i->∃ n r,g = n :: r/\mk n = false
theorem Op (mk:Int->Bool) (ts:List Int):AeL mk (grp mk ts) ts:=by
 refine Af1 (AeL mk) ⟨rfl,Nat.le_refl _,(fun g h=>by cases h),(fun i g h=>by simp at h)⟩ (fun gs ts n h=>?_) ts
 by_cases z:gs = []\/mk n = false
 ·rw [Rb z]
  refine ⟨by rw [List.flatten_append,h.fl]; rfl,by have:=h.ln; simp; omega,fun g hg=>?_,fun i g e hi=>?_⟩
  ·rcases List.mem_append.mp hg with hg | hg
   ·exact h.ne g hg
   ·rw [List.mem_singleton.mp hg]; exact ⟨n,[],rfl,(fun m hm=>by cases hm)⟩
  ·rcases Sz e with e | ⟨e1,e2⟩
   ·exact h.hd i g e hi
   ·rcases z with z | z
    ·rw [z] at e1; rw [e1] at hi; exact absurd hi (Nat.lt_irrefl _)
    ·exact ⟨n,[],e2,z⟩
 ·rcases List.eq_nil_or_concat gs with e | ⟨gs',g',rfl⟩
  ·exact absurd (.inl e) z
  ·have hm:mk n = true:=by
    cases w:mk n with
    | true=>rfl
    | false=>exact absurd (.inr w) z
   rw [List.concat_eq_append] at h z ⊢
   rw [Tt hm]
   obtain ⟨a,r,eg,hr⟩:=h.ne g' (List.mem_append_right _ List.mem_cons_self)
   refine ⟨by rw [<- h.fl]; simp,by have:=h.ln; simp at this ⊢; omega,fun g hg=>?_,fun i g e hi=>?_⟩
   ·rcases List.mem_append.mp hg with hg | hg
    ·exact h.ne g (List.mem_append_left _ hg)
    ·rw [List.mem_singleton.mp hg,eg]
     refine ⟨a,r ++ [n],rfl,fun m hm'=>?_⟩
     rcases List.mem_append.mp hm' with w | w
     ·exact hr m w
     ·rw [List.mem_singleton.mp w]; exact hm
   ·rcases Sz e with e | ⟨e1,e2⟩
    ·have hlt:=(List.getElem?_eq_some_iff.mp e).1
     exact h.hd i g (by rw [List.getElem?_append_left hlt]; exact e) hi
    ·obtain ⟨n',r',q1,q2⟩:=h.hd i g' (by rw [e1]; simp) hi
     exact ⟨n',r' ++ [n],by rw [e2,q1]; rfl,q2⟩
def Rp (H:Hp) (x:V) (g:List Int):Prop:=∃ p,x = .ref p/\H p = some (.lst (g.map V.int))
theorem LAt.monoM {β α:Type} {R R':Hp->β->α->Prop} {H H':Hp} {xs:List β} {ys:List α} (h:LAt R H xs ys) (m:∀ x ∈ xs,∀ y,R H x y->R' H' x y):LAt R' H' xs ys:=⟨h.1,fun i x y e1 e2=>m x (List.mem_of_getElem? e1) y (h.2 i x y e1 e2)⟩
theorem LAt.lstS {H H':Hp} {xs:List V} {gs:List (List Int)} (h:LAt Rp H xs gs) (s:Same H H'):LAt Rp H' xs gs:=h.mono fun _ _ ⟨p,e,z⟩=>⟨p,e,s _ _ z⟩
theorem LAt.lstC {H H':Hp} {a:Addr} {xs:List V} {gs:List (List Int)} (h:LAt Rp H xs gs) (c:Chg a H H') (n:¬ V.ref a ∈ xs):LAt Rp H' xs gs :=
 h.monoM fun x hx y ⟨p,e,z⟩=>⟨p,e,c _ _ z (by intro w; subst w; rw [e] at hx; exact n hx)⟩
structure LLat (H:Hp) (l:Addr) (xs:List V) (gs:List (List Int)):Prop where
 li:H l = some (.lst xs)
 at':LAt Rp H xs gs
 nd:xs.Nodup
 no:¬ V.ref l ∈ xs
theorem LAt.lstF {H:Hp} {a:Addr} {xs:List V} {gs:List (List Int)} (h:LAt Rp H xs gs) (ha:H a = none):¬ V.ref a ∈ xs:=fun z=>by
 obtain ⟨i,hi⟩:=List.getElem?_of_mem z
 obtain ⟨g,_,p,e,hp⟩:=h.get hi
 cases e
 rw [ha] at hp; cases hp
theorem LLat.push {H H2 H3 H4:Hp} {l p:Addr} {xs:List V} {gs:List (List Int)} {n:Int} (h:LLat H l xs gs) (hp:H p = none) (s:Same H H2) (c3:Chg l H2 H3) (e3:H3 l = some (.lst (xs ++ [.ref p]))) (c4:Chg p H3 H4) (e4:H4 p = some (.lst ([] ++ [.int n]))) :
  LLat H4 l (xs ++ [.ref p]) (gs ++ [[n]]):=by
 have nlp:l ≠ p:=Bq h.li hp
 have nf:=h.at'.lstF hp
 refine ⟨c4 _ _ e3 nlp,LAt.snoc (((h.at'.lstS s).lstC c3 h.no).lstC c4 nf) ⟨p,rfl,e4⟩,?_,?_⟩
 ·refine List.nodup_append.mpr ⟨h.nd,by simp,fun x hx y hy e=>?_⟩
  rw [e,List.mem_singleton.mp hy] at hx
  exact nf hx
 ·intro z
  rcases List.mem_append.mp z with z | z
  ·exact h.no z
  ·exact nlp (V.ref.inj (List.mem_singleton.mp z))
theorem LLat.add {H H':Hp} {l p:Addr} {xs:List V} {gs:List (List Int)} {g:List Int} {n:Int} (h:LLat H l (xs ++ [.ref p]) (gs ++ [g])) (c:Chg p H H') (e:H' p = some (.lst (g.map V.int ++ [.int n]))):LLat H' l (xs ++ [.ref p]) (gs ++ [g ++ [n]]):=by
 have nlp:l ≠ p:=fun z=>h.no (by rw [z]; exact List.mem_append_right _ List.mem_cons_self)
 obtain ⟨n1,_,n3⟩:=List.nodup_append.mp h.nd
 have np:¬ V.ref p ∈ xs:=fun z=>n3 _ z _ List.mem_cons_self rfl
 have hl:xs.length = gs.length:=by have:=h.at'.1; simpa using this
 have h':LAt Rp H xs gs:=⟨hl,fun i x y e1 e2=>h.at'.2 i x y (by rw [List.getElem?_append_left (List.getElem?_eq_some_iff.mp e1).1]; exact e1) (by rw [List.getElem?_append_left (List.getElem?_eq_some_iff.mp e2).1]; exact e2)⟩
 exact ⟨c _ _ h.li nlp,LAt.snoc (h'.lstC c np) ⟨p,rfl,by rw [List.map_append]; exact e⟩,h.nd,h.no⟩
theorem LLat.last {H:Hp} {l:Addr} {xs:List V} {gs:List (List Int)} (h:LLat H l xs gs) (ne:¬ gs = []):∃ xs' p gs' g,xs = xs' ++ [V.ref p]/\gs = gs' ++ [g]/\H p = some (.lst (g.map V.int)):=by
 rcases List.eq_nil_or_concat gs with e | ⟨gs',g,rfl⟩
 ·exact absurd e ne
 ·rcases List.eq_nil_or_concat xs with e | ⟨xs',x,rfl⟩
  ·have:=h.at'.1; rw [e] at this; simp at this
  ·rw [List.concat_eq_append,List.concat_eq_append] at h
   have hl:xs'.length = gs'.length:=by have:=h.at'.1; simpa using this
   obtain ⟨p,e,hp⟩:=h.at'.2 xs'.length x g (by simp) (by rw [hl]; simp)
   exact ⟨xs',p,gs',g,by rw [List.concat_eq_append,e],List.concat_eq_append,hp⟩
theorem Yk {ts:List Int} {i:Nat} {x:V} (h:(ts.map V.int)[i]? = some x):∃ n,ts[i]? = some n/\x = .int n:=by
 rw [List.getElem?_map] at h
 obtain ⟨n,h1,h2⟩:=Option.map_eq_some_iff.mp h
 exact ⟨n,h1,h2.symm⟩
theorem Xz {κ:Type} [DecidableEq κ] {kvs:List (κ × PV)} {k:κ} {v:PV} (h:¬ k ∈ kvs.map (·.1)):Jr kvs k v = kvs ++ [(k,v)]:=by
 unfold Jr
 rw [if_neg]
 intro z
 obtain ⟨kv,h1,h2⟩:=List.any_eq_true.mp z
 exact h (List.mem_map.mpr ⟨kv,h1,of_decide_eq_true h2⟩)
theorem Si {κ:Type} [DecidableEq κ] (x:κ × PV) (r:List (κ × PV)) (k:κ):Fd (x :: r) k = if x.1 = k then some x.2 else Fd r k:=by
 unfold Fd
 rw [List.find?_cons]
 by_cases z:x.1 = k
 ·rw [if_pos z,decide_eq_true z]; rfl
 ·rw [if_neg z,decide_eq_false z]
theorem Zh {α:Type} {f:α->Int} {l:List α} {n:Int} {g:α->PV} (h:(Sum.inl n:Key) ∈ (l.map fun s=>((Sum.inl (f s),g s):Key × PV)).map (·.1)):n ∈ l.map f:=by
 rw [List.map_map] at h
 obtain ⟨s,hs,e⟩:=List.mem_map.mp h
 exact List.mem_map.mpr ⟨s,hs,Sum.inl.inj e⟩
section
variable {U:List Sg} {M:List (Int × Int)} {J:List Jn}
end
theorem Qi {α:Type} (l:List α) (x:α):L2.atI (l ++ [x]) (-1) = some x:=by
 unfold L2.atI ixN
 rw [if_neg (by omega),if_pos (by simp; omega)]
 show (l ++ [x])[_]? = _
 rw [show (-1 + ((l ++ [x]).length:Int)).toNat = l.length by simp; omega]
 simp
section
variable {U:List Sg} {M:List (Int × Int)} {J:List Jn}
end
theorem Xt {α:Type} (xs:List α) (lo hi:Option Int):(Di xs lo hi).length <= xs.length:=by
 unfold Di; rw [List.length_take,List.length_drop]; omega
section
variable {U:List Sg} {M:List (Int × Int)} {J:List Jn}
end
section
variable {U:List Sg} {M:List (Int × Int)} {J:List Jn}
end
section
variable {U:List Sg} {M:List (Int × Int)} {J:List Jn}
end
theorem Akc {α:Type} (xs:List α) (p:Nat):Di xs (some (p:Int)) none = xs.drop p:=by
 unfold Di
 rw [HT.sIx_nat,HT.sIx_none]
 by_cases h:p <= xs.length
 ·rw [Nat.min_eq_left h]
  exact List.take_of_length_le (by rw [List.length_drop]; omega)
 ·rw [Nat.min_eq_right (by omega),List.drop_eq_nil_of_le (by omega)]
  simp; omega
section
variable {U:List Sg} {M:List (Int × Int)} {J:List Jn}
end
structure T2 (sg:List Int) (U:List Sg):Prop where
 at':∀ (k:Nat) (s:Sg),U[k]? = some s->sg[k]? = some s.1/\s.2.1 ∈ toldK/\Lg s.2.1 s.2.2
 wd:∀ (k:Nat) (s:Sg),U[k]? = some s->k < 8->toldK[k]? = some s.2.1
structure K2 (S:Nat->Int) (R0:List Sg):Prop where
 inj:∀ i j,i < 6->j < 6->S (10 + i) = S (10 + j)->i = j
 ne:∀ s ∈ R0,∀ i,i < 6->¬ s.1 = S (10 + i)
 nd:(R0.map (·.1)).Nodup
 ok:∀ s ∈ R0,s.2.1 ∈ joinedK/\s.2.2 = 0
section
variable {S:Nat->Int} {R0 Mk R:List Sg} {J:List Jn} {k:Nat}
theorem JB.row2 (h:JB S R0 Mk k R J):∀ s ∈ R,s ∈ R0\/∃ i,i < k/\s.1 = S (10 + i):=by
 induction h with
 | nil=>intro s hs; exact .inl hs
 | skip h ih =>
  intro s hs
  rcases ih s hs with z | ⟨i,a,b⟩
  ·exact .inl z
  ·exact .inr ⟨i,by omega,b⟩
 | add h hs hm hn ih =>
  rename_i k R J s m
  intro u hu
  rcases List.mem_append.mp hu with hu | hu
  ·rcases ih u hu with z | ⟨i,a,b⟩
   ·exact .inl z
   ·exact .inr ⟨i,by omega,b⟩
  ·rw [List.mem_singleton.mp hu]; exact .inr ⟨k,by omega,rfl⟩
theorem JB.kind2 (h:JB S R0 Mk k R J) (hB:K2 S R0):∀ s ∈ R,s.2.1 ∈ joinedK/\s.2.2 = 0:=by
 induction h with
 | nil=>exact hB.ok
 | skip h ih=>exact ih
 | add h hs hm hn ih =>
  intro u hu
  rcases List.mem_append.mp hu with hu | hu
  ·exact ih u hu
  ·rw [List.mem_singleton.mp hu]; exact ⟨(ih _ hs).1,rfl⟩
theorem JB.old2 (h:JB S R0 Mk k R J) (hk:k < 6) (hB:K2 S R0):∀ u ∈ R,¬ u.1 = S (10 + k):=fun u hu e=>by
 rcases h.row2 u hu with z | ⟨i,a,b⟩
 ·exact hB.ne u z k hk e
 ·rw [b] at e
  have:=hB.inj i k (by omega) hk e
  omega
theorem JB.nodup2 (h:JB S R0 Mk k R J) (hk:k <= 6) (hB:K2 S R0):(R.map (·.1)).Nodup/\(J.map (·.1)).Nodup/\(J.map (·.2)).Nodup:=by
 induction h with
 | nil=>exact ⟨hB.nd,List.nodup_nil,List.nodup_nil⟩
 | skip h ih=>exact ih (by omega)
 | add h hs hm hn ih =>
  rename_i k R J s m
  obtain ⟨a,b,c⟩:=ih (by omega)
  refine ⟨?_,?_,?_⟩
  ·rw [List.map_append]
   refine List.nodup_append.mpr ⟨a,by simp,fun x hx y hy e=>?_⟩
   obtain ⟨u,hu,rfl⟩:=List.mem_map.mp hx
   have e2:y = S (10 + k):=by simpa using hy
   exact h.old2 (by omega) hB u hu (e.trans e2)
  ·rw [List.map_append]
   refine List.nodup_append.mpr ⟨b,by simp,fun x hx y hy e=>?_⟩
   obtain ⟨u,hu,rfl⟩:=List.mem_map.mp hx
   obtain ⟨i,h1,h3⟩:=h.whole u hu
   have e2:y = S (10 + k):=by simpa using hy
   rw [h3,e2] at e
   have:=hB.inj i k (by omega) (by omega) e
   omega
  ·rw [List.map_append]
   refine List.nodup_append.mpr ⟨c,by simp,fun x hx y hy e=>?_⟩
   have e2:y = (s.1,m.1):=by simpa using hy
   rw [<- e2,<- e] at hn
   exact hn hx
theorem JB.ends2 (h:JB S R0 Mk k R J) (hk:k <= 6) (hB:K2 S R0):∀ s ∈ R,Dn J (jGo J k s.1) = none:=by
 induction h with
 | nil=>intro s hs; rfl
 | skip h ih =>
  intro s hs
  have z:=ih (by omega) s hs
  rename_i k R J
  show Dn J (Do J (jGo J k s.1)) = none
  unfold Do
  rw [z]; exact z
 | add h hs hm hn ih =>
  rename_i k R J s m
  have ih:=ih (by omega)
  have old:=h.old2 (by omega) hB
  have hb:∀ j ∈ J,¬ j.2.1 = ((S (10 + k),s.1,m.1):Jn).1:=fun j hj=>by
   obtain ⟨⟨_,_,u,hu,_,e,_⟩,_⟩:=h.join j hj
   rw [<- e]; exact old u hu
  have one:∀ u ∈ R,Dn (J ++ [(S (10 + k),s.1,m.1)]) (jGo (J ++ [(S (10 + k),s.1,m.1)]) k u.1) = none:=fun u hu=>by
   obtain ⟨e,ne⟩:=Aal hb k u.1 (old u hu)
   rw [e,Vu fun z=>ne z.symm]
   exact ih u hu
  intro u hu
  rcases List.mem_append.mp hu with hu | hu
  ·show Dn _ (Do _ (jGo _ k u.1)) = none
   unfold Do
   rw [one u hu]; exact one u hu
  ·rw [List.mem_singleton.mp hu]
   rw [Yj]
   have hw:¬ S (10 + k) ∈ J.map (·.1):=fun z=>by
    obtain ⟨j,hj,e⟩:=List.mem_map.mp z
    obtain ⟨⟨v,hv,_,_,e2,_,_⟩,_⟩:=h.join j hj
    exact old v hv (e2.trans e)
   have st:Do (J ++ [(S (10 + k),s.1,m.1)]) (S (10 + k)) = s.1:=by
    unfold Do
    have:∀ J':List Jn,¬ S (10 + k) ∈ J'.map (·.1)->Dn (J' ++ [(S (10 + k),s.1,m.1)]) (S (10 + k)) = some (s.1,m.1):=by
     intro J'
     induction J' with
     | nil=>intro _; show (if S (10 + k) = S (10 + k) then _ else _) = _; rw [if_pos rfl]
     | cons x r ih2 =>
      intro hx
      show (if x.1 = S (10 + k) then some x.2 else Dn (r ++ _) _) = _
      rw [if_neg fun z=>hx (by rw [<- z]; exact List.mem_cons_self)]
      exact ih2 fun z=>hx (List.mem_cons_of_mem _ z)
    rw [this J hw]
   show Dn _ (jGo _ k (Do _ (S (10 + k)))) = none
   rw [st]
   exact one s hs
theorem JB.ends27 (h:JB S R0 Mk k R J) (hk:k <= 6) (hB:K2 S R0):∀ j ∈ J,Dn J (jGo J 7 j.1) = none:=by
 intro j hj
 obtain ⟨⟨s,hs,_,_,e,_,_⟩,_⟩:=h.join j hj
 have z:=h.ends2 hk hB s hs
 rw [e] at z
 have e7:jGo J 7 j.1 = jGo J k j.1:=by
  have e:=Xa z (7 - k)
  rw [show k + (7 - k) = 7 by omega] at e
  exact e
 rw [e7]; exact z
end
structure S28 (f:Nat->Int):Prop where
 nn:∀ i,0 <= f i
 inj:∀ i j,i < 28->j < 28->f i = f j->i = j
def bs4:List Str:=["fore","back","num","blank"]
theorem Yv:∀ k ∈ bs4,k ∈ joinedK/\k ∈ toldK/\¬ k = "mark"/\¬ k = "plain":=by decide +kernel
theorem AaX:∀ k ∈ joinedK,¬ k = "plain"->k ∈ bs4:=by decide +kernel
def r0G (f:Nat->Int) (U:List Sg):List Sg:=(U.filter fun (s:Sg)=>decide (s.2.1 ∈ bs4)).map (fun (s:Sg)=>((s.1,s.2.1,0):Sg)) ++ ([(f 24,"plain",0),(f 25,"plain",0)]:List Sg)
def Ju (U:List Sg):List Sg:=U.filter fun (s:Sg)=>decide (s.2.1 = "mark")
def upG (U R:List Sg) (n:Nat):List Sg:=U ++ (R.drop n).filter fun (s:Sg)=>decide (¬ s.2.1 = "plain")
def mtG (f:Nat->Int) (y:Nat):List (Int × Int):=[(f 14,f 15),(f 16,f 17)].take y
section
variable {f:Nat->Int} {U R:List Sg} {J:List Jn} {k y:Nat}
theorem T2.ix (h:T2 ((List.range 28).map f) U) (ul:U.length = 14):∀ s ∈ U,(∃ i,i < 14/\s.1 = f i)/\s.2.1 ∈ toldK/\Lg s.2.1 s.2.2:=fun s hs=>by
 obtain ⟨i,hi⟩:=List.getElem?_of_mem hs
 have li:=(List.getElem?_eq_some_iff.mp hi).1
 obtain ⟨a,b,c⟩:=h.at' i s hi
 rw [List.getElem?_map,List.getElem?_range (by omega)] at a
 exact ⟨⟨i,by omega,(Option.some.inj a).symm⟩,b,c⟩
theorem T2.nd (h:T2 ((List.range 28).map f) U) (ul:U.length = 14) (hf:S28 f):(U.map (·.1)).Nodup:=by
 refine Jo fun i j x h1 h2=>?_
 rw [List.getElem?_map] at h1 h2
 obtain ⟨s1,e1,z1⟩:=Option.map_eq_some_iff.mp h1
 obtain ⟨s2,e2,z2⟩:=Option.map_eq_some_iff.mp h2
 have l1:=(List.getElem?_eq_some_iff.mp e1).1
 have l2:=(List.getElem?_eq_some_iff.mp e2).1
 have a1:=(h.at' i s1 e1).1
 have a2:=(h.at' j s2 e2).1
 rw [List.getElem?_map,List.getElem?_range (by omega)] at a1 a2
 exact hf.inj i j (by omega) (by omega) (by rw [Option.some.inj a1,Option.some.inj a2,z1,z2])
theorem Qn (h:T2 ((List.range 28).map f) U) (ul:U.length = 14) (hf:S28 f):K2 (fun i=>f (i + 8)) (r0G f U) where
 inj:=fun i j hi hj e=>by have:=hf.inj (10 + i + 8) (10 + j + 8) (by omega) (by omega) e; omega
 ne:=fun s hs i hi e=>by
  have e':s.1 = f (10 + i + 8):=e
  rcases List.mem_append.mp hs with hs | hs
  ·obtain ⟨u,hu,rfl⟩:=List.mem_map.mp hs
   obtain ⟨⟨a,h1,h2⟩,_⟩:=h.ix ul u (List.mem_filter.mp hu).1
   have:=hf.inj a (10 + i + 8) (by omega) (by omega) (by rw [<- h2]; exact e')
   omega
  ·simp only [List.mem_cons,List.not_mem_nil,or_false] at hs
   rcases hs with rfl | rfl
   ·have:=hf.inj 24 (10 + i + 8) (by omega) (by omega) e'; omega
   ·have:=hf.inj 25 (10 + i + 8) (by omega) (by omega) e'; omega
 nd:=by
  unfold r0G
  rw [List.map_append,List.map_map]
  refine List.nodup_append.mpr ⟨?_,?_,fun x hx z hz e=>?_⟩
  ·exact List.Nodup.sublist (List.Sublist.map (fun s:Sg=>s.1) List.filter_sublist) (h.nd ul hf)
  ·refine List.nodup_cons.mpr ⟨fun z=>?_,List.nodup_cons.mpr ⟨(fun z=>by cases z),List.nodup_nil⟩⟩
   have:=hf.inj 24 25 (by omega) (by omega) (List.mem_singleton.mp z)
   omega
  ·obtain ⟨u,hu,rfl⟩:=List.mem_map.mp hx
   obtain ⟨⟨a,h1,h2⟩,_⟩:=h.ix ul u (List.mem_filter.mp hu).1
   have hz':z = f 24\/z = f 25:=by simpa using hz
   have e':f a = z:=by rw [<- h2]; exact e
   rcases hz' with rfl | rfl
   ·have:=hf.inj a 24 (by omega) (by omega) e'; omega
   ·have:=hf.inj a 25 (by omega) (by omega) e'; omega
 ok:=fun s hs=>by
  rcases List.mem_append.mp hs with hs | hs
  ·obtain ⟨u,hu,rfl⟩:=List.mem_map.mp hs
   exact ⟨(Yv _ (of_decide_eq_true (List.mem_filter.mp hu).2)).1,rfl⟩
  ·simp only [List.mem_cons,List.not_mem_nil,or_false] at hs
   have:("plain" : Str) ∈ joinedK:=by decide +kernel
   rcases hs with rfl | rfl <;> exact ⟨this,rfl⟩
abbrev JG (f:Nat->Int) (U:List Sg) (k:Nat) (R:List Sg) (J:List Jn):Prop:=JB (fun i=>f (i + 8)) (r0G f U) (Ju U) k R J
theorem Ut (h:JG f U k R J):∃ X,R = r0G f U ++ X/\∀ s ∈ X,∃ i,i < k/\s.1 = f (18 + i):=by
 induction h with
 | nil=>exact ⟨[],by simp,fun s h=>by cases h⟩
 | skip h ih=>obtain ⟨X,e,hx⟩:=ih; exact ⟨X,e,fun s hs=>let ⟨i,a,b⟩:=hx s hs; ⟨i,by omega,b⟩⟩
 | add h hs hm hn ih =>
  rename_i k R J s m
  obtain ⟨X,e,hx⟩:=ih
  refine ⟨X ++ [(f (10 + k + 8),s.2.1,0)],by rw [e,List.append_assoc],fun u hu=>?_⟩
  rcases List.mem_append.mp hu with hu | hu
  ·obtain ⟨i,a,b⟩:=hx u hu; exact ⟨i,by omega,b⟩
  ·rw [List.mem_singleton.mp hu]; exact ⟨k,by omega,by show f (10 + k + 8) = f (18 + k); congr 1; omega⟩
theorem AaY {X:List Sg} (e:R = r0G f U ++ X):upG U R (r0G f U).length = U ++ X.filter fun (s:Sg)=>decide (¬ s.2.1 = "plain"):=by
 unfold upG; rw [e,List.drop_append,List.drop_of_length_le (Nat.le_refl _),Nat.sub_self]; rfl
theorem AcX (h:JG f U k R J) (hk:k <= 6) (ht:T2 ((List.range 28).map f) U) (ul:U.length = 14) (hf:S28 f):∀ s ∈ R,(¬ s.2.1 = "plain"/\∃ r,(s.1,s.2.1,r) ∈ upG U R (r0G f U).length)\/(s.2.1 = "plain"/\∀ u ∈ upG U R (r0G f U).length,¬ u.1 = s.1):=by
 intro s hs
 obtain ⟨X,e,hx⟩:=Ut h
 have nd:=(h.nodup2 hk (Qn ht ul hf)).1
 rw [AaY e]
 by_cases z:s.2.1 = "plain"
 ·refine .inr ⟨z,fun u hu e2=>?_⟩
  rcases List.mem_append.mp hu with hu | hu
  ·obtain ⟨⟨a,h1,h2⟩,h3,_⟩:=ht.ix ul u hu
   rw [e] at hs
   rcases List.mem_append.mp hs with hs | hs
   ·rcases List.mem_append.mp hs with hs | hs
    ·obtain ⟨v,hv,rfl⟩:=List.mem_map.mp hs
     exact (Yv _ (of_decide_eq_true (List.mem_filter.mp hv).2)).2.2.2 z
    ·have hs':s.1 = f 24\/s.1 = f 25:=by
      simp only [List.mem_cons,List.not_mem_nil,or_false] at hs
      rcases hs with rfl | rfl
      ·exact .inl rfl
      ·exact .inr rfl
     rcases hs' with q | q
     ·have:=hf.inj a 24 (by omega) (by omega) (by rw [<- h2,e2,q]); omega
     ·have:=hf.inj a 25 (by omega) (by omega) (by rw [<- h2,e2,q]); omega
   ·obtain ⟨i,a1,a2⟩:=hx s hs
    have:=hf.inj a (18 + i) (by omega) (by omega) (by rw [<- h2,e2,a2]); omega
  ·obtain ⟨hu1,hu2⟩:=List.mem_filter.mp hu
   have hu3:u ∈ R:=by rw [e]; exact List.mem_append_right _ hu1
   have:u = s:=by
    obtain ⟨i,hi⟩:=List.getElem?_of_mem hu3
    obtain ⟨j,hj⟩:=List.getElem?_of_mem hs
    have q1:(R.map (·.1))[i]? = some s.1:=by rw [List.getElem?_map,hi]; exact congrArg some e2
    have q2:(R.map (·.1))[j]? = some s.1:=by rw [List.getElem?_map,hj]; rfl
    have:i = j:=by
     rcases Nat.lt_trichotomy i j with c | c | c
     ·exact absurd (List.mem_of_getElem? (by rw [List.getElem?_take,if_pos c]; exact q1)) (Ro nd q2)
     ·exact c
     ·exact absurd (List.mem_of_getElem? (by rw [List.getElem?_take,if_pos c]; exact q2)) (Ro nd q1)
    subst this
    rw [hi] at hj
    exact Option.some.inj hj
   subst this
   exact of_decide_eq_true hu2 z
 ·refine .inl ⟨z,?_⟩
  rw [e] at hs
  rcases List.mem_append.mp hs with hs | hs
  ·rcases List.mem_append.mp hs with hs | hs
   ·obtain ⟨v,hv,rfl⟩:=List.mem_map.mp hs
    exact ⟨v.2.2,List.mem_append_left _ (List.mem_filter.mp hv).1⟩
   ·simp only [List.mem_cons,List.not_mem_nil,or_false] at hs
    rcases hs with rfl | rfl <;> exact absurd rfl z
  ·exact ⟨s.2.2,List.mem_append_right _ (List.mem_filter.mpr ⟨hs,decide_eq_true z⟩)⟩
theorem Wm (h:JG f U k R J) (hk:k <= 6) (ht:T2 ((List.range 28).map f) U) (ul:U.length = 14) (hf:S28 f):((upG U R (r0G f U).length).map (·.1)).Nodup/\∀ s ∈ upG U R (r0G f U).length,(∃ i,(i < 14\/(18 <= i/\i < 24))/\s.1 = f i)/\s.2.1 ∈ toldK/\Lg s.2.1 s.2.2:=by
 obtain ⟨X,e,hx⟩:=Ut h
 have nd:=(h.nodup2 hk (Qn ht ul hf)).1
 have kd:=h.kind2 (Qn ht ul hf)
 rw [AaY e]
 refine ⟨?_,fun s hs=>?_⟩
 ·rw [List.map_append]
  refine List.nodup_append.mpr ⟨ht.nd ul hf,?_,fun x hx' z hz e2=>?_⟩
  ·rw [e,List.map_append] at nd
   exact List.Nodup.sublist (List.Sublist.map (fun s:Sg=>s.1) List.filter_sublist) (List.nodup_append.mp nd).2.1
  ·obtain ⟨u,hu,rfl⟩:=List.mem_map.mp hx'
   obtain ⟨v,hv,rfl⟩:=List.mem_map.mp hz
   obtain ⟨⟨a,h1,h2⟩,_⟩:=ht.ix ul u hu
   obtain ⟨i,a1,a2⟩:=hx v (List.mem_filter.mp hv).1
   have:=hf.inj a (18 + i) (by omega) (by omega) (by rw [<- h2,e2,a2])
   omega
 ·rcases List.mem_append.mp hs with hs | hs
  ·obtain ⟨⟨a,h1,h2⟩,h3⟩:=ht.ix ul s hs
   exact ⟨⟨a,.inl h1,h2⟩,h3⟩
  ·obtain ⟨hs1,hs2⟩:=List.mem_filter.mp hs
   obtain ⟨i,a1,a2⟩:=hx s hs1
   have k1:=kd s (by rw [e]; exact List.mem_append_right _ hs1)
   have k2:=AaX _ k1.1 (of_decide_eq_true hs2)
   have k3:=Yv _ k2
   exact ⟨⟨18 + i,.inr ⟨by omega,by omega⟩,a2⟩,k3.2.1,.inr ⟨k3.2.2.1,k1.2⟩⟩
theorem AaI (f:Nat->Int) (y:Nat):∀ n ∈ Dv (mtG f y),∃ j,14 <= j/\j < 18/\n = f j:=fun n hn=>by
 have:n ∈ Dv [(f 14,f 15),(f 16,f 17)]:=by
  unfold mtG at hn
  have e:=Tm ([(f 14,f 15),(f 16,f 17)].take y) ([(f 14,f 15),(f 16,f 17)].drop y)
  rw [List.take_append_drop] at e
  rw [e]; exact List.mem_append_left _ hn
 simp only [Dv,List.mem_cons,List.not_mem_nil,or_false] at this
 rcases this with rfl | rfl | rfl | rfl
 ·exact ⟨14,by omega,by omega,rfl⟩
 ·exact ⟨15,by omega,by omega,rfl⟩
 ·exact ⟨16,by omega,by omega,rfl⟩
 ·exact ⟨17,by omega,by omega,rfl⟩
theorem Ai4 (hf:S28 f) (y:Nat):(Dv (mtG f y)).Nodup:=by
 have e:=Tm ([(f 14,f 15),(f 16,f 17)].take y) ([(f 14,f 15),(f 16,f 17)].drop y)
 rw [List.take_append_drop] at e
 have nd:(Dv [(f 14,f 15),(f 16,f 17)]).Nodup:=by
  show ([14,15,16,17].map f).Nodup
  refine Jo fun i j x h1 h2=>?_
  rw [List.getElem?_map] at h1 h2
  obtain ⟨a,e1,z1⟩:=Option.map_eq_some_iff.mp h1
  obtain ⟨b,e2,z2⟩:=Option.map_eq_some_iff.mp h2
  have l1:=(List.getElem?_eq_some_iff.mp e1).1
  have l2:=(List.getElem?_eq_some_iff.mp e2).1
  have key:∀ i:Nat,i < 4->([14,15,16,17]:List Nat)[i]? = some (14 + i):=by decide
  rw [key i l1] at e1; rw [key j l2] at e2
  cases e1; cases e2
  have:=hf.inj (14 + i) (14 + j) (by simp at l1; omega) (by simp at l2; omega) (by rw [z1,z2])
  omega
 rw [e] at nd
 exact (List.nodup_append.mp nd).1
theorem Wl (h:JG f U k R J) (hk:k <= 6) (ht:T2 ((List.range 28).map f) U) (ul:U.length = 14) (hf:S28 f) (y:Nat):AkG (upG U R (r0G f U).length) (mtG f y) J:=by
 obtain ⟨und,uix⟩:=Wm h hk ht ul hf
 have nd:((upG U R (r0G f U).length).map (·.1) ++ Dv (mtG f y)).Nodup:=by
  refine List.nodup_append.mpr ⟨und,Ai4 hf y,fun a ha b hb e=>?_⟩
  obtain ⟨s,hs,rfl⟩:=List.mem_map.mp ha
  obtain ⟨⟨i,h1,h2⟩,_⟩:=uix s hs
  obtain ⟨j,h3,h4,h5⟩:=AaI f y b hb
  have:=hf.inj i j (by omega) (by omega) (by rw [<- h2,e,h5])
  omega
 have kn:∀ s ∈ R,knd (kK (upG U R (r0G f U).length) ++ kM (mtG f y)) s.1 = .str s.2.1:=fun s hs=>by
  unfold knd
  rcases AcX h hk ht ul hf s hs with ⟨z,r,hr⟩ | ⟨z,hr⟩
  ·exact Vf (s:=(s.1,s.2.1,r)) nd hr
  ·rw [z]
   refine Ab0 fun w=>?_
   rcases List.mem_append.mp w with w | w
   ·obtain ⟨u,hu,e⟩:=List.mem_map.mp w
    exact hr u hu e
   ·obtain ⟨j,h3,h4,h5⟩:=AaI f y _ w
    rcases h.row2 s hs with q | ⟨i,a,b⟩
    ·rcases List.mem_append.mp q with q | q
     ·obtain ⟨v,hv,rfl⟩:=List.mem_map.mp q
      obtain ⟨⟨i,h1,h2⟩,_⟩:=ht.ix ul v (List.mem_filter.mp hv).1
      have:=hf.inj i j (by omega) (by omega) (by rw [<- h2]; exact h5)
      omega
     ·simp only [List.mem_cons,List.not_mem_nil,or_false] at q
      rcases q with rfl | rfl
      ·have:=hf.inj 24 j (by omega) (by omega) h5; omega
      ·have:=hf.inj 25 j (by omega) (by omega) h5; omega
    ·have:=hf.inj (10 + i + 8) j (by omega) (by omega) (by rw [<- h5]; exact b.symm)
     omega
 have mkk:∀ m ∈ Ju U,m ∈ upG U R (r0G f U).length/\m.2.1 = "mark":=fun m hm=>by
  obtain ⟨h1,h2⟩:=List.mem_filter.mp hm
  exact ⟨List.mem_append_left _ h1,of_decide_eq_true h2⟩
 obtain ⟨_,n1,n2⟩:=h.nodup2 hk (Qn ht ul hf)
 have ln:=h.len.1
 exact {
  so:=fun s hs=>by
   obtain ⟨⟨i,h1,h2⟩,h3,h4⟩:=uix s hs
   exact ⟨by rw [h2]; exact hf.nn i,h3,h4⟩
  mo:=fun m hm=>by
   have:m ∈ [(f 14,f 15),(f 16,f 17)]:=List.mem_of_mem_take hm
   simp only [List.mem_cons,List.not_mem_nil,or_false] at this
   rcases this with rfl | rfl <;> exact ⟨hf.nn _,hf.nn _⟩
  nd:=nd
  jo:={
   nn:=fun j hj=>by
    obtain ⟨⟨s,hs,u,hu,e1,e2,_⟩,m,hm,e3⟩:=h.join j hj
    have q:∀ s ∈ R,0 <= s.1:=fun s hs=>by
     rcases h.row2 s hs with q | ⟨i,a,b⟩
     ·rcases List.mem_append.mp q with q | q
      ·obtain ⟨v,hv,rfl⟩:=List.mem_map.mp q
       obtain ⟨⟨i,h1,h2⟩,_⟩:=ht.ix ul v (List.mem_filter.mp hv).1
       show 0 <= v.1
       rw [h2]; exact hf.nn i
      ·simp only [List.mem_cons,List.not_mem_nil,or_false] at q
       rcases q with rfl | rfl <;> exact hf.nn _
     ·rw [b]; exact hf.nn _
    obtain ⟨⟨i,h1,h2⟩,_⟩:=ht.ix ul m (List.mem_filter.mp hm).1
    exact ⟨by rw [<- e1]; exact q s hs,by rw [<- e2]; exact q u hu,by rw [<- e3,h2]; exact hf.nn i⟩
   mr:=fun j hj=>by
    obtain ⟨_,m,hm,e3⟩:=h.join j hj
    unfold knd
    rw [<- e3,Vf nd (mkk m hm).1,(mkk m hm).2]
   kd:=fun j hj=>by
    obtain ⟨⟨s,hs,u,hu,e1,e2,e3⟩,_⟩:=h.join j hj
    exact ⟨s.2.1,(h.kind2 (Qn ht ul hf) s hs).1,by rw [<- e1]; exact kn s hs,by rw [<- e2,kn u hu,e3]⟩
   nw:=n1
   np:=n2
   en:=h.ends27 hk (Qn ht ul hf)
   ln:=by omega }
  ln:=by
   obtain ⟨X,e,_⟩:=Ut h
   have l1:=h.len.2
   rw [AaY e,List.length_append]
   have l2:=List.length_filter_le (fun (s:Sg)=>decide (¬ s.2.1 = "plain")) X
   have l3:R.length = (r0G f U).length + X.length:=by rw [e,List.length_append]
   have l4:(mtG f y).length <= 2:=by unfold mtG; rw [List.length_take]; exact Nat.min_le_right _ _
   omega
  jl:=by omega
  mr:=by
   have h4:4 < U.length:=by omega
   have:=ht.wd 4 _ (List.getElem?_eq_getElem h4) (by omega)
   exact ⟨_,List.mem_append_left _ (List.getElem_mem h4),(Option.some.inj this).symm⟩ }
end
local macro_rules | `(tactic| walk_at "rd")=>`(tactic| repeat (first
 | with_reducible refine AaN ?_ | with_reducible refine AjP rfl ?_ | with_reducible refine i_c ?_ | with_reducible refine Ako ?_ | with_reducible refine AkR ?_ | with_reducible refine Aku ?_ | with_reducible refine Aj5 ?_
 | with_reducible refine Aeh ?_ | with_reducible refine Aeo ?_ | with_reducible refine i_neI ?_ | with_reducible refine AjZ ?_ | with_reducible refine AkM ?_ | with_reducible refine AhS ?_ | with_reducible refine AjN ?_
 | with_reducible refine Akf ?_ | with_reducible refine AkC ?_ | with_reducible refine AjS ?_ | with_reducible refine Ah9 ?_ | with_reducible refine i_orV ?_ | with_reducible refine Aiq ?_ | with_reducible refine i_isN ?_ | with_reducible refine i_notN ?_
 | with_reducible refine AkU ?_ | with_reducible refine AgQ ?_ | with_reducible refine Ajs ?_ | with_reducible refine i_retN ?_ | with_reducible refine AkV ?_ | with_reducible refine AjW ?_ | with_reducible refine Agd ?_
 | with_reducible refine AhB (SqT.of (by assumption)) rfl ?_ | with_reducible refine Af7 ?_ | with_reducible refine Aia ?_ | with_reducible refine AhV ?_ | with_reducible refine Ahk ?_ | with_reducible refine i_make ?_
 | with_reducible refine Ai8 ?_ | with_reducible refine Ah3 ?_ | with_reducible refine i_lst ?_ | with_reducible refine Aj9 ?_ | with_reducible refine Akh ?_ | with_reducible refine AkL ?_ | with_reducible refine Ajx ?_ | with_reducible refine AdR ?_
 | with_reducible refine AhC ?_ | with_reducible refine i_dget1 ?_ | with_reducible refine Af8 ?_ | with_reducible refine AhF ?_ | with_reducible refine Aig ?_ | with_reducible refine i_bm0 ?_ | with_reducible refine Akw ?_
 | with_reducible refine Aij ?_ | with_reducible refine i_tupA ?_ | with_reducible refine i_sl ?_ | with_reducible refine i_noPart ?_ | with_reducible refine i_part ?_ | with_reducible refine i_exI ?_ | with_reducible refine i_ifE ?_ | with_reducible refine i_int1 ?_
 | with_reducible refine Ahv ?_ | with_reducible refine AiC ?_
 | with_reducible refine Ny ?_ | with_reducible refine Qo ?_ | with_reducible refine Abg ?_ | with_reducible refine Aa1 ?_
 | with_reducible refine Ade ?_ | with_reducible refine AbA ?_ | with_reducible refine AdW ?_ | with_reducible refine AhI (by assumption) ?_ | with_reducible refine Ajt (by assumption) ?_
 | with_reducible refine AcY (by assumption) ?_ | with_reducible refine AcY (SqL.of (by assumption)) ?_ | with_reducible refine Ah2 (by assumption) ?_ | with_reducible refine j_min ?_
 | with_reducible refine Akj (by assumption) ?_ | with_reducible refine j_dnotin (by assumption) ?_ | with_reducible refine AcZ (by assumption) ?_ ?_ | with_reducible refine AjA (by assumption) ?_ | with_reducible refine AiJ (by assumption) ?_
 | with_reducible refine AjC (by assumption) ?_ | with_reducible refine j_append (by assumption) ?_ ?_ | with_reducible refine j_clear (by assumption) ?_
 | walk_at "u" | dsimp only [List.set,List.cons_append,List.nil_append,List.append_nil]))
local macro_rules | `(tactic| walk_at "cs")=>`(tactic| dsimp only [compσ,List.replicate,List.map_cons,List.map_nil,List.getElem?_cons_succ,List.getElem?_cons_zero,Option.join_some,List.cons_append,List.nil_append])
local macro_rules | `(tactic| walk_at "pr")=>`(tactic| repeat (first
 | with_reducible refine Nr ?_ | with_reducible refine Afy rfl rfl ?_ | with_reducible refine Ab8 rfl ?_ | with_reducible refine p_c ?_ | with_reducible refine AiN ?_ | with_reducible refine Ah0 ?_ | with_reducible refine p_i ?_ | with_reducible refine p_u ?_ | with_reducible refine b_u ?_
 | with_reducible refine AeJ ?_ | with_reducible refine b_eqI ?_ | with_reducible refine b_neI ?_ | with_reducible refine Afv ?_ | with_reducible refine b_neS ?_ | with_reducible refine p_isN ?_ | with_reducible refine AcV ?_ | with_reducible refine p_b ?_ | with_reducible refine b_b ?_
 | with_reducible refine p_and ?_ | with_reducible refine Aho ?_ | with_reducible refine Aff ?_ | with_reducible refine AbV ?_ | with_reducible refine p_orV ?_ | with_reducible refine Acl ?_ | with_reducible refine p_ifE ?_
 | with_reducible refine Acw ?_ | with_reducible refine p_break ?_ | with_reducible refine p_cont ?_ | with_reducible refine AcJ ?_ | with_reducible refine AeH ?_ | with_reducible refine AcL rfl ?_ | with_reducible refine p_retN ?_ | with_reducible refine AhT ?_ | with_reducible refine AeD ?_ | with_reducible refine AbL ?_ | with_reducible refine Aen ?_
 | with_reducible refine Aai ?_ | with_reducible refine Aae ?_ | with_reducible refine Zt ?_ | with_reducible refine p_gJn ?_ | with_reducible refine Abq rfl ?_ | with_reducible refine Aaf ?_ | with_reducible refine Ab1 ?_
 | with_reducible refine Ael ?_ | with_reducible refine AcS ?_ | with_reducible refine Afu ?_ | with_reducible refine AeF ?_ | with_reducible refine Afz ?_ | with_reducible refine Aek ?_
 | with_reducible refine b_ix3a ?_ | with_reducible refine b_ix3b ?_ | with_reducible refine b_ix3c ?_ | with_reducible refine b_ix2a ?_ | with_reducible refine b_ix2b ?_ | with_reducible refine Acd ?_ | with_reducible refine Acy ?_ | with_reducible refine Ack ?_ | with_reducible refine AcN ?_ | with_reducible refine Aco ?_ | with_reducible refine Abu ?_
 | with_reducible refine Xe ?_ | with_reducible refine AcI ?_ | with_reducible refine Acb ?_ | with_reducible refine Afx ?_ | with_reducible refine Afj ?_ | with_reducible refine Afa ?_ | with_reducible refine p_slT ?_ | with_reducible refine Aei ?_ | with_reducible refine AeG ?_ ?_ | with_reducible refine Afr ?_ ?_ | with_reducible refine AfD ?_ ?_ | with_reducible refine AeX ?_ ?_ | with_reducible refine Ae6 ?_ ?_
 | with_reducible refine AgX ?_ | with_reducible refine AbX ?_ | with_reducible refine b_lenT ?_ | with_reducible refine AbF ?_ | with_reducible refine b_min ?_ | with_reducible refine b_max ?_ | with_reducible refine b_intI ?_ | with_reducible refine b_intB ?_ | with_reducible refine Zi ?_ | with_reducible refine b_listT ?_ | with_reducible refine b_listS ?_
 | with_reducible refine Aev rfl ?_ | with_reducible refine Aez rfl ?_ ?_ | with_reducible refine p_clear rfl ?_ | with_reducible refine Aeg ?_ | with_reducible refine Afe ?_ | with_reducible refine b_dnotin ?_ | with_reducible refine Abv ?_ | with_reducible refine Aao rfl rfl ?_ | with_reducible refine Zw ?_ | with_reducible refine AcG rfl ?_ | with_reducible refine AcM rfl ?_ ?_
 | with_reducible refine Afd ?_ | with_reducible refine Ae7 ?_ | with_reducible refine b_L ?_ | with_reducible refine b_S ?_ | with_reducible refine AbC rfl ?_ | with_reducible refine Acv rfl ?_ | with_reducible refine AcT ?_ | with_reducible refine Abl ?_ | with_reducible refine Abn ?_ | with_reducible refine Aaa ?_ | with_reducible refine Acn ?_
 | with_reducible refine Ac7 ?_ | with_reducible refine Afq ?_ | with_reducible refine p_eqT ?_ | with_reducible refine Ahl ?_ | with_reducible refine AeO ?_ | with_reducible refine AbZ ?_ | with_reducible refine b_isNL ?_ | with_reducible refine AbG ?_ | with_reducible refine AbU ?_ | with_reducible refine b_isSS ?_ | with_reducible refine b_isTT ?_ | with_reducible refine b_isBI ?_ | with_reducible refine b_isBB ?_ | with_reducible refine Ahq ?_ ?_ | with_reducible refine Ahu ?_ ?_ | with_reducible refine b_ixL0 ?_ | with_reducible refine AgY ?_ | with_reducible refine p_m1 ?_ | with_reducible refine p_m2 ?_ | with_reducible refine b_bk ?_ | with_reducible refine pf_dnew ?_
 | with_reducible refine Zo ?_ | with_reducible refine Zz ?_ | with_reducible refine AfB ?_ | with_reducible refine p_dropX ?_ | with_reducible refine Ab7 ?_ | with_reducible refine p_ifX ?_ | with_reducible refine Afm ?_ | with_reducible refine Ae1 ?_ | with_reducible refine AbE ?_ | with_reducible refine Ahj ?_ | with_reducible refine Abr ?_ | with_reducible refine Acp ?_ | with_reducible refine b_abs ?_
 | with_reducible refine Aaq rfl ?_
 | with_reducible refine Ny ?_ | with_reducible refine Qo ?_ | with_reducible refine Abg ?_ | with_reducible refine Aa1 ?_
 | walk_at "u" | dsimp only [List.set,List.cons_append,List.nil_append,List.append_nil,Od]))
local macro_rules | `(tactic| walk_at "u")=>`(tactic| first | with_reducible refine p_ins rfl ?_ | with_reducible refine b_ins0 rfl ?_ ?_)
local macro_rules | `(tactic| walk_at "u")=>`(tactic| first | with_reducible refine Akk rfl ?_ | with_reducible refine AjD rfl ?_ ?_ | with_reducible refine p_sortK ?_ | with_reducible refine b_sortK (fun _ _=>?_) ?_ | with_reducible refine p_slS ?_ | with_reducible refine b_slSL ?_ (by decide) | with_reducible refine b_slSS ?_ (by decide) | with_reducible refine p_forE ?_ | with_reducible refine p_compE ?_ | with_reducible refine p_maxD ?_ | with_reducible refine p_minD ?_ | with_reducible refine p_dinT ?_ | with_reducible refine b_dinT ?_ | with_reducible refine p_dgetT ?_ | with_reducible refine p_dputT rfl ?_ | with_reducible refine b_dputT rfl ?_ ?_)
local macro_rules | `(tactic| walk_at "cp")=>`(tactic| dsimp only [compρ,List.replicate,List.map_cons,List.map_nil,List.getElem?_cons_succ,List.getElem?_cons_zero,Option.getD_some,boS,List.cons_append,List.nil_append])
local macro_rules | `(tactic| walk_at "u")=>`(tactic| first | with_reducible refine b_ixL1 ?_ | with_reducible refine b_ixL2 ?_ | with_reducible refine b_ixL3 ?_ | with_reducible refine p_rev ?_ | with_reducible refine b_rev ?_ | with_reducible refine b_LR1 ?_ ?_ | with_reducible refine b_LR2 ?_ ?_ ?_ | with_reducible refine p_for3 ?_ | with_reducible refine b_R3 ?_ ?_ | with_reducible refine p_forV ?_ | with_reducible refine p_idx ?_ | with_reducible refine AjO ?_ | with_reducible refine p_put rfl ?_ | with_reducible refine p_rep ?_ | with_reducible refine b_rep ?_ ?_ | with_reducible refine p_appT ?_ | with_reducible refine p_gLst rfl ?_ | with_reducible refine p_eqO ?_ | with_reducible refine b_lenDT ?_ | with_reducible refine b_dinP ?_ | with_reducible refine b_dputP rfl ?_ ?_ | with_reducible refine p_compT ?_ | with_reducible refine b_Tp ?_ | with_reducible refine b_TpP ?_ | with_reducible refine b_isTP ?_ | with_reducible refine b_lenP ?_ | with_reducible refine p_eqB ?_ | with_reducible refine b_eqB ?_ | with_reducible refine b_neB ?_)
local macro_rules | `(tactic| walk_at "sd")=>`(tactic| all_goals try first
 | ((with_reducible show (_:Int) < _); first | decide | omega | (simp only [List.length_map,List.length_replicate,List.length_range,List.length_append,List.length_reverse]; omega))
 | ((with_reducible show Abb _ _); exact ⟨by omega,by omega⟩)
 | ((with_reducible show Abf _ _); exact ⟨by decide,by decide,by decide⟩)
 | ((with_reducible show CMul _ _); first | exact .inr ⟨by omega,by omega⟩ | exact .inl ⟨by omega,by omega⟩)
 | ((with_reducible show (_:Nat) < _); first | omega | (simp only [List.length_map,List.length_replicate,List.length_range,List.length_append,List.length_reverse]; omega))
 | ((with_reducible show (_:Nat) <= _); first | omega | (simp only [List.length_map,List.length_replicate,List.length_range,List.length_append,List.length_reverse]; omega))
 | ((with_reducible show (_:Int) <= _/\_); first | omega | (simp only [List.length_map,List.length_replicate,List.length_range,List.length_append,List.length_reverse]; omega)))
local macro_rules | `(tactic| walk_at "u")=>`(tactic| first | with_reducible refine Ag3 ?_ | with_reducible refine Akt ?_ | with_reducible refine p_compZ ?_ | with_reducible refine p_compV ?_ | with_reducible refine p_compR2 ?_ | with_reducible refine p_dget2E ?_ | with_reducible refine b_isD ?_ | with_reducible refine p_aug rfl rfl ?_ | with_reducible refine AjR ?_ | with_reducible refine b_any ?_ | with_reducible refine b_lenDk ?_ | with_reducible refine Ad7 rfl rfl ?_ | with_reducible refine Ahg rfl rfl (by decide) ?_ | with_reducible refine Ai3 rfl ?_ | with_reducible refine AhA rfl ?_ ?_ | with_reducible refine Aio (by decide) rfl ?_ | with_reducible refine Aju rfl (fun z=>?_) | with_reducible refine Af4 rfl rfl ?_ | with_reducible refine b_aug ?_)
local macro_rules | `(tactic| walk_at "px")=>`(tactic| repeat (first
 | with_reducible refine Afy rfl rfl ?_ | with_reducible refine Ab8 rfl ?_ | with_reducible refine p_c ?_ | with_reducible refine AiN ?_ | with_reducible refine Ah0 ?_ | with_reducible refine p_i ?_ | with_reducible refine p_u ?_ | with_reducible refine b_u ?_
 | with_reducible refine AeJ ?_ | with_reducible refine b_eqI ?_ | with_reducible refine b_neI ?_ | with_reducible refine Afv ?_ | with_reducible refine b_neS ?_ | with_reducible refine p_isN ?_ | with_reducible refine AcV ?_ | with_reducible refine p_b ?_ | with_reducible refine b_b ?_
 | with_reducible refine p_and ?_ | with_reducible refine Aho ?_ | with_reducible refine Aff ?_ | with_reducible refine AbV ?_ | with_reducible refine p_orV ?_ | with_reducible refine Acl ?_ | with_reducible refine p_ifE ?_
 | with_reducible refine Acw ?_ | with_reducible refine p_break ?_ | with_reducible refine p_cont ?_ | with_reducible refine AcJ ?_ | with_reducible refine AeH ?_ | with_reducible refine AcL rfl ?_ | with_reducible refine p_retN ?_ | with_reducible refine AhT ?_ | with_reducible refine AeD ?_ | with_reducible refine AbL ?_ | with_reducible refine Aen ?_
 | with_reducible refine Aai ?_ | with_reducible refine Aae ?_ | with_reducible refine Zt ?_ | with_reducible refine p_gJn ?_ | with_reducible refine Abq rfl ?_ | with_reducible refine Aaf ?_ | with_reducible refine Ab1 ?_
 | with_reducible refine Ael ?_ | with_reducible refine AcS ?_ | with_reducible refine Afu ?_ | with_reducible refine AeF ?_ | with_reducible refine Afz ?_ | with_reducible refine Aek ?_
 | with_reducible refine b_ix3a ?_ | with_reducible refine b_ix3b ?_ | with_reducible refine b_ix3c ?_ | with_reducible refine b_ix2a ?_ | with_reducible refine b_ix2b ?_ | with_reducible refine Acd ?_ | with_reducible refine Acy ?_ | with_reducible refine Ack ?_ | with_reducible refine AcN ?_ | with_reducible refine Aco ?_ | with_reducible refine Abu ?_
 | with_reducible refine Xe ?_ | with_reducible refine AcI ?_ | with_reducible refine Acb ?_ | with_reducible refine Afx ?_ | with_reducible refine Afj ?_ | with_reducible refine Afa ?_ | with_reducible refine p_slT ?_ | with_reducible refine Aei ?_ | with_reducible refine AeG ?_ ?_ | with_reducible refine Afr ?_ ?_ | with_reducible refine AfD ?_ ?_ | with_reducible refine AeX ?_ ?_ | with_reducible refine Ae6 ?_ ?_
 | with_reducible refine AgX ?_ | with_reducible refine AbX ?_ | with_reducible refine b_lenT ?_ | with_reducible refine AbF ?_ | with_reducible refine b_min ?_ | with_reducible refine b_max ?_ | with_reducible refine b_intI ?_ | with_reducible refine b_intB ?_ | with_reducible refine Zi ?_ | with_reducible refine b_listT ?_ | with_reducible refine b_listS ?_
 | with_reducible refine Aev rfl ?_ | with_reducible refine Aez rfl ?_ ?_ | with_reducible refine p_clear rfl ?_ | with_reducible refine Aeg ?_ | with_reducible refine Afe ?_ | with_reducible refine b_dnotin ?_ | with_reducible refine Abv ?_ | with_reducible refine Aao rfl rfl ?_ | with_reducible refine Zw ?_ | with_reducible refine AcG rfl ?_ | with_reducible refine AcM rfl ?_ ?_
 | with_reducible refine Afd ?_ | with_reducible refine Ae7 ?_ | with_reducible refine b_L ?_ | with_reducible refine b_S ?_ | with_reducible refine AbC rfl ?_ | with_reducible refine Acv rfl ?_ | with_reducible refine AcT ?_ | with_reducible refine Abl ?_ | with_reducible refine Abn ?_ | with_reducible refine Aaa ?_ | with_reducible refine Acn ?_
 | with_reducible refine Ac7 ?_ | with_reducible refine Afq ?_ | with_reducible refine p_eqT ?_ | with_reducible refine Ahl ?_ | with_reducible refine AeO ?_ | with_reducible refine AbZ ?_ | with_reducible refine b_isNL ?_ | with_reducible refine AbG ?_ | with_reducible refine AbU ?_ | with_reducible refine b_isSS ?_ | with_reducible refine b_isTT ?_ | with_reducible refine b_isBI ?_ | with_reducible refine b_isBB ?_ | with_reducible refine Ahq ?_ ?_ | with_reducible refine Ahu ?_ ?_ | with_reducible refine b_ixL0 ?_ | with_reducible refine AgY ?_ | with_reducible refine p_m1 ?_ | with_reducible refine p_m2 ?_ | with_reducible refine b_bk ?_ | with_reducible refine pf_dnew ?_
 | with_reducible refine Zo ?_ | with_reducible refine Zz ?_ | with_reducible refine AfB ?_ | with_reducible refine p_dropX ?_ | with_reducible refine Ab7 ?_ | with_reducible refine p_ifX ?_ | with_reducible refine Afm ?_ | with_reducible refine Ae1 ?_ | with_reducible refine AbE ?_ | with_reducible refine Ahj ?_ | with_reducible refine Abr ?_ | with_reducible refine Acp ?_ | with_reducible refine b_abs ?_
 | with_reducible refine Aaq rfl ?_
 | with_reducible refine Ny ?_ | with_reducible refine Qo ?_ | with_reducible refine Abg ?_ | with_reducible refine Aa1 ?_
 | walk_at "u" | dsimp only [List.set,List.cons_append,List.nil_append,List.append_nil,Od]))
section
variable {P:Program} {w:World} {K:PySem.W.Frag} {mg:Str->Option Value} {base:Heap} {t:Adr}
def Sd:Sp:=fun vs H Q _=>∃ b,vs = [.bl true,b]/\Q .non H
theorem Ad5 {b:Bool} {z:V} {H:Hp} {Q:VK} {E:XK} (q:Q .non H) (h:b = true):Sd [.bl b,z] H Q E:=⟨z,by rw [h],q⟩
theorem AbH {z:V} {H:Hp} {Q:VK} {E:XK} (q:Q .non H):Sd [.bl true,z] H Q E:=⟨z,rfl,q⟩
local macro_rules | `(tactic| walk_at "u")=>`(tactic| with_reducible refine Ad5 ?_ ?_)
local macro_rules | `(tactic| walk_at "u")=>`(tactic| with_reducible refine AbH ?_)
theorem Jl (T:Txt K mg t):Binds K t.d_qb ["held","words"] []:=T.F_qb.binds (ps:=["held","words"]) fun _ _ _ _ _ _ us hl=>match us,hl with | [_,_],_=>rfl
theorem Gg (T:Txt K mg t):FnOk P w K mg base (CX1 P w) 1 t.f_qb t.d_qb ["held","words"] (Sd):=by
 refine T.F_qb.ok1 Akg (fun vs H Q E h=>?_) (fun cdv A outer s H vs Q E hr h=>?_)
 ·obtain ⟨b,rfl,q⟩:=h
  rfl
 ·obtain ⟨b,rfl,q⟩:=h
  have hu:=Co hr
  have hu64:=hr.units
  refine ⟨_,(Bi (Fe (Lj (Nj (pv 0)))
    (Bi (Xm PySem.F.excBase_ValueError T.x_NoBook T.m_NoBook hr.hd rfl (Ba (pv 1) Be)))
    Dr)),?_⟩
  try dsimp only [Cg,By]
  walk_at "rd"
  exact q
def Yc:Sp:=fun vs H Q _=>∃ n,vs = [.int n]/\Q (.bl true) H
theorem AgF {n:Int} {H:Hp} {Q:VK} {E:XK} (q:Q (.bl true) H):Yc [.int n] H Q E:=⟨n,rfl,q⟩
local macro_rules | `(tactic| walk_at "u")=>`(tactic| with_reducible refine AgF ?_)
theorem Ag2 (T:Txt K mg t):Binds K t.d_qa ["thing"] []:=T.F_qa.binds (ps:=["thing"]) fun _ _ _ _ _ _ us hl=>match us,hl with | [_],_=>rfl
theorem AfE (T:Txt K mg t):FnOk P w K mg base (CX1 P w) 1 t.f_qa t.d_qa ["thing"] (Yc):=by
 refine T.F_qa.ok1 AjF (fun vs H Q E h=>?_) (fun cdv A outer s H vs Q E hr h=>?_)
 ·obtain ⟨n,rfl,q⟩:=h
  rfl
 ·obtain ⟨n,rfl,q⟩:=h
  have hu:=Co hr
  have hu64:=hr.units
  refine ⟨_,(Bi (Cd (Ge (Cc (Fw) rfl T.z_isinstance PyProof.Rows.boot_isinstance (Ba (pv 0) (Ba (Gn (v:=.ty "int") rfl T.z_int PyProof.Rows.boot_int rfl) Be))) (Gp (Yn (Cc (Fw) rfl T.z_isinstance PyProof.Rows.boot_isinstance (Ba (pv 0) (Ba (Gn (v:=.ty "bool") rfl T.z_bool PyProof.Rows.boot_bool rfl) Be)))))))),?_⟩
  try dsimp only [Cg,By]
  walk_at "rd"
  exact q
def Uw:Sp:=fun vs H Q _=>∃ n,vs = [.int n]/\Q (.bl (decide (0 <= n))) H
theorem Aiv {n:Int} {H:Hp} {Q:VK} {E:XK} (q:Q (.bl (decide (0 <= n))) H):Uw [.int n] H Q E:=⟨n,rfl,q⟩
local macro_rules | `(tactic| walk_at "u")=>`(tactic| with_reducible refine Aiv ?_)
theorem Ui (T:Txt K mg t):Binds K t.d_qbm ["thing"] []:=T.F_qbm.binds (ps:=["thing"]) fun _ _ _ _ _ _ us hl=>match us,hl with | [_],_=>rfl
theorem Sj (T:Txt K mg t):FnOk P w K mg base (CX1 P w) 2 t.f_qbm t.d_qbm ["thing"] (Uw):=by
 refine T.F_qbm.ok1 Aii (fun vs H Q E h=>?_) (fun cdv A outer s H vs Q E hr h=>?_)
 ·obtain ⟨n,rfl,q⟩:=h
  rfl
 ·obtain ⟨n,rfl,q⟩:=h
  have hu:=Co hr
  have hu64:=hr.units
  refine ⟨_,(Bi (Cd (Ge (Bp (AfE T) (hr.mono (by decide)) rfl T.m_qa T.F_qa.kp (Ag2 T) .nil Bw (Ba (pv 0) Be)) (Gp (Fp AeM (pv 0) Bh (Df _)))))),?_⟩
  try dsimp only [Cg,By]
  walk_at "rd"
  exact q
def Adp:Sp:=fun vs H Q _=>∃ a xs n,vs = [.ref a,.int n]/\H a = some (.lst xs)/\(∀ x ∈ xs,∃ b ys,x = .ref b/\H b = some (.tup ys)/\((ys.length:Nat):Int) = n)/\Q .non H
theorem Aea (T:Txt K mg t):Binds K t.d_qc ["rows","length"] []:=T.F_qc.binds (ps:=["rows","length"]) fun _ _ _ _ _ _ us hl=>match us,hl with | [_,_],_=>rfl
theorem Abh (T:Txt K mg t):FnOk P w K mg base (CX1 P w) 2 t.f_qc t.d_qc ["rows","length"] (Adp):=by
 refine T.F_qc.ok1 sc_qc (fun vs H Q E h=>?_) (fun cdv A outer s H vs Q E hr h=>?_)
 ·obtain ⟨a,xs,n,rfl,hx,hr',q⟩:=h
  rfl
 ·obtain ⟨a,xs,n,rfl,hx,hr',q⟩:=h
  have hu:=Co hr
  have hu64:=hr.units
  refine ⟨_,(Bd (Cb (Bp (Gg T) (hr.mono (by decide)) rfl T.m_qb T.F_qb.kp (Jl T) .nil Bw (Ba (Cc (Fw) rfl T.z_isinstance PyProof.Rows.boot_isinstance (Ba (pv 0) (Ba (Gn (v:=.ty "list") rfl T.z_list PyProof.Rows.boot_list rfl) Be))) (Ba Bx Be))))
   (Bi (Dh PassesOwn.leaving rfl (Cr (pv 0)) (Bu (i:=2) sc_qc.nd rfl (Or.inl rfl))
    (Bi (Cb (Bp (Gg T) (hr.mono (by decide)) rfl T.m_qb T.F_qb.kp (Jl T) .nil Bw (Ba (Ge (Cc (Fw) rfl T.z_isinstance PyProof.Rows.boot_isinstance (Ba (pv 2) (Ba (Gn (v:=.ty "tuple") rfl T.z_tuple PyProof.Rows.boot_tuple rfl) Be))) (Gp (Fp Jy (Cc (Ja) rfl T.z_len PySem.boot_len (Ba (pv 2) Be)) (pv 1) (Df _)))) (Ba Bx Be)))))))),?_⟩
  try dsimp only [Cg,By]
  walk_at "rd"
  refine Lf rfl (SqL.of hx) (fun i σ H'=>∃ v,σ = [some (.ref a),some (.int n),v]/\H' = H) ⟨none,rfl,rfl⟩ (fun i σ H' _ ⟨_,_,e⟩=>by subst e; exact SqL.of hx) ?_ ?_
  ·rintro i x σ H' hi ⟨v,rfl,rfl⟩
   obtain ⟨b,ys,rfl,hy,hl⟩:=hr' x (List.mem_of_getElem? hi)
   walk_at "rd"
   ·exact ⟨_,rfl,rfl⟩
   ·exact decide_eq_true hl
  ·rintro σ H' ⟨v,rfl,rfl⟩
   exact q
theorem AfT {k:Str} (h:k ∈ toldK):inV (V.str k) [V.str "fore",V.str "back",V.str "num",V.str "blank",V.str "mark",V.str "forein",V.str "backin",V.str "out"] = true:=by
 have e:inV (V.str k) (toldK.map V.str) = true:=by
  unfold inV
  rw [List.any_map]
  exact List.any_eq_true.mpr ⟨k,h,by show (k == k) = true; exact beq_self_eq_true k⟩
 exact e
def Aau:Sp:=fun vs H Q _=>∃ k,vs = [.str k]/\k ∈ toldK/\Q (.bl true) H
theorem Aim {k:Str} {H:Hp} {Q:VK} {E:XK} (q:Q (.bl true) H) (h:k ∈ toldK):Aau [.str k] H Q E:=⟨k,rfl,h,q⟩
local macro_rules | `(tactic| walk_at "u")=>`(tactic| with_reducible refine Aim ?_ ?_)
theorem Akq (T:Txt K mg t):Binds K t.d_qf ["thing"] []:=T.F_qf.binds (ps:=["thing"]) fun _ _ _ _ _ _ us hl=>match us,hl with | [_],_=>rfl
theorem Aji (T:Txt K mg t):FnOk P w K mg base (CX1 P w) 1 t.f_qf t.d_qf ["thing"] (Aau):=by
 refine T.F_qf.ok1 Ajb (fun vs H Q E h=>?_) (fun cdv A outer s H vs Q E hr h=>?_)
 ·obtain ⟨k,rfl,hk,q⟩:=h
  rfl
 ·obtain ⟨k,rfl,hk,q⟩:=h
  have hu:=Co hr
  have hu64:=hr.units
  refine ⟨_,(Bi (Cd (Ge (Cc (Fw) rfl T.z_isinstance PyProof.Rows.boot_isinstance (Ba (pv 0) (Ba (Gn (v:=.ty "str") rfl T.z_str PyProof.Rows.boot_str rfl) Be))) (Gp (Fp (Su) (pv 0) (Gw (v:=.ref t.a_TOLD_KINDS) rfl T.g_TOLD_KINDS rfl) rfl))))),?_⟩
  try dsimp only [Cg,By]
  walk_at "rd"
  refine ⟨_,_,rfl,.inr (T.q_TOLD_KINDS _),rfl,rfl,?_⟩
  rw [show (if false = true then !inV (V.str k) _ else inV (V.str k) [V.str "fore",V.str "back",V.str "num",V.str "blank",V.str "mark",V.str "forein",V.str "backin",V.str "out"]) = true from AfT hk]
  exact q
def Vl:Sp:=fun vs H Q _=>∃ k r,vs = [.str k,.int r]/\Lg k r/\Q (.bl true) H
theorem Adk {k:Str} {r:Int} {H:Hp} {Q:VK} {E:XK} (q:Q (.bl true) H) (h:Lg k r):Vl [.str k,.int r] H Q E:=⟨k,r,rfl,h,q⟩
local macro_rules | `(tactic| walk_at "u")=>`(tactic| with_reducible refine Adk ?_ ?_)
theorem Akz (T:Txt K mg t):Binds K t.d_qm ["kind","thing"] []:=T.F_qm.binds (ps:=["kind","thing"]) fun _ _ _ _ _ _ us hl=>match us,hl with | [_,_],_=>rfl
theorem Ajn (T:Txt K mg t):FnOk P w K mg base (CX1 P w) 2 t.f_qm t.d_qm ["kind","thing"] (Vl):=by
 refine T.F_qm.ok1 Ajv (fun vs H Q E h=>?_) (fun cdv A outer s H vs Q E hr h=>?_)
 ·obtain ⟨k,r,rfl,hk,q⟩:=h
  rfl
 ·obtain ⟨k,r,rfl,hk,q⟩:=h
  have hu:=Co hr
  have hu64:=hr.units
  refine ⟨_,(Bd (Fe (Lj (Nj (Bp (AfE T) (hr.mono (by decide)) rfl T.m_qa T.F_qa.kp (Ag2 T) .nil Bw (Ba (pv 1) Be))))
    (Bi (Cd Tg))
    Dr)
   (Bd (Fe (Ds Jy (pv 0) Bx (Df _))
    (Bi (Cd (Fp AeM (pv 1) Bh (Df _))))
    Dr)
   (Bi (Cd (Fp Jy (pv 1) Bh (Df _)))))),?_⟩
  try dsimp only [Cg,By]
  walk_at "rd"
  refine Ad0 (fun h=>?_) (fun h=>?_)
  ·have h':k = "mark":=of_decide_eq_true h
   walk_at "rd"
   rcases hk with ⟨_,hr1⟩ | ⟨hn,_⟩
   ·rw [decide_eq_true hr1]; exact q
   ·exact absurd h' hn
  ·have h':¬ k = "mark":=fun z=>h (decide_eq_true z)
   walk_at "rd"
   rcases hk with ⟨hm,_⟩ | ⟨_,hr0⟩
   ·exact absurd hm h'
   ·rw [decide_eq_true hr0]; exact q
def Yi:Sp:=fun vs H Q _=>∃ d kvs n,vs = [.ref d,.int n]/\H d = some (.dK kvs)/\Q ((Ci kvs (.inl n)).getD (.str "plain")) H
theorem AgJ {d:Addr} {kvs:List (Key × V)} {n:Int} {H:Hp} {Q:VK} {E:XK} (h:H d = some (.dK kvs)) (q:Q ((Ci kvs (.inl n)).getD (.str "plain")) H):Yi [.ref d,.int n] H Q E:=⟨d,kvs,n,rfl,h,q⟩
local macro_rules | `(tactic| walk_at "u")=>`(tactic| with_reducible refine AgJ (by assumption) ?_)
theorem Abc (T:Txt K mg t):Binds K t.d_qn ["kinds","sign"] []:=T.F_qn.binds (ps:=["kinds","sign"]) fun _ _ _ _ _ _ us hl=>match us,hl with | [_,_],_=>rfl
theorem Wf (T:Txt K mg t):FnOk P w K mg base (CX1 P w) 1 t.f_qn t.d_qn ["kinds","sign"] (Yi):=by
 refine T.F_qn.ok1 AjJ (fun vs H Q E h=>?_) (fun cdv A outer s H vs Q E hr h=>?_)
 ·obtain ⟨d,kvs,n,rfl,hd,q⟩:=h
  rfl
 ·obtain ⟨d,kvs,n,rfl,hd,q⟩:=h
  have hu:=Co hr
  have hu64:=hr.units
  refine ⟨_,(Bi (Cd (Tu hu (pv 0) (pv 1) Bx ⟨rfl,rfl,rfl,rfl⟩))),?_⟩
  try dsimp only [Cg,By]
  walk_at "rd"
  exact q
def AcE:Sp:=fun vs H Q _=>∃ d kvs n k,vs = [.ref d,.int n,.str k]/\H d = some (.dK kvs)/\0 <= n/\Ci kvs (Sum.inl n) = none/\kvs.length <= 1000/\Q .non (upd H d (.dK (Fy kvs (Sum.inl n) (.str k))))
theorem Aj0 {d:Addr} {kvs:List (Key × V)} {n:Int} {k:Str} {H:Hp} {Q:VK} {E:XK} (h:H d = some (.dK kvs)) (q:Q .non (upd H d (.dK (kvs ++ [(Sum.inl n,.str k)])))) (hn:0 <= n) (hv:Ci kvs (Sum.inl n) = none) (hl:kvs.length <= 1000) :
  AcE [.ref d,.int n,.str k] H Q E:=⟨d,kvs,n,k,rfl,h,hn,hv,hl,by rw [Jp _ hv]; exact q⟩
local macro_rules | `(tactic| walk_at "u")=>`(tactic| with_reducible refine Aj0 (by assumption) ?_ ?_ ?_ ?_)
theorem AaE (T:Txt K mg t):Binds K t.d_qbh ["kinds","sign","kind"] []:=T.F_qbh.binds (ps:=["kinds","sign","kind"]) fun _ _ _ _ _ _ us hl=>match us,hl with | [_,_,_],_=>rfl
theorem Wz (T:Txt K mg t):FnOk P w K mg base (CX1 P w) 3 t.f_qbh t.d_qbh ["kinds","sign","kind"] (AcE):=by
 refine T.F_qbh.ok1 Aht (fun vs H Q E h=>?_) (fun cdv A outer s H vs Q E hr h=>?_)
 ·obtain ⟨d,kvs,n,k,rfl,hd,hn,hv,hl,q⟩:=h
  rfl
 ·obtain ⟨d,kvs,n,k,rfl,hd,hn,hv,hl,q⟩:=h
  have hu:=Co hr
  have hu64:=hr.units
  refine ⟨_,(Bd (Cb (Bp (Gg T) (hr.mono (by decide)) rfl T.m_qb T.F_qb.kp (Jl T) .nil Bw (Ba (Bp (Sj T) (hr.mono (by decide)) rfl T.m_qbm T.F_qbm.kp (Ui T) .nil Bw (Ba (pv 1) Be)) (Ba Bx Be))))
   (Bd (Cb (Bp (Gg T) (hr.mono (by decide)) rfl T.m_qb T.F_qb.kp (Jl T) .nil Bw (Ba (Uh (Nt hu (pv 1) (pv 0))) (Ba Bx Be))))
   (Bi (Fq hu (pv 0) (pv 1) (pv 2) rfl)))),?_⟩
  try dsimp only [Cg,By]
  walk_at "rd"
  ·exact q
  ·exact Fu hl
  ·rw [hv]; rfl
  ·exact decide_eq_true hn
def Adl:Sp:=fun vs H Q _=>∃ a b xs ys signs mates,vs = [.ref a,.ref b]/\H a = some (.lst xs)/\H b = some (.lst ys)/\LAt TripAt H xs signs/\LAt PairAt H ys mates/\(∀ s ∈ signs,Wi s)/\(∀ m ∈ mates,0 <= m.1/\0 <= m.2) /\
 (signs.map (·.1) ++ Dv mates).Nodup/\signs.length + 2 * mates.length <= 900/\∀ d,H d = none->Q (.ref d) (upd H d (.dK (kK signs ++ kM mates)))
theorem AkF (T:Txt K mg t):Binds K t.d_qo ["signs","mates"] []:=T.F_qo.binds (ps:=["signs","mates"]) fun _ _ _ _ _ _ us hl=>match us,hl with | [_,_],_=>rfl
theorem Aki (T:Txt K mg t):FnOk P w K mg base (CX1 P w) 4 t.f_qo t.d_qo ["signs","mates"] (Adl):=by
 refine T.F_qo.ok1 sc_qo (fun vs H Q E h=>?_) (fun cdv A outer s H vs Q E hr h=>?_)
 ·obtain ⟨a,b,xs,ys,signs,mates,rfl,ha,hb,ls,lm,so,mo,nd,hl,q⟩:=h
  rfl
 ·obtain ⟨a,b,xs,ys,signs,mates,rfl,ha,hb,ls,lm,so,mo,nd,hl,q⟩:=h
  have hu:=Co hr
  have hu64:=hr.units
  refine ⟨_,(Bd (Bs (i:=2) sc_qo.nd rfl (Or.inl rfl) Jt)
   (Bd (Dh PassesOwn.leaving rfl (Cr (pv 0)) (Nf rfl (Ce (Bu (i:=3) sc_qo.nd rfl (Or.inl rfl)) (Ce (Bu (i:=4) sc_qo.nd rfl (Or.inl rfl)) (Ce (Bu (i:=5) sc_qo.nd rfl (Or.inl rfl)) Fr))))
    (Bd (Cb (Bp (Gg T) (hr.mono (by decide)) rfl T.m_qb T.F_qb.kp (Jl T) .nil Bw (Ba (Bp (Aji T) (hr.mono (by decide)) rfl T.m_qf T.F_qf.kp (Akq T) .nil Bw (Ba (pv 4) Be)) (Ba Bx Be))))
   (Bd (Cb (Bp (Gg T) (hr.mono (by decide)) rfl T.m_qb T.F_qb.kp (Jl T) .nil Bw (Ba (Bp (Ajn T) (hr.mono (by decide)) rfl T.m_qm T.F_qm.kp (Akz T) .nil Bw (Ba (pv 4) (Ba (pv 5) Be))) (Ba Bx Be))))
   (Bi (Cb (Bp (Wz T) (hr.mono (by decide)) rfl T.m_qbh T.F_qbh.kp (AaE T) .nil Bw (Ba (pv 2) (Ba (pv 3) (Ba (pv 4) Be)))))))))
   (Bd (Dh PassesOwn.leaving rfl (Cr (pv 1)) (Nf rfl (Ce (Bu (i:=6) sc_qo.nd rfl (Or.inl rfl)) (Ce (Bu (i:=7) sc_qo.nd rfl (Or.inl rfl)) Fr)))
    (Bd (Cb (Bp (Wz T) (hr.mono (by decide)) rfl T.m_qbh T.F_qbh.kp (AaE T) .nil Bw (Ba (pv 2) (Ba (pv 6) (Ba Bx Be)))))
   (Bi (Cb (Bp (Wz T) (hr.mono (by decide)) rfl T.m_qbh T.F_qbh.kp (AaE T) .nil Bw (Ba (pv 2) (Ba (pv 7) (Ba Bx Be))))))))
   (Bi (Cd (pv 2)))))),?_⟩
  try dsimp only [Cg,By]
  walk_at "rd"
  intro d hd
  walk_at "rd"
  have nda:a ≠ d:=Bq ha hd
  have ndb:b ≠ d:=Bq hb hd
  have ndk:((kK signs ++ kM mates).map (·.1)).Nodup:=by rw [List.map_append,Aad,show (kK signs).map (·.1) = (signs.map (·.1)).map Sum.inl by simp [kK],<- List.map_append]; exact Nq nd
  refine Lf rfl (SqL.of (xs:=xs) (by rw [Bg nda]; exact ha)) (fun i σ H'=>∃ v3 v4 v5,σ = [some (.ref a),some (.ref b),some (.ref d),v3,v4,v5,none,none]/\H' = upd H d (.dK (kK (signs.take i)))) ⟨none,none,none,rfl,rfl⟩ (fun i σ H' _ ⟨_,_,_,_,e⟩=>by subst e; exact SqL.of (by rw [Bg nda]; exact ha)) ?_ ?_
  ·rintro i x σ H' hi ⟨v3,v4,v5,rfl,rfl⟩
   obtain ⟨s,es,p,rfl,hp⟩:=ls.get hi
   have hp':(upd H d (.dK (kK (signs.take i)))) p = some (.tup [.int s.1,.str s.2.1,.int s.2.2]):=by rw [Bg (Bq hp hd)]; exact hp
   have hd':(upd H d (.dK (kK (signs.take i)))) d = some (.dK (kK (signs.take i))):=Bn
   have ok:=so s (List.mem_of_getElem? es)
   have et:=Cu es
   have hlt:i < signs.length:=(List.getElem?_eq_some_iff.mp es).1
   walk_at "rd"
   ·refine ⟨_,_,_,rfl,?_⟩
    rw [Fo,et]
    simp [kK]
   ·exact ok.nn
   ·refine Jj fun m=>?_
    have q1:(kK signs ++ kM mates) = kK (signs.take i) ++ ((Sum.inl s.1,V.str s.2.1) :: (kK (signs.drop (i + 1)) ++ kM mates)):=by
     rw [<- List.cons_append,<- List.append_assoc]
     congr 1
     rw [show ((Sum.inl s.1,V.str s.2.1) :: kK (signs.drop (i + 1)):List (Key × V)) = kK (s :: signs.drop (i + 1)) from rfl,kK,kK,kK,<- List.map_append]
     congr 1
     rw [<- List.take_append_drop i signs]
     congr 1
     ·simp
     ·rw [List.take_append_drop,List.drop_eq_getElem_cons hlt]
      have:=List.getElem?_eq_getElem hlt
      rw [es] at this
      rw [Option.some.inj this]
    rw [q1,List.map_append,List.map_cons] at ndk
    exact (List.nodup_append.mp ndk).2.2 _ m _ List.mem_cons_self rfl
   ·have:(kK (signs.take i)).length <= signs.length:=by simp [kK]; omega
    omega
   ·exact ok.rk
   ·exact ok.kd
  ·rintro σ H' ⟨v3,v4,v5,rfl,rfl⟩
   rw [ls.1,List.take_length]
   refine AaN ?_
   refine Lf rfl (SqL.of (xs:=ys) (by rw [Bg ndb]; exact hb)) (fun i σ H'=>∃ v3 v4 v5 v6 v7,σ = [some (.ref a),some (.ref b),some (.ref d),v3,v4,v5,v6,v7]/\H' = upd H d (.dK (kK signs ++ kM (mates.take i)))) ⟨_,_,_,_,_,rfl,by simp [kM]⟩ (fun i σ H' _ ⟨_,_,_,_,_,_,e⟩=>by subst e; exact SqL.of (by rw [Bg ndb]; exact hb)) ?_ ?_
   ·rintro i x σ H' hi ⟨v3,v4,v5,v6,v7,rfl,rfl⟩
    obtain ⟨m,em,p,rfl,hp⟩:=lm.get hi
    have hp':(upd H d (.dK (kK signs ++ kM (mates.take i)))) p = some (.tup [.int m.1,.int m.2]):=by rw [Bg (Bq hp hd)]; exact hp
    have hd':(upd H d (.dK (kK signs ++ kM (mates.take i)))) d = some (.dK (kK signs ++ kM (mates.take i))):=Bn
    have ok:=mo m (List.mem_of_getElem? em)
    have et:=Cu em
    have hlt:i < mates.length:=(List.getElem?_eq_some_iff.mp em).1
    have q1:kK signs ++ kM mates = kK signs ++ kM (mates.take i) ++ ((Sum.inl m.1,V.str "open") :: (Sum.inl m.2,V.str "shut") :: kM (mates.drop (i + 1))):=by
     rw [List.append_assoc]
     congr 1
     rw [show ((Sum.inl m.1,V.str "open") :: (Sum.inl m.2,V.str "shut") :: kM (mates.drop (i + 1)):List (Key × V)) = kM (m :: mates.drop (i + 1)) from rfl,<- Np]
     congr 1
     have:=List.getElem?_eq_getElem hlt
     rw [em] at this
     rw [Option.some.inj this,<- List.drop_eq_getElem_cons hlt,List.take_append_drop]
    rw [q1,List.map_append,List.map_cons,List.map_cons] at ndk
    have nd1:=(List.nodup_append.mp ndk).2.2
    have nd2:=(List.nodup_append.mp ndk).2.1
    have hlen:(kK signs ++ kM (mates.take i)).length + 1 <= 1000:=by
     rw [List.length_append,AiS,List.length_take]; simp only [kK,List.length_map]; omega
    walk_at "rd"
    have hd2:(upd (upd H d (.dK (kK signs ++ kM (mates.take i)))) d (.dK (kK signs ++ kM (mates.take i) ++ [(Sum.inl m.1,.str "open")]))) d = some (.dK (kK signs ++ kM (mates.take i) ++ [(Sum.inl m.1,.str "open")])):=Bn
    walk_at "rd"
    ·refine ⟨_,_,_,_,_,rfl,?_⟩
     rw [Fo,Fo,et,Np]
     simp [kM]
    ·exact ok.2
    ·refine Jj fun z=>?_
     rw [List.map_append,List.mem_append] at z
     rcases z with z | z
     ·exact nd1 _ z _ (List.mem_cons_of_mem _ List.mem_cons_self) rfl
     ·have e:(Sum.inl m.2:Key) = Sum.inl m.1:=List.mem_singleton.mp z
      have nd3:=(List.nodup_cons.mp nd2).1
      exact nd3 (List.mem_cons.mpr (.inl e.symm))
    ·rw [List.length_append]; exact hlen
    ·exact ok.1
    ·exact Jj fun z=>nd1 _ z _ List.mem_cons_self rfl
    ·omega
   ·rintro σ H' ⟨v3,v4,v5,v6,v7,rfl,rfl⟩
    rw [lm.1,List.take_length]
    walk_at "rd"
    exact q d hd
def AdS:Sp:=fun vs H Q _=>∃ a xs signs,vs = [.ref a]/\H a = some (.lst xs)/\LAt TripAt H xs signs/\(signs.map (·.1)).Nodup/\signs.length <= 900/\∀ d,H d = none->Q (.ref d) (upd H d (.dK (kR signs)))
theorem Akn (T:Txt K mg t):Binds K t.d_qs ["signs"] []:=T.F_qs.binds (ps:=["signs"]) fun _ _ _ _ _ _ us hl=>match us,hl with | [_],_=>rfl
theorem Ajd (T:Txt K mg t):FnOk P w K mg base (CX1 P w) 1 t.f_qs t.d_qs ["signs"] (AdS):=by
 refine T.F_qs.ok1 sc_qs (fun vs H Q E h=>?_) (fun cdv A outer s H vs Q E hr h=>?_)
 ·obtain ⟨a,xs,signs,rfl,ha,ls,nd,hl,q⟩:=h
  rfl
 ·obtain ⟨a,xs,signs,rfl,ha,ls,nd,hl,q⟩:=h
  have hu:=Co hr
  have hu64:=hr.units
  refine ⟨_,(Bd (Bs (i:=1) sc_qs.nd rfl (Or.inl rfl) Jt)
   (Bd (Dh PassesOwn.leaving rfl (Cr (pv 0)) (Nf rfl (Ce (Bu (i:=2) sc_qs.nd rfl (Or.inl rfl)) (Ce (Bu (i:=3) sc_qs.nd rfl (Or.inl rfl)) (Ce (Bu (i:=4) sc_qs.nd rfl (Or.inl rfl)) Fr))))
    (Bi (Fq hu (pv 1) (pv 2) (pv 4) rfl)))
   (Bi (Cd (pv 1))))),?_⟩
  try dsimp only [Cg,By]
  walk_at "rd"
  intro d hd
  walk_at "rd"
  have nda:a ≠ d:=Bq ha hd
  have ndk:((kR signs).map (·.1)).Nodup:=by rw [show (kR signs).map (·.1) = (signs.map (·.1)).map Sum.inl by simp [kR]]; exact Nq nd
  refine Lf rfl (SqL.of (xs:=xs) (by rw [Bg nda]; exact ha)) (fun i σ H'=>∃ v3 v4 v5,σ = [some (.ref a),some (.ref d),v3,v4,v5]/\H' = upd H d (.dK (kR (signs.take i)))) ⟨none,none,none,rfl,rfl⟩ (fun i σ H' _ ⟨_,_,_,_,e⟩=>by subst e; exact SqL.of (by rw [Bg nda]; exact ha)) ?_ ?_
  ·rintro i x σ H' hi ⟨v3,v4,v5,rfl,rfl⟩
   obtain ⟨s,es,p,rfl,hp⟩:=ls.get hi
   have hp':(upd H d (.dK (kR (signs.take i)))) p = some (.tup [.int s.1,.str s.2.1,.int s.2.2]):=by rw [Bg (Bq hp hd)]; exact hp
   have hd':(upd H d (.dK (kR (signs.take i)))) d = some (.dK (kR (signs.take i))):=Bn
   have et:=Cu es
   have hlt:i < signs.length:=(List.getElem?_eq_some_iff.mp es).1
   have hno:Ci (kR (signs.take i)) (Sum.inl s.1) = none:=by
    refine Jj fun m=>?_
    have q1:kR signs = kR (signs.take i) ++ ((Sum.inl s.1,V.int s.2.2) :: kR (signs.drop (i + 1))):=by
     rw [show ((Sum.inl s.1,V.int s.2.2) :: kR (signs.drop (i + 1)):List (Key × V)) = kR (s :: signs.drop (i + 1)) from rfl,kR,kR,kR,<- List.map_append]
     congr 1
     have:=List.getElem?_eq_getElem hlt
     rw [es] at this
     rw [Option.some.inj this,<- List.drop_eq_getElem_cons hlt,List.take_append_drop]
    rw [q1,List.map_append,List.map_cons] at ndk
    exact (List.nodup_append.mp ndk).2.2 _ m _ List.mem_cons_self rfl
   walk_at "rd"
   ·refine ⟨_,_,_,rfl,?_⟩
    rw [Fo,et,Jp _ hno]
    simp [kR]
   ·have:(kR (signs.take i)).length <= signs.length:=by simp [kR]; omega
    exact Fu (by omega)
  ·rintro σ H' ⟨v3,v4,v5,rfl,rfl⟩
   rw [ls.1,List.take_length]
   walk_at "rd"
   exact q d hd
def AfU:Sp:=fun vs H Q _=>∃ b ys mates,vs = [.ref b]/\H b = some (.lst ys)/\LAt PairAt H ys mates/\(Dv mates).Nodup/\mates.length <= 400/\∀ d,H d = none->Q (.ref d) (upd H d (.dK (kB mates)))
theorem AkI (T:Txt K mg t):Binds K t.d_qx ["mates"] []:=T.F_qx.binds (ps:=["mates"]) fun _ _ _ _ _ _ us hl=>match us,hl with | [_],_=>rfl
theorem AjI (T:Txt K mg t):FnOk P w K mg base (CX1 P w) 1 t.f_qx t.d_qx ["mates"] (AfU):=by
 refine T.F_qx.ok1 sc_qx (fun vs H Q E h=>?_) (fun cdv A outer s H vs Q E hr h=>?_)
 ·obtain ⟨b,ys,mates,rfl,hb,lm,nd,hl,q⟩:=h
  rfl
 ·obtain ⟨b,ys,mates,rfl,hb,lm,nd,hl,q⟩:=h
  have hu:=Co hr
  have hu64:=hr.units
  refine ⟨_,(Bd (Bs (i:=1) sc_qx.nd rfl (Or.inl rfl) Jt)
   (Bd (Dh PassesOwn.leaving rfl (Cr (pv 0)) (Nf rfl (Ce (Bu (i:=2) sc_qx.nd rfl (Or.inl rfl)) (Ce (Bu (i:=3) sc_qx.nd rfl (Or.inl rfl)) Fr)))
    (Bd (Fq hu (pv 1) (pv 2) (pv 3) rfl)
   (Bi (Fq hu (pv 1) (pv 3) (pv 2) rfl))))
   (Bi (Cd (pv 1))))),?_⟩
  try dsimp only [Cg,By]
  walk_at "rd"
  intro d hd
  walk_at "rd"
  have ndb:b ≠ d:=Bq hb hd
  have ndk:((kB mates).map (·.1)).Nodup:=by rw [AfQ]; exact Nq nd
  refine Lf rfl (SqL.of (xs:=ys) (by rw [Bg ndb]; exact hb)) (fun i σ H'=>∃ v3 v4,σ = [some (.ref b),some (.ref d),v3,v4]/\H' = upd H d (.dK (kB (mates.take i)))) ⟨none,none,rfl,rfl⟩ (fun i σ H' _ ⟨_,_,_,e⟩=>by subst e; exact SqL.of (by rw [Bg ndb]; exact hb)) ?_ ?_
  ·rintro i x σ H' hi ⟨v3,v4,rfl,rfl⟩
   obtain ⟨m,em,p,rfl,hp⟩:=lm.get hi
   have hp':(upd H d (.dK (kB (mates.take i)))) p = some (.tup [.int m.1,.int m.2]):=by rw [Bg (Bq hp hd)]; exact hp
   have hd':(upd H d (.dK (kB (mates.take i)))) d = some (.dK (kB (mates.take i))):=Bn
   have et:=Cu em
   have hlt:i < mates.length:=(List.getElem?_eq_some_iff.mp em).1
   have q1:kB mates = kB (mates.take i) ++ ((Sum.inl m.1,V.int m.2) :: (Sum.inl m.2,V.int m.1) :: kB (mates.drop (i + 1))):=by
    rw [show ((Sum.inl m.1,V.int m.2) :: (Sum.inl m.2,V.int m.1) :: kB (mates.drop (i + 1)):List (Key × V)) = kB (m :: mates.drop (i + 1)) from rfl,<- Vm]
    congr 1
    have:=List.getElem?_eq_getElem hlt
    rw [em] at this
    rw [Option.some.inj this,<- List.drop_eq_getElem_cons hlt,List.take_append_drop]
   rw [q1,List.map_append,List.map_cons,List.map_cons] at ndk
   have nd1:=(List.nodup_append.mp ndk).2.2
   have nd2:=(List.nodup_append.mp ndk).2.1
   have hlen:(kB (mates.take i)).length + 1 <= 1000:=by
    rw [AhD,List.length_take]; omega
   have n1:Ci (kB (mates.take i)) (Sum.inl m.1) = none:=Jj fun z=>nd1 _ z _ List.mem_cons_self rfl
   have n2:Ci (kB (mates.take i) ++ [(Sum.inl m.1,V.int m.2)]) (Sum.inl m.2) = none:=by
    refine Jj fun z=>?_
    rw [List.map_append,List.mem_append] at z
    rcases z with z | z
    ·exact nd1 _ z _ (List.mem_cons_of_mem _ List.mem_cons_self) rfl
    ·have e:(Sum.inl m.2:Key) = Sum.inl m.1:=List.mem_singleton.mp z
     have nd3:=(List.nodup_cons.mp nd2).1
     exact nd3 (List.mem_cons.mpr (.inl e.symm))
   walk_at "rd"
   ·rw [Jp _ n1]
    have hd2:(upd (upd H d (.dK (kB (mates.take i)))) d (.dK (kB (mates.take i) ++ [(Sum.inl m.1,.int m.2)]))) d = some (.dK (kB (mates.take i) ++ [(Sum.inl m.1,.int m.2)])):=Bn
    walk_at "rd"
    ·refine ⟨_,_,rfl,?_⟩
     rw [Fo,Fo,et,Vm,Jp _ n2]
     simp [kB]
    ·rw [List.length_append]; exact Fu hlen
   ·exact Fu (by omega)
  ·rintro σ H' ⟨v3,v4,rfl,rfl⟩
   rw [lm.1,List.take_length]
   walk_at "rd"
   exact q d hd
theorem AcP {k:Str} (h:k ∈ joinedK):inV (V.str k) [V.str "fore",V.str "back",V.str "num",V.str "blank",V.str "plain"] = true:=by
 have e:inV (V.str k) (joinedK.map V.str) = true:=by
  unfold inV
  rw [List.any_map]
  exact List.any_eq_true.mpr ⟨k,h,by show (k == k) = true; exact beq_self_eq_true k⟩
 exact e
def AgD:Sp:=fun vs H Q _=>∃ d kk w b m k,vs = [.ref d,.int w,.int b,.int m]/\H d = some (.dK kk)/\0 <= w/\0 <= b/\0 <= m/\knd kk m = .str "mark"/\k ∈ joinedK/\knd kk w = .str k/\knd kk b = .str k/\Q .non H
theorem Akp (T:Txt K mg t):Binds K t.d_qk ["kinds","whole","base","mark"] []:=T.F_qk.binds (ps:=["kinds","whole","base","mark"]) fun _ _ _ _ _ _ us hl=>match us,hl with | [_,_,_,_],_=>rfl
theorem AjY (T:Txt K mg t):FnOk P w K mg base (CX1 P w) 3 t.f_qk t.d_qk ["kinds","whole","base","mark"] (AgD):=by
 refine T.F_qk.ok1 sc_qk (fun vs H Q E h=>?_) (fun cdv A outer s H vs Q E hr h=>?_)
 ·obtain ⟨d,kk,w,b,m,k,rfl,hd,w0,b0,m0,hm,hk,hw,hb,q⟩:=h
  rfl
 ·obtain ⟨d,kk,w,b,m,k,rfl,hd,w0,b0,m0,hm,hk,hw,hb,q⟩:=h
  have hu:=Co hr
  have hu64:=hr.units
  refine ⟨_,(Bd (Cb (Bp (Gg T) (hr.mono (by decide)) rfl T.m_qb T.F_qb.kp (Jl T) .nil Bw (Ba (Ge (Bp (Sj T) (hr.mono (by decide)) rfl T.m_qbm T.F_qbm.kp (Ui T) .nil Bw (Ba (pv 1) Be)) (Ge (Bp (Sj T) (hr.mono (by decide)) rfl T.m_qbm T.F_qbm.kp (Ui T) .nil Bw (Ba (pv 2) Be)) (Gp (Bp (Sj T) (hr.mono (by decide)) rfl T.m_qbm T.F_qbm.kp (Ui T) .nil Bw (Ba (pv 3) Be))))) (Ba Bx Be))))
   (Bd (Cb (Bp (Gg T) (hr.mono (by decide)) rfl T.m_qb T.F_qb.kp (Jl T) .nil Bw (Ba (Fp Jy (Bp (Wf T) (hr.mono (by decide)) rfl T.m_qn T.F_qn.kp (Abc T) .nil Bw (Ba (pv 0) (Ba (pv 3) Be))) Bx (Df _)) (Ba Bx Be))))
   (Bd (Bs (i:=4) sc_qk.nd rfl (Or.inl rfl) (Bp (Wf T) (hr.mono (by decide)) rfl T.m_qn T.F_qn.kp (Abc T) .nil Bw (Ba (pv 0) (Ba (pv 1) Be))))
   (Bd (Cb (Bp (Gg T) (hr.mono (by decide)) rfl T.m_qb T.F_qb.kp (Jl T) .nil Bw (Ba (Fp (Su) (pv 4) (Gw (v:=.ref t.a_JOINED_KINDS) rfl T.g_JOINED_KINDS rfl) rfl) (Ba Bx Be))))
   (Bi (Cb (Bp (Gg T) (hr.mono (by decide)) rfl T.m_qb T.F_qb.kp (Jl T) .nil Bw (Ba (Fp Jy (Bp (Wf T) (hr.mono (by decide)) rfl T.m_qn T.F_qn.kp (Abc T) .nil Bw (Ba (pv 0) (Ba (pv 2) Be))) (pv 4) (Df _)) (Ba Bx Be))))))))),?_⟩
  try dsimp only [Cg,By]
  unfold knd at hm hw hb
  walk_at "rd"
  refine Air w0 ?_
  walk_at "rd"
  refine Air b0 ?_
  walk_at "rd"
  ·rw [hm]
   walk_at "rd"
   ·rw [hw]
    walk_at "rd"
    refine ⟨_,_,rfl,.inr (T.q_JOINED_KINDS _),rfl,rfl,?_⟩
    rw [show (if false = true then !inV (V.str k) _ else inV (V.str k) [V.str "fore",V.str "back",V.str "num",V.str "blank",V.str "plain"]) = true from AcP hk]
    walk_at "rd"
    rw [hb]
    walk_at "rd"
    ·exact q
    ·exact decide_eq_true rfl
   ·exact decide_eq_true rfl
  ·exact decide_eq_true m0
def AfX:Sp:=fun vs H Q _=>∃ d kvs J n,vs = [.ref d,.int n]/\Rd H d (.dK kvs)/\LAt KvAt H kvs J/\Q (.bl (!(Dn J (jGo J 7 n)).isSome)) H
theorem AkT (T:Txt K mg t):Binds K t.d_qd ["pairs","whole"] []:=T.F_qd.binds (ps:=["pairs","whole"]) fun _ _ _ _ _ _ us hl=>match us,hl with | [_,_],_=>rfl
theorem AjU (T:Txt K mg t):FnOk P w K mg base (CX1 P w) 1 t.f_qd t.d_qd ["pairs","whole"] (AfX):=by
 refine T.F_qd.ok1 sc_qd (fun vs H Q E h=>?_) (fun cdv A outer s H vs Q E hr h=>?_)
 ·obtain ⟨d,kvs,J,n,rfl,hd,lj,q⟩:=h
  rfl
 ·obtain ⟨d,kvs,J,n,rfl,hd,lj,q⟩:=h
  have hu:=Co hr
  have hu64:=hr.units
  refine ⟨_,(Bd (Bs (i:=2) sc_qd.nd rfl (Or.inl rfl) (pv 1))
   (Bd (Dh PassesOwn.leaving rfl (Sk rfl T.z_range (Ba (Gw rfl T.g_MOST_GOINGS.choose_spec.1 T.g_MOST_GOINGS.choose_spec.2) Be)) (Bu (i:=3) sc_qd.nd rfl (Or.inl rfl))
    (Bi (Fe (Yo (AbN hu (pv 2) (pv 0)))
    (Bi (Bs (i:=2) sc_qd.nd rfl (Or.inl rfl) (Cp (Act) (On hu (pv 0) (pv 2) (fun _ _=>rfl)) Bh (fun _ _=>rfl))))
    Dr)))
   (Bi (Cd (Uh (Nt hu (pv 2) (pv 0))))))),?_⟩
  try dsimp only [Cg,By]
  walk_at "rd"
  refine Agp (hi:=7) (n:=7) (fun R q'=>by walk_at "rd"; exact q') ⟨by decide,by decide⟩ rfl (fun i σ H'=>∃ v3,σ = [some (.ref d),some (.int n),some (.int (jGo J i n)),v3]/\H' = H) ⟨none,rfl,rfl⟩ ?_ ?_
  ·rintro i σ H' hi ⟨v3,rfl,rfl⟩
   walk_at "rd"
   refine ⟨d,_,rfl,.inl ⟨kvs,Sum.inl (jGo J i n),hd,rfl,rfl⟩,?_⟩
   walk_at "rd"
   rcases Yt lj (jGo J i n) with ⟨h1,h2⟩ | ⟨m,p,h1,h2,hp⟩
   ·rw [h2]
    refine Qo ?_
    walk_at "rd"
    exact ⟨_,by show _ = [_,_,some (V.int (Do J (jGo J i n))),_]; unfold Do; rw [h1],rfl⟩
   ·rw [h2]
    refine Ny ?_
    walk_at "rd"
    refine ⟨d,.ref p,rfl,.inl ⟨kvs,Sum.inl (jGo J i n),hd,rfl,h2.symm⟩,?_⟩
    walk_at "rd"
    refine Ajz hp ?_ rfl
    walk_at "rd"
    exact ⟨_,by show _ = [_,_,some (V.int (Do J (jGo J i n))),_]; unfold Do; rw [h1],rfl⟩
  ·rintro σ H' ⟨v3,rfl,rfl⟩
   walk_at "rd"
   refine ⟨d,_,rfl,.inl ⟨kvs,Sum.inl (jGo J 7 n),hd,rfl,rfl⟩,?_⟩
   rcases Yt lj (jGo J 7 n) with ⟨h1,h2⟩ | ⟨m,p,h1,h2,hp⟩
   ·rw [h2]; rw [h1] at q; exact q
   ·rw [h2]; rw [h1] at q; exact q
def AdK:Sp:=fun vs H Q _=>∃ d b kk xs J,vs = [.ref d,.ref b]/\H d = some (.dK kk)/\H b = some (.lst xs)/\LAt TrjAt H xs J/\AaT kk J/\∀ p kvs H',H p = none->Same H H'->H' p = some (.dK kvs)->LAt KvAt H' kvs J->Q (.ref p) H'
theorem Akx (T:Txt K mg t):Binds K t.d_qr ["kinds","joins"] []:=T.F_qr.binds (ps:=["kinds","joins"]) fun _ _ _ _ _ _ us hl=>match us,hl with | [_,_],_=>rfl
theorem Ai7 (T:Txt K mg t):FnOk P w K mg base (CX1 P w) 4 t.f_qr t.d_qr ["kinds","joins"] (AdK):=by
 refine T.F_qr.ok1 sc_qr (fun vs H Q E h=>?_) (fun cdv A outer s H vs Q E hr h=>?_)
 ·obtain ⟨d,b,kk,xs,J,rfl,hd,hb,lj,jo,q⟩:=h
  rfl
 ·obtain ⟨d,b,kk,xs,J,rfl,hd,hb,lj,jo,q⟩:=h
  have hu:=Co hr
  have hu64:=hr.units
  refine ⟨_,(Bd (Bs (i:=2) sc_qr.nd rfl (Or.inl rfl) Jt)
   (Bd (Dh PassesOwn.leaving rfl (Cr (pv 1)) (Nf rfl (Ce (Bu (i:=3) sc_qr.nd rfl (Or.inl rfl)) (Ce (Bu (i:=4) sc_qr.nd rfl (Or.inl rfl)) (Ce (Bu (i:=5) sc_qr.nd rfl (Or.inl rfl)) Fr))))
    (Bd (Cb (Bp (AjY T) (hr.mono (by decide)) rfl T.m_qk T.F_qk.kp (Akp T) .nil Bw (Ba (pv 0) (Ba (pv 3) (Ba (pv 4) (Ba (pv 5) Be))))))
   (Bd (Cb (Bp (Gg T) (hr.mono (by decide)) rfl T.m_qb T.F_qb.kp (Jl T) .nil Bw (Ba (Uh (Nt hu (pv 3) (pv 2))) (Ba Bx Be))))
   (Bi (Fq hu (pv 2) (pv 3) (AgP (Ba (pv 4) (Ba (pv 5) Be))) rfl)))))
   (Bd (Tz (Dh PassesOwn.leaving rfl (Tq (pv 2)) (Bu (i:=3) sc_qr.nd rfl (Or.inl rfl))
    (Bi (Cb (Bp (Gg T) (hr.mono (by decide)) rfl T.m_qb T.F_qb.kp (Jl T) .nil Bw (Ba (Bp (AjU T) (hr.mono (by decide)) rfl T.m_qd T.F_qd.kp (AkT T) .nil Bw (Ba (pv 2) (Ba (pv 3) Be))) (Ba Bx Be)))))))
   (Bi (Cd (pv 2)))))),?_⟩
  try dsimp only [Cg,By]
  walk_at "rd"
  intro p hp
  have s0:Same H (upd H p (.dK [])):=Same.new hp
  have e0:(upd H p (.dK [])) p = some (.dK []):=Bn
  generalize upd H p (.dK []) = H0 at s0 e0
  walk_at "rd"
  refine Lf (i:=1) rfl (SqL.of (s0 _ _ hb)) (fun i σ H'=>∃ v3 v4 v5 kvs,σ = [some (.ref d),some (.ref b),some (.ref p),v3,v4,v5]/\Same H H'/\H' p = some (.dK kvs)/\LAt KvAt H' kvs (J.take i)) ⟨none,none,none,[],rfl,s0,e0,LAt.nil⟩ (fun i σ H' _ ⟨_,_,_,_,_,s,_⟩=>SqL.of (s _ _ hb)) ?_ ?_
  ·rintro i x σ H' hi ⟨v3,v4,v5,kvs,rfl,s,e,lk⟩
   obtain ⟨j,ej,a,rfl,ha⟩:=lj.get hi
   have hj:=List.mem_of_getElem? ej
   have ha':=s _ _ ha
   obtain ⟨k,hk,hw,hb'⟩:=jo.kd j hj
   obtain ⟨n1,n2,n3⟩:=jo.nn j hj
   have hlen:kvs.length <= 400:=by
    rw [lk.1,List.length_take]
    have:=jo.ln
    omega
   have hno:Ci kvs (Sum.inl j.1) = none:=by
    rcases Yt lk j.1 with ⟨_,h2⟩ | ⟨m,_,h1,_,_⟩
    ·exact h2
    ·exact absurd (show j.1 ∈ (J.take i).map (·.1) from List.mem_map.mpr ⟨_,Ub h1,rfl⟩) (Ni (f:=(·.1)) jo.nw ej)
   walk_at "rd"
   refine ⟨d,kk,j.1,j.2.1,j.2.2,k,rfl,s _ _ hd,n1,n2,n3,jo.mr j hj,hk,hw,hb',?_⟩
   walk_at "rd"
   ·refine ⟨by show 2 <= sizeLine; decide,fun t ht=>?_⟩
    walk_at "rd"
    refine AcZ (Same.new ht _ _ e) ?_ (Fu (by omega))
    rw [Jp _ hno]
    have ntp:t ≠ p:=(Bq e ht).symm
    have kt:∀ q' zs,H' q' = some (.tup zs)->(upd (upd H' t (.tup [.int j.2.1,.int j.2.2])) p (.dK (kvs ++ [(Sum.inl j.1,V.ref t)]))) q' = some (.tup zs):=fun q' zs z=>by
     rw [Bg (Dj z e (by intro w; cases w)),Bg (Bq z ht)]; exact z
    refine ⟨_,_,_,_,rfl,fun q' o z=>?_,Bn,?_⟩
    ·rw [Bg (Bq z hp),Bg (Bq (s _ _ z) ht)]; exact s _ _ z
    ·rw [Cu ej]
     exact LAt.snoc (lk.mono fun x y h=>h.mono kt) ⟨rfl,t,rfl,by rw [Bg ntp,Bn]⟩
   ·rw [hno]; rfl
  ·rintro σ H' ⟨v3,v4,v5,kvs,rfl,s,e,lk⟩
   rw [lj.1,List.take_length] at lk
   dsimp only
   with_reducible refine AaN ?_
   refine AhY (i:=2) (a:=p) (kvs:=kvs) rfl e (fun i σ H''=>∃ v3 v4 v5,σ = [some (.ref d),some (.ref b),some (.ref p),v3,v4,v5]/\H'' = H') ⟨_,_,_,rfl,rfl⟩ (fun i σ H' _ ⟨_,_,_,_,z⟩=>by subst z; exact e) ?_ ?_
   ·rintro o i kv σ H'' hi ⟨v3,v4,v5,rfl,rfl⟩
    obtain ⟨j,ej,e1,_⟩:=lk.get hi
    have hj:=List.mem_of_getElem? ej
    obtain ⟨key,val⟩:=kv
    dsimp only at e1
    subst e1
    show La _ (.int j.1) _ _ _
    walk_at "rd"
    refine ⟨p,kvs,J,j.1,rfl,Ai1,lk.mono fun x y h=>h.mono fun q' zs z=>?_,?_⟩
    ·rw [Bg (Dj z e (by intro w; cases w))]; exact z
    ·walk_at "rd"
     ·exact ⟨Bn,_,_,_,rfl,Adf e⟩
     ·rw [jo.en j hj]; rfl
   ·rintro σ H'' ⟨v3,v4,v5,rfl,rfl⟩
    walk_at "rd"
    exact q p kvs _ hp s e lk
def Ac2:Sp:=fun vs H Q _=>∃ d kvs J,vs = [.ref d]/\H d = some (.dK kvs)/\LAt KvAt H kvs J/\(J.map (·.2)).Nodup/\J.length <= 400/\∀ p H',H p = none->Same H H'->H' p = some (.dT (kW J))->Q (.ref p) H'
theorem Aks (T:Txt K mg t):Binds K t.d_qi ["pairs"] []:=T.F_qi.binds (ps:=["pairs"]) fun _ _ _ _ _ _ us hl=>match us,hl with | [_],_=>rfl
theorem AjV (T:Txt K mg t):FnOk P w K mg base (CX1 P w) 2 t.f_qi t.d_qi ["pairs"] (Ac2):=by
 refine T.F_qi.ok1 sc_qi (fun vs H Q E h=>?_) (fun cdv A outer s H vs Q E hr h=>?_)
 ·obtain ⟨d,kvs,J,rfl,hd,lk,np,ln,q⟩:=h
  rfl
 ·obtain ⟨d,kvs,J,rfl,hd,lk,np,ln,q⟩:=h
  have hu:=Co hr
  have hu64:=hr.units
  refine ⟨_,(Bd (Bs (i:=1) sc_qi.nd rfl (Or.inl rfl) Adi)
   (Bd (Tz (Dh PassesOwn.leaving rfl (Acz (pv 0)) (Nf rfl (Ce (Bu (i:=2) sc_qi.nd rfl (Or.inl rfl)) (Ce (Bu (i:=3) sc_qi.nd rfl (Or.inl rfl)) Fr)))
    (Bd (Cb (Bp (Gg T) (hr.mono (by decide)) rfl T.m_qb T.F_qb.kp (Jl T) .nil Bw (Ba (Uh (Nt hu (pv 3) (pv 1))) (Ba Bx Be))))
   (Bi (Fq hu (pv 1) (pv 3) (pv 2) rfl)))))
   (Bi (Cd (pv 1))))),?_⟩
  try dsimp only [Cg,By]
  walk_at "rd"
  intro p hp
  have s0:Same H (upd H p (.dT [])):=Same.new hp
  have e0:(upd H p (.dT [])) p = some (.dT []):=Bn
  generalize upd H p (.dT []) = H0 at s0 e0
  have ndp:d ≠ p:=Bq hd hp
  walk_at "rd"
  refine Ag6 (i:=0) (a:=d) (kvs:=kvs) rfl (s0 _ _ hd) (fun i σ H'=>∃ v2 v3,σ = [some (.ref d),some (.ref p),v2,v3]/\Same H H'/\H' p = some (.dT (kW (J.take i)))) ⟨none,none,rfl,s0,e0⟩ ?_ ?_
  ·rintro o i kv t σ H' hi ht ntd ⟨v2,v3,rfl,s,e⟩
   obtain ⟨j,ej,e1,a,e2,ha⟩:=lk.get hi
   obtain ⟨key,val⟩:=kv
   dsimp only at e1 e2
   subst e1 e2
   have ntp:p ≠ t:=Bq e ht
   have had:a ≠ d:=Dj ha hd (by intro w; cases w)
   have hat:a ≠ t:=Bq (s _ _ ha) ht
   have hap:a ≠ p:=Bq ha hp
   have ep:(upd (upd H' d (.frz o (.dK kvs))) t (.tup [.int j.1,.ref a])) p = some (.dT (kW (J.take i))):=by rw [Bg ntp,Bg ndp.symm]; exact e
   have ea:(upd (upd H' d (.frz o (.dK kvs))) t (.tup [.int j.1,.ref a])) a = some (.tup ([Sum.inl j.2.1,Sum.inl j.2.2].map kV)):=by rw [Bg hat,Bg had]; exact s _ _ ha
   have et:(upd (upd H' d (.frz o (.dK kvs))) t (.tup [.int j.1,.ref a])) t = some (.tup [.int j.1,.ref a]):=Bn
   have ed:(upd (upd H' d (.frz o (.dK kvs))) t (.tup [.int j.1,.ref a])) d = some (.frz o (.dK kvs)):=by rw [Bg ntd.symm,Bn]
   have back:∀ q' u,H q' = some u->q' ≠ d->(upd (upd H' d (.frz o (.dK kvs))) t (.tup [.int j.1,.ref a])) q' = some u:=fun q' u z nz=>by
    rw [Bg (Bq (s _ _ z) ht),Bg nz]; exact s _ _ z
   show Wv _ _ _ _ _ (upd (upd H' d (.frz o (.dK kvs))) t (.tup [.int j.1,.ref a])) _
   generalize upd (upd H' d (.frz o (.dK kvs))) t (.tup [.int j.1,.ref a]) = H2 at ep ea et ed back
   have hno:Ci (kW (J.take i)) [Sum.inl j.2.1,Sum.inl j.2.2] = none:=Aj4 (Ni (f:=(·.2)) np ej)
   have hlen:(kW (J.take i)).length <= 400:=by unfold kW; rw [List.length_map,List.length_take]; omega
   walk_at "rd"
   refine ⟨p,_,rfl,DGet.t ep ea,?_⟩
   rw [hno]
   walk_at "rd"
   rotate_left
   ·rfl
   refine ⟨p,_,rfl,DPut.t ep ea (Fu (by omega)),?_⟩
   rw [Jp _ hno]
   refine ⟨by rw [Bg ndp]; exact ed,_,_,rfl,fun q' u z=>?_,?_⟩
   ·by_cases hq:q' = d
    ·subst hq
     rw [Bn]
     rw [hd] at z; exact z
    ·rw [Bg hq,Bg (Bq z hp)]; exact back _ _ z hq
   ·rw [Bg ndp.symm,Bn,Cu ej]
    simp [kW]
  ·rintro σ H' ⟨v2,v3,rfl,s,e⟩
   rw [lk.1,List.take_length] at e
   walk_at "rd"
   exact q p _ hp s e
theorem AkO (T:Txt K mg t):Binds K t.d_qt ["self","signs","mates","joins"] []:=T.F_qt.binds (ps:=["self","signs","mates","joins"]) fun _ _ _ _ _ _ us hl=>match us,hl with | [_,_,_,_],_=>rfl
theorem Akd (T:Txt K mg t):FnOk P w K mg base (CX1 P w) 5 t.f_qt t.d_qt ["self","signs","mates","joins"] (Aaj t.C_Book):=by
 refine T.F_qt.ok1 Aje (fun vs H Q E h=>?_) (fun cdv A outer s H vs Q E hr h=>?_)
 ·obtain ⟨p,dx,a,b,cc,xs,ys,zs,signs,mates,J,rfl,hp,ha,hb,hc,ls,lm,lj,so,mo,nd,jo,hl,q⟩:=h
  rfl
 ·obtain ⟨p,dx,a,b,cc,xs,ys,zs,signs,mates,J,rfl,hp,ha,hb,hc,ls,lm,lj,so,mo,nd,jo,hl,q⟩:=h
  have hu:=Co hr
  have hu64:=hr.units
  refine ⟨_,(Bd (Cb (Bp (Abh T) (hr.mono (by decide)) rfl T.m_qc T.F_qc.kp (Aea T) .nil Bw (Ba (pv 1) (Ba Bh Be))))
   (Bd (Cb (Bp (Abh T) (hr.mono (by decide)) rfl T.m_qc T.F_qc.kp (Aea T) .nil Bw (Ba (pv 2) (Ba Bh Be))))
   (Bd (Cb (Bp (Abh T) (hr.mono (by decide)) rfl T.m_qc T.F_qc.kp (Aea T) .nil Bw (Ba (pv 3) (Ba Bh Be))))
   (Bd (Rx (pv 0) (Bp (Aki T) (hr.mono (by decide)) rfl T.m_qo T.F_qo.kp (AkF T) .nil Bw (Ba (pv 1) (Ba (pv 2) Be))) rfl)
   (Bd (Rx (pv 0) (Bp (Ajd T) (hr.mono (by decide)) rfl T.m_qs T.F_qs.kp (Akn T) .nil Bw (Ba (pv 1) Be)) rfl)
   (Bd (Rx (pv 0) (Bp (AjI T) (hr.mono (by decide)) rfl T.m_qx T.F_qx.kp (AkI T) .nil Bw (Ba (pv 2) Be)) rfl)
   (Bd (Rx (pv 0) (Bp (Ai7 T) (hr.mono (by decide)) rfl T.m_qr T.F_qr.kp (Akx T) .nil Bw (Ba (Xf (pv 0) rfl) (Ba (pv 3) Be))) rfl)
   (Bi (Rx (pv 0) (Bp (AjV T) (hr.mono (by decide)) rfl T.m_qi T.F_qi.kp (Aks T) .nil Bw (Ba (Xf (pv 0) rfl) Be)) rfl))))))))),?_⟩
  try dsimp only [Cg,By]
  have nt:∀ q' zs,H q' = some (.tup zs)->q' ≠ p:=fun q' zs h=>Dj h hp (by intro z; cases z)
  have nap:a ≠ p:=Dj ha hp (by intro z; cases z)
  have nbp:b ≠ p:=Dj hb hp (by intro z; cases z)
  have ncp:cc ≠ p:=Dj hc hp (by intro z; cases z)
  have c3:∀ x ∈ xs,∃ b ys,x = V.ref b/\H b = some (.tup ys)/\((ys.length:Nat):Int) = 3:=fun x hx=>by
   obtain ⟨i,hi⟩:=List.getElem?_of_mem hx
   obtain ⟨s,_,q',e,h⟩:=ls.get hi
   exact ⟨q',_,e,h,rfl⟩
  have c2:∀ x ∈ ys,∃ b ys,x = V.ref b/\H b = some (.tup ys)/\((ys.length:Nat):Int) = 2:=fun x hx=>by
   obtain ⟨i,hi⟩:=List.getElem?_of_mem hx
   obtain ⟨s,_,q',e,h⟩:=lm.get hi
   exact ⟨q',_,e,h,rfl⟩
  have c3j:∀ x ∈ zs,∃ b ys,x = V.ref b/\H b = some (.tup ys)/\((ys.length:Nat):Int) = 3:=fun x hx=>by
   obtain ⟨i,hi⟩:=List.getElem?_of_mem hx
   obtain ⟨s,_,q',e,h⟩:=lj.get hi
   exact ⟨q',_,e,h,rfl⟩
  have mJ:∀ {H'},Keep p H H'->LAt TrjAt H' zs J:=fun k=>lj.mono fun x y h=>h.mono fun q' zs e=>k q' _ e (nt q' zs e)
  have mT:∀ {H'},Keep p H H'->LAt TripAt H' xs signs:=fun k=>ls.mono fun x y h=>h.mono fun q' zs e=>k q' _ e (nt q' zs e)
  have mP:∀ {H'},Keep p H H'->LAt PairAt H' ys mates:=fun k=>lm.mono fun x y h=>h.mono fun q' zs e=>k q' _ e (nt q' zs e)
  have nd1:=(List.nodup_append.mp nd).1
  have nd2:=(List.nodup_append.mp nd).2.1
  walk_at "rd"
  refine ⟨a,xs,_,rfl,ha,c3,?_⟩
  walk_at "rd"
  refine ⟨b,ys,_,rfl,hb,c2,?_⟩
  walk_at "rd"
  refine ⟨cc,zs,_,rfl,hc,c3j,?_⟩
  walk_at "rd"
  refine ⟨a,b,xs,ys,signs,mates,rfl,ha,hb,ls,lm,so,mo,nd,by omega,fun dk hk=>?_⟩
  have fk:H dk = none:=hk
  walk_at "rd"
  have k1:Keep p H (upd H dk (.dK (kK signs ++ kM mates))):=Keep.new hk
  have p1:(upd H dk (.dK (kK signs ++ kM mates))) p = some (.ins t.C_Book dx []):=by rw [Bg (Bq hp hk)]; exact hp
  have e1:(upd H dk (.dK (kK signs ++ kM mates))) dk = some (.dK (kK signs ++ kM mates)):=Bn
  generalize upd H dk (.dK (kK signs ++ kM mates)) = H1 at k1 p1 e1
  refine ⟨p,_,_,_,rfl,p1,T.cl_Book,T.n_Book_kinds,by show 0 < 1000; decide,?_⟩
  have k2:Keep p H (upd H1 p (.ins t.C_Book dx (Br "kinds" (.ref dk) []))):=k1.trans Keep.put
  have p2:(upd H1 p (.ins t.C_Book dx (Br "kinds" (.ref dk) []))) p = some (.ins t.C_Book dx (Br "kinds" (.ref dk) [])):=Bn
  have e2:(upd H1 p (.ins t.C_Book dx (Br "kinds" (.ref dk) []))) dk = some (.dK (kK signs ++ kM mates)):=by rw [Bg (Dj e1 p1 (by intro z; cases z))]; exact e1
  generalize upd H1 p (.ins t.C_Book dx (Br "kinds" (.ref dk) [])) = H2 at k2 p2 e2
  walk_at "rd"
  refine ⟨a,xs,signs,rfl,k2 _ _ ha nap,mT k2,nd1,by omega,fun dr hk=>?_⟩
  have fr':H dr = none:=k2.free p2 hk
  walk_at "rd"
  have k3:Keep p H (upd H2 dr (.dK (kR signs))):=k2.trans (Keep.new hk)
  have p3:(upd H2 dr (.dK (kR signs))) p = some (.ins t.C_Book dx (Br "kinds" (.ref dk) [])):=by rw [Bg (Bq p2 hk)]; exact p2
  have e3:(upd H2 dr (.dK (kR signs))) dk = some (.dK (kK signs ++ kM mates)):=by rw [Bg (Bq e2 hk)]; exact e2
  have r3:(upd H2 dr (.dK (kR signs))) dr = some (.dK (kR signs)):=Bn
  generalize upd H2 dr (.dK (kR signs)) = H3 at k3 p3 e3 r3
  refine ⟨p,_,_,_,rfl,p3,T.cl_Book,T.n_Book_ranks,Nat.lt_of_le_of_lt (Dd _ _ _) (by show 0 + 1 < 1000; decide),?_⟩
  have k4:Keep p H (upd H3 p (.ins t.C_Book dx (Br "ranks" (.ref dr) (Br "kinds" (.ref dk) [])))):=k3.trans Keep.put
  have p4:(upd H3 p (.ins t.C_Book dx (Br "ranks" (.ref dr) (Br "kinds" (.ref dk) [])))) p = some (.ins t.C_Book dx (Br "ranks" (.ref dr) (Br "kinds" (.ref dk) []))):=Bn
  have e4:(upd H3 p (.ins t.C_Book dx (Br "ranks" (.ref dr) (Br "kinds" (.ref dk) [])))) dk = some (.dK (kK signs ++ kM mates)):=by rw [Bg (Dj e3 p3 (by intro z; cases z))]; exact e3
  have r4:(upd H3 p (.ins t.C_Book dx (Br "ranks" (.ref dr) (Br "kinds" (.ref dk) [])))) dr = some (.dK (kR signs)):=by rw [Bg (Dj r3 p3 (by intro z; cases z))]; exact r3
  generalize upd H3 p (.ins t.C_Book dx (Br "ranks" (.ref dr) (Br "kinds" (.ref dk) []))) = H4 at k4 p4 e4 r4
  walk_at "rd"
  refine ⟨b,ys,mates,rfl,k4 _ _ hb nbp,mP k4,nd2,by omega,fun dm hk=>?_⟩
  have fm:H dm = none:=k4.free p4 hk
  walk_at "rd"
  have k5:Keep p H (upd H4 dm (.dK (kB mates))):=k4.trans (Keep.new hk)
  have p5:(upd H4 dm (.dK (kB mates))) p = some (.ins t.C_Book dx (Br "ranks" (.ref dr) (Br "kinds" (.ref dk) []))):=by rw [Bg (Bq p4 hk)]; exact p4
  have e5:(upd H4 dm (.dK (kB mates))) dk = some (.dK (kK signs ++ kM mates)):=by rw [Bg (Bq e4 hk)]; exact e4
  have r5:(upd H4 dm (.dK (kB mates))) dr = some (.dK (kR signs)):=by rw [Bg (Bq r4 hk)]; exact r4
  have m5:(upd H4 dm (.dK (kB mates))) dm = some (.dK (kB mates)):=Bn
  generalize upd H4 dm (.dK (kB mates)) = H5 at k5 p5 e5 r5 m5
  refine ⟨p,_,_,_,rfl,p5,T.cl_Book,T.n_Book_mates,Nat.lt_of_le_of_lt (Dd _ _ _) (Nat.lt_of_le_of_lt (Nat.succ_le_succ (Dd _ _ _)) (by show 0 + 1 + 1 < 1000; decide)),?_⟩
  have k6:Keep p H (upd H5 p (.ins t.C_Book dx (Br "mates" (.ref dm) (Br "ranks" (.ref dr) (Br "kinds" (.ref dk) []))))):=k5.trans Keep.put
  have p6:(upd H5 p (.ins t.C_Book dx (Br "mates" (.ref dm) (Br "ranks" (.ref dr) (Br "kinds" (.ref dk) []))))) p = some (.ins t.C_Book dx (Br "mates" (.ref dm) (Br "ranks" (.ref dr) (Br "kinds" (.ref dk) [])))):=Bn
  have e6:(upd H5 p (.ins t.C_Book dx (Br "mates" (.ref dm) (Br "ranks" (.ref dr) (Br "kinds" (.ref dk) []))))) dk = some (.dK (kK signs ++ kM mates)):=by rw [Bg (Dj e5 p5 (by intro z; cases z))]; exact e5
  have r6:(upd H5 p (.ins t.C_Book dx (Br "mates" (.ref dm) (Br "ranks" (.ref dr) (Br "kinds" (.ref dk) []))))) dr = some (.dK (kR signs)):=by rw [Bg (Dj r5 p5 (by intro z; cases z))]; exact r5
  have m6:(upd H5 p (.ins t.C_Book dx (Br "mates" (.ref dm) (Br "ranks" (.ref dr) (Br "kinds" (.ref dk) []))))) dm = some (.dK (kB mates)):=by rw [Bg (Dj m5 p5 (by intro z; cases z))]; exact m5
  generalize upd H5 p (.ins t.C_Book dx (Br "mates" (.ref dm) (Br "ranks" (.ref dr) (Br "kinds" (.ref dk) [])))) = H6 at k6 p6 e6 r6 m6
  walk_at "rd"
  refine ⟨p,_,_,_,_,rfl,p6,T.cl_Book,T.n_Book_kinds,by rw [Cm,if_neg (by decide +kernel),Cm,if_neg (by decide +kernel),Cm,if_pos rfl],?_⟩
  walk_at "rd"
  refine ⟨dk,cc,_,zs,J,rfl,e6,k6 _ _ hc ncp,mJ k6,jo,fun dp kvs H7 hk s7 q7 lk7=>?_⟩
  have fp:H dp = none:=k6.free p6 hk
  walk_at "rd"
  have k7:Keep p H H7:=fun q' o e n=>s7 _ _ (k6 _ _ e n)
  have p7:=s7 _ _ p6
  have e7:=s7 _ _ e6
  have r7:=s7 _ _ r6
  have m7:=s7 _ _ m6
  clear k6 p6 e6 r6 m6 s7
  refine ⟨p,_,_,_,rfl,p7,T.cl_Book,T.n_Book_pairs,Nat.lt_of_le_of_lt (Dd _ _ _) (Nat.lt_of_le_of_lt (Nat.succ_le_succ (Nat.le_trans (Dd _ _ _) (Nat.succ_le_succ (Dd _ _ _)))) (by show 0 + 1 + 1 + 1 < 1000; decide)),?_⟩
  have k8:Keep p H (upd H7 p (.ins t.C_Book dx (Br "pairs" (.ref dp) (Br "mates" (.ref dm) (Br "ranks" (.ref dr) (Br "kinds" (.ref dk) [])))))):=k7.trans Keep.put
  have p8:(upd H7 p (.ins t.C_Book dx (Br "pairs" (.ref dp) (Br "mates" (.ref dm) (Br "ranks" (.ref dr) (Br "kinds" (.ref dk) [])))))) p = some (.ins t.C_Book dx (Br "pairs" (.ref dp) (Br "mates" (.ref dm) (Br "ranks" (.ref dr) (Br "kinds" (.ref dk) []))))):=Bn
  have e8:(upd H7 p (.ins t.C_Book dx (Br "pairs" (.ref dp) (Br "mates" (.ref dm) (Br "ranks" (.ref dr) (Br "kinds" (.ref dk) [])))))) dk = some (.dK (kK signs ++ kM mates)):=by rw [Bg (Dj e7 p7 (by intro z; cases z))]; exact e7
  have r8:(upd H7 p (.ins t.C_Book dx (Br "pairs" (.ref dp) (Br "mates" (.ref dm) (Br "ranks" (.ref dr) (Br "kinds" (.ref dk) [])))))) dr = some (.dK (kR signs)):=by rw [Bg (Dj r7 p7 (by intro z; cases z))]; exact r7
  have m8:(upd H7 p (.ins t.C_Book dx (Br "pairs" (.ref dp) (Br "mates" (.ref dm) (Br "ranks" (.ref dr) (Br "kinds" (.ref dk) [])))))) dm = some (.dK (kB mates)):=by rw [Bg (Dj m7 p7 (by intro z; cases z))]; exact m7
  have q8:(upd H7 p (.ins t.C_Book dx (Br "pairs" (.ref dp) (Br "mates" (.ref dm) (Br "ranks" (.ref dr) (Br "kinds" (.ref dk) [])))))) dp = some (.dK kvs):=by rw [Bg (Dj q7 p7 (by intro z; cases z))]; exact q7
  have lk8:LAt KvAt (upd H7 p (.ins t.C_Book dx (Br "pairs" (.ref dp) (Br "mates" (.ref dm) (Br "ranks" (.ref dr) (Br "kinds" (.ref dk) [])))))) kvs J:=lk7.mono fun x y h=>h.mono fun q' zs z=>by rw [Bg (Dj z p7 (by intro z; cases z))]; exact z
  generalize upd H7 p (.ins t.C_Book dx (Br "pairs" (.ref dp) (Br "mates" (.ref dm) (Br "ranks" (.ref dr) (Br "kinds" (.ref dk) []))))) = H8 at k8 p8 e8 r8 m8 q8 lk8
  clear k7 p7 e7 r7 m7 q7 lk7
  walk_at "rd"
  refine ⟨p,_,_,_,_,rfl,p8,T.cl_Book,T.n_Book_pairs,by rw [Cm,if_pos rfl],?_⟩
  walk_at "rd"
  refine ⟨dp,kvs,J,rfl,q8,lk8,jo.np,jo.ln,fun dw H9 hk s9 w9=>?_⟩
  have fw:H dw = none:=k8.free p8 hk
  walk_at "rd"
  have p9:=s9 _ _ p8
  refine ⟨p,_,_,_,rfl,p9,T.cl_Book,T.n_Book_wholes,Nat.lt_of_le_of_lt (Dd _ _ _) (Nat.lt_of_le_of_lt (Nat.succ_le_succ (Nat.le_trans (Dd _ _ _) (Nat.succ_le_succ (Nat.le_trans (Dd _ _ _) (Nat.succ_le_succ (Dd _ _ _)))))) (by show 0 + 1 + 1 + 1 + 1 < 1000; decide)),?_⟩
  refine q _ kvs dx dk dr dm dp dw (fun q' o e n=>by rw [Bg n]; exact s9 _ _ (k8 _ _ e n)) fk fr' fm fp fw Bn ?_ ?_ ?_ ?_ ?_ ?_
  ·rw [Bg (Dj e8 p8 (by intro z; cases z))]; exact s9 _ _ e8
  ·rw [Bg (Dj r8 p8 (by intro z; cases z))]; exact s9 _ _ r8
  ·rw [Bg (Dj m8 p8 (by intro z; cases z))]; exact s9 _ _ m8
  ·rw [Bg (Dj q8 p8 (by intro z; cases z))]; exact s9 _ _ q8
  ·rw [Bg (Dj w9 p9 (by intro z; cases z))]; exact w9
  ·exact lk8.mono fun x y h=>h.mono fun q' zs z=>by rw [Bg (Dj z p8 (by intro z; cases z))]; exact s9 _ _ z
local macro_rules | `(tactic| walk_at "u")=>`(tactic| with_reducible refine AbP (by assumption) ?_)
local macro_rules | `(tactic| walk_at "u")=>`(tactic| with_reducible refine Ahs (by assumption) AdD ?_)
theorem AkE (T:Txt K mg t):Binds K t.d_qu ["self","sign"] []:=T.F_qu.binds (ps:=["self","sign"]) fun _ _ _ _ _ _ us hl=>match us,hl with | [_,_],_=>rfl
theorem Ai5 (T:Txt K mg t):FnOk P w K mg base (CX1 P w) 2 t.f_qu t.d_qu ["self","sign"] (Zp t.C_Book):=by
 refine T.F_qu.ok1 Ajq (fun vs H Q E h=>?_) (fun cdv A outer s H vs Q E hr h=>?_)
 ·obtain ⟨b,n,k,r,m,p,w,rfl,⟨dx,dk,dr,dm,dp,dw,h1,h2,h3,h4,h5,h6⟩,q⟩:=h
  rfl
 ·obtain ⟨b,n,k,r,m,p,w,rfl,⟨dx,dk,dr,dm,dp,dw,h1,h2,h3,h4,h5,h6⟩,q⟩:=h
  have hu:=Co hr
  have hu64:=hr.units
  refine ⟨_,(Bi (Cd (Bp (Wf T) (hr.mono (by decide)) rfl T.m_qn T.F_qn.kp (Abc T) .nil Bw (Ba (Xf (pv 0) rfl) (Ba (pv 1) Be))))),?_⟩
  try dsimp only [Cg,By]
  walk_at "rd"
  refine ⟨b,_,_,_,_,rfl,h1,T.cl_Book,T.n_Book_kinds,Ac6,?_⟩
  walk_at "rd"
  exact q
def Abw (K:PySem.W.Frag) (C:Addr):Sp:=fun vs H Q _=>∃ b l U M r m p w ts,vs = [.ref b,.ref l]/\BookAt C H b (kK U ++ kM M) r m p w/\SqL K H l (List.map V.int ts)/\ts.length <= 300 /\
 ∀ (wl:Addr) (xs:List V) (H':Hp),H wl = none->Same H H'->(∀ x ∈ xs,∃ p,x = V.ref p/\H p = none)->LLat H' wl xs (grp (Dq U M) ts)->Q (.ref wl) H'
-- EU_WOF
def Af3:PSp:=fun ps P=>∃ U M J ts,ps = [.bk U M J,.lst (List.map .int ts)]/\ts.length <= 300/\P (.lst (List.map (fun g=>PV.lst (List.map .int g)) (grp (Dq U M) ts)))
theorem Ahx {C:Addr} {ω:Om} {E:XK} {m n:Bool} {t:TA} {u:UA} (ha:AU K C ω [m,n] t u):EU K C ω (Jz (Abw K C) [] E t) (Tb Af3 u) :=
 fun B G0 H0 own G σ H ρ P Q S hu k=>ha B G0 H0 own G σ H ρ _ _ S hu fun vs ps G1 H1 w1 ok ⟨U,M,J,ts,e,hl,h⟩=>by
  obtain ⟨v,w,p,q,rfl,e2,r1,r2⟩:=Qj ok
  rw [e] at e2; cases e2
  obtain ⟨b,kvs,rfl,bk,_⟩:=r1.bk
  obtain ⟨a,xs,rfl,ea,l⟩:=r2.lst w1.i
  rw [Rv l] at ea
  refine ⟨b,a,U,M,_,_,_,_,ts,rfl,bk.mono fun _ _ e _=>w1.i _ _ e,SqL.of ea,hl,fun wl xs H2 hwl s2 fx ll=>?_⟩
  refine k _ _ _ H2 (w1.trans (Qe w1.i s2)) (Rep.ofL (Dt hwl ll.li) ⟨by rw [ll.at'.1,List.length_map],fun i x y hx hy=>?_⟩) h
  rw [List.getElem?_map] at hy
  obtain ⟨g,hg,rfl⟩:=Option.map_eq_some_iff.mp hy
  obtain ⟨p,e1,hp⟩:=ll.at'.2 i x g hx hg
  obtain ⟨p',e2,hn⟩:=fx x (List.mem_of_getElem? hx)
  subst e1
  cases e2
  exact Rep.ofL (Dt hn hp) (Dy g)
theorem Ajr (T:Txt K mg t):Binds K t.d_qbg ["book","text"] []:=T.F_qbg.binds (ps:=["book","text"]) fun _ _ _ _ _ _ us hl=>match us,hl with | [_,_],_=>rfl
theorem Aiz (T:Txt K mg t):FnOk P w K mg base (CX1 P w) 3 t.f_qbg t.d_qbg ["book","text"] (Abw K t.C_Book):=by
 refine T.F_qbg.ok1 sc_qbg (fun vs H Q E h=>?_) (fun cdv A outer s H vs Q E hr h=>?_)
 ·obtain ⟨b,l,U,M,r,m,pp,w,ts,rfl,hB,hT,hl,q⟩:=h
  rfl
 ·obtain ⟨b,l,U,M,r,m,pp,w,ts,rfl,hB,hT,hl,q⟩:=h
  have hu:=Co hr
  have hu64:=hr.units
  refine ⟨_,(Bd (Bs (i:=2) sc_qbg.nd rfl (Or.inl rfl) (Cz Be))
   (Bd (Dh PassesOwn.leaving rfl (Cr (pv 1)) (Bu (i:=3) sc_qbg.nd rfl (Or.inl rfl))
    (Bd (Fe (PW.pt (We (Ds Jy (Cc (Ja) rfl T.z_len PySem.boot_len (Ba (pv 2) Be)) Bh (Df _)) (Uo (Ds Ajw (Age (pv 0) T.cl_Book T.M_qu (Ai5 T) (hr.mono (by decide)) (AkE T) .nil Bw (Ba (pv 3) Be)) Bx (Df _)))))
    (Bi (Cb (Fk PySem.F.plainAttrs_list PySem.F.slot_list_append PySem.F.type_list_append Ct (pv 2) (Ba (Cz Be) Be))))
    Dr)
   (Bi (Cb (Fk PySem.F.plainAttrs_list PySem.F.slot_list_append PySem.F.type_list_append Ct (Cp (Uq) (pv 2) (AaB Ya Bh) (fun _ _=>rfl)) (Ba (pv 3) Be))))))
   (Bi (Cd (pv 2))))),?_⟩
  try dsimp only [Cg,By]
  walk_at "rd"
  refine ⟨by decide,fun wl H0 hwl s0 e0=>?_⟩
  walk_at "rd"
  refine Lf (i:=1) rfl (s0.seq hT) (fun i σ H'=>∃ v3 xs,σ = [some (.ref b),some (.ref l),some (.ref wl),v3]/\Same H H'/\(∀ x ∈ xs,∃ p,x = V.ref p/\H p = none)/\LLat H' wl xs (grp (Dq U M) (ts.take i))) ⟨none,[],rfl,s0,(fun x h=>by cases h),⟨e0,LAt.nil,List.nodup_nil,by simp⟩⟩ (fun i σ H' _ ⟨_,_,_,s,_⟩=>s.seq hT) ?_ ?_
  ·rintro i x σ H' hi ⟨v3,xs,rfl,s,fx,ll⟩
   obtain ⟨n,en,rfl⟩:=Yk hi
   have hlt:=(List.getElem?_eq_some_iff.mp en).1
   have eg:grp (Dq U M) (ts.take (i + 1)) = Nz (Dq U M) (grp (Dq U M) (ts.take i)) n:=by rw [Cu en,Xc]
   have hli:=ll.li
   have hxl:xs.length <= 300:=by
    have:=(Op (Dq U M) (ts.take i)).ln
    rw [<- ll.at'.1,List.length_take] at this
    omega
   have hB':=hB.mono (H':=H') fun _ _ e _=>s _ _ e
   walk_at "rd"
   refine Ad0 (fun h=>?_) (fun h=>?_)
   ·have hz:grp (Dq U M) (ts.take i) = []\/Dq U M n = false:=.inl (List.eq_nil_of_length_eq_zero (by
     have h':((xs.length:Nat):Int) = 0:=of_decide_eq_true h
     rw [<- ll.at'.1]; omega))
    refine Ny ?_
    walk_at "rd"
    refine ⟨by decide,fun p H2 hp s2 e2=>?_⟩
    walk_at "rd"
    walk_at "rd"
    refine Fs (s2 _ _ hli) (Fu (by omega)) fun H3 c3 e3=>?_
    have npw:p ≠ wl:=(Bq hli hp).symm
    have e2':=c3 _ _ e2 npw
    walk_at "rd"
    refine Wg (SqL.of e3) ?_ (Qi _ _)
    walk_at "rd"
    walk_at "rd"
    refine Fs e2' (by decide) fun H4 c4 e4=>?_
    walk_at "rd"
    refine ⟨_,_,rfl,((s.trans s2).chg c3 hwl).chg c4 (s.free hp),fun x hx=>?_,by rw [eg,Rb (by assumption)]; exact ll.push hp s2 c3 e3 c4 e4⟩
    rcases List.mem_append.mp hx with w | w
    ·exact fx x w
    ·exact ⟨p,List.mem_singleton.mp w,s.free hp⟩
   ·have h':¬ ((xs.length:Nat):Int) = 0:=fun z=>h (decide_eq_true z)
    walk_at "rd"
    rw [Aba]
    walk_at "rd"
    refine Ad0 (fun h2=>?_) (fun h2=>?_)
    ·have hz:grp (Dq U M) (ts.take i) = []\/Dq U M n = false:=.inr (by
      unfold Dq
      simpa using h2)
     walk_at "rd"
     refine ⟨by decide,fun p H2 hp s2 e2=>?_⟩
     walk_at "rd"
     walk_at "rd"
     refine Fs (s2 _ _ hli) (Fu (by omega)) fun H3 c3 e3=>?_
     have npw:p ≠ wl:=(Bq hli hp).symm
     have e2':=c3 _ _ e2 npw
     walk_at "rd"
     refine Wg (SqL.of e3) ?_ (Qi _ _)
     walk_at "rd"
     walk_at "rd"
     refine Fs e2' (by decide) fun H4 c4 e4=>?_
     walk_at "rd"
     refine ⟨_,_,rfl,((s.trans s2).chg c3 hwl).chg c4 (s.free hp),fun x hx=>?_,by rw [eg,Rb (by assumption)]; exact ll.push hp s2 c3 e3 c4 e4⟩
     rcases List.mem_append.mp hx with w | w
     ·exact fx x w
     ·exact ⟨p,List.mem_singleton.mp w,s.free hp⟩
    ·have hm:Dq U M n = true:=by
      unfold Dq
      simpa using h2
     obtain ⟨xs',p,gs',g,rfl,eg',hp⟩:=ll.last (fun z=>h' (by rw [ll.at'.1,z]; rfl))
     rw [eg'] at ll eg
     have hgl:g.length <= 300:=by
      have z:=(Op (Dq U M) (ts.take i)).fl
      rw [eg'] at z
      have:=congrArg List.length z
      simp at this
      omega
     walk_at "rd"
     refine Wg (SqL.of hli) ?_ (Qi _ _)
     walk_at "rd"
     walk_at "rd"
     refine Fs hp (Fu (by rw [List.length_map]; omega)) fun H4 c4 e4=>?_
     walk_at "rd"
     have fp:H p = none:=by
      obtain ⟨p',e,z⟩:=fx _ (List.mem_append_right _ List.mem_cons_self)
      cases e; exact z
     exact ⟨_,_,rfl,s.chg c4 fp,fx,by rw [eg,Tt hm]; exact ll.add c4 e4⟩
  ·rintro σ H' ⟨v3,xs,rfl,s,fx,ll⟩
   rw [List.length_map,List.take_length] at ll
   walk_at "rd"
   exact q wl xs H' hwl s fx ll
def AdX:PSp:=fun ps P=>∃ n:Int,ps = [.int n]/\P (.bl (decide (0 <= n)))
theorem AgG {C:Addr} {ω:Om} {E:XK} {m:Bool} {t:TA} {u:UA} (ha:AU K C ω [m] t u):EU K C ω (Jz Uw [] E t) (Tb AdX u) :=
 fun B G0 H0 own G σ H ρ P Q S hu k=>ha B G0 H0 own G σ H ρ _ _ S hu fun vs ps G1 H1 w1 ok ⟨n,e,h⟩=>by
  obtain ⟨v,p,rfl,e2,r⟩:=Jw ok
  rw [e] at e2; cases e2
  exact ⟨n,by rw [r.int]; rfl,k _ _ G1 H1 w1 (.bl _) h⟩
def AfZ:PSp:=fun ps P=>∃ i g:Int,ps = [.int i,.int g]/\P (.bl (decide (0 <= i) && decide (i <= g)))
theorem AiD (T:Txt K mg t):Binds K t.d_qe ["thing","greatest"] []:=T.F_qe.binds (ps:=["thing","greatest"]) fun _ _ _ _ _ _ us hl=>match us,hl with | [_,_],_=>rfl
theorem Aem (T:Txt K mg t):FnOk P w K mg base (CX1 P w) 3 t.f_qe t.d_qe ["thing","greatest"] (spOf K t.C_Book [false,false] .sh AfZ):=by
 refine T.F_qe.ok1 Aj7 (fun vs H Q E h=>h.len) (fun cdv A outer s H vs Q E hr h=>?_)
 have hu:=Co hr
 have hu64:=hr.units
 refine ⟨_,(Bi (Cd (Ge (Bp (Sj T) (hr.mono (by decide)) rfl T.m_qbm T.F_qbm.kp (Ui T) .nil Bw (Ba (pv 0) Be)) (Gp (Fp Wp (pv 0) (pv 1) (Df _)))))),?_⟩
 try dsimp only [Cg,By]
 refine Dm h (by decide) (Gf (Ol (EU.eb (AgG (Bz Bb Bm))) (Gb (fun _ _ _=>.bl _) Bb Bb))) (fun ps P hp=>?_)
 clear h hu hu64 hr
 obtain ⟨i,g,rfl,q⟩:=hp
 simp only [Da,List.zipWith_cons_cons,List.zipWith_nil_left,List.zipWith_nil_right,List.length_cons,List.length_nil,Nat.zero_add,Nat.reduceAdd,Nat.reduceSub,List.replicate_succ,List.replicate_zero,Bool.false_eq_true,if_false,if_true,List.cons_append,List.nil_append,Fh]
 walk_at "pr"
 refine ⟨i,rfl,?_⟩
 walk_at "pr"
 by_cases h:0 <= i
 ·rw [decide_eq_true h] at q ⊢
  walk_at "pr"
  rw [Bool.true_and] at q
  exact q
 ·rw [decide_eq_false h] at q ⊢
  walk_at "pr"
  rw [Bool.false_and] at q
  exact q
def Ld (n:Nat) (i j:Int):Prop:=0 <= i/\i <= j/\j <= (n:Int)
def Agu (c:Addr):Lk:=fun ps P X=>∃ (n:Nat) (i j:Int),ps = [.int i,.int j,.int (n:Int)]/\(Ld n i j->P .non)/\(¬ Ld n i j->X c)
theorem AkA (T:Txt K mg t):Binds K t.d_ql ["start","end","number"] []:=T.F_ql.binds (ps:=["start","end","number"]) fun _ _ _ _ _ _ us hl=>match us,hl with | [_,_,_],_=>rfl
theorem Ake (T:Txt K mg t):FnOk P w K mg base (CX1 P w) 4 t.f_ql t.d_ql ["start","end","number"] (spX K t.C_Book [false,false,false] .sh (Agu t.C_NoPlace)):=by
 refine T.F_ql.ok1 Akb (fun vs H Q E h=>h.len) (fun cdv A outer s H vs Q E hr h=>?_)
 have hu:=Co hr
 have hu64:=hr.units
 refine ⟨_,(Bi (Fe (PW.pt (We (Lj (Nj (Bp (Aem T) (hr.mono (by decide)) rfl T.m_qe T.F_qe.kp (AiD T) .nil Bw (Ba (pv 1) (Ba (pv 2) Be))))) (Uo (Lj (Nj (Bp (Aem T) (hr.mono (by decide)) rfl T.m_qe T.F_qe.kp (AiD T) .nil Bw (Ba (pv 0) (Ba (pv 1) Be))))))))
    (Bi (Xm PySem.F.excBase_ValueError T.x_NoPlace T.m_NoPlace hr.hd rfl (Ba Bx Be)))
    Dr)),?_⟩
 try dsimp only [Cg,By]
 refine Vw h (by decide) (fun X=>(Gu (Aa9 (Oo (Nc (EU.eb (Gk (Bz Bb (Bz Bb Bm)))))) (Oo (Nc (EU.eb (Gk (Bz Bb (Bz Bb Bm)))))))
    (Adq (Bz (EU.eb Cq) Bm))
    Fx)) (fun ps P X hp=>?_)
 clear h hu hu64 hr
 obtain ⟨n,i,j,rfl,q1,q2⟩:=hp
 simp only [Da,List.zipWith_cons_cons,List.zipWith_nil_left,List.zipWith_nil_right,List.length_cons,List.length_nil,Nat.zero_add,Nat.reduceAdd,Nat.reduceSub,List.replicate_succ,List.replicate_zero,Bool.false_eq_true,if_false,if_true,List.cons_append,List.nil_append,Fh]
 walk_at "pr"
 refine ⟨j,n,rfl,?_⟩
 by_cases h1:0 <= j/\j <= (n:Int)
 ·rw [show (decide (0 <= j) && decide (j <= (n:Int))) = true by rw [decide_eq_true h1.1,decide_eq_true h1.2]; rfl]
  walk_at "pr"
  refine ⟨i,j,rfl,?_⟩
  by_cases h2:0 <= i/\i <= j
  ·rw [show (decide (0 <= i) && decide (i <= j)) = true by rw [decide_eq_true h2.1,decide_eq_true h2.2]; rfl]
   walk_at "pr"
   exact q1 ⟨h2.1,h2.2,h1.2⟩
  ·rw [show (decide (0 <= i) && decide (i <= j)) = false by rw [Bool.and_eq_false_iff,decide_eq_false_iff_not,decide_eq_false_iff_not]; omega]
   walk_at "pr"
   exact q2 fun z=>h2 ⟨z.1,z.2.1⟩
 ·rw [show (decide (0 <= j) && decide (j <= (n:Int))) = false by rw [Bool.and_eq_false_iff,decide_eq_false_iff_not,decide_eq_false_iff_not]; omega]
  walk_at "pr"
  exact q2 fun z=>h1 ⟨Int.le_trans z.1 z.2.1,z.2.2⟩
def cR (ns:List Int) (k:Nat):Int:=(ns[k]?).getD 0
def AiF:PSp:=fun ps P=>∃ ns k,ps = [.scr ns,.int (k:Nat)]/\ns.length <= 63/\P (.int (cR ns k))
theorem AaW (T:Txt K mg t):Binds K t.d_qh ["_law_script","_law_k"] []:=T.F_qh.binds (ps:=["_law_script","_law_k"]) fun _ _ _ _ _ _ us hl=>match us,hl with | [_,_],_=>rfl
theorem Wk (T:Txt K mg t):FnOk P w K mg base (CX1 P w) 1 t.f_qh t.d_qh ["_law_script","_law_k"] (spOf K t.C_Book [false,false] .sh AiF):=by
 refine T.F_qh.ok1 AjX (fun vs H Q E h=>h.len) (fun cdv A outer s H vs Q E hr h=>?_)
 have hu:=Co hr
 have hu64:=hr.units
 refine ⟨_,(Bd (Fe (Ds Aj2 (pv 1) (Cc (Cj K) rfl T.z_len PySem.boot_len (Ba (pv 0) Be)) (Df _))
    (Bi (Cd (Cp (Cw K) (pv 0) (pv 1) (fun _ _=>rfl))))
    Dr)
   (Bi (Cd Bh))),?_⟩
 try dsimp only [Cg,By]
 refine Dm h (by decide) (Bo (Gu (Lm (EU.eb (Gb (fun _ _ _=>.bl _) Bb (EU.eb (Fc (Bz Bb Bm))))))
    (Gf (Dp Bb Bb))
    Fx)
   (Gf Bj)) (fun ps P hp=>?_)
 clear h hu hu64 hr
 obtain ⟨ns,k,rfl,hl,q⟩:=hp
 simp only [Da,List.zipWith_cons_cons,List.zipWith_nil_left,List.zipWith_nil_right,List.length_cons,List.length_nil,Nat.zero_add,Nat.reduceAdd,Nat.reduceSub,List.replicate_succ,List.replicate_zero,Bool.false_eq_true,if_false,if_true,List.cons_append,List.nil_append,Fh]
 unfold cR at q
 walk_at "pr"
 by_cases hk:k < ns.length
 ·rw [decide_eq_true (by omega:(k:Int) < (ns.length:Int))]
  rw [List.getElem?_eq_getElem hk] at q
  walk_at "pr"
  refine AjH (n:=ns[k]) (Fm (List.getElem?_eq_getElem hk)) ?_
  walk_at "pr"
  exact q
 ·rw [decide_eq_false (by omega:¬ (k:Int) < (ns.length:Int))]
  rw [List.getElem?_eq_none (by omega)] at q
  walk_at "pr"
  exact q
theorem Adh {n:Nat} {f:Nat->Option PV} {P:PV->Prop} {ug:PV->Bf->(Bf->Prop)->Prop} {ta:UT} {ue:UE} {ρ':Bf} (hn:n < 100000) (q:P (.lst ((List.range n).filterMap f))) (h:∀ k,k < n->∀ Z:Option PV->Prop,Z (f k)->ug (.int (k:Int)) ρ' fun ρ2=>ta ρ2 fun b=>if b = true then ue ρ2 fun q=>Z (some q) else Z none):Yd ug ta ue ρ' P [.int (n:Int)]:=by
 refine ⟨_,rfl,by omega,by omega,fun k rs=>rs = (List.range k).filterMap f,rfl,fun k rs hk hr=>?_,fun rs hr=>?_⟩
 ·subst hr
  rw [Int.toNat_natCast] at hk
  rw [Int.zero_add]
  refine h k hk (fun o=>(match o with | some q=>(List.range k).filterMap f ++ [q] | none=>(List.range k).filterMap f) = (List.range (k + 1)).filterMap f) ?_
  rw [List.range_succ,List.filterMap_append]
  cases e:f k with
  | none=>simp [List.filterMap_cons,e]
  | some x=>simp [List.filterMap_cons,e]
 ·rw [Int.toNat_natCast] at hr
  rw [hr]; exact q
def byL:List Int:=[1,3,5,9,11,13,15,17]
def byF (c:Int):Int:=(byL[(c % 8).toNat]?).getD 1
def s2F (c:Int) (k:Nat):Int:=c / 8 % 10 ^ 28 + (1 + c / 64 % 10 ^ 26) * (((k:Int) * byF c + c / 512) % 28)
def s2L (c:Int):List Int:=(List.range 28).map (s2F c)
def Ah4:PSp:=fun ps P=>∃ c:Int,ps = [.int c]/\0 <= c/\P (.lst ((s2L c).map .int))
theorem Ajk (T:Txt K mg t):Binds K t.d_qbd ["_law_cell"] []:=T.F_qbd.binds (ps:=["_law_cell"]) fun _ _ _ _ _ _ us hl=>match us,hl with | [_],_=>rfl
theorem AiI (T:Txt K mg t):FnOk P w K mg base (CX1 P w) 1 t.f_qbd t.d_qbd ["_law_cell"] (spOf K t.C_Book [false] .fr Ah4):=by
 refine T.F_qbd.ok1 sc_qbd (fun vs H Q E h=>h.len) (fun cdv A outer s H vs Q E hr h=>?_)
 have hu:=Co hr
 have hu64:=hr.units
 refine ⟨_,(Bd (Bs (i:=1) sc_qbd.nd rfl (by first | exact Or.inl rfl | exact Or.inr rfl) (Cp (Cw K) (Cz (Ba Bh (Ba Bh (Ba Bh (Ba Bh (Ba Bh (Ba Bh (Ba Bh (Ba Bh Be))))))))) (Bv Db (pv 0) Bh) (fun _ _=>rfl)))
   (Bd (Bs (i:=2) sc_qbd.nd rfl (by first | exact Or.inl rfl | exact Or.inr rfl) (Bv Db (Bv Fg (pv 0) Bh) (Bv Jf Bh Bh)))
   (Bd (Bs (i:=3) sc_qbd.nd rfl (by first | exact Or.inl rfl | exact Or.inr rfl) (Bv Jc Bh (Bv Db (Bv Fg (pv 0) Bh) (Bv Jf Bh Bh))))
   (Bi (Cd (Qg 1 [2,3,1,0] ["_law_k","_law_low","_law_step","_law_by","_law_cell"] ["_law_step","_law_low","_law_cell","_law_by"] rfl (Sk rfl T.z_range (Ba Bh Be)) rfl (fun j y e1 i e2=>match j,e1,e2 with | 0,e1,e2=>by cases e1; cases e2; exact ⟨rfl,rfl,rfl,by decide +kernel⟩ | 1,e1,e2=>by cases e1; cases e2; exact ⟨rfl,rfl,rfl,by decide +kernel⟩ | 2,e1,e2=>by cases e1; cases e2; exact ⟨rfl,rfl,rfl,by decide +kernel⟩ | 3,e1,e2=>by cases e1; cases e2; exact ⟨rfl,rfl,rfl,by decide +kernel⟩ | _ + 4,_,e2=>by simp at e2) (List.forall_mem_cons.mpr ⟨rfl,List.forall_mem_cons.mpr ⟨rfl,List.forall_mem_cons.mpr ⟨rfl,List.forall_mem_cons.mpr ⟨rfl,fun _ h=>nomatch h⟩⟩⟩⟩) (by decide +kernel) (fun _ _ _ _=>(Bu (i:=0) (show List.Nodup (["_law_k","_law_low","_law_step","_law_by","_law_cell"]:List Str) by decide +kernel) rfl (Or.inl rfl))) (fun _ _ _ _=>Jk) (fun _ _ _ _=>(Bv Jc (pv 1) (Bv Ue (pv 2) (Bv Db (Bv Jc (Bv Ue (pv 0) (pv 3)) (Bv Fg (pv 4) Bh)) Bh)))) rfl (by decide +kernel) rfl (by decide +kernel))))))),?_⟩
 try dsimp only [Cg,By]
 refine Dm h (by decide) (Bo (Ch (Dp (EF.eb (Dx 8 (Bt Bj (Bt Bj (Bt Bj (Bt Bj (Bt Bj (Bt Bj (Bt Bj (Bt Bj Bm)))))))))) (EU.eb (Cl (fun _ _ _=>.int _) Bb (EU.eb Bj)))))
   (Bo (Ch (Cl (fun _ _ _=>.int _) (EU.eb (Cl (fun _ _ _=>.int _) Bb (EU.eb Bj))) (EU.eb (Cl (fun _ _ _=>.int _) (EU.eb Bj) (EU.eb Bj)))))
   (Bo (Ch (Gb (fun _ _ _=>.int _) (EU.eb Bj) (EU.eb (Cl (fun _ _ _=>.int _) (EU.eb (Cl (fun _ _ _=>.int _) Bb (EU.eb Bj))) (EU.eb (Cl (fun _ _ _=>.int _) (EU.eb Bj) (EU.eb Bj)))))))
   (Zj (AdJ (Bz (EU.eb Bj) Bm) (Ck (top:=1)) Ji (Gb (fun _ _ _=>.int _) Bb (EU.eb (Cl (fun _ _ _=>.int _) Bb (EU.eb (Cl (fun _ _ _=>.int _) (EU.eb (Gb (fun _ _ _=>.int _) (EU.eb (Cl (fun _ _ _=>.int _) Bb Bb)) (EU.eb (Cl (fun _ _ _=>.int _) Bb (EU.eb Bj))))) (EU.eb Bj))))))))))) (fun ps P hp=>?_)
 clear h hu hu64 hr
 obtain ⟨c,rfl,hc,q⟩:=hp
 simp only [Da,List.zipWith_cons_cons,List.zipWith_nil_left,List.zipWith_nil_right,List.length_cons,List.length_nil,Nat.zero_add,Nat.reduceAdd,Nat.reduceSub,List.replicate_succ,List.replicate_zero,Bool.false_eq_true,if_false,if_true,List.cons_append,List.nil_append,Fh]
 have h1:=Int.emod_nonneg c (show (8:Int) ≠ 0 by decide)
 have h2:=Int.emod_lt_of_pos c (show (0:Int) < 8 by decide)
 have hj:(c % 8).toNat < byL.length:=by show _ < 8; omega
 have eb:byL[(c % 8).toNat]? = some (byF c):=by unfold byF; rw [List.getElem?_eq_getElem hj]; rfl
 walk_at "pr"
 all_goals try (first | decide | exact ⟨by decide,by decide⟩ | exact ⟨by decide,by decide,by decide⟩)
 refine Gi (l:=byL) (f:=PV.int) (j:=(c % 8).toNat) (a:=byF c) eb (by omega) ?_
 walk_at "pr"
 all_goals try (first | decide | exact ⟨by decide,by decide⟩ | exact ⟨by decide,by decide,by decide⟩)
 have hb:0 <= byF c/\byF c < 20:=by
  have:∀ x ∈ byL,0 <= x/\x < 20:=by decide
  exact this _ (List.mem_of_getElem? eb)
 refine Adh (n:=28) (f:=fun k=>some (.int (s2F c k))) (by decide) ?_ (fun k hk Z hZ=>?_)
 rotate_left
 ·walk_at "cp"
  walk_at "pr"
  all_goals try (first | decide | exact ⟨by decide,by decide⟩)
  have g1:=Int.emod_nonneg ((k:Int) * byF c + c / 512) (show (28:Int) ≠ 0 by decide)
  have g2:=Int.emod_lt_of_pos ((k:Int) * byF c + c / 512) (show (0:Int) < 28 by decide)
  all_goals try (first | exact .inr ⟨by omega,by omega⟩ | exact .inl ⟨by omega,by omega⟩)
  exact hZ
 rw [show (List.range 28).filterMap (fun k=>some (PV.int (s2F c k))) = (s2L c).map .int by unfold s2L; rw [List.map_map]; exact congrFun (List.filterMap_eq_map' (f:=fun k=>PV.int (s2F c k))) _]
 exact q
theorem T2.nil {sg:List Int}:T2 sg []:=⟨fun k s h=>by simp at h,fun k s h=>by simp at h⟩
theorem T2.snoc {sg:List Int} {U:List Sg} (h:T2 sg U) {s:Sg} (h1:sg[U.length]? = some s.1) (h2:s.2.1 ∈ toldK) (h3:Lg s.2.1 s.2.2) (h4:U.length < 8->toldK[U.length]? = some s.2.1):T2 sg (U ++ [s]):=by
 refine ⟨fun k x e=>?_,fun k x e hk=>?_⟩
 ·rcases Sz e with e | ⟨rfl,rfl⟩
  ·exact h.at' k x e
  ·exact ⟨h1,h2,h3⟩
 ·rcases Sz e with e | ⟨rfl,rfl⟩
  ·exact h.wd k x e hk
  ·exact h4 hk
def AhE:PSp:=fun ps P=>∃ (c m:Int) (sg:List Int),ps = [.int c,.int m,.lst (sg.map .int)]/\0 <= m/\sg.length = 28/\∀ U:List Sg,U.length = 14->T2 sg U->P (.lst (U.map sgP))
theorem Ajg (T:Txt K mg t):Binds K t.d_qbk ["_law_cell","_law_more","_law_signs_here"] []:=T.F_qbk.binds (ps:=["_law_cell","_law_more","_law_signs_here"]) fun _ _ _ _ _ _ us hl=>match us,hl with | [_,_,_],_=>rfl
theorem Ah1 (T:Txt K mg t):FnOk P w K mg base (CX1 P w) 1 t.f_qbk t.d_qbk ["_law_cell","_law_more","_law_signs_here"] (spOf K t.C_Book [false,true,false] .fr AhE):=by
 refine T.F_qbk.ok1 sc_qbk (fun vs H Q E h=>h.len) (fun cdv A outer s H vs Q E hr h=>?_)
 have hu:=Co hr
 have hu64:=hr.units
 refine ⟨_,(Bd (Bs (i:=3) sc_qbk.nd rfl (Or.inl rfl) (Cz (Ba Bx (Ba Bx (Ba Bx (Ba Bx (Ba Bx (Ba Bx (Ba Bx (Ba Bx Be))))))))))
   (Bd (Bs (i:=4) sc_qbk.nd rfl (Or.inl rfl) (Cz Be))
   (Bd (Dh PassesOwn.leaving rfl (Sk rfl T.z_range (Ba Bh Be)) (Bu (i:=5) sc_qbk.nd rfl (Or.inl rfl))
    (Bd (Bs (i:=6) sc_qbk.nd rfl (Or.inl rfl) (Cp (Cw K) (pv 3) (Bv Db (pv 5) Bh) (fun _ _=>rfl)))
   (Bd (Fe (Ds AeI (pv 5) Bh (Df _))
    (Bd (Bs (i:=6) sc_qbk.nd rfl (Or.inl rfl) (Cp (Cw K) (pv 3) (Bv Db (pv 1) Bh) (fun _ _=>rfl)))
   (Bi (Bs (i:=1) sc_qbk.nd rfl (Or.inl rfl) (Bv Fg (pv 1) Bh))))
    Dr)
   (Bd (Bs (i:=7) sc_qbk.nd rfl (Or.inl rfl) Bh)
   (Bd (Fe (Ds Jy (pv 6) Bx (Df _))
    (Bd (Bs (i:=7) sc_qbk.nd rfl (Or.inl rfl) (Bv Ue (Bv Jc Bh (Bv Db (pv 1) Bh)) (Cp (Cw K) (Cz (Ba Bh (Ba (Bv Jf Bh Bh) Be))) (Bv Db (Bv Fg (pv 0) Bh) Bh) (fun _ _=>rfl))))
   (Bi (Bs (i:=1) sc_qbk.nd rfl (Or.inl rfl) (Bv Fg (pv 1) Bh))))
    Dr)
   (Bi (Cb (Fk PySem.F.plainAttrs_list PySem.F.slot_list_append PySem.F.type_list_append Ct (pv 4) (Ba (Fv (Ba (Cp (Cw K) (pv 2) (pv 5) (fun _ _=>rfl)) (Ba (pv 6) (Ba (pv 7) Be)))) Be)))))))))
   (Bi (Cd (pv 4)))))),?_⟩
 try dsimp only [Cg,By]
 refine Dm h (by decide) (Bo (Ch (EF.eu (Dx 8 (Bt Cq (Bt Cq (Bt Cq (Bt Cq (Bt Cq (Bt Cq (Bt Cq (Bt Cq Bm)))))))))))
   (Bo (Du (Dx 0 Bm))
   (Bo (AfG (Bz (EU.eb Bj) Bm) (Ck (top:=8))
    (Bo (Ch (Dp Bb (EU.eb (Cl (fun _ _ _=>.int _) Bb (EU.eb Bj)))))
   (Bo (Gu (Lm (EU.eb (Gb (fun _ _ _=>.bl _) Bb (EU.eb Bj))))
    (Bo (Ch (Dp Bb (EU.eb (Cl (fun _ _ _=>.int _) Bb (EU.eb Bj)))))
   (Ch (Cl (fun _ _ _=>.int _) Bb (EU.eb Bj))))
    Fx)
   (Bo (Ch Bj)
   (Bo (Gu (Lm (EU.eb (AaG Bb (EU.eb Cq))))
    (Bo (Ch (Cl (fun _ _ _=>.int _) (EU.eb (Gb (fun _ _ _=>.int _) (EU.eb Bj) (EU.eb (Cl (fun _ _ _=>.int _) Bb (EU.eb Bj))))) (EU.eb (Dp (EF.eb (Dx 2 (Bt Bj (Bt (Cl (fun _ _ _=>.int _) (EU.eb Bj) (EU.eb Bj)) Bm)))) (EU.eb (Cl (fun _ _ _=>.int _) (EU.eb (Cl (fun _ _ _=>.int _) Bb (EU.eb Bj))) (EU.eb Bj)))))))
   (Ch (Cl (fun _ _ _=>.int _) Bb (EU.eb Bj))))
    Fx)
   (Go (Bt (Gq 3 (Bt (Dp Bb Bb) (Bt Cy (Bt Cy Bm)))) Bm)))))))
   Jq))) (fun ps P hp=>?_)
 clear h hu hu64 hr
 obtain ⟨c,m,sg,rfl,hm,hs,q⟩:=hp
 simp only [Da,List.zipWith_cons_cons,List.zipWith_nil_left,List.zipWith_nil_right,List.length_cons,List.length_nil,Nat.zero_add,Nat.reduceAdd,Nat.reduceSub,List.replicate_succ,List.replicate_zero,Bool.false_eq_true,if_false,if_true,List.cons_append,List.nil_append,Fh]
 have ew:([PV.str "fore",PV.str "back",PV.str "num",PV.str "blank",PV.str "mark",PV.str "forein",PV.str "backin",PV.str "out"]:List PV) = toldK.map PV.str:=rfl
 walk_at "pr"
 rotate_left
 ·exact ⟨by decide,by decide⟩
 rw [ew]
 refine ⟨fun k ρ=>∃ (m:Int) (U:List Sg) (v5 v6 v7:Sl),ρ = [.bo (.int c),.sh (.int m),.bo (.lst (sg.map .int)),.sh (.lst (toldK.map PV.str)),.ow (.lst (U.map sgP)),v5,v6,v7]/\0 <= m/\U.length = k/\T2 sg U,⟨m,[],_,_,_,rfl,hm,rfl,T2.nil⟩,?_,?_⟩
 ·rintro k ρ hk ⟨m,U,v5,v6,v7,rfl,h0,ul,ht⟩
  have hk':k < 14:=hk
  rw [Int.zero_add]
  have wl:∀ i:Int,∃ w,toldK[(i % 8).toNat]? = some w/\w ∈ toldK/\i % 8 = ((i % 8).toNat:Int):=fun i=>by
   have g1:=Int.emod_nonneg i (show (8:Int) ≠ 0 by decide)
   have g2:=Int.emod_lt_of_pos i (show (0:Int) < 8 by decide)
   have hj:(i % 8).toNat < toldK.length:=by show _ < 8; omega
   exact ⟨_,List.getElem?_eq_getElem hj,List.getElem_mem hj,by omega⟩
  walk_at "px"
  refine Nr ?_
  obtain ⟨w0,hw0,hm0,he0⟩:=wl (k:Int)
  walk_at "px"
  all_goals try decide
  refine Gi (l:=toldK) (f:=PV.str) (j:=((k:Int) % 8).toNat) (a:=w0) hw0 he0 ?_
  walk_at "px"
  refine Sy (fun ρ=>∃ (m':Int) (w:Str),0 <= m'/\w ∈ toldK/\(k < 8->toldK[k]? = some w)/\ρ = [.bo (.int c),.sh (.int m'),.bo (.lst (sg.map .int)),.sh (.lst (toldK.map PV.str)),.ow (.lst (U.map sgP)),.sh (.int k),.sh (.str w),v7]) (fun ρ h=>?_) ?_
  rotate_left
  ·walk_at "pr"
   by_cases h7:7 < k
   ·rw [decide_eq_true (by omega)]
    obtain ⟨w1,hw1,hm1,he1⟩:=wl m
    walk_at "pr"
    all_goals try (first | decide | exact ⟨by decide,by decide⟩)
    refine Gi (l:=toldK) (f:=PV.str) (j:=(m % 8).toNat) (a:=w1) hw1 he1 ?_
    walk_at "pr"
    all_goals try (first | decide | exact ⟨by decide,by decide⟩)
    exact .inl ⟨m / 8,w1,by omega,hm1,fun z=>by omega,rfl⟩
   ·rw [decide_eq_false (by omega)]
    walk_at "pr"
    exact .inl ⟨m,w0,h0,hm0,fun z=>by rw [show ((k:Int) % 8).toNat = k by omega] at hw0; exact hw0,rfl⟩
  obtain ⟨m',w,hm',hw,hw8,rfl⟩:=h
  walk_at "px"
  refine Nr ?_
  walk_at "px"
  refine Sy (fun ρ=>∃ (m' r:Int),0 <= m'/\Lg w r/\ρ = [.bo (.int c),.sh (.int m'),.bo (.lst (sg.map .int)),.sh (.lst (toldK.map PV.str)),.ow (.lst (U.map sgP)),.sh (.int k),.sh (.str w),.sh (.int r)]) (fun ρ h=>?_) ?_
  rotate_left
  ·walk_at "pr"
   by_cases hmk:w = "mark"
   ·rw [decide_eq_true hmk]
    have g1:=Int.emod_nonneg (c / 16) (show (2:Int) ≠ 0 by decide)
    have g2:=Int.emod_lt_of_pos (c / 16) (show (0:Int) < 2 by decide)
    obtain ⟨f,hf,hf1⟩:∃ f:Int,([1,10 ^ 28]:List Int)[(c / 16 % 2).toNat]? = some f/\1 <= f:=by
     have hj:(c / 16 % 2).toNat < ([1,10 ^ 28]:List Int).length:=by show _ < 2; omega
     have:∀ x ∈ ([1,10 ^ 28]:List Int),1 <= x:=by decide
     exact ⟨_,List.getElem?_eq_getElem hj,this _ (List.getElem_mem hj)⟩
    walk_at "pr"
    all_goals try (first | decide | exact ⟨by decide,by decide⟩ | exact ⟨by decide,by decide,by decide⟩)
    refine Gi (l:=([1,10 ^ 28]:List Int)) (f:=PV.int) (j:=(c / 16 % 2).toNat) (a:=f) hf (by omega) ?_
    have g3:=Int.emod_nonneg m' (show (3:Int) ≠ 0 by decide)
    have g4:=Int.emod_lt_of_pos m' (show (0:Int) < 3 by decide)
    walk_at "pr"
    all_goals try (first | decide | exact ⟨by decide,by decide⟩ | exact .inl ⟨by omega,by omega⟩)
    refine .inl ⟨m' / 3,(1 + m' % 3) * f,by omega,.inl ⟨hmk,?_⟩,rfl⟩
    have:=Int.mul_le_mul (show (1:Int) <= 1 + m' % 3 by omega) hf1 (by decide) (by omega)
    omega
   ·rw [decide_eq_false hmk]
    walk_at "pr"
    exact .inl ⟨m',0,hm',.inr ⟨hmk,rfl⟩,rfl⟩
  obtain ⟨m2,r,hm2,hr,rfl⟩:=h
  walk_at "pr"
  have hk28:k < sg.length:=by omega
  refine Gi (l:=sg) (f:=PV.int) (j:=k) (a:=sg[k]) (List.getElem?_eq_getElem hk28) rfl ?_
  walk_at "pr"
  rotate_left
  ·rw [List.length_map]; omega
  refine ⟨m2,U ++ [(sg[k],w,r)],_,_,_,by rw [List.map_append]; rfl,hm2,by rw [List.length_append,ul]; rfl,ht.snoc (s:=(sg[k],w,r)) (by rw [ul]; exact List.getElem?_eq_getElem hk28) hw hr (by rw [ul]; exact hw8)⟩
 rintro ρ ⟨m,U,v5,v6,v7,rfl,h0,ul,ht⟩
 walk_at "pr"
 exact q U ul ht
theorem AfA {l:List Sg} {p:Sg->Prop} [DecidablePred p]:l.filterMap (fun s=>if p s then some (PV.int s.1) else none) = ((l.filter fun s=>decide (p s)).map (·.1)).map .int:=by
 induction l with
 | nil=>rfl
 | cons x r ih =>
  by_cases z:p x
  ·rw [List.filterMap_cons_some (by rw [if_pos z]),List.filter_cons_of_pos (by simp [z]),List.map_cons,List.map_cons,ih]
  ·rw [List.filterMap_cons_none (by rw [if_neg z]),List.filter_cons_of_neg (by simp [z]),ih]
theorem Ah7 {L:List Str} {x:Str} {P:PV->Prop} (q:P (.bl (decide (x ∈ L)))):bIn false (.str x) (.lst (L.map .str)) P:=by
 refine ⟨L.map .str,rfl,rfl,fun y hy=>by obtain ⟨z,_,rfl⟩:=List.mem_map.mp hy; rfl,fun b hb=>?_⟩
 have:b = decide (x ∈ L):=Gh (by
  rw [hb,decide_eq_true_iff]
  constructor
  ·intro h
   obtain ⟨z,hz,e⟩:=List.mem_map.mp h
   injection e with e'
   rwa [<- e']
  ·intro h
   exact List.mem_map.mpr ⟨x,h,rfl⟩)
 rw [this]; exact q
def wdD (U:List Sg):List (Key × PV):=U.map fun s=>(Sum.inl s.1,.str s.2.1)
theorem Aar {U:List Sg} {k:Nat} {s:Sg} (nd:(U.map (·.1)).Nodup) (hs:U[k]? = some s):Jr (wdD (U.take k)) (.inl s.1) (.str s.2.1) = wdD (U.take (k + 1)):=by
 rw [Xz (kvs:=wdD (U.take k)) (fun z=>Ni (f:=fun s:Sg=>s.1) nd hs (Zh (f:=fun s:Sg=>s.1) z)),Cu hs]
 unfold wdD; rw [List.map_append]; rfl
theorem Xg (f:Nat->Int):Di ((List.range 28).map fun k=>PV.int (f k)) (some 24) (some 26) = [.int (f 24),.int (f 25)]:=rfl
theorem AjQ {f:Nat->Int} {U:List Sg}:((U.filter fun s=>decide (s.2.1 ∈ bs4)).map (·.1)).map PV.int ++ [PV.int (f 24),PV.int (f 25)] = (r0G f U).map fun s=>PV.int s.1:=by
 unfold r0G
 rw [List.map_append,List.map_map,List.map_map]; rfl
theorem Ajy {U:List Sg}:((U.filter fun s:Sg=>decide (s.2.1 = "mark")).map (·.1)).map PV.int = (Ju U).map fun s=>PV.int s.1:=by unfold Ju; rw [List.map_map]; rfl
theorem Ag1 {f:Nat->Int} {U:List Sg}:upG U (r0G f U) (r0G f U).length = U:=by
 unfold upG; rw [List.drop_of_length_le (Nat.le_refl _)]; simp
theorem Ago {U R:List Sg} {n:Nat} (h:n <= R.length) (x:Sg):upG U (R ++ [x]) n = upG U R n ++ (if x.2.1 = "plain" then [] else [x]):=by
 unfold upG
 rw [List.drop_append_of_le_length h,List.filter_append,List.append_assoc]
 by_cases z:x.2.1 = "plain"
 ·rw [if_pos z,List.filter_cons_of_neg (by simp [z])]; rfl
 ·rw [if_neg z,List.filter_cons_of_pos (by simp [z])]; rfl
theorem AgT {s:Int × Int} {ss:List (Int × Int)} {P:PV->Prop} (h1:¬ s ∈ ss->P (.bl true)) (h2:s ∈ ss->P (.bl false)):Adu (prP s) (.lst (ss.map prP)) P:=by
 refine ⟨ss.map prP,rfl,fun x hx=>?_,fun x hx=>?_,fun b hb=>?_⟩
 ·obtain ⟨z,_,rfl⟩:=List.mem_map.mp hx; exact ⟨_,rfl⟩
 ·obtain ⟨z,_,rfl⟩:=List.mem_map.mp hx
  refine .tup (n:=39) fun i u v hu hv=>?_
  match i,hu,hv with
  | 0,hu,hv=>cases hu; cases hv; exact .flat rfl rfl
  | 1,hu,hv=>cases hu; cases hv; exact .flat rfl rfl
  | _ + 2,hu,_=>simp at hu
 ·have hm:prP s ∈ ss.map prP ↔ s ∈ ss:=by
   constructor
   ·intro h
    obtain ⟨z,hz,e⟩:=List.mem_map.mp h
    have e':PV.tup [.int z.1,.int z.2] = .tup [.int s.1,.int s.2]:=e
    injection e' with e'
    injection e' with e1 e2
    injection e2 with e2
    injection e1 with e1
    injection e2 with e2
    rwa [<- show z = s from Prod.ext e1 e2]
   ·exact fun h=>List.mem_map.mpr ⟨s,h,rfl⟩
  by_cases h:s ∈ ss
  ·rw [hb.mpr (hm.mpr h)]; exact h2 h
  ·have:b = false:=by
    cases b with
    | false=>rfl
    | true=>exact absurd (hm.mp (hb.mp rfl)) h
   rw [this]; exact h1 h
theorem Ye (U:List Sg):(wdD U).map (fun kv=>kP kv.1) = U.map fun s=>PV.int s.1:=by unfold wdD; rw [List.map_map]; rfl
theorem Ta {U:List Sg} (nd:(U.map (·.1)).Nodup) {s:Sg} (hs:s ∈ U):Fd (wdD U) (.inl s.1) = some (.str s.2.1):=by
 induction U with
 | nil=>cases hs
 | cons x r ih =>
  obtain ⟨h1,h2⟩:=List.nodup_cons.mp (show (x.1 :: r.map (·.1)).Nodup from nd)
  show Fd ((Sum.inl x.1,PV.str x.2.1) :: wdD r) (Sum.inl s.1) = _
  rw [Si]
  rcases List.mem_cons.mp hs with e | e
  ·subst e; rw [if_pos rfl]
  ·rw [if_neg (fun z=>h1 (List.mem_map.mpr ⟨s,e,(Sum.inl.inj z).symm⟩))]
   exact ih h2 e
theorem AiY {U:List Sg} {n:Int} (h:∀ u ∈ U,¬ u.1 = n):Fd (wdD U) (.inl n) = none:=by
 induction U with
 | nil=>rfl
 | cons x r ih =>
  show Fd ((Sum.inl x.1,PV.str x.2.1) :: wdD r) (Sum.inl n) = _
  rw [Si,if_neg (fun z=>h x List.mem_cons_self (Sum.inl.inj z))]
  exact ih fun u hu=>h u (List.mem_cons_of_mem _ hu)
def Ag5:Ts:=fun p q r P=>∃ (c:Int) (f:Nat->Int) (U:List Sg),p = .int c/\q = .lst (U.map sgP)/\r = .lst ((List.range 28).map fun k=>.int (f k))/\T2 ((List.range 28).map f) U/\U.length = 14/\S28 f/\∀ k R J,k <= 6->JG f U k R J->P (.lst (List.map jnP J)) (.lst (List.map sgP (upG U R (r0G f U).length)))
theorem Aky (T:Txt K mg t):Binds K t.d_qz ["_law_cell","_law_told_here","_law_signs_here"] []:=T.F_qz.binds (ps:=["_law_cell","_law_told_here","_law_signs_here"]) fun _ _ _ _ _ _ us hl=>match us,hl with | [_,_,_],_=>rfl
theorem Ajj (T:Txt K mg t):FnOk P w K mg base (CX1 P w) 1 t.f_qz t.d_qz ["_law_cell","_law_told_here","_law_signs_here"] (spM K t.C_Book Ag5):=by
 refine T.F_qz.ok1 sc_qz (fun vs H Q E h=>h.len) (fun cdv A outer s H vs Q E hr h=>?_)
 have hu:=Co hr
 have hu64:=hr.units
 refine ⟨_,(Bd (Bs (i:=3) sc_qz.nd rfl (by first | exact Or.inl rfl | exact Or.inr rfl) Jt)
   (Bd (Dh PassesOwn.leaving rfl (Cr (pv 1)) (Oc (K':=K) (n:=3) rfl rfl (Ce (Bu (i:=4) sc_qz.nd rfl (Or.inl rfl)) (Ce (Bu (i:=5) sc_qz.nd rfl (Or.inl rfl)) (Ce (Bu (i:=6) sc_qz.nd rfl (Or.inl rfl)) Fr))))
    (Bi (Fq hu (pv 3) (pv 4) (pv 5) rfl)))
   (Bd (Tz (Adj 1 [3] ["_law_sign","_law_words_here"] ["_law_words_here"] rfl (Tq (pv 3)) rfl (fun j y e1 i e2=>match j,e1,e2 with | 0,e1,e2=>by cases e1; cases e2; exact ⟨rfl,rfl,rfl,by decide +kernel⟩ | _ + 1,_,e2=>by simp at e2) (List.forall_mem_cons.mpr ⟨rfl,fun _ h=>nomatch h⟩) (by decide +kernel) (fun _ _ _ _=>(Bu (i:=0) (show List.Nodup (["_law_sign","_law_words_here"]:List Str) by decide +kernel) rfl (Or.inl rfl))) (fun _ _ _ _=>(Vg (Ds Jy (On hu (pv 1) (pv 0) (fun _ _=>rfl)) Bx (Df _)))) (fun _ _ _ _=>(pv 0)) rfl (by decide +kernel) rfl (by decide +kernel) (fun _=>rfl) (i:=7) sc_qz.nd rfl (Or.inl rfl) rfl))
   (Bd (Tz (Bs (i:=8) sc_qz.nd rfl (Or.inl rfl) (Bv Tc (Qg 1 [3] ["_law_sign","_law_words_here"] ["_law_words_here"] rfl (Tq (pv 3)) rfl (fun j y e1 i e2=>match j,e1,e2 with | 0,e1,e2=>by cases e1; cases e2; exact ⟨rfl,rfl,rfl,by decide +kernel⟩ | _ + 1,_,e2=>by simp at e2) (List.forall_mem_cons.mpr ⟨rfl,fun _ h=>nomatch h⟩) (by decide +kernel) (fun _ _ _ _=>(Bu (i:=0) (show List.Nodup (["_law_sign","_law_words_here"]:List Str) by decide +kernel) rfl (Or.inl rfl))) (fun _ _ _ _=>(Vg (Ds (AaM K) (On hu (pv 1) (pv 0) (fun _ _=>rfl)) (Cz (Ba Bx (Ba Bx (Ba Bx (Ba Bx Be))))) rfl))) (fun _ _ _ _=>(pv 0)) rfl (by decide +kernel) rfl (by decide +kernel)) (Gd (Gc K) (pv 2) (Dz Bh) (Dz Bh)))))
   (Bd (Bs (i:=9) sc_qz.nd rfl (Or.inl rfl) (Cz Be))
   (Bd (Bs (i:=10) sc_qz.nd rfl (Or.inl rfl) (Cz Be))
   (Bd (Dh PassesOwn.leaving rfl (Ac4 rfl T.z_range (Ba Bh (Ba (Bv Jc Bh (Bv Db (pv 0) Bh)) Be))) (Bu (i:=11) sc_qz.nd rfl (Or.inl rfl))
    (Bd (Bs (i:=0) sc_qz.nd rfl (Or.inl rfl) (Bv Fg (pv 0) Bh))
   (Bd (Bs (i:=12) sc_qz.nd rfl (Or.inl rfl) (Cp (Cw K) (pv 8) (Bv Db (pv 0) (Cc (Cj K) rfl T.z_len PySem.boot_len (Ba (pv 8) Be))) (fun _ _=>rfl)))
   (Bd (Bs (i:=13) sc_qz.nd rfl (Or.inl rfl) (Cp (Cw K) (pv 7) (Bv Db (Bv Fg (pv 0) (Cc (Cj K) rfl T.z_len PySem.boot_len (Ba (pv 8) Be))) (Cc (Cj K) rfl T.z_len PySem.boot_len (Ba (pv 7) Be))) (fun _ _=>rfl)))
   (Bd (Bs (i:=0) sc_qz.nd rfl (Or.inl rfl) (Bv Fg (pv 0) (Bv Ue (Cc (Cj K) rfl T.z_len PySem.boot_len (Ba (pv 8) Be)) (Cc (Cj K) rfl T.z_len PySem.boot_len (Ba (pv 7) Be)))))
   (Bi (Fe (Ds (Vz hu64) (Fv (Ba (pv 12) (Ba (pv 13) Be))) (pv 10) rfl)
    (Bd (Cb (Fk PySem.F.plainAttrs_list PySem.F.slot_list_append PySem.F.type_list_append Ct (pv 10) (Ba (Fv (Ba (pv 12) (Ba (pv 13) Be))) Be)))
   (Bd (Cb (Fk PySem.F.plainAttrs_list PySem.F.slot_list_append PySem.F.type_list_append Ct (pv 9) (Ba (Fv (Ba (Cp (Cw K) (pv 2) (pv 11) (fun _ _=>rfl)) (Ba (pv 12) (Ba (pv 13) Be)))) Be)))
   (Bd (Cb (Fk PySem.F.plainAttrs_list PySem.F.slot_list_append PySem.F.type_list_append Ct (pv 8) (Ba (Cp (Cw K) (pv 2) (pv 11) (fun _ _=>rfl)) Be)))
   (Bi (Fe (Yo (AbN hu (pv 12) (pv 3)))
    (Bd (Fq hu (pv 3) (Cp (Cw K) (pv 2) (pv 11) (fun _ _=>rfl)) (On hu (pv 3) (pv 12) (fun _ _=>rfl)) rfl)
   (Bi (Cb (Fk PySem.F.plainAttrs_list PySem.F.slot_list_append PySem.F.type_list_append Ct (pv 1) (Ba (Fv (Ba (Cp (Cw K) (pv 2) (pv 11) (fun _ _=>rfl)) (Ba (On hu (pv 3) (pv 12) (fun _ _=>rfl)) (Ba Bh Be)))) Be)))))
    Dr)))))
    Dr)))))))
   (Bi (Cd (pv 9)))))))))),?_⟩
 try dsimp only [Cg,By]
 refine Ab5 h (by decide) (fun a=>(Bo (Du Zq)
   (Bo (Af9 (i:=1) (a:=a) (AfP (Sq (Dw (Ck (top:=14)) (Dw (Ck (top:=14)) (Dw (Ck (top:=14)) Ou))))
    (Os Bb Cy)))
   (Bo (AbY (i:=3) (Ch (EF.eu (Vx  (Ck (top:=1)) (Lm (EU.eb (AaG (EU.eb (Xo Bb)) (EU.eb Cq)))) Cy))))
   (Bo (AbY (i:=3) (Du (Ud (EF.eb (Vx  (Ck (top:=1)) (Lm (EU.eb (Ai6 (Xo Bb) (EF.eb (Dx 4 (Bt Cq (Bt Cq (Bt Cq (Bt Cq Bm))))))))) Cy)) (EF.eb (Lh Bb (Fb (EU.eb Bj)) (Fb (EU.eb Bj)))))))
   (Bo (Du (Dx 0 Bm))
   (Bo (Du (Dx 0 Bm))
   (Bo (Agm (Bz (EU.eb Bj) (Bz (EU.eb (Gb (fun _ _ _=>.int _) (EU.eb Bj) (EU.eb (Cl (fun _ _ _=>.int _) Bb (EU.eb Bj))))) Bm)) (Ck (top:=14))
    (Bo (Ch (Cl (fun _ _ _=>.int _) Bb (EU.eb Bj)))
   (Bo (Ch (Dp Bb (EU.eb (Cl (fun _ _ _=>.int _) Bb (EU.eb (Fc (Bz Bb Bm)))))))
   (Bo (Ch (Dp Bb (EU.eb (Cl (fun _ _ _=>.int _) (EU.eb (Cl (fun _ _ _=>.int _) Bb (EU.eb (Fc (Bz Bb Bm))))) (EU.eb (Fc (Bz Bb Bm)))))))
   (Bo (Ch (Cl (fun _ _ _=>.int _) Bb (EU.eb (Cl (fun _ _ _=>.int _) (EU.eb (Fc (Bz Bb Bm))) (EU.eb (Fc (Bz Bb Bm)))))))
   (Gu (Lm (EU.eb (Acm (Gq 2 (Bt Cy (Bt Cy Bm))) Bb)))
    (Bo (Go (Bt (Gq 2 (Bt Cy (Bt Cy Bm))) Bm))
   (Bo (Go (Bt (Gq 3 (Bt (Dp Bb Bb) (Bt Cy (Bt Cy Bm)))) Bm))
   (Bo (Go (Bt (Dp Bb Bb) Bm))
   (Gu (Lm (EU.eb (Ai0 Bb Bb)))
    (Bo (Os (EU.eb (Dp Bb Bb)) (Aac Bb Bb))
   (AfH (a:=a) (Bt (Gq 3 (Bt (Dp Bb Bb) (Bt (Aac Bb Bb) (Bt Bj Bm)))) Bm)))
    Fx))))
    Fx))))))
   (AgB (i:=1)))))))))) (fun a p0 q0 r0 P hp=>?_)
 clear h hu hu64 hr
 obtain ⟨c,f,U,rfl,rfl,rfl,ht,ul,hf,q⟩:=hp
 simp only [Da,List.zipWith_cons_cons,List.zipWith_nil_left,List.zipWith_nil_right,List.length_cons,List.length_nil,Nat.zero_add,Nat.reduceAdd,Nat.reduceSub,List.replicate_succ,List.replicate_zero,Bool.false_eq_true,if_false,if_true,List.cons_append,List.nil_append,Fh]
 have nd:=ht.nd ul hf
 walk_at "pr"
 refine AiZ rfl (fun z=>?_)
 refine AhZ rfl ⟨fun k ρ=>∃ v4 v5 v6,k <= 14/\ρ = [.sh (.int c),.fl z (U.map sgP),.sh (.lst ((List.range 28).map fun k=>.int (f k))),.ow (.dk (wdD (U.take k))),v4,v5,v6,.un,.un,.un,.un,.un,.un,.un],⟨_,_,_,Nat.zero_le _,rfl⟩,?_,?_,?_⟩
 ·rintro k ρ ⟨v4,v5,v6,_,rfl⟩; rfl
 ·rintro k p ρ hp ⟨v4,v5,v6,hk14,rfl⟩
  rw [List.getElem?_map] at hp
  obtain ⟨s,hs,rfl⟩:=Option.map_eq_some_iff.mp hp
  have hk:k < U.length:=(List.getElem?_eq_some_iff.mp hs).1
  walk_at "pr"
  rotate_left
  ·unfold wdD; rw [List.length_map,List.length_take]; omega
  rw [show Jr (wdD (U.take k)) (Sum.inl s.1) (.str s.2.1) = wdD (U.take (k + 1)) from Aar nd hs]
  exact ⟨_,_,_,by omega,rfl⟩
 ·rintro ρ ⟨v4,v5,v6,hk14,rfl⟩
  rw [List.length_map,List.take_length]
  refine ⟨rfl,?_⟩
  have wl:(wdD U).length = 14:=by unfold wdD; rw [List.length_map,ul]
  walk_at "pr"
  refine ⟨by omega,?_⟩
  rw [Ye]
  refine Gj (S:=U) (enc:=fun s=>PV.int s.1) (f:=fun s=>if s.2.1 = "mark" then some (.int s.1) else none) ?_ (fun d hd Z hZ=>?_)
  rotate_left
  ·walk_at "cp"
   walk_at "pr"
   refine Up (Ta nd hd) ?_
   walk_at "pr"
   by_cases hm:d.2.1 = "mark"
   ·rw [decide_eq_true hm]
    rw [if_pos hm] at hZ
    walk_at "pr"
    exact hZ
   ·rw [decide_eq_false hm]
    rw [if_neg hm] at hZ
    walk_at "pr"
    exact hZ
  rw [AfA,Ajy]
  show fzE _ _ _ _ _
  refine ⟨rfl,?_⟩
  walk_at "pr"
  refine ⟨by omega,?_⟩
  rw [Ye]
  refine Gj (S:=U) (enc:=fun s=>PV.int s.1) (f:=fun s=>if s.2.1 ∈ bs4 then some (.int s.1) else none) ?_ (fun d hd Z hZ=>?_)
  rotate_left
  ·walk_at "cp"
   walk_at "pr"
   refine Up (Ta nd hd) ?_
   walk_at "pr"
   refine Ah7 (L:=bs4) (x:=d.2.1) ?_
   by_cases hm:d.2.1 ∈ bs4
   ·rw [decide_eq_true hm]
    rw [if_pos hm] at hZ
    walk_at "pr"
    exact hZ
   ·rw [decide_eq_false hm]
    rw [if_neg hm] at hZ
    walk_at "pr"
    exact hZ
  rw [AfA]
  have fl:=List.length_filter_le (fun s:Sg=>decide (s.2.1 ∈ bs4)) U
  walk_at "pr"
  all_goals try (first | decide | (rw [List.length_map,List.length_map,Xg]; show _ + 2 <= _; omega))
  rw [Xg,AjQ]
  have rl:(r0G f U).length <= 16:=by unfold r0G; rw [List.length_append,List.length_map]; show _ + 2 <= _; omega
  have g1:=Int.emod_nonneg c (show (7:Int) ≠ 0 by decide)
  have g2:=Int.emod_lt_of_pos c (show (0:Int) < 7 by decide)
  show fzE _ _ _ _ _
  refine ⟨rfl,?_⟩
  walk_at "pr"
  all_goals try (first | decide | exact ⟨by decide,by decide⟩ | omega)
  refine ⟨fun n ρ=>∃ (c':Int) (R:List Sg) (J:List Jn) (v11 v12 v13:Sl),n <= 6/\ρ = [.sh (.int c'),.om a (.lst ((upG U R (r0G f U).length).map sgP)),.sh (.lst ((List.range 28).map fun k=>.int (f k))),.ow (.dk (wdD (upG U R (r0G f U).length))),v4,v5,v6,.sh (.lst ((Ju U).map fun s=>PV.int s.1)),.ow (.lst (R.map fun s=>PV.int s.1)),.ow (.lst (J.map jnP)),.ow (.lst ((J.map (·.2)).map prP)),v11,v12,v13]/\JG f U n R J,⟨c,r0G f U,[],_,_,_,Nat.zero_le _,by rw [Ag1]; rfl,.nil⟩,?_,?_⟩
  ·rintro n ρ hn ⟨c',R,J,v11,v12,v13,hn6,rfl,jg⟩
   have hn':n < 6:=by omega
   obtain ⟨und,uix⟩:=Wm jg hn6 ht ul hf
   have kk:=Qn ht ul hf
   have old:=jg.old2 hn' kk
   have jl:=jg.len
   have rp:0 < R.length:=by rw [jl.2]; unfold r0G; rw [List.length_append]; show 0 < _ + 2 + _; omega
   have ml:=List.length_filter_le (fun s:Sg=>decide (s.2.1 = "mark")) U
   have mp:0 < (Ju U).length:=by
    have h4:4 < U.length:=by omega
    have:=ht.wd 4 _ (List.getElem?_eq_getElem h4) (by omega)
    exact List.length_pos_of_mem (List.mem_filter.mpr ⟨List.getElem_mem h4,decide_eq_true (Option.some.inj this).symm⟩)
   have ulen:(upG U R (r0G f U).length).length <= 60:=by
    have:=(Wl jg hn6 ht ul hf 0).ln
    omega
   have pick:∀ (l:List Sg) (i:Int),0 < l.length->∃ s,l[(i % (l.length:Int)).toNat]? = some s/\s ∈ l/\i % (l.length:Int) = ((i % (l.length:Int)).toNat:Int):=fun l i hl=>by
    have q1:=Int.emod_nonneg i (show (l.length:Int) ≠ 0 by omega)
    have q2:=Int.emod_lt_of_pos i (show (0:Int) < (l.length:Int) by omega)
    have hj:(i % (l.length:Int)).toNat < l.length:=by omega
    exact ⟨_,List.getElem?_eq_getElem hj,List.getElem_mem hj,by omega⟩
   obtain ⟨s,hs1,hs2,hs3⟩:=pick R (c' / 7) rp
   obtain ⟨mr,hm1,hm2,hm3⟩:=pick (Ju U) (c' / 7 / (R.length:Int)) mp
   have fk:((List.range 28).map fun k=>PV.int (f k))[18 + n]? = some (PV.int (f (18 + n))):=by rw [List.getElem?_map,List.getElem?_range (by omega)]; rfl
   have ai:atI ((List.range 28).map fun k=>PV.int (f k)) (18 + (n:Int)) = some (PV.int (f (18 + n))):=by
    rw [show (18 + (n:Int)) = ((18 + n:Nat):Int) by omega]; exact Fm fk
   walk_at "pr"
   all_goals try (first | decide | exact ⟨by decide,by decide⟩ | (simp only [List.length_map]; omega))
   simp only [List.length_map]
   refine Gi (l:=R) (f:=fun s:Sg=>PV.int s.1) (j:=(c' / 7 % (R.length:Int)).toNat) (a:=s) hs1 hs3 ?_
   walk_at "pr"
   all_goals try (first | decide | exact ⟨by decide,by decide⟩ | (simp only [List.length_map]; omega) | exact ⟨by simp only [List.length_map]; omega,by simp only [List.length_map]; omega⟩)
   simp only [List.length_map]
   refine Gi (l:=Ju U) (f:=fun s:Sg=>PV.int s.1) (j:=(c' / 7 / (R.length:Int) % ((Ju U).length:Int)).toNat) (a:=mr) hm1 hm3 ?_
   have mlen:(Ju U).length <= 14:=by unfold Ju; omega
   have prd:0 < (R.length:Int) * ((Ju U).length:Int):=Int.mul_pos (by omega) (by omega)
   have prd2:(R.length:Int) * ((Ju U).length:Int) <= 22 * 14:=Int.mul_le_mul (by omega) (by omega) (by omega) (by decide)
   walk_at "pr"
   all_goals try (first | decide | exact ⟨by decide,by decide⟩ | exact .inl ⟨by simp only [List.length_map]; omega,by simp only [List.length_map]; omega⟩ | exact ⟨by simp only [List.length_map]; omega,by simp only [List.length_map]; omega⟩)
   refine AgT (s:=(s.1,mr.1)) (ss:=J.map (·.2)) (fun hnew=>?_) (fun hold=>?_)
   rotate_left
   ·walk_at "pr"
    exact ⟨_,R,J,_,_,_,by omega,rfl,.skip jg⟩
   have jg2:JG f U (n + 1) (R ++ [(f (10 + n + 8),s.2.1,0)]) (J ++ [(f (10 + n + 8),s.1,mr.1)]):=.add jg hs2 hm2 hnew
   rw [show 10 + n + 8 = 18 + n by omega] at jg2
   obtain ⟨und2,_⟩:=Wm jg2 (by omega) ht ul hf
   have us:=Ago (U:=U) (R:=R) (n:=(r0G f U).length) (by omega) (f (18 + n),s.2.1,0)
   have eh:(J.map (·.2)).map prP ++ [PV.tup [.int s.1,.int mr.1]] = ((J ++ [(f (18 + n),s.1,mr.1)]).map (·.2)).map prP:=by rw [List.map_append,List.map_append]; rfl
   have ej:J.map jnP ++ [PV.tup [.int (f (18 + n)),.int s.1,.int mr.1]] = (J ++ [(f (18 + n),s.1,mr.1)]).map jnP:=by rw [List.map_append]; rfl
   have er:R.map (fun s:Sg=>PV.int s.1) ++ [PV.int (f (18 + n))] = (R ++ [((f (18 + n),s.2.1,0):Sg)]).map fun s:Sg=>PV.int s.1:=by rw [List.map_append]; rfl
   walk_at "pr"
   all_goals try (first | (simp only [List.length_map]; omega))
   refine Wj ai ?_
   walk_at "pr"
   all_goals try (first | (simp only [List.length_map]; omega))
   refine Wj ai ?_
   walk_at "pr"
   all_goals try (first | (simp only [List.length_map]; omega))
   rw [eh,ej,er]
   rcases AcX jg hn6 ht ul hf s hs2 with ⟨np,r,hr⟩ | ⟨pl,hr⟩
   ·have hv:=Ta und hr
    rw [if_neg np] at us
    have hv2:=Ta (s:=(s.1,s.2.1,r)) und2 (by rw [us]; exact List.mem_append_left _ hr)
    have ep:Jr (wdD (upG U R (r0G f U).length)) (Sum.inl (f (18 + n))) (.str s.2.1) = wdD (upG U (R ++ [(f (18 + n),s.2.1,0)]) (r0G f U).length):=by
     rw [us] at und2 ⊢
     have hx:(upG U R (r0G f U).length ++ [(f (18 + n),s.2.1,0)])[(upG U R (r0G f U).length).length]? = some (f (18 + n),s.2.1,0):=by simp
     have:=Aar und2 hx
     rwa [List.take_left,List.take_of_length_le (by simp)] at this
    have et:(upG U R (r0G f U).length).map sgP ++ [PV.tup [.int (f (18 + n)),.str s.2.1,.int 0]] = (upG U (R ++ [(f (18 + n),s.2.1,0)]) (r0G f U).length).map sgP:=by rw [us,List.map_append]; rfl
    rw [hv,Option.isSome_some]
    walk_at "pr"
    refine Up hv ?_
    walk_at "pr"
    refine Wj ai ?_
    walk_at "pr"
    rotate_left
    ·unfold wdD; rw [List.length_map]; omega
    rw [ep]
    refine Wj ai ?_
    walk_at "pr"
    refine Up hv2 ?_
    walk_at "pr"
    rotate_left
    ·rw [List.length_map]; omega
    rw [et]
    exact ⟨_,_,_,_,_,_,by omega,rfl,jg2⟩
   ·have hv:=AiY hr
    rw [if_pos pl,List.append_nil] at us
    rw [hv,Option.isSome_none]
    walk_at "pr"
    exact ⟨_,R ++ [(f (18 + n),s.2.1,0)],_,_,_,_,by omega,(by rw [us]),jg2⟩
  ·rintro ρ ⟨c',R,J,v11,v12,v13,hn6,rfl,jg⟩
   walk_at "pr"
   exact ⟨_,_,rfl,q _ R J hn6 jg⟩
theorem Afp {c:Int} (hc:0 <= c):S28 (s2F c):=by
 have hst:(0:Int) < 1 + c / 64 % 10 ^ 26:=by have:=Int.emod_nonneg (c / 64) (show (10:Int) ^ 26 ≠ 0 by decide); omega
 have hb:byF c ∈ byL:=by
  have h1:=Int.emod_nonneg c (show (8:Int) ≠ 0 by decide)
  have h2:=Int.emod_lt_of_pos c (show (0:Int) < 8 by decide)
  have hj:(c % 8).toNat < byL.length:=by show _ < 8; omega
  unfold byF; rw [List.getElem?_eq_getElem hj]; exact List.getElem_mem hj
 refine ⟨fun i=>?_,fun i j hi hj e=>?_⟩
 ·unfold s2F
  have h1:=Int.emod_nonneg (c / 8) (show (10:Int) ^ 28 ≠ 0 by decide)
  have h2:=Int.emod_nonneg ((i:Int) * byF c + c / 512) (show (28:Int) ≠ 0 by decide)
  have:=Int.mul_nonneg (Int.le_of_lt hst) h2
  omega
 ·unfold s2F at e
  have e2:=Int.eq_of_mul_eq_mul_left (show 1 + c / 64 % 10 ^ 26 ≠ 0 by omega) (show (1 + c / 64 % 10 ^ 26) * (((i:Int) * byF c + c / 512) % 28) = (1 + c / 64 % 10 ^ 26) * (((j:Int) * byF c + c / 512) % 28) by omega)
  generalize c / 512 = z at e2
  generalize byF c = b at hb e2
  simp only [byL,List.mem_cons,List.not_mem_nil,or_false] at hb
  rcases hb with rfl | rfl | rfl | rfl | rfl | rfl | rfl | rfl <;> omega
structure G2A (f:Nat->Int) (U R:List Sg) (J:List Jn) (k y:Nat):Prop where
 hf:S28 f
 ht:T2 ((List.range 28).map f) U
 ul:U.length = 14
 hk:k <= 6
 jg:JG f U k R J
 hy:y = 1\/y = 2
def g2P (f:Nat->Int) (U R:List Sg) (J:List Jn) (y:Nat):PV:=.tup [.lst ((List.range 28).map fun k=>.int (f k)),.lst ((upG U R (r0G f U).length).map sgP),.lst ((mtG f y).map prP),.lst (J.map jnP)]
def AiT:PSp:=fun ps P=>∃ ns,ps = [.scr ns]/\ns.length <= 63/\∀ f U R J k y,G2A f U R J k y->P (g2P f U R J y)
theorem Aj6 (T:Txt K mg t):Binds K t.d_qbb ["_law_script"] []:=T.F_qbb.binds (ps:=["_law_script"]) fun _ _ _ _ _ _ us hl=>match us,hl with | [_],_=>rfl
theorem Aih (T:Txt K mg t):FnOk P w K mg base (CX1 P w) 2 t.f_qbb t.d_qbb ["_law_script"] (spOf K t.C_Book [false] .sh AiT):=by
 refine T.F_qbb.ok1 sc_qbb (fun vs H Q E h=>h.len) (fun cdv A outer s H vs Q E hr h=>?_)
 have hu:=Co hr
 have hu64:=hr.units
 refine ⟨_,(Bd (Bs (i:=1) sc_qbb.nd rfl (Or.inl rfl) (Bv Db (Bp (Wk T) (hr.mono (by decide)) rfl T.m_qh T.F_qh.kp (AaW T) .nil Bw (Ba (pv 0) (Ba Bh Be))) (Bv Jf Bh Bh)))
   (Bd (Bs (i:=2) sc_qbb.nd rfl (Or.inl rfl) (Bp (AiI T) (hr.mono (by decide)) rfl T.m_qbd T.F_qbd.kp (Ajk T) .nil Bw (Ba (pv 1) Be)))
   (Bd (Bs (i:=3) sc_qbb.nd rfl (Or.inl rfl) (Bp (Ah1 T) (hr.mono (by decide)) rfl T.m_qbk T.F_qbk.kp (Ajg T) .nil Bw (Ba (pv 1) (Ba (Bv Db (Bp (Wk T) (hr.mono (by decide)) rfl T.m_qh T.F_qh.kp (AaW T) .nil Bw (Ba (pv 0) (Ba Bh Be))) (Bv Jf Bh Bh)) (Ba (pv 2) Be)))))
   (Bd (Bs (i:=4) sc_qbb.nd rfl (Or.inl rfl) (Bp (Ajj T) (hr.mono (by decide)) rfl T.m_qz T.F_qz.kp (Aky T) .nil Bw (Ba (Bv Db (Bp (Wk T) (hr.mono (by decide)) rfl T.m_qh T.F_qh.kp (AaW T) .nil Bw (Ba (pv 0) (Ba Bh Be))) (Bv Jf Bh Bh)) (Ba (pv 3) (Ba (pv 2) Be)))))
   (Bd (Bs (i:=5) sc_qbb.nd rfl (Or.inl rfl) (Gd (Gc K) (Cz (Ba (Fv (Ba (Cp (Cw K) (pv 2) Bh (fun _ _=>rfl)) (Ba (Cp (Cw K) (pv 2) Bh (fun _ _=>rfl)) Be))) (Ba (Fv (Ba (Cp (Cw K) (pv 2) Bh (fun _ _=>rfl)) (Ba (Cp (Cw K) (pv 2) Bh (fun _ _=>rfl)) Be))) Be))) Uu (Dz (Bv Jc Bh (Bv Db (Bv Fg (pv 1) Bh) Bh)))))
   (Bi (Cd (Fv (Ba (pv 2) (Ba (pv 3) (Ba (pv 5) (Ba (pv 4) Be)))))))))))),?_⟩
 try dsimp only [Cg,By]
 refine Dm h (by decide) (Bo (Ch (Cl (fun _ _ _=>.int _) (EU.eb (Gk (Bz Bb (Bz (EU.eb Bj) Bm)))) (EU.eb (Cl (fun _ _ _=>.int _) (EU.eb Bj) (EU.eb Bj)))))
   (Bo (Ch (EF.eu (Gx (Bz Bb Bm))))
   (Bo (Du (Gx (Bz Bb (Bt (Cl (fun _ _ _=>.int _) (EU.eb (Gk (Bz Bb (Bz (EU.eb Bj) Bm)))) (EU.eb (Cl (fun _ _ _=>.int _) (EU.eb Bj) (EU.eb Bj)))) (Bz Bb Bm)))))
   (Bo (Agw (Cl (fun _ _ _=>.int _) (EU.eb (Gk (Bz Bb (Bz (EU.eb Bj) Bm)))) (EU.eb (Cl (fun _ _ _=>.int _) (EU.eb Bj) (EU.eb Bj)))) Cy)
   (Bo (Ch (EF.eu (Lh (EF.eb (Dx 2 (Bt (Gq 2 (Bt (Dp Bb (EU.eb Bj)) (Bt (Dp Bb (EU.eb Bj)) Bm))) (Bt (Gq 2 (Bt (Dp Bb (EU.eb Bj)) (Bt (Dp Bb (EU.eb Bj)) Bm))) Bm)))) Va (Fb (EU.eb (Gb (fun _ _ _=>.int _) (EU.eb Bj) (EU.eb (Cl (fun _ _ _=>.int _) (EU.eb (Cl (fun _ _ _=>.int _) Bb (EU.eb Bj))) (EU.eb Bj)))))))))
   (Ws 3 (Ws 4 (Gf (Gq 4 (Bt Cy (Bt Cy (Bt Cy (Bt Cy Bm))))))))))))) (fun ps P hp=>?_)
 clear h hu hu64 hr
 obtain ⟨ns,rfl,hl,q⟩:=hp
 simp only [Da,List.zipWith_cons_cons,List.zipWith_nil_left,List.zipWith_nil_right,List.length_cons,List.length_nil,Nat.zero_add,Nat.reduceAdd,Nat.reduceSub,List.replicate_succ,List.replicate_zero,Bool.false_eq_true,if_false,if_true,List.cons_append,List.nil_append,Fh]
 walk_at "pr"
 refine ⟨ns,0,rfl,hl,?_⟩
 walk_at "pr"
 all_goals try (first | decide | exact ⟨by decide,by decide,by decide⟩)
 have hc:=Int.emod_nonneg (cR ns 0) (show (10:Int) ^ 30 ≠ 0 by decide)
 rw [show (10:Int) ^ Int.toNat 30 = 10 ^ 30 from rfl]
 generalize cR ns 0 % 10 ^ 30 = c at hc
 refine ⟨c,rfl,hc,?_⟩
 walk_at "pr"
 refine ⟨ns,1,rfl,hl,?_⟩
 walk_at "pr"
 all_goals try (first | decide | exact ⟨by decide,by decide,by decide⟩)
 refine ⟨c,_,s2L c,rfl,Int.emod_nonneg _ (by decide),by unfold s2L; rw [List.length_map,List.length_range],fun U ul ht=>?_⟩
 walk_at "pr"
 refine ⟨ns,2,rfl,hl,?_⟩
 walk_at "pr"
 all_goals try (first | decide | exact ⟨by decide,by decide,by decide⟩)
 refine ⟨_,s2F c,U,rfl,rfl,(by unfold s2L; rw [List.map_map]; rfl),ht,ul,Afp hc,fun k R J hk jg=>?_⟩
 have gx:∀ i,i < 28->(s2L c)[i]? = some (s2F c i):=fun i hi=>by unfold s2L; rw [List.getElem?_map,List.getElem?_range hi]; rfl
 walk_at "pr"
 refine Gi (l:=s2L c) (f:=PV.int) (j:=14) (a:=s2F c 14) (gx 14 (by decide)) rfl ?_
 walk_at "pr"
 refine Gi (l:=s2L c) (f:=PV.int) (j:=15) (a:=s2F c 15) (gx 15 (by decide)) rfl ?_
 walk_at "pr"
 refine Gi (l:=s2L c) (f:=PV.int) (j:=16) (a:=s2F c 16) (gx 16 (by decide)) rfl ?_
 walk_at "pr"
 refine Gi (l:=s2L c) (f:=PV.int) (j:=17) (a:=s2F c 17) (gx 17 (by decide)) rfl ?_
 walk_at "pr"
 all_goals try (first | decide | exact ⟨by decide,by decide⟩)
 obtain ⟨y,hy,ey⟩:∃ y:Nat,(y = 1\/y = 2)/\1 + c / 32 % 2 = (y:Int):=by
  have h1:=Int.emod_nonneg (c / 32) (show (2:Int) ≠ 0 by decide)
  have h2:=Int.emod_lt_of_pos (c / 32) (show (0:Int) < 2 by decide)
  exact ⟨(1 + c / 32 % 2).toNat,by omega,by omega⟩
 rw [ey]
 have em:Di [PV.tup [.int (s2F c 14),.int (s2F c 15)],PV.tup [.int (s2F c 16),.int (s2F c 17)]] none (some (y:Int)) = (mtG (s2F c) y).map prP:=by
  rcases hy with rfl | rfl <;> rfl
 have z:=q (s2F c) U R J k y ⟨Afp hc,ht,ul,hk,jg,hy⟩
 unfold g2P at z
 rw [<- em,show ((List.range 28).map fun k=>PV.int (s2F c k)) = (s2L c).map .int by unfold s2L; rw [List.map_map]; rfl] at z
 exact z
def cvD (l:List (Key × V)):List (Key × PV):=l.map fun kv=>(kv.1,vP kv.2)
def kkD (U:List Sg) (M:List (Int × Int)):List (Key × PV):=cvD (kK U ++ kM M)
theorem Vd {l:List (Key × V)} {k:Key} {v:V} (nd:((l ++ [(k,v)]).map (·.1)).Nodup):Jr (cvD l) k (vP v) = cvD (l ++ [(k,v)]):=by
 rw [Xz (kvs:=cvD l) (fun z=>by
  rw [List.map_append] at nd
  refine (List.nodup_append.mp nd).2.2 k ?_ k List.mem_cons_self rfl
  unfold cvD at z
  rw [List.map_map] at z
  exact z)]
 unfold cvD
 rw [List.map_append]; rfl
theorem Agj (l:List (Key × V)) (k:Key):Fd (cvD l) k = (Ci l k).map vP:=by
 induction l with
 | nil=>rfl
 | cons x r ih =>
  show Fd ((x.1,vP x.2) :: cvD r) k = _
  rw [Si]
  by_cases z:x.1 = k
  ·rw [if_pos z,Js z]; rfl
  ·rw [if_neg z,Jv z,ih]
theorem Aah (U:List Sg) (M:List (Int × Int)) (n:Int):(Fd (kkD U M) (.inl n)).getD (.str "plain") = .str (Gv U M n):=by
 unfold kkD
 rw [Agj]
 have:=Aba U M n
 cases e:Ci (kK U ++ kM M) (Sum.inl n) with
 | none=>rw [e] at this; show PV.str "plain" = _; injection this with this; rw [this]
 | some v=>rw [e] at this; have t:v = V.str (Gv U M n):=this; rw [t]; rfl
def AiP:PSp:=fun ps P=>∃ f U R J k y,ps = [g2P f U R J y]/\G2A f U R J k y/\P (.dk (kkD (upG U R (r0G f U).length) (mtG f y)))
theorem Ajp (T:Txt K mg t):Binds K t.d_qbf ["_law_lists_here"] []:=T.F_qbf.binds (ps:=["_law_lists_here"]) fun _ _ _ _ _ _ us hl=>match us,hl with | [_],_=>rfl
theorem AiK (T:Txt K mg t):FnOk P w K mg base (CX1 P w) 1 t.f_qbf t.d_qbf ["_law_lists_here"] (spOf K t.C_Book [true] .fr AiP):=by
 refine T.F_qbf.ok1 sc_qbf (fun vs H Q E h=>h.len) (fun cdv A outer s H vs Q E hr h=>?_)
 have hu:=Co hr
 have hu64:=hr.units
 refine ⟨_,(Bd (Bs (i:=1) sc_qbf.nd rfl (Or.inl rfl) Jt)
   (Bd (Dh PassesOwn.leaving rfl (Cr (Cp (Fa K) (pv 0) Bh (fun _ _=>rfl))) (Oc (K':=K) (n:=3) rfl rfl (Ce (Bu (i:=2) sc_qbf.nd rfl (Or.inl rfl)) (Ce (Bu (i:=3) sc_qbf.nd rfl (Or.inl rfl)) (Ce (Bu (i:=4) sc_qbf.nd rfl (Or.inl rfl)) Fr))))
    (Bi (Fq hu (pv 1) (pv 2) (pv 3) rfl)))
   (Bd (Dh PassesOwn.leaving rfl (Cr (Cp (Fa K) (pv 0) Bh (fun _ _=>rfl))) (Oc (K':=K) (n:=2) rfl rfl (Ce (Bu (i:=5) sc_qbf.nd rfl (Or.inl rfl)) (Ce (Bu (i:=6) sc_qbf.nd rfl (Or.inl rfl)) Fr)))
    (Bd (Fq hu (pv 1) (pv 5) Bx rfl)
   (Bi (Fq hu (pv 1) (pv 6) Bx rfl))))
   (Bi (Cd (pv 1)))))),?_⟩
 try dsimp only [Cg,By]
 refine Dm h (by decide) (Bo (Du Zq)
   (Bo (Acq (Fn Bb (EU.eb Bj)) (Sq (Dw (Ck (top:=7)) (Dw (Ck (top:=7)) (Dw (Ck (top:=7)) Ou))))
    (Os Bb Cy))
   (Bo (Acq (Fn Bb (EU.eb Bj)) (Sq (Dw (Ck (top:=7)) (Dw (Ck (top:=7)) Ou)))
    (Bo (Os Bb Cq)
   (Os Bb Cq)))
   Jq))) (fun ps P hp=>?_)
 clear h hu hu64 hr
 obtain ⟨f,U,R,J,k0,y,rfl,ga,q⟩:=hp
 simp only [Da,List.zipWith_cons_cons,List.zipWith_nil_left,List.zipWith_nil_right,List.length_cons,List.length_nil,Nat.zero_add,Nat.reduceAdd,Nat.reduceSub,List.replicate_succ,List.replicate_zero,Bool.false_eq_true,if_false,if_true,List.cons_append,List.nil_append,Fh]
 have bk:=Wl ga.jg ga.hk ga.ht ga.ul ga.hf y
 unfold g2P
 generalize upG U R (r0G f U).length = W at bk q
 generalize mtG f y = M at bk q
 have ndk:=Abe bk.nd
 have wl:W.length <= 60:=by have:=bk.ln; omega
 have ml:M.length <= 30:=by have:=bk.ln; omega
 walk_at "pr"
 refine ⟨fun k ρ=>∃ v2 v3 v4,ρ = [.sh (.tup [.lst ((List.range 28).map fun k=>.int (f k)),.lst (W.map sgP),.lst (M.map prP),.lst (J.map jnP)]),.ow (.dk (cvD (kK (W.take k)))),v2,v3,v4,.un,.un],⟨_,_,_,rfl⟩,?_,?_⟩
 ·rintro k p ρ hp ⟨v2,v3,v4,rfl⟩
  rw [List.getElem?_map] at hp
  obtain ⟨s,hs,rfl⟩:=Option.map_eq_some_iff.mp hp
  have e1:kK (W.take (k + 1)) = kK (W.take k) ++ [(Sum.inl s.1,V.str s.2.1)]:=by rw [Cu hs]; unfold kK; rw [List.map_append]; rfl
  have n1:((kK (W.take (k + 1))).map (·.1)).Nodup:=by
   rw [List.map_append] at ndk
   refine List.Nodup.sublist (List.Sublist.map _ ?_) (List.nodup_append.mp ndk).1
   unfold kK
   exact List.Sublist.map _ (List.take_sublist _ _)
  rw [e1] at n1
  walk_at "pr"
  rotate_left
  ·unfold cvD kK; rw [List.length_map,List.length_map,List.length_take]; omega
  rw [show Jr (cvD (kK (W.take k))) (Sum.inl s.1) (PV.str s.2.1) = cvD (kK (W.take (k + 1))) by rw [e1]; exact Vd n1]
  exact ⟨_,_,_,rfl⟩
 rintro ρ ⟨v2,v3,v4,rfl⟩
 rw [List.length_map,List.take_length]
 walk_at "pr"
 refine ⟨fun k ρ=>∃ v5 v6,ρ = [.sh (.tup [.lst ((List.range 28).map fun k=>.int (f k)),.lst (W.map sgP),.lst (M.map prP),.lst (J.map jnP)]),.ow (.dk (cvD (kK W ++ kM (M.take k)))),v2,v3,v4,v5,v6],⟨_,_,by rw [List.take_zero]; unfold kM; rw [List.append_nil]⟩,?_,?_⟩
 ·rintro k p ρ hp ⟨v5,v6,rfl⟩
  rw [List.getElem?_map] at hp
  obtain ⟨m,hm,rfl⟩:=Option.map_eq_some_iff.mp hp
  have hk:k < M.length:=(List.getElem?_eq_some_iff.mp hm).1
  have e1:kK W ++ kM (M.take (k + 1)) = (kK W ++ kM (M.take k) ++ [(Sum.inl m.1,V.str "open")]) ++ [(Sum.inl m.2,V.str "shut")]:=by rw [Cu hm,Np,List.append_assoc,List.append_assoc]; rfl
  have n1:((kK W ++ kM (M.take (k + 1))).map (·.1)).Nodup:=by
   have e:=Np (M.take (k + 1)) (M.drop (k + 1))
   rw [List.take_append_drop] at e
   rw [e,<- List.append_assoc,List.map_append] at ndk
   exact (List.nodup_append.mp ndk).1
  rw [e1] at n1
  have n2:=n1
  rw [List.map_append] at n2
  have n3:=(List.nodup_append.mp n2).1
  have kl:(cvD (kK W ++ kM (M.take k))).length <= 1000:=by
   have:∀ M:List (Int × Int),(kM M).length = 2 * M.length:=fun M=>by
    induction M with
    | nil=>rfl
    | cons x r ih=>show (kM r).length + 1 + 1 = _; rw [ih,List.length_cons]; omega
   unfold cvD kK
   rw [List.length_map,List.length_append,List.length_map,this,List.length_take]; omega
  have p1:Jr (cvD (kK W ++ kM (M.take k))) (Sum.inl m.1) (PV.str "open") = cvD (kK W ++ kM (M.take k) ++ [(Sum.inl m.1,V.str "open")]):=Vd n3
  have p2:Jr (cvD (kK W ++ kM (M.take k) ++ [(Sum.inl m.1,V.str "open")])) (Sum.inl m.2) (PV.str "shut") = cvD (kK W ++ kM (M.take (k + 1))):=by rw [e1]; have z:=Vd n1; exact z
  have l2:(cvD (kK W ++ kM (M.take k) ++ [(Sum.inl m.1,V.str "open")])).length < 100000:=by
   unfold cvD at kl ⊢; rw [List.length_map] at kl ⊢; rw [List.length_append]; show _ + 1 < _; omega
  have l1:(cvD (kK W ++ kM (M.take k))).length < 100000:=by omega
  walk_at "pr"
  all_goals try (first | exact l1 | (rw [p1]; exact l2))
  rw [p1,p2]
  exact ⟨_,_,rfl⟩
 rintro ρ ⟨v5,v6,rfl⟩
 rw [List.length_map,List.take_length]
 walk_at "pr"
 exact q
def gpF (f:Nat->Int) (W:List Sg) (M:List (Int × Int)) (w:Str):List Int:=((List.range 28).map f).filter fun n=>decide (Gv W M n = w)
def AgU:PSp:=fun ps P=>∃ (f:Nat->Int) (W:List Sg) (M:List (Int × Int)) (J:List Jn) (ws:List Str),ps = [.tup [.lst ((List.range 28).map fun k=>.int (f k)),.lst (W.map sgP),.lst (M.map prP),.lst (J.map jnP)],.dk (kkD W M),.lst (ws.map .str)]/\ws.length <= 100/\P (.lst (ws.map fun w=>.lst ((gpF f W M w).map .int)))
theorem AkQ (T:Txt K mg t):Binds K t.d_qp ["_law_lists_here","_law_words_here","_law_chosen"] []:=T.F_qp.binds (ps:=["_law_lists_here","_law_words_here","_law_chosen"]) fun _ _ _ _ _ _ us hl=>match us,hl with | [_,_,_],_=>rfl
theorem AjM (T:Txt K mg t):FnOk P w K mg base (CX1 P w) 1 t.f_qp t.d_qp ["_law_lists_here","_law_words_here","_law_chosen"] (spOf K t.C_Book [false,false,true] .fr AgU):=by
 refine T.F_qp.ok1 sc_qp (fun vs H Q E h=>h.len) (fun cdv A outer s H vs Q E hr h=>?_)
 have hu:=Co hr
 have hu64:=hr.units
 refine ⟨_,(Bd (Bs (i:=3) sc_qp.nd rfl (Or.inl rfl) (Cz Be))
   (Bd (Dh PassesOwn.leaving rfl (Cr (pv 2)) (Bu (i:=4) sc_qp.nd rfl (by first | exact Or.inl rfl | exact Or.inr rfl))
    (Bi (Cb (Fk PySem.F.plainAttrs_list PySem.F.slot_list_append PySem.F.type_list_append Ct (pv 3) (Ba (Qg 1 [1,4] ["_law_sign","_law_words_here","_law_word"] ["_law_words_here","_law_word"] rfl (Cr (Cp (Fa K) (pv 0) Bh (fun _ _=>rfl))) rfl (fun j y e1 i e2=>match j,e1,e2 with | 0,e1,e2=>by cases e1; cases e2; exact ⟨rfl,rfl,rfl,by decide +kernel⟩ | 1,e1,e2=>by cases e1; cases e2; exact ⟨rfl,rfl,rfl,by decide +kernel⟩ | _ + 2,_,e2=>by simp at e2) (List.forall_mem_cons.mpr ⟨rfl,List.forall_mem_cons.mpr ⟨rfl,fun _ h=>nomatch h⟩⟩) (by decide +kernel) (fun _ _ _ _=>(Bu (i:=0) (show List.Nodup (["_law_sign","_law_words_here","_law_word"]:List Str) by decide +kernel) rfl (Or.inl rfl))) (fun _ _ _ _=>(Vg (Ds Jy (Tu hu (pv 1) (pv 0) Bx ⟨rfl,rfl,rfl,rfl⟩) (pv 2) (Df _)))) (fun _ _ _ _=>(pv 0)) rfl (by decide +kernel) rfl (by decide +kernel)) Be)))))
   (Bi (Cd (pv 3))))),?_⟩
 try dsimp only [Cg,By]
 refine Dm h (by decide) (Bo (Du (Dx 0 Bm))
   (Bo (Sw (Ck (top:=5))
    (Go (Bt (EF.eu (Jm (EU.eb (Fn Bb (EU.eb Bj))) (Ck (top:=1)) (Lm (EU.eb (AaG (EU.eb (Adb Bb Cq)) Bb))) Cy)) Bm)))
   Jq)) (fun ps P hp=>?_)
 clear h hu hu64 hr
 obtain ⟨f,W,M,J,ws,rfl,hw,q⟩:=hp
 simp only [Da,List.zipWith_cons_cons,List.zipWith_nil_left,List.zipWith_nil_right,List.length_cons,List.length_nil,Nat.zero_add,Nat.reduceAdd,Nat.reduceSub,List.replicate_succ,List.replicate_zero,Bool.false_eq_true,if_false,if_true,List.cons_append,List.nil_append,Fh]
 walk_at "pr"
 refine ⟨fun k ρ=>∃ v4,ρ = [.bo (.tup [.lst ((List.range 28).map fun k=>.int (f k)),.lst (W.map sgP),.lst (M.map prP),.lst (J.map jnP)]),.bo (.dk (kkD W M)),.sh (.lst (ws.map .str)),.ow (.lst ((ws.take k).map fun w=>.lst ((gpF f W M w).map .int))),v4],⟨_,rfl⟩,?_,?_⟩
 ·rintro k p ρ hp ⟨v4,rfl⟩
  rw [List.getElem?_map] at hp
  obtain ⟨w,hk,rfl⟩:=Option.map_eq_some_iff.mp hp
  walk_at "pr"
  refine ⟨by simp,?_⟩
  refine Gj (S:=(List.range 28).map f) (enc:=PV.int) (f:=fun n=>if Gv W M n = w then some (.int n) else none) ?_ (fun d hd Z hZ=>?_)
  rotate_left
  ·walk_at "cp"
   walk_at "pr"
   rw [Aah]
   walk_at "pr"
   by_cases hm:Gv W M d = w
   ·rw [decide_eq_true hm]
    rw [if_pos hm] at hZ
    walk_at "pr"
    exact hZ
   ·rw [decide_eq_false hm]
    rw [if_neg hm] at hZ
    walk_at "pr"
    exact hZ
  rw [show ((List.range 28).map f).filterMap (fun n=>if Gv W M n = w then some (PV.int n) else none) = (gpF f W M w).map .int by
   unfold gpF
   generalize (List.range 28).map f = l
   induction l with
   | nil=>rfl
   | cons x r ih =>
    by_cases z:Gv W M x = w
    ·rw [List.filterMap_cons_some (by rw [if_pos z]),List.filter_cons_of_pos (by simp [z]),List.map_cons,ih]
    ·rw [List.filterMap_cons_none (by rw [if_neg z]),List.filter_cons_of_neg (by simp [z]),ih]]
  walk_at "pr"
  rotate_left
  ·rw [List.length_map,List.length_take]; omega
  exact ⟨_,by rw [Cu hk,List.map_append]; rfl⟩
 rintro ρ ⟨v4,rfl⟩
 rw [List.length_map,List.take_length]
 walk_at "pr"
 exact q
def Ahd:PSp:=fun ps P=>∃ (gs:List (List Int)) (cs:List Int),ps = [.lst (gs.map fun g=>.lst (g.map .int)),.lst (cs.map .int)]/\(0 < gs.length/\gs.length <= 100)/\(∀ g ∈ gs,0 < g.length/\g.length <= 100)/\cs.length <= 300/\∀ ts:List Int,ts.length = cs.length->(∀ t ∈ ts,∃ g ∈ gs,t ∈ g)->P (.lst (ts.map .int))
theorem AjT (T:Txt K mg t):Binds K t.d_qbj ["_law_groups_here","_law_cells"] []:=T.F_qbj.binds (ps:=["_law_groups_here","_law_cells"]) fun _ _ _ _ _ _ us hl=>match us,hl with | [_,_],_=>rfl
theorem AiH (T:Txt K mg t):FnOk P w K mg base (CX1 P w) 1 t.f_qbj t.d_qbj ["_law_groups_here","_law_cells"] (spOf K t.C_Book [true,true] .fr Ahd):=by
 refine T.F_qbj.ok1 sc_qbj (fun vs H Q E h=>h.len) (fun cdv A outer s H vs Q E hr h=>?_)
 have hu:=Co hr
 have hu64:=hr.units
 refine ⟨_,(Bd (Bs (i:=2) sc_qbj.nd rfl (Or.inl rfl) (Cz Be))
   (Bd (Dh PassesOwn.leaving rfl (Cr (pv 1)) (Bu (i:=3) sc_qbj.nd rfl (Or.inl rfl))
    (Bd (Bs (i:=4) sc_qbj.nd rfl (Or.inl rfl) (Cp (Cw K) (pv 0) (Bv Db (pv 3) (Cc (Cj K) rfl T.z_len PySem.boot_len (Ba (pv 0) Be))) (fun _ _=>rfl)))
   (Bi (Cb (Fk PySem.F.plainAttrs_list PySem.F.slot_list_append PySem.F.type_list_append Ct (pv 2) (Ba (Cp (Cw K) (pv 4) (Bv Db (Bv Fg (pv 3) (Cc (Cj K) rfl T.z_len PySem.boot_len (Ba (pv 0) Be))) (Cc (Cj K) rfl T.z_len PySem.boot_len (Ba (pv 4) Be))) (fun _ _=>rfl)) Be))))))
   (Bi (Cd (pv 2))))),?_⟩
 try dsimp only [Cg,By]
 refine Dm h (by decide) (Bo (Du (Dx 0 Bm))
   (Bo (Sw (Ck (top:=5))
    (Bo (Ch (Dp Bb (EU.eb (Cl (fun _ _ _=>.int _) Bb (EU.eb (Fc (Bz Bb Bm)))))))
   (Go (Bt (Dp Bb (EU.eb (Cl (fun _ _ _=>.int _) (EU.eb (Cl (fun _ _ _=>.int _) Bb (EU.eb (Fc (Bz Bb Bm))))) (EU.eb (Fc (Bz Bb Bm)))))) Bm))))
   Jq)) (fun ps P hp=>?_)
 clear h hu hu64 hr
 obtain ⟨gs,cs,rfl,hg,hg2,hc,q⟩:=hp
 simp only [Da,List.zipWith_cons_cons,List.zipWith_nil_left,List.zipWith_nil_right,List.length_cons,List.length_nil,Nat.zero_add,Nat.reduceAdd,Nat.reduceSub,List.replicate_succ,List.replicate_zero,Bool.false_eq_true,if_false,if_true,List.cons_append,List.nil_append,Fh]
 walk_at "pr"
 refine ⟨fun k ρ=>∃ (ts:List Int) (v3 v4:Sl),ρ = [.sh (.lst (gs.map fun g=>.lst (g.map .int))),.sh (.lst (cs.map .int)),.ow (.lst (ts.map .int)),v3,v4]/\ts.length = k/\∀ t ∈ ts,∃ g ∈ gs,t ∈ g,⟨[],_,_,rfl,rfl,fun t h=>by cases h⟩,?_,?_⟩
 ·rintro k p ρ hp ⟨ts,v3,v4,rfl,tl,ht⟩
  rw [List.getElem?_map] at hp
  obtain ⟨c,hk,rfl⟩:=Option.map_eq_some_iff.mp hp
  have hkl:k < cs.length:=(List.getElem?_eq_some_iff.mp hk).1
  have g1:=Int.emod_nonneg c (show (gs.length:Int) ≠ 0 by omega)
  have g2:=Int.emod_lt_of_pos c (show (0:Int) < (gs.length:Int) by omega)
  have hj:(c % (gs.length:Int)).toNat < gs.length:=by omega
  obtain ⟨g,hgm,hgi⟩:∃ g,g ∈ gs/\gs[(c % (gs.length:Int)).toNat]? = some g:=⟨_,List.getElem_mem hj,List.getElem?_eq_getElem hj⟩
  obtain ⟨gp,gl⟩:=hg2 g hgm
  have g3:=Int.emod_nonneg (c / (gs.length:Int)) (show (g.length:Int) ≠ 0 by omega)
  have g4:=Int.emod_lt_of_pos (c / (gs.length:Int)) (show (0:Int) < (g.length:Int) by omega)
  have hj2:(c / (gs.length:Int) % (g.length:Int)).toNat < g.length:=by omega
  obtain ⟨t,htm,hti⟩:∃ t,t ∈ g/\g[(c / (gs.length:Int) % (g.length:Int)).toNat]? = some t:=⟨_,List.getElem_mem hj2,List.getElem?_eq_getElem hj2⟩
  walk_at "pr"
  all_goals try (simp only [List.length_map]; omega)
  simp only [List.length_map]
  refine Gi (l:=gs) (f:=fun g:List Int=>PV.lst (g.map .int)) (j:=(c % (gs.length:Int)).toNat) (a:=g) hgi (by omega) ?_
  walk_at "pr"
  all_goals try (first | (simp only [List.length_map]; omega) | exact ⟨by simp only [List.length_map]; omega,by simp only [List.length_map]; omega⟩)
  simp only [List.length_map]
  refine Gi (l:=g) (f:=PV.int) (j:=(c / (gs.length:Int) % (g.length:Int)).toNat) (a:=t) hti (by omega) ?_
  walk_at "pr"
  rotate_left
  ·rw [List.length_map]; omega
  refine ⟨ts ++ [t],_,_,by rw [List.map_append]; rfl,by rw [List.length_append,tl]; rfl,fun x hx=>?_⟩
  rcases List.mem_append.mp hx with hx | hx
  ·exact ht x hx
  ·rw [List.mem_singleton.mp hx]; exact ⟨g,hgm,htm⟩
 rintro ρ ⟨ts,v3,v4,rfl,tl,ht⟩
 rw [List.length_map] at tl
 walk_at "pr"
 exact q ts tl ht
def Ac1 (K:PySem.W.Frag):Sp:=fun vs H Q _=>∃ l d m kvs ts,vs = [.ref d,.ref l]/\H d = some (.dK kvs)/\SqL K H l (List.map V.int ts)/\ts.length <= 300/\(∀ n:Int,∃ w:Str,(Ci kvs (Sum.inl n)).getD (.str "plain") = .str w/\m n = decide (w = "mark")) /\
 ∀ (wl:Addr) (xs:List V) (H':Hp),H wl = none->Same H H'->(∀ x ∈ xs,∃ p,x = V.ref p/\H p = none)->LLat H' wl xs (grp m ts)->Q (.ref wl) H'
theorem Te {c:Prop} [Decidable c] {A B:Prop} (h:¬ c) (q:B):if c then A else B:=by rw [if_neg h]; exact q
theorem Aeu {c:Prop} [Decidable c] {A B:Prop} (h:c) (q:A):if c then A else B:=by rw [if_pos h]; exact q
def AfL:PSp:=fun ps P=>∃ W M ts,ps = [.dk (kkD W M),.lst (List.map .int ts)]/\ts.length <= 300/\P (.lst (List.map (fun g=>PV.lst (List.map .int g)) (grp (Dq W M) ts)))
theorem AiA {C:Addr} {ω:Om} {E:XK} {m n:Bool} {t:TA} {u:UA} (ha:AU K C ω [m,n] t u):EU K C ω (Jz (Ac1 K) [] E t) (Tb AfL u) :=
 fun B G0 H0 own G σ H ρ P Q S hu k=>ha B G0 H0 own G σ H ρ _ _ S hu fun vs ps G1 H1 w1 ok ⟨W,M,ts,e,hl,h⟩=>by
  obtain ⟨v,w,p,q,rfl,e2,r2,r1⟩:=Qj ok
  rw [e] at e2; cases e2
  obtain ⟨a,xs,rfl,ea,l⟩:=r1.lst w1.i
  rw [Rv l] at ea
  obtain ⟨d,kvs,rfl,ed,ld⟩:=r2.dk w1.i
  refine ⟨a,d,Dq W M,kvs,ts,rfl,ed,SqL.of ea,hl,fun n=>⟨Gv W M n,?_,rfl⟩,fun wl xs H2 hwl s2 fx ll=>?_⟩
  ·have kv:=Aah W M n
   rcases Uc (Sum.inl n) ld with ⟨h1,h2⟩ | ⟨x,p,h1,h2,h3⟩
   ·rw [h2] at kv
    rw [h1]
    have kv':PV.str "plain" = .str (Gv W M n):=kv
    injection kv' with kv'
    rw [<- kv']; rfl
   ·rw [h2] at kv
    have kv':p = .str (Gv W M n):=kv
    subst kv'
    cases h3
    rw [h1]; rfl
  ·refine k _ _ _ H2 (w1.trans (Qe w1.i s2)) (Rep.ofL (Dt hwl ll.li) ⟨by rw [ll.at'.1,List.length_map],fun i x y hx hy=>?_⟩) h
   rw [List.getElem?_map] at hy
   obtain ⟨g,hg,rfl⟩:=Option.map_eq_some_iff.mp hy
   obtain ⟨p,e1,hp⟩:=ll.at'.2 i x g hx hg
   obtain ⟨p',e2,hn⟩:=fx x (List.mem_of_getElem? hx)
   subst e1
   cases e2
   exact Rep.ofL (Dt hn hp) (Dy g)
theorem AkP (T:Txt K mg t):Binds K t.d_qq ["_law_words_here","_law_signs_here"] []:=T.F_qq.binds (ps:=["_law_words_here","_law_signs_here"]) fun _ _ _ _ _ _ us hl=>match us,hl with | [_,_],_=>rfl
theorem Aj1 (T:Txt K mg t):FnOk P w K mg base (CX1 P w) 1 t.f_qq t.d_qq ["_law_words_here","_law_signs_here"] (Ac1 K):=by
 refine T.F_qq.ok1 sc_qq (fun vs H Q E h=>?_) (fun cdv A outer s H vs Q E hr h=>?_)
 ·obtain ⟨l,d,m,kvs,ts,rfl,hD,hT,hl,hm,q⟩:=h
  rfl
 ·obtain ⟨l,d,m,kvs,ts,rfl,hD,hT,hl,hm,q⟩:=h
  have hu:=Co hr
  have hu64:=hr.units
  refine ⟨_,(Bd (Bs (i:=2) sc_qq.nd rfl (Or.inl rfl) (Cz Be))
   (Bd (Dh PassesOwn.leaving rfl (Cr (pv 1)) (Bu (i:=3) sc_qq.nd rfl (Or.inl rfl))
    (Bi (Fe (PW.pt (AiX (Ds Jy (Tu hu (pv 0) (pv 3) Bx ⟨rfl,rfl,rfl,rfl⟩) Bx (Df _)) (Agz (Ds AeI (Cc (Ja) rfl T.z_len PySem.boot_len (Ba (pv 2) Be)) Bh (Df _)))))
    (Bi (Cb (Fk PySem.F.plainAttrs_list PySem.F.slot_list_append PySem.F.type_list_append Ct (Cp (Uq) (pv 2) (AaB Ya Bh) (fun _ _=>rfl)) (Ba (pv 3) Be))))
    (Bi (Cb (Fk PySem.F.plainAttrs_list PySem.F.slot_list_append PySem.F.type_list_append Ct (pv 2) (Ba (Cz (Ba (pv 3) Be)) Be)))))))
   (Bi (Cd (pv 2))))),?_⟩
  try dsimp only [Cg,By]
  walk_at "rd"
  refine ⟨by decide,fun wl H0 hwl s0 e0=>?_⟩
  walk_at "rd"
  refine Lf (i:=1) rfl (s0.seq hT) (fun i σ H'=>∃ v3 xs,σ = [some (.ref d),some (.ref l),some (.ref wl),v3]/\Same H H'/\(∀ x ∈ xs,∃ p,x = V.ref p/\H p = none)/\LLat H' wl xs (grp m (ts.take i))) ⟨none,[],rfl,s0,(fun x h=>by cases h),⟨e0,LAt.nil,List.nodup_nil,by simp⟩⟩ (fun i σ H' _ ⟨_,_,_,s,_⟩=>s.seq hT) ?_ ?_
  ·rintro i x σ H' hi ⟨v3,xs,rfl,s,fx,ll⟩
   obtain ⟨n,en,rfl⟩:=Yk hi
   have hlt:=(List.getElem?_eq_some_iff.mp en).1
   have eg:grp m (ts.take (i + 1)) = Nz m (grp m (ts.take i)) n:=by rw [Cu en,Xc]
   have hli:=ll.li
   have hxl:xs.length <= 300:=by
    have:=(Op m (ts.take i)).ln
    rw [<- ll.at'.1,List.length_take] at this
    omega
   have hD':H' d = some (.dK kvs):=s _ _ hD
   have push:(grp m (ts.take i) = []\/m n = false)->∀ (p:Addr) (H3 H4:Hp),H' p = none->Same H' H3->H3 p = some (.lst [V.int n])->Chg wl H3 H4->H4 wl = some (.lst (xs ++ [.ref p]))->∃ v3 xs,[some (V.ref d),some (.ref l),some (.ref wl),some (.int n)] = [some (V.ref d),some (.ref l),some (.ref wl),v3]/\Same H H4/\(∀ x ∈ xs,∃ p,x = V.ref p/\H p = none)/\LLat H4 wl xs (grp m (ts.take (i + 1))):=fun hz p H3 H4 hp s3 e3 c4 e4=>by
    have npw:p ≠ wl:=(Bq hli hp).symm
    refine ⟨_,_,rfl,(s.trans s3).chg c4 hwl,fun x hx=>?_,by rw [eg,Rb hz]; exact ll.push hp s3 c4 e4 (fun _ _ h _=>h) (c4 _ _ e3 npw)⟩
    rcases List.mem_append.mp hx with w | w
    ·exact fx x w
    ·exact ⟨p,List.mem_singleton.mp w,s.free hp⟩
   walk_at "rd"
   obtain ⟨w,hw,hmw⟩:=hm n
   rw [hw]
   walk_at "rd"
   by_cases hx:w = "mark"
   ·have hmt:m n = true:=by rw [hmw,decide_eq_true hx]
    refine Aeu (by simp [hx]) ?_
    walk_at "rd"
    by_cases hz0:xs.length = 0
    ·have hz:grp m (ts.take i) = []\/m n = false:=.inl (List.eq_nil_of_length_eq_zero (by rw [<- ll.at'.1]; exact hz0))
     refine Te (by simp [hz0]) ?_
     walk_at "rd"
     refine ⟨(by decide:1 <= sizeLine),fun p H3 hp s3 e3=>?_⟩
     walk_at "rd"
     walk_at "rd"
     refine Fs (s3 _ _ hli) (Fu (by omega)) fun H4 c4 e4=>?_
     walk_at "rd"
     exact push hz p H3 H4 hp s3 e3 c4 e4
    ·refine Aeu (decide_eq_true (by omega)) ?_
     obtain ⟨xs',p,gs',g,ex,eg',hp⟩:=ll.last (fun z=>hz0 (by rw [ll.at'.1,z]; rfl))
     have ll2:=ll
     rw [eg',ex] at ll2
     rw [eg'] at eg
     have hgl:g.length <= 300:=by
      have z:=(Op m (ts.take i)).fl
      rw [eg'] at z
      have:=congrArg List.length z
      simp at this
      omega
     walk_at "rd"
     refine Wg (SqL.of ll2.li) ?_ (Qi _ _)
     walk_at "rd"
     walk_at "rd"
     refine Fs hp (Fu (by rw [List.length_map]; omega)) fun H4 c4 e4=>?_
     walk_at "rd"
     have fp:H p = none:=by
      obtain ⟨p',e,z⟩:=fx (V.ref p) (by rw [ex]; exact List.mem_append_right _ List.mem_cons_self)
      cases e; exact z
     exact ⟨_,_,rfl,s.chg c4 fp,fun x hx=>fx x (by rw [ex]; exact hx),by rw [eg,Tt hmt]; exact ll2.add c4 e4⟩
   ·have hmt:m n = false:=by rw [hmw,decide_eq_false hx]
    refine Te (by simp [hx]) ?_
    refine Te (by simp) ?_
    walk_at "rd"
    refine ⟨(by decide:1 <= sizeLine),fun p H3 hp s3 e3=>?_⟩
    walk_at "rd"
    walk_at "rd"
    refine Fs (s3 _ _ hli) (Fu (by omega)) fun H4 c4 e4=>?_
    walk_at "rd"
    exact push (.inr hmt) p H3 H4 hp s3 e3 c4 e4
  ·rintro σ H' ⟨v3,xs,rfl,s,fx,ll⟩
   rw [List.length_map,List.take_length] at ll
   walk_at "rd"
   exact q wl xs H' hwl s fx ll
theorem AgA {xs:List PV} {P:PV->Prop} (h0:xs = []->P (.bl false)) (h1:xs ≠ []->P (.bl true)):Xb true (.lst xs) (.lst []) P:=⟨xs,[],rfl,rfl,(fun _ i x y _ h=>by cases h),fun b hb=>by
 by_cases z:xs = []
 ·rw [hb.mpr z]; exact h0 z
 ·have:b = false:=by
   cases b with
   | false=>rfl
   | true=>exact absurd (hb.mp rfl) z
  rw [this]; exact h1 z⟩
theorem Sh {α:Type} (l:List α) (g:α->Int):l.filterMap (fun j=>some (PV.int (g j))) = (l.map g).map .int:=by
 rw [List.map_map]
 exact congrFun (List.filterMap_eq_map' (f:=fun j=>PV.int (g j))) l
def myW:List Str:=["fore","mark","back","mark","plain","num","mark","blank","open","out"]
def Ag0:PSp:=fun ps P=>∃ (f:Nat->Int) (W:List Sg) (M:List (Int × Int)) (J:List Jn),ps = [.tup [.lst ((List.range 28).map fun k=>.int (f k)),.lst (W.map sgP),.lst (M.map prP),.lst (J.map jnP)],.dk (kkD W M)]/\(∀ w ∈ myW,0 < (gpF f W M w).length)/\J.length <= 7/\∀ gs:List (List Int),(0 < gs.length/\gs.length <= 100)->(∀ g ∈ gs,0 < g.length/\g.length <= 100)->P (.lst (gs.map fun g=>.lst (g.map .int)))
theorem Aja (T:Txt K mg t):Binds K t.d_qbc ["_law_lists_here","_law_words_here"] []:=T.F_qbc.binds (ps:=["_law_lists_here","_law_words_here"]) fun _ _ _ _ _ _ us hl=>match us,hl with | [_,_],_=>rfl
theorem Ahz (T:Txt K mg t):FnOk P w K mg base (CX1 P w) 2 t.f_qbc t.d_qbc ["_law_lists_here","_law_words_here"] (spOf K t.C_Book [true,false] .fr Ag0):=by
 refine T.F_qbc.ok1 sc_qbc (fun vs H Q E h=>h.len) (fun cdv A outer s H vs Q E hr h=>?_)
 have hu:=Co hr
 have hu64:=hr.units
 refine ⟨_,(@Bd _ _ _ _ _ (Bs (i:=2) sc_qbc.nd rfl (Or.inl rfl) (Bp (AjM T) (hr.mono (by decide)) rfl T.m_qp T.F_qp.kp (AkQ T) .nil Bw (@Ba _ _ _ _ _ (pv 0) (@Ba _ _ _ _ _ (pv 1) (@Ad1 _ _ _ _ _ _ (@Cz _ _ _ _ (@Fj _ _ _ _ _ _ _ Bx (@Fj _ _ _ _ _ _ _ Bx (@Fj _ _ _ _ _ _ _ Bx (@Fj _ _ _ _ _ _ _ Bx (@Fj _ _ _ _ _ _ _ Bx (@Fj _ _ _ _ _ _ _ Bx (@Fj _ _ _ _ _ _ _ Bx (@Fj _ _ _ _ _ _ _ Bx (@Fj _ _ _ _ _ _ _ Bx (@Fj _ _ _ _ _ _ _ Bx Be))))))))))) Be) rfl) rfl)))
   (@Bd _ _ _ _ _ (Fe (Ds (Vb K hu64) (@Cp _ _ _ _ _ _ _ (Fa K) (pv 0) Bh (fun _ _=>rfl)) (@Cz _ _ _ _ Be) (Df _))
    (@Bd _ _ _ _ _ (Cb (Fk PySem.F.plainAttrs_list PySem.F.slot_list_append PySem.F.type_list_append Ct (pv 2) (@Ba _ _ _ _ _ (Nm 1 ["_law_join"] rfl rfl (Cr (@Cp _ _ _ _ _ _ _ (Fa K) (pv 0) Bh (fun _ _=>rfl))) (fun _ _ _ _=>(Bu (i:=0) (show List.Nodup (["_law_join"]:List Str) by decide +kernel) rfl (Or.inl rfl))) (fun _ _ _ _=>Jk) (fun _ _ _ _=>(@Cp _ _ _ _ _ _ _ (Fa K) (pv 0) Bh (fun _ _=>rfl))) (by decide +kernel) (by decide +kernel) rfl (by decide +kernel)) Be rfl)))
   (@Bd _ _ _ _ _ (Cb (Fk PySem.F.plainAttrs_list PySem.F.slot_list_append PySem.F.type_list_append Ct (pv 2) (@Ba _ _ _ _ _ (Nm 1 ["_law_join"] rfl rfl (Cr (@Cp _ _ _ _ _ _ _ (Fa K) (pv 0) Bh (fun _ _=>rfl))) (fun _ _ _ _=>(Bu (i:=0) (show List.Nodup (["_law_join"]:List Str) by decide +kernel) rfl (Or.inl rfl))) (fun _ _ _ _=>Jk) (fun _ _ _ _=>(@Cp _ _ _ _ _ _ _ (Fa K) (pv 0) Bh (fun _ _=>rfl))) (by decide +kernel) (by decide +kernel) rfl (by decide +kernel)) Be rfl)))
   (@Bi _ _ _ (Cb (Fk PySem.F.plainAttrs_list PySem.F.slot_list_append PySem.F.type_list_append Ct (pv 2) (@Ba _ _ _ _ _ (Nm 1 ["_law_join"] rfl rfl (Cr (@Cp _ _ _ _ _ _ _ (Fa K) (pv 0) Bh (fun _ _=>rfl))) (fun _ _ _ _=>(Bu (i:=0) (show List.Nodup (["_law_join"]:List Str) by decide +kernel) rfl (Or.inl rfl))) (fun _ _ _ _=>Jk) (fun _ _ _ _=>(@Cp _ _ _ _ _ _ _ (Fa K) (pv 0) Bh (fun _ _=>rfl))) (by decide +kernel) (by decide +kernel) rfl (by decide +kernel)) Be rfl))))))
    Dr)
   (@Bi _ _ _ (@Cd _ _ _ _ (pv 2))))),?_⟩
 try dsimp only [Cg,By]
 refine Dm h (by decide) (Bo (Du (Gx (Bz Bb (Bz Bb (Bt (EF.eu (Dx 10 (Bt Cq (Bt Cq (Bt Cq (Bt Cq (Bt Cq (Bt Cq (Bt Cq (Bt Cq (Bt Cq (Bt Cq Bm)))))))))))) Bm)))))
   (Bo (Gu (Lm (EU.eb (Ss (EU.eb (Fn Bb (EU.eb Bj))) (EF.eb (Dx 0 Bm)))))
    (Bo (Go (Bt (EF.eu (Jm (EU.eb (Fn Bb (EU.eb Bj))) (Ck (top:=1)) Ji (Fn Bb (EU.eb Bj)))) Bm))
   (Bo (Go (Bt (EF.eu (Jm (EU.eb (Fn Bb (EU.eb Bj))) (Ck (top:=1)) Ji (Fn Bb (EU.eb Bj)))) Bm))
   (Go (Bt (EF.eu (Jm (EU.eb (Fn Bb (EU.eb Bj))) (Ck (top:=1)) Ji (Fn Bb (EU.eb Bj)))) Bm))))
    Fx)
   Jq)) (fun ps P hp=>?_)
 clear h hu hu64 hr
 obtain ⟨f,W,M,J,rfl,hg,jl,q⟩:=hp
 simp only [Da,List.zipWith_cons_cons,List.zipWith_nil_left,List.zipWith_nil_right,List.length_cons,List.length_nil,Nat.zero_add,Nat.reduceAdd,Nat.reduceSub,List.replicate_succ,List.replicate_zero,Bool.false_eq_true,if_false,if_true,List.cons_append,List.nil_append,Fh]
 walk_at "pr"
 refine ⟨f,W,M,J,myW,rfl,by decide,?_⟩
 rw [show (myW.map fun w=>PV.lst ((gpF f W M w).map .int)) = (myW.map (gpF f W M)).map (fun g:List Int=>PV.lst (g.map .int)) by rw [List.map_map]; rfl]
 have g0:∀ g ∈ myW.map (gpF f W M),0 < g.length/\g.length <= 100:=fun g hg2=>by
  obtain ⟨w,hw,rfl⟩:=List.mem_map.mp hg2
  refine ⟨hg w hw,?_⟩
  unfold gpF
  refine Nat.le_trans (List.length_filter_le _ _) ?_
  rw [List.length_map,List.length_range]; decide
 have gl:(myW.map (gpF f W M)).length = 10:=by rw [List.length_map]; rfl
 generalize myW.map (gpF f W M) = gs0 at g0 gl
 walk_at "pr"
 refine ⟨3,_,_,rfl,rfl,Fm (j:=3) rfl,?_⟩
 walk_at "pr"
 refine AgA (xs:=J.map jnP) (fun h0=>?_) (fun h1=>?_)
 ·walk_at "pr"
  exact q gs0 ⟨by omega,by omega⟩ g0
 ·have hJ:0 < J.length:=by
   cases J with
   | nil=>exact absurd rfl h1
   | cons x r=>exact Nat.succ_pos _
  walk_at "pr"
  refine ⟨3,_,_,rfl,rfl,Fm (j:=3) rfl,?_⟩
  walk_at "pr"
  refine ⟨by rw [List.length_map]; omega,?_⟩
  refine Gj (S:=J) (enc:=jnP) (f:=fun j=>some (.int j.1)) ?_ (fun d hd Z hZ=>?_)
  rotate_left
  ·walk_at "cp"
   walk_at "pr"
   exact hZ
  rw [Sh J fun j=>j.1]
  walk_at "pr"
  rotate_left
  ·simp only [List.length_append,List.length_map,List.length_cons,List.length_nil]; show _ < _; omega
  refine ⟨3,_,_,rfl,rfl,Fm (j:=3) rfl,?_⟩
  walk_at "pr"
  refine ⟨by rw [List.length_map]; omega,?_⟩
  refine Gj (S:=J) (enc:=jnP) (f:=fun j=>some (.int j.2.1)) ?_ (fun d hd Z hZ=>?_)
  rotate_left
  ·walk_at "cp"
   walk_at "pr"
   exact hZ
  rw [Sh J fun j=>j.2.1]
  walk_at "pr"
  rotate_left
  ·simp only [List.length_append,List.length_map,List.length_cons,List.length_nil]; show _ < _; omega
  refine ⟨3,_,_,rfl,rfl,Fm (j:=3) rfl,?_⟩
  walk_at "pr"
  refine ⟨by rw [List.length_map]; omega,?_⟩
  refine Gj (S:=J) (enc:=jnP) (f:=fun j=>some (.int j.2.2)) ?_ (fun d hd Z hZ=>?_)
  rotate_left
  ·walk_at "cp"
   walk_at "pr"
   exact hZ
  rw [Sh J fun j=>j.2.2]
  walk_at "pr"
  rotate_left
  ·simp only [List.length_append,List.length_map,List.length_cons,List.length_nil]; show _ < _; omega
  have z:=q (gs0 ++ [J.map (·.1)] ++ [J.map (·.2.1)] ++ [J.map (·.2.2)]) ⟨by simp only [List.length_append,List.length_cons,List.length_nil]; omega,by simp only [List.length_append,List.length_cons,List.length_nil]; omega⟩ (fun g hg2=>by
   simp only [List.mem_append,List.mem_singleton] at hg2
   rcases hg2 with ((hg2 | rfl) | rfl) | rfl
   ·exact g0 g hg2
   ·rw [List.length_map]; exact ⟨hJ,by omega⟩
   ·rw [List.length_map]; exact ⟨hJ,by omega⟩
   ·rw [List.length_map]; exact ⟨hJ,by omega⟩)
  simpa using z
theorem Tf (gs:List (List Int)) (g:List Int):(gs ++ [g]).flatten = gs.flatten ++ g:=by rw [List.flatten_append,List.flatten_cons,List.flatten_nil,List.append_nil]
theorem Je (gs:List (List Int)) (k:Nat):(gs.take k).flatten.length <= gs.flatten.length:=by
 have e:gs.flatten = (gs.take k).flatten ++ (gs.drop k).flatten:=by rw [<- List.flatten_append,List.take_append_drop]
 rw [e,List.length_append]; omega
def Aiy:PSp:=fun ps P=>∃ gs:List (List Int),ps = [.lst (gs.map fun g:List Int=>PV.lst (g.map .int))]/\gs.flatten.length <= 1000/\P (.lst (gs.flatten.map .int))
theorem Akl (T:Txt K mg t):Binds K t.d_qbl ["wholes"] []:=T.F_qbl.binds (ps:=["wholes"]) fun _ _ _ _ _ _ us hl=>match us,hl with | [_],_=>rfl
theorem AiL (T:Txt K mg t):FnOk P w K mg base (CX1 P w) 1 t.f_qbl t.d_qbl ["wholes"] (spOf K t.C_Book [false] .fr Aiy):=by
 refine T.F_qbl.ok1 sc_qbl (fun vs H Q E h=>h.len) (fun cdv A outer s H vs Q E hr h=>?_)
 have hu:=Co hr
 have hu64:=hr.units
 refine ⟨_,(Bd (Bs (i:=1) sc_qbl.nd rfl (Or.inl rfl) (Cz Be))
   (Bd (Dh PassesOwn.leaving rfl (Cr (pv 0)) (Bu (i:=2) sc_qbl.nd rfl (Or.inl rfl))
    (Bi (Cb (Fk PySem.F.plainAttrs_list PySem.F.slot_list_extend PySem.F.type_list_extend AaJ (pv 1) (Ba (pv 2) Be)))))
   (Bi (Cd (pv 1))))),?_⟩
 try dsimp only [Cg,By]
 refine Dm h (by decide) (Bo (Du (Dx 0 Bm))
   (Bo (Sw (Ck (top:=3))
    (AiR (Bz Bb Bm)))
   Jq)) (fun ps P hp=>?_)
 clear h hu hu64 hr
 obtain ⟨gs,rfl,hl,q⟩:=hp
 simp only [Da,List.zipWith_cons_cons,List.zipWith_nil_left,List.zipWith_nil_right,List.length_cons,List.length_nil,Nat.zero_add,Nat.reduceAdd,Nat.reduceSub,List.replicate_succ,List.replicate_zero,Bool.false_eq_true,if_false,if_true,List.cons_append,List.nil_append,Fh]
 walk_at "pr"
 refine ⟨fun k ρ=>∃ v2,ρ = [.bo (.lst (gs.map fun g:List Int=>PV.lst (g.map .int))),.ow (.lst ((gs.take k).flatten.map .int)),v2],⟨_,rfl⟩,?_,?_⟩
 ·rintro k p ρ hp ⟨v2,rfl⟩
  rw [List.getElem?_map] at hp
  obtain ⟨g,hk,rfl⟩:=Option.map_eq_some_iff.mp hp
  have e:=Cu hk
  walk_at "pr"
  rotate_left
  ·have:=Je gs (k + 1)
   rw [e,Tf,List.length_append] at this
   simp only [List.length_map]
   omega
  exact ⟨_,by rw [e,Tf,List.map_append]⟩
 rintro ρ ⟨v2,rfl⟩
 rw [List.length_map,List.take_length]
 walk_at "pr"
 exact q
theorem Oa (gs:List (List Int)) (i j:Int):(Di gs (some i) (some j)).flatten.length <= gs.flatten.length:=by
 unfold Di
 refine Nat.le_trans (Je _ _) ?_
 have e:∀ k,gs.flatten = (gs.take k).flatten ++ (gs.drop k).flatten:=fun k=>by rw [<- List.flatten_append,List.take_append_drop]
 rw [e,List.length_append]; exact Nat.le_add_left _ _
def Agf (c:Addr):Lk:=fun ps P X=>∃ U M J ts i j,ps = [.bk U M J,.lst (List.map .int ts),.int i,.int j]/\ts.length <= 300/\(Ld (grp (Dq U M) ts).length i j->P (.lst ((Di (grp (Dq U M) ts) (some i) (some j)).flatten.map .int)))/\(¬ Ld (grp (Dq U M) ts).length i j->X c)
theorem Afl (T:Txt K mg t):Binds K t.d_qbn ["book","text","start","end"] []:=T.F_qbn.binds (ps:=["book","text","start","end"]) fun _ _ _ _ _ _ us hl=>match us,hl with | [_,_,_,_],_=>rfl
theorem AbO (T:Txt K mg t):FnOk P w K mg base (CX1 P w) 5 t.f_qbn t.d_qbn ["book","text","start","end"] (spX K t.C_Book [false,false,false,false] .fr (Agf t.C_NoPlace)):=by
 refine T.F_qbn.ok1 sc_qbn (fun vs H Q E h=>h.len) (fun cdv A outer s H vs Q E hr h=>?_)
 have hu:=Co hr
 have hu64:=hr.units
 refine ⟨_,(Bd (Bs (i:=4) sc_qbn.nd rfl (Or.inl rfl) (Bp (Aiz T) (hr.mono (by decide)) rfl T.m_qbg T.F_qbg.kp (Ajr T) .nil Bw (Ba (pv 0) (Ba (pv 1) Be))))
   (Bd (Cb (Bp (Ake T) (hr.mono (by decide)) rfl T.m_ql T.F_ql.kp (AkA T) .nil Bw (Ba (pv 2) (Ba (pv 3) (Ba (Cc (Cj K) rfl T.z_len PySem.boot_len (Ba (pv 4) Be)) Be)))))
   (Bi (Cd (Bp (AiL T) (hr.mono (by decide)) rfl T.m_qbl T.F_qbl.kp (Akl T) .nil Bw (Ba (Gd (Gc K) (pv 4) (Dz (pv 2)) (Dz (pv 3))) Be)))))),?_⟩
 try dsimp only [Cg,By]
 refine Vw h (by decide) (fun X=>(Bo (Ch (Ahx (Bz Bb (Bz Bb Bm))))
   (Bo (AfV (EU.eb (AdT (Bz Bb (Bz Bb (Bz (EU.eb (Fc (Bz Bb Bm))) Bm))))))
   (Zj (Gx (Bz (EF.eb (Lh Bb (Fb Bb) (Fb Bb))) Bm)))))) (fun ps P X hp=>?_)
 clear h hu hu64 hr
 obtain ⟨U,M,J,ts,i,j,rfl,hl,q1,q2⟩:=hp
 simp only [Da,List.zipWith_cons_cons,List.zipWith_nil_left,List.zipWith_nil_right,List.length_cons,List.length_nil,Nat.zero_add,Nat.reduceAdd,Nat.reduceSub,List.replicate_succ,List.replicate_zero,Bool.false_eq_true,if_false,if_true,List.cons_append,List.nil_append,Fh]
 walk_at "pr"
 refine ⟨U,M,J,ts,rfl,hl,?_⟩
 have go:=Op (Dq U M) ts
 generalize grp (Dq U M) ts = gs at go q1 q2
 walk_at "pr"
 rw [List.length_map]
 refine ⟨gs.length,i,j,rfl,fun h=>?_,fun h=>?_⟩
 ·walk_at "pr"
  rw [Nl]
  refine ⟨_,rfl,?_,?_⟩
  ·have:=Oa gs i j
   rw [go.fl] at this
   omega
  ·exact q1 h
 ·exact q2 h
def AbM:PSp:=fun ps P=>∃ i:Int,ps = [.int i]/\P (.bl true)
theorem Ajl (T:Txt K mg t):Binds K t.d_qbe ["_law_found"] []:=T.F_qbe.binds (ps:=["_law_found"]) fun _ _ _ _ _ _ us hl=>match us,hl with | [_],_=>rfl
theorem AhK (T:Txt K mg t):FnOk P w K mg base (CX1 P w) 1 t.f_qbe t.d_qbe ["_law_found"] (spOf K t.C_Book [false] .sh AbM):=by
 refine T.F_qbe.ok1 AgK (fun vs H Q E h=>h.len) (fun cdv A outer s H vs Q E hr h=>?_)
 have hu:=Co hr
 have hu64:=hr.units
 refine ⟨_,(Bi (Cd (Ge (Cc (Ng K) rfl T.z_isinstance PyProof.Rows.boot_isinstance (Ba (pv 0) (Ba (Gn (v:=.ty "int") rfl T.z_int PyProof.Rows.boot_int rfl) Be))) (Gp (Yn (Cc (Ng K) rfl T.z_isinstance PyProof.Rows.boot_isinstance (Ba (pv 0) (Ba (Gn (v:=.ty "bool") rfl T.z_bool PyProof.Rows.boot_bool rfl) Be)))))))),?_⟩
 try dsimp only [Cg,By]
 refine Dm h (by decide) (Gf (Ol (EU.eb (Xi Bb)) (Zl (EU.eb (Xi Bb))))) (fun ps P hp=>?_)
 clear h hu hu64 hr
 obtain ⟨i,rfl,q⟩:=hp
 simp only [Da,List.zipWith_cons_cons,List.zipWith_nil_left,List.zipWith_nil_right,List.length_cons,List.length_nil,Nat.zero_add,Nat.reduceAdd,Nat.reduceSub,List.replicate_succ,List.replicate_zero,Bool.false_eq_true,if_false,if_true,List.cons_append,List.nil_append,Fh]
 walk_at "pr"
 exact q
def Agl:PSp:=fun ps P=>∃ gs:List (List Int),ps = [.lst (gs.map fun g:List Int=>PV.lst (g.map .int))]/\gs.flatten.length <= 1000/\P (.lst (gs.flatten.map .int))
theorem Ajm (T:Txt K mg t):Binds K t.d_qbi ["_law_some"] []:=T.F_qbi.binds (ps:=["_law_some"]) fun _ _ _ _ _ _ us hl=>match us,hl with | [_],_=>rfl
theorem Ahi (T:Txt K mg t):FnOk P w K mg base (CX1 P w) 1 t.f_qbi t.d_qbi ["_law_some"] (spOf K t.C_Book [true] .fr Agl):=by
 refine T.F_qbi.ok1 sc_qbi (fun vs H Q E h=>h.len) (fun cdv A outer s H vs Q E hr h=>?_)
 have hu:=Co hr
 have hu64:=hr.units
 refine ⟨_,(Bd (Bs (i:=1) sc_qbi.nd rfl (Or.inl rfl) (Cz Be))
   (Bd (Dh PassesOwn.leaving rfl (Cr (pv 0)) (Bu (i:=2) sc_qbi.nd rfl (Or.inl rfl))
    (Bi (Bs (i:=1) sc_qbi.nd rfl (Or.inl rfl) (Bv Tc (pv 1) (pv 2)))))
   (Bi (Cd (pv 1))))),?_⟩
 try dsimp only [Cg,By]
 refine Dm h (by decide) (Bo (Du (Dx 0 Bm))
   (Bo (Sw (Ck (top:=3))
    (Du (Ud Bb Bb)))
   Jq)) (fun ps P hp=>?_)
 clear h hu hu64 hr
 obtain ⟨gs,rfl,hl,q⟩:=hp
 simp only [Da,List.zipWith_cons_cons,List.zipWith_nil_left,List.zipWith_nil_right,List.length_cons,List.length_nil,Nat.zero_add,Nat.reduceAdd,Nat.reduceSub,List.replicate_succ,List.replicate_zero,Bool.false_eq_true,if_false,if_true,List.cons_append,List.nil_append,Fh]
 walk_at "pr"
 refine ⟨fun k ρ=>∃ v2,ρ = [.sh (.lst (gs.map fun g:List Int=>PV.lst (g.map .int))),.ow (.lst ((gs.take k).flatten.map .int)),v2],⟨_,rfl⟩,?_,?_⟩
 ·rintro k p ρ hp ⟨v2,rfl⟩
  rw [List.getElem?_map] at hp
  obtain ⟨g,hk,rfl⟩:=Option.map_eq_some_iff.mp hp
  have e:=Cu hk
  walk_at "pr"
  rotate_left
  ·have:=Je gs (k + 1)
   rw [e,Tf,List.length_append] at this
   simp only [List.length_map]
   omega
  exact ⟨_,by rw [e,Tf,List.map_append]⟩
 rintro ρ ⟨v2,rfl⟩
 rw [List.length_map,List.take_length]
 walk_at "pr"
 exact q
def AgE:PSp:=fun ps P=>∃ U M J ts i j,ps = [.bk U M J,.lst (List.map .int ts),.int i,.int j]/\ts.length <= 300/\(Ld (grp (Dq U M) ts).length i j->P (.tup [.lst ((Di (grp (Dq U M) ts) (some i) (some j)).flatten.map .int),.bl false]))/\(¬ Ld (grp (Dq U M) ts).length i j->P (.tup [.non,.bl true]))
theorem Akm (T:Txt K mg t):Binds K t.d_qy ["_law_book","_law_text_here","_law_start","_law_end"] []:=T.F_qy.binds (ps:=["_law_book","_law_text_here","_law_start","_law_end"]) fun _ _ _ _ _ _ us hl=>match us,hl with | [_,_,_,_],_=>rfl
theorem AjE (T:Txt K mg t):FnOk P w K mg base (CX1 P w) 6 t.f_qy t.d_qy ["_law_book","_law_text_here","_law_start","_law_end"] (spOf K t.C_Book [false,false,true,true] .sh AgE):=by
 refine T.F_qy.ok1 sc_qy (fun vs H Q E h=>h.len) (fun cdv A outer s H vs Q E hr h=>?_)
 have hu:=Co hr
 have hu64:=hr.units
 refine ⟨_,(Bd (Bs (i:=4) sc_qy.nd rfl (Or.inl rfl) AhJ)
   (Bd (Bs (i:=5) sc_qy.nd rfl (Or.inl rfl) Tg)
   (Bd (Aik (S:=fun C=>C = t.C_NoPlace) (i:=6) rfl rfl (Agk (i:=4) sc_qy.nd rfl (Or.inl rfl) (Adw rfl (AbO T) (hr.mono (by decide)) rfl T.m_qbn T.F_qbn.kp (Afl T) .nil (Ba (pv 0) (Ba (pv 1) (Ba (pv 2) (Ba (pv 3) Be)))))) (fun _=>(Bd (Bs (i:=5) sc_qy.nd rfl (Or.inl rfl) (Ge (Cc (Rs K) rfl T.z_isinstance PyProof.Rows.boot_isinstance (Ba (pv 6) (Ba (Gw (v:=.ref t.C_NoPlace) rfl T.m_NoPlace rfl) Be))) (Gp (Cc (Rs K) rfl T.z_isinstance PyProof.Rows.boot_isinstance (Ba (pv 6) (Ba (Gn (v:=.ty "ValueError") rfl T.z_ValueError L2.Afk rfl) Be))))))
   (Bi (Bs (i:=5) sc_qy.nd rfl (Or.inl rfl) (Ge (pv 5) (Gp (Yn (Cc (Ur K) rfl T.z_isinstance PyProof.Rows.boot_isinstance (Ba (pv 6) (Ba (Fv (Ba (Gw (v:=.ref t.C_NoWhat) rfl T.m_NoWhat rfl) (Ba (Gw (v:=.ref t.C_NoStep) rfl T.m_NoStep rfl) (Ba (Gw (v:=.ref t.C_NoWidth) rfl T.m_NoWidth rfl) (Ba (Gw (v:=.ref t.C_NoBook) rfl T.m_NoBook rfl) Be))))) Be)))))))))) rfl T.m_HandsError T.x_HandsError (by decide) (fun C e=>⟨"NoPlace",[.type "ValueError",.type "Exception",.type "BaseException",.type "object"],"ValueError.__new__",by rw [e]; exact T.m_NoPlace,by rw [e]; exact T.x_NoPlace,by rw [e]; exact T.r_NoPlace_HandsError⟩) sc_qy.nd rfl rfl)
   (Bi (Cd (Fv (Ba (pv 4) (Ba (pv 5) Be)))))))),?_⟩
 try dsimp only [Cg,By]
 refine Dm h (by decide) (Bo (Ch AhX)
   (Bo (Ch Ua)
   (Bo (Ahb (Agc (Bz Bb (Bz Bb (Bz Bb (Bz Bb Bm)))))
    (Bo (Ch (Ol (EU.eb (Aby (Bz Bb (Bt (Ob fun _=>.cls) Bm)))) (Aby (Bz Bb (Bt (Ob fun _=>.ty) Bm)))))
   (Ch (Ol Bb (Zl (EU.eb (Agi (Bz Bb (Bt (Gq 4 (Bt (Ob fun _=>.cls) (Bt (Ob fun _=>.cls) (Bt (Ob fun _=>.cls) (Bt (Ob fun _=>.cls) Bm))))) Bm)))))))))
   (Gf (Gq 2 (Bt Cy (Bt Cy Bm))))))) (fun ps P hp=>?_)
 clear h hu hu64 hr
 obtain ⟨U,M,J,ts,i,j,rfl,hl,q1,q2⟩:=hp
 simp only [Da,List.zipWith_cons_cons,List.zipWith_nil_left,List.zipWith_nil_right,List.length_cons,List.length_nil,Nat.zero_add,Nat.reduceAdd,Nat.reduceSub,List.replicate_succ,List.replicate_zero,Bool.false_eq_true,if_false,if_true,List.cons_append,List.nil_append,Fh]
 have NN:=T.N_NoPlace
 walk_at "pr"
 refine ⟨U,M,J,ts,i,j,rfl,hl,fun h=>?_,fun h=>?_⟩
 ·walk_at "pr"
  exact q1 h
 ·have q:=q2 h
  refine ⟨rfl,?_⟩
  walk_at "pr"
  refine AeZ ⟨NN,T.i_NoPlace_NoPlace⟩ ?_
  walk_at "pr"
  refine AeZ ⟨NN,T.i_NoPlace_ValueError⟩ ?_
  walk_at "pr"
  refine ⟨_,_,rfl,rfl,NN,?_,?_⟩
  ·intro q hq
   simp only [List.mem_cons,List.not_mem_nil,or_false] at hq
   rcases hq with rfl | rfl | rfl | rfl
   ·exact ⟨NN,T.i_NoPlace_NoWhat⟩
   ·exact ⟨NN,T.i_NoPlace_NoStep⟩
   ·exact ⟨NN,T.i_NoPlace_NoWidth⟩
   ·exact ⟨NN,T.i_NoPlace_NoBook⟩
  walk_at "pr"
  exact q
theorem Ais {α:Type} (xs:List α):Di xs none (some (-1)) = xs.take (xs.length - 1):=by
 have e:HT.sIx xs.length xs.length (some (-1)) = xs.length - 1:=by
  show (if (-1:Int) < 0 then (-1 + (xs.length:Int)).toNat else min (-1:Int).toNat xs.length) = _
  rw [if_pos (by omega)]
  omega
 unfold Di
 rw [HT.sIx_none,e]
 rfl
theorem AjK {α:Type} (xs:List α) (p q:Nat):Di xs (some (p:Int)) (some (q:Int)) = (xs.take q).drop p:=by
 unfold Di
 rw [HT.sIx_nat,HT.sIx_nat,List.drop_take]
 by_cases h:p <= xs.length
 ·rw [Nat.min_eq_left h]
  by_cases h2:q <= xs.length
  ·rw [Nat.min_eq_left h2]
  ·rw [Nat.min_eq_right (by omega),List.take_of_length_le (by rw [List.length_drop]; omega),List.take_of_length_le (by rw [List.length_drop]; omega)]
 ·rw [Nat.min_eq_right (show xs.length <= p by omega),List.drop_of_length_le (Nat.le_refl _),List.drop_of_length_le (by omega),List.take_nil,List.take_nil]
theorem Ahy {α:Type} {xs:List α} {a b:Int} (h0:0 <= a) (h1:a <= b):Di xs (some a) (some b) = (xs.take b.toNat).drop a.toNat:=by
 obtain ⟨p,rfl⟩:=Int.eq_ofNat_of_zero_le h0
 obtain ⟨q,rfl⟩:=Int.eq_ofNat_of_zero_le (Int.le_trans h0 h1)
 exact AjK xs p q
structure Ab2 (n:Nat) (L:List Int):Prop where
 fst:L[0]? = some 0
 lst:L[L.length - 1]? = some (n:Int)
 le:∀ {k a b},L[k]? = some a->L[k + 1]? = some b->0 <= a/\a <= b/\b <= (n:Int)
theorem Agx {n:Nat} {L xs:List Int} (hp:L.Perm (0 :: (n:Int) :: xs)) (hs:L.Pairwise (· <= ·)) (hx:∀ x ∈ xs,0 <= x/\x <= (n:Int)):Ab2 n L:=by
 have bd:∀ x ∈ L,0 <= x/\x <= (n:Int):=fun x hx'=>by
  rcases List.mem_cons.mp (hp.mem_iff.mp hx') with rfl | z
  ·omega
  ·rcases List.mem_cons.mp z with rfl | z
   ·omega
   ·exact hx x z
 have ln:L.length = xs.length + 2:=by rw [hp.length_eq]; rfl
 have mono:∀ i j (hi:i < L.length) (hj:j < L.length),i <= j->L[i] <= L[j]:=fun i j hi hj h=>by
  rcases Nat.lt_or_ge i j with z | z
  ·exact List.pairwise_iff_getElem.mp hs i j hi hj z
  ·have:i = j:=by omega
   subst this; exact Int.le_refl _
 refine ⟨?_,?_,fun {k a b} ha hb=>?_⟩
 ·obtain ⟨i,hi,e⟩:=List.getElem_of_mem (hp.mem_iff.mpr (.head _))
  have h0:0 < L.length:=by omega
  have:=mono 0 i h0 hi (Nat.zero_le _)
  have b0:=(bd _ (List.getElem_mem h0)).1
  rw [List.getElem?_eq_getElem h0]
  congr 1; omega
 ·obtain ⟨i,hi,e⟩:=List.getElem_of_mem (hp.mem_iff.mpr (.tail _ (.head _)))
  have h0:L.length - 1 < L.length:=by omega
  have:=mono i (L.length - 1) hi h0 (by omega)
  have b0:=(bd _ (List.getElem_mem h0)).2
  rw [List.getElem?_eq_getElem h0]
  congr 1; omega
 ·obtain ⟨hk,rfl⟩:=List.getElem?_eq_some_iff.mp ha
  obtain ⟨hk2,rfl⟩:=List.getElem?_eq_some_iff.mp hb
  exact ⟨(bd _ (List.getElem_mem hk)).1,mono _ _ hk hk2 (by omega),(bd _ (List.getElem_mem hk2)).2⟩
theorem Ah8 {L:List Int} {k:Nat} {a b:Int} (h:((L.take (L.length - 1)).zip (L.drop 1))[k]? = some (a,b)):L[k]? = some a/\L[k + 1]? = some b:=by
 rw [List.getElem?_zip_eq_some,List.getElem?_drop] at h
 refine ⟨?_,by rw [Nat.add_comm]; exact h.2⟩
 have:=h.1
 rw [List.getElem?_take] at this
 split at this
 ·exact this
 ·cases this
theorem Aiw {f:Nat->Int} {U R:List Sg} {J:List Jn} {k y:Nat} (ga:G2A f U R J k y):∀ w ∈ myW,0 < (gpF f (upG U R (r0G f U).length) (mtG f y) w).length:=by
 intro w hw
 have bk:=Wl ga.jg ga.hk ga.ht ga.ul ga.hf y
 have nd:=bk.nd
 have uix:=(Wm ga.jg ga.hk ga.ht ga.ul ga.hf).2
 have one:∀ n,n < 28->Gv (upG U R (r0G f U).length) (mtG f y) (f n) = w->0 < (gpF f (upG U R (r0G f U).length) (mtG f y) w).length:=fun n hn h =>
  List.length_pos_of_mem (List.mem_filter.mpr ⟨List.mem_map.mpr ⟨n,List.mem_range.mpr hn,rfl⟩,decide_eq_true h⟩)
 have mm:(f 14,f 15) ∈ mtG f y:=by
  unfold mtG
  rcases ga.hy with rfl | rfl <;> exact .head _
 have tk:w = "plain"\/w = "open"\/∃ k,k < 8/\toldK[k]? = some w:=by
  have:∀ w ∈ myW,w = "plain"\/w = "open"\/w ∈ toldK:=by decide +kernel
  rcases this w hw with h | h | h
  ·exact .inl h
  ·exact .inr (.inl h)
  ·obtain ⟨k,hk⟩:=List.getElem?_of_mem h
   exact .inr (.inr ⟨k,(List.getElem?_eq_some_iff.mp hk).1,hk⟩)
 rcases tk with rfl | rfl | ⟨i,hi,hw2⟩
 ·refine one 26 (by decide) (Vc (Ab0 fun z=>?_))
  rcases List.mem_append.mp z with z | z
  ·obtain ⟨u,hu,e⟩:=List.mem_map.mp z
   obtain ⟨⟨a,h1,h2⟩,_⟩:=uix u hu
   have:=ga.hf.inj a 26 (by omega) (by omega) (by rw [<- h2]; exact e)
   omega
  ·obtain ⟨a,h1,h2,h3⟩:=AaI f y _ z
   have:=ga.hf.inj 26 a (by omega) (by omega) h3
   omega
 ·exact one 14 (by decide) (Vc (AfW nd mm))
 ·have hl:i < U.length:=by have:=ga.ul; omega
  obtain ⟨s,hs⟩:∃ s,U[i]? = some s:=⟨_,List.getElem?_eq_getElem hl⟩
  have h1:=ga.ht.wd i s hs hi
  have h2:=(ga.ht.at' i s hs).1
  rw [List.getElem?_map,List.getElem?_range (by omega)] at h2
  rw [hw2] at h1
  refine one i (by omega) (Vc ?_)
  have h3:f i = s.1:=Option.some.inj h2
  rw [h3,Option.some.inj h1]
  exact Vf nd (List.mem_append_left _ (List.mem_of_getElem? hs))
theorem AkX (T:Txt K mg t):Binds K t.d_qbp ["_law_script"] []:=T.F_qbp.binds (ps:=["_law_script"]) fun _ _ _ _ _ _ us hl=>match us,hl with | [_],_=>rfl
theorem AhQ (T:Txt K mg t):FnOk P w K mg base (CX1 P w) 7 t.f_qbp t.d_qbp ["_law_script"] (spOf K t.C_Book [false] .sh Aan):=by
 refine T.F_qbp.ok1 sc_qbp (fun vs H Q E h=>h.len) (fun cdv A outer s H vs Q E hr h=>?_)
 have hu:=Co hr
 have hu64:=hr.units
 refine ⟨_,(Bd (Bs (i:=1) sc_qbp.nd rfl (Or.inl rfl) (Bp (Aih T) (hr.mono (by decide)) rfl T.m_qbb T.F_qbb.kp (Aj6 T) .nil Bw (Ba (pv 0) Be)))
   (Bd (Bs (i:=2) sc_qbp.nd rfl (Or.inl rfl) (Bp (AiK T) (hr.mono (by decide)) rfl T.m_qbf T.F_qbf.kp (Ajp T) .nil Bw (Ba (pv 1) Be)))
   (Bd (Bs (i:=3) sc_qbp.nd rfl (Or.inl rfl) (Bv Db (Bp (Wk T) (hr.mono (by decide)) rfl T.m_qh T.F_qh.kp (AaW T) .nil Bw (Ba (pv 0) (Ba Bh Be))) (Bv Jf Bh Bh)))
   (Bd (Bs (i:=4) sc_qbp.nd rfl (Or.inl rfl) (Agv T.K_Book (Akd T) (hr.mono (by decide)) rfl T.m_Book (AkO T) .nil Bw (Ba (Nu (Gr K) rfl T.z_list PyProof.Rows.boot_list (Ba (Cp (Fa K) (pv 1) Bh (fun _ _=>rfl)) Be)) (Ba (Nu (Gr K) rfl T.z_list PyProof.Rows.boot_list (Ba (Cp (Fa K) (pv 1) Bh (fun _ _=>rfl)) Be)) (Ba (Nu (Gr K) rfl T.z_list PyProof.Rows.boot_list (Ba (Cp (Fa K) (pv 1) Bh (fun _ _=>rfl)) Be)) Be)))))
   (Bd (Bs (i:=5) sc_qbp.nd rfl (Or.inl rfl) (Bp (AiH T) (hr.mono (by decide)) rfl T.m_qbj T.F_qbj.kp (AjT T) .nil Bw (Ba (Bp (Ahz T) (hr.mono (by decide)) rfl T.m_qbc T.F_qbc.kp (Aja T) .nil Bw (Ba (pv 1) (Ba (pv 2) Be))) (Ba (Nm 1 ["_law_number"] rfl rfl (Cr (Gd (Gc K) (pv 0) (Dz Bh) (Dz Bh))) (fun _ _ _ _=>(Bu (i:=0) (show List.Nodup (["_law_number"]:List Str) by decide +kernel) rfl (Or.inl rfl))) (fun _ _ _ _=>Jk) (fun _ _ _ _=>(Bv Db (pv 0) (Bv Jf Bh Bh))) (by decide +kernel) (by decide +kernel) rfl (by decide +kernel)) Be))))
   (Bd (Bs (i:=6) sc_qbp.nd rfl (by first | exact Or.inl rfl | exact Or.inr rfl) (Bp (Aj1 T) (hr.mono (by decide)) rfl T.m_qq T.F_qq.kp (AkP T) .nil Bw (Ba (pv 2) (Ba (pv 5) Be))))
   (Bd (Bs (i:=7) sc_qbp.nd rfl (Or.inl rfl) (Bv Abz (Bv Db (pv 3) (Bv Jc (Cc (Cj K) rfl T.z_len PySem.boot_len (Ba (pv 6) Be)) Bh)) Bh))
   (Bd (Bs (i:=8) sc_qbp.nd rfl (Or.inl rfl) (Bv Abz (Bv Db (Bv Fg (pv 3) Bh) (Bv Jc (Cc (Cj K) rfl T.z_len PySem.boot_len (Ba (pv 6) Be)) Bh)) Bh))
   (Bd (Bs (i:=9) sc_qbp.nd rfl (Or.inl rfl) (Nu (Gr K) rfl T.z_list PyProof.Rows.boot_list (Ba (pv 5) Be)))
   (Bd (AhH (Bp (AjE T) (hr.mono (by decide)) rfl T.m_qy T.F_qy.kp (Akm T) .nil Bw (Ba (pv 4) (Ba (pv 9) (Ba (pv 7) (Ba (pv 8) Be))))) (Oc (K':=K) (n:=2) rfl rfl (Ce (Bu (i:=10) sc_qbp.nd rfl (Or.inl rfl)) (Ce (Bu (i:=11) sc_qbp.nd rfl (Or.inl rfl)) Fr))))
   (Bd (Fe (Lj (Ajh Bh (Yq Wp (pv 7) (Yq Wp (pv 8) (Ad2 Wp (Cc (Cj K) rfl T.z_len PySem.boot_len (Ba (pv 6) Be)))))))
    (Bi (Fe (PW.pt (We (Yo (Ags (pv 10))) (Uo (Lj (Nj (pv 11))))))
    (Bi (Cd Tg))
    Dr))
    (Bi (Fe (PW.pt (We (Lj (Nj (Cc (Ng K) rfl T.z_isinstance PyProof.Rows.boot_isinstance (Ba (pv 10) (Ba (Gn (v:=.ty "list") rfl T.z_list PyProof.Rows.boot_list rfl) Be))))) (Uo (Ds (Vb K hu64) (pv 10) (Bp (Ahi T) (hr.mono (by decide)) rfl T.m_qbi T.F_qbi.kp (Ajm T) .nil Bw (Ba (Gd (Gc K) (pv 6) (Dz (pv 7)) (Dz (pv 8))) Be)) (Df _)))))
    (Bi (Cd Tg))
    (Bi (Fe (Lj (Nj (Cc (AdP hr.hd K) rfl T.z_all PyProof.Rows.boot_all (Ba (Nm 1 ["_law_sign"] rfl rfl (Cr (pv 10)) (fun _ _ _ _=>(Bu (i:=0) (show List.Nodup (["_law_sign"]:List Str) by decide +kernel) rfl (Or.inl rfl))) (fun _ _ _ _=>Jk) (fun _ _ _ _=>(Bp (AhK T) (hr.mono (by decide)) rfl T.m_qbe T.F_qbe.kp (Ajl T) .nil AgN (Ba (pv 0) Be))) (by decide +kernel) (by decide +kernel) rfl (by decide +kernel)) Be))))
    (Bi (Cd Tg))
    Dr)))))
   (Bd (Fe (Ds (Vb K hu64) (pv 9) (pv 5) (Df _))
    (Bi (Cd Tg))
    Dr)
   (Bd (Bs (i:=12) sc_qbp.nd rfl (Or.inl rfl) (Cc (Za K) rfl T.z_sorted PyProof.Rows.boot_sorted (Ba (Bv Tc (Cz (Ba Bh (Ba (Cc (Cj K) rfl T.z_len PySem.boot_len (Ba (pv 6) Be)) Be))) (Qg 1 [6] ["_law_number","_law_some"] ["_law_some"] rfl (Cr (Gd (Gc K) (pv 0) (Dz Bh) (Dz Bh))) rfl (fun j y e1 i e2=>match j,e1,e2 with | 0,e1,e2=>by cases e1; cases e2; exact ⟨rfl,rfl,rfl,by decide +kernel⟩ | _ + 1,_,e2=>by simp at e2) (List.forall_mem_cons.mpr ⟨rfl,fun _ h=>nomatch h⟩) (by decide +kernel) (fun _ _ _ _=>(Bu (i:=0) (show List.Nodup (["_law_number","_law_some"]:List Str) by decide +kernel) rfl (Or.inl rfl))) (fun _ _ _ _=>Jk) (fun _ _ _ _=>(Bv Db (Bv Db (pv 0) (Bv Jf Bh Bh)) (Bv Jc (Cc (Cj K) rfl T.z_len PySem.boot_len (Ba (pv 1) Be)) Bh))) rfl (by decide +kernel) rfl (by decide +kernel))) Be)))
   (Bd (Bs (i:=13) sc_qbp.nd rfl (Or.inl rfl) (Cz Be))
   (Bd (Dh PassesOwn.leaving rfl (AgC K (Gd (Gc K) (pv 12) Uu (Dz (AaB Ya Bh))) (Gd (Gc K) (pv 12) (Dz Bh) Uu) rfl T.z_zip) (Oc (K':=K) (n:=2) rfl rfl (Ce (Bu (i:=14) sc_qbp.nd rfl (Or.inl rfl)) (Ce (Bu (i:=15) sc_qbp.nd rfl (Or.inl rfl)) Fr)))
    (Bd (Bs (i:=16) sc_qbp.nd rfl (Or.inl rfl) (Bp (AbO T) (hr.mono (by decide)) rfl T.m_qbn T.F_qbn.kp (Afl T) .nil Bw (Ba (pv 4) (Ba (pv 9) (Ba (pv 14) (Ba (pv 15) Be))))))
   (Bd (Bs (i:=13) sc_qbp.nd rfl (Or.inl rfl) (Bv Tc (pv 13) (pv 16)))
   (Bi (Cb (Fk PySem.F.plainAttrs_list PySem.F.slot_list_append PySem.F.type_list_append Ct (pv 16) (Ba Bh Be)))))))
   (Bi (Cd (Ge (Fp (Zy K hu64) (pv 13) (pv 5) (Df _)) (Gp (Fp (Zy K hu64) (pv 9) (pv 5) (Df _))))))))))))))))))))),?_⟩
 try dsimp only [Cg,By]
 refine Dm h (by decide) (Bo (Ch (Gk (Bz Bb Bm)))
   (Bo (Ch (EF.eu (Gx (Bt Cy Bm))))
   (Bo (Ch (Cl (fun _ _ _=>.int _) (EU.eb (Gk (Bz Bb (Bz (EU.eb Bj) Bm)))) (EU.eb (Cl (fun _ _ _=>.int _) (EU.eb Bj) (EU.eb Bj)))))
   (Bo (Ch (Aj3 (Bz (EF.eb (Th (Bz (EU.eb (Fn Bb (EU.eb Bj))) Bm))) (Bz (EF.eb (Th (Bz (EU.eb (Fn Bb (EU.eb Bj))) Bm))) (Bz (EF.eb (Th (Bz (EU.eb (Fn Bb (EU.eb Bj))) Bm))) Bm)))))
   (Bo (Ch (EF.eu (Gx (Bt (EF.eu (Gx (Bt Cy (Bz Bb Bm)))) (Bt (EF.eu (Jm (EF.eb (Lh Bb (Fb (EU.eb Bj)) (Fb (EU.eb Bj)))) (Ck (top:=1)) Ji (Cl (fun _ _ _=>.int _) Bb (EU.eb (Cl (fun _ _ _=>.int _) (EU.eb Bj) (EU.eb Bj)))))) Bm)))))
   (Bo (Ch (AiA (Bz Bb (Bz Bb Bm))))
   (Bo (Ch (Gb (fun _ _ _=>.int _) (EU.eb (Cl (fun _ _ _=>.int _) Bb (EU.eb (Gb (fun _ _ _=>.int _) (EU.eb (Fc (Bz Bb Bm))) (EU.eb Bj))))) (EU.eb Bj)))
   (Bo (Ch (Gb (fun _ _ _=>.int _) (EU.eb (Cl (fun _ _ _=>.int _) (EU.eb (Cl (fun _ _ _=>.int _) Bb (EU.eb Bj))) (EU.eb (Gb (fun _ _ _=>.int _) (EU.eb (Fc (Bz Bb Bm))) (EU.eb Bj))))) (EU.eb Bj)))
   (Bo (Ch (EF.eu (Th (Bz Bb Bm))))
   (Bo (Ait (Gk (Bz Bb (Bz Bb (Bt Cy (Bt Cy Bm))))) (Sq (Dw (Ck (top:=17)) (Dw (Ck (top:=17)) Ou))))
   (Bo (Gu (Oo (Nc (EU.eb (Ai9 (EU.eb Bj) (Zs (fun _ _ _=>.bl _) Bb (Zs (fun _ _ _=>.bl _) Bb (Agn (fun _ _ _=>.bl _) (EU.eb (Fc (Bz Bb Bm))))))))))
    (Gu (Aa9 (Lm (EU.eb (AfS Bb))) (Oo (Nc Bb)))
    (Gf Ua)
    Fx)
    (Gu (Aa9 (Oo (Nc (EU.eb (Xi Bb)))) (Lm (EU.eb (Ss Bb (EF.eb (Gx (Bt (EF.eu (Lh Bb (Fb Bb) (Fb Bb))) Bm)))))))
    (Gf Ua)
    (Gu (Oo (Nc (EU.eb (Aip (Bz (EF.eb (Jm Bb (Ck (top:=1)) Ji (Gk (Bz Bb Bm)))) Bm)))))
    (Gf Ua)
    Fx)))
   (Bo (Gu (Lm (EU.eb (Ss Bb Bb)))
    (Gf Ua)
    Fx)
   (Bo (Ch (EF.eu (AcK (Bz (EF.eb (Ud (EF.eb (Dx 2 (Bt Bj (Bt (Fc (Bz Bb Bm)) Bm)))) (EF.eb (Jm (EF.eb (Lh Bb (Fb (EU.eb Bj)) (Fb (EU.eb Bj)))) (Ck (top:=1)) Ji (Cl (fun _ _ _=>.int _) (EU.eb (Cl (fun _ _ _=>.int _) Bb (EU.eb (Cl (fun _ _ _=>.int _) (EU.eb Bj) (EU.eb Bj))))) (EU.eb (Gb (fun _ _ _=>.int _) (EU.eb (Fc (Bz Bb Bm))) (EU.eb Bj)))))))) Bm))))
   (Bo (Ch (EF.eu (Dx 0 Bm)))
   (Bo (AfI (EF.eu (Lh Bb Va (Fb (EU.eb (Akv (fun _ _=>.int _) (EU.eb Bj)))))) (EF.eu (Lh Bb (Fb (EU.eb Bj)) Va)) (Sq (Dw (Ck (top:=17)) (Dw (Ck (top:=17)) Ou)))
    (Bo (Du (Ads (Bz Bb (Bz Bb (Bz Bb (Bz Bb Bm))))))
   (Bo (Ch (EF.eu (Ud Bb Bb)))
   (Go (Bt Bj Bm)))))
   (Gf (Ol (EU.eb (Ss Bb Bb)) (Ss Bb Bb)))))))))))))))))) (fun ps P hp=>?_)
 clear h hu hu64 hr
 obtain ⟨ns,rfl,hlen,q⟩:=hp
 simp only [Da,List.zipWith_cons_cons,List.zipWith_nil_left,List.zipWith_nil_right,List.length_cons,List.length_nil,Nat.zero_add,Nat.reduceAdd,Nat.reduceSub,List.replicate_succ,List.replicate_zero,Bool.false_eq_true,if_false,if_true,List.cons_append,List.nil_append,Fh]
 walk_at "pr"
 refine ⟨ns,rfl,hlen,fun f U R J k y ga=>?_⟩
 have bk:=Wl ga.jg ga.hk ga.ht ga.ul ga.hf y
 have gne:=Aiw ga
 have jl:=bk.jl
 walk_at "pr"
 refine ⟨f,U,R,J,k,y,rfl,ga,?_⟩
 walk_at "pr"
 refine ⟨ns,3,rfl,hlen,?_⟩
 walk_at "pr"
 all_goals try (first | decide | exact ⟨by decide,by decide,by decide⟩)
 unfold g2P
 generalize upG U R (r0G f U).length = W at bk gne
 generalize mtG f y = M at bk gne
 generalize cR ns 3 % 10 ^ Int.toNat 9 = c
 walk_at "pr"
 refine ⟨3,_,_,rfl,rfl,Fm (j:=3) rfl,?_⟩
 walk_at "pr"
 refine ⟨W,M,J,rfl,bk.so,bk.mo,bk.nd,bk.jo,by have:=bk.ln; omega,?_⟩
 walk_at "pr"
 refine ⟨f,W,M,J,rfl,gne,jl,fun gs g1 g2=>?_⟩
 have cl:=Xt ns (some 4) (some 64)
 walk_at "pr"
 refine ⟨by rw [List.length_map]; omega,?_⟩
 refine Gj (S:=Di ns (some 4) (some 64)) (enc:=PV.int) (f:=fun c=>some (.int (c % 10 ^ 9))) ?_ (fun d hd Z hZ=>?_)
 rotate_left
 ·walk_at "cp"
  walk_at "pr"
  all_goals try (first | decide | exact ⟨by decide,by decide,by decide⟩)
  exact hZ
 rw [Sh (Di ns (some 4) (some 64)) fun c=>c % 10 ^ 9]
 walk_at "pr"
 refine ⟨gs,_,rfl,g1,g2,by rw [List.length_map]; omega,fun ts tl _=>?_⟩
 rw [List.length_map] at tl
 walk_at "pr"
 refine ⟨W,M,ts,rfl,by omega,?_⟩
 have go:=Op (Dq W M) ts
 have gl:=go.ln
 walk_at "px"
 refine Nr ?_
 walk_at "px"
 all_goals try (first | decide | (rw [List.length_map]; omega) | exact ⟨by decide,by decide⟩)
 generalize c % _ - 2 = i
 refine Nr ?_
 walk_at "px"
 all_goals try (first | decide | (rw [List.length_map]; omega) | exact ⟨by decide,by decide⟩)
 generalize c / 97 % _ - 2 = j
 refine Nr ?_
 walk_at "px"
 have fl:=go.fl
 generalize hgs:grp (Dq W M) ts = ws at gl fl
 refine Sy (fun ρ=>∃ v10 v11,(Ld ws.length i j/\v10 = PV.lst ((Di ws (some i) (some j)).flatten.map .int)/\v11 = PV.bl false\/¬ Ld ws.length i j/\v10 = PV.non/\v11 = PV.bl true)/\ρ = [.bo (.scr ns),.sh (.tup [.lst ((List.range 28).map fun k=>.int (f k)),.lst (W.map sgP),.lst (M.map prP),.lst (J.map jnP)]),.sh (.dk (kkD W M)),.sh (.int c),.sh (.bk W M J),.sh (.lst (ts.map .int)),.sh (.lst (ws.map fun g:List Int=>PV.lst (g.map .int))),.sh (.int i),.sh (.int j),.sh (.lst (ts.map .int)),.sh v10,.sh v11,.un,.un,.un,.un,.un]) (fun ρ h=>?_) ?_
 rotate_left
 ·walk_at "pr"
  refine ⟨W,M,J,ts,i,j,rfl,by omega,fun h=>?_,fun h=>?_⟩
  ·rw [hgs] at h ⊢
   walk_at "pr"
   exact .inl ⟨_,_,.inl ⟨h,rfl,rfl⟩,rfl⟩
  ·rw [hgs] at h
   walk_at "pr"
   exact .inl ⟨_,_,.inr ⟨h,rfl,rfl⟩,rfl⟩
 obtain ⟨v10,v11,h1,rfl⟩:=h
 walk_at "px"
 refine Sy (fun ρ=>ρ = [.bo (.scr ns),.sh (.tup [.lst ((List.range 28).map fun k=>.int (f k)),.lst (W.map sgP),.lst (M.map prP),.lst (J.map jnP)]),.sh (.dk (kkD W M)),.sh (.int c),.sh (.bk W M J),.sh (.lst (ts.map .int)),.sh (.lst (ws.map fun g:List Int=>PV.lst (g.map .int))),.sh (.int i),.sh (.int j),.sh (.lst (ts.map .int)),.sh v10,.sh v11,.un,.un,.un,.un,.un]) (fun ρ h=>?_) ?_
 rotate_left
 ·rcases h1 with ⟨h,rfl,rfl⟩ | ⟨h,rfl,rfl⟩
  ·walk_at "pr"
   rw [decide_eq_true h.1]
   walk_at "pr"
   rw [decide_eq_true h.2.1]
   walk_at "pr"
   rw [List.length_map,decide_eq_true h.2.2]
   walk_at "pr"
   rw [Nl]
   refine ⟨_,rfl,by have:=Oa ws i j; rw [fl] at this; omega,?_⟩
   refine AbJ Tn ?_
   walk_at "pr"
   have:=Oa ws i j
   rw [fl] at this
   generalize (Di ws (some i) (some j)).flatten = xs at this
   refine ⟨by rw [List.length_map]; omega,?_⟩
   refine Gj (S:=xs) (enc:=PV.int) (f:=fun _=>some (.bl true)) ?_ (fun d hd Z hZ=>?_)
   rotate_left
   ·walk_at "cp"
    walk_at "pr"
    refine ⟨_,rfl,?_⟩
    walk_at "pr"
    exact hZ
   rw [show xs.filterMap (fun _=>some (PV.bl true)) = (xs.map fun _=>true).map PV.bl by rw [List.map_map]; exact congrFun (List.filterMap_eq_map' (f:=fun _=>PV.bl true)) xs]
   walk_at "pr"
   rw [show (xs.map fun _=>true).all id = true by rw [List.all_map]; exact List.all_eq_true.mpr fun _ _=>rfl]
   walk_at "pr"
   exact .inl rfl
  ·walk_at "pr"
   by_cases a1:0 <= i
   ·rw [decide_eq_true a1]
    walk_at "pr"
    by_cases a2:i <= j
    ·rw [decide_eq_true a2]
     walk_at "pr"
     rw [List.length_map,decide_eq_false (fun a3=>h ⟨a1,a2,a3⟩)]
     walk_at "pr"
     refine Te (by decide) ?_
     walk_at "pr"
     exact .inl rfl
    ·rw [decide_eq_false a2]
     walk_at "pr"
     refine Te (by decide) ?_
     walk_at "pr"
     exact .inl rfl
   ·rw [decide_eq_false a1]
    walk_at "pr"
    refine Te (by decide) ?_
    walk_at "pr"
    exact .inl rfl
 subst h
 clear h1
 have cl2:=Xt ns (some 3) (some 64)
 have cl3:(Di ns (some 3) (some 64)).length <= 60:=by
  unfold Di
  rw [List.length_take,List.length_drop]
  have:=HT.sIx_nat ns.length 0 3
  simp at *
  omega
 walk_at "px"
 refine Nr ?_
 walk_at "px"
 refine AbJ Tn ?_
 walk_at "px"
 refine Nr ?_
 walk_at "px"
 refine ⟨by rw [List.length_map]; omega,?_⟩
 refine Gj (S:=Di ns (some 3) (some 64)) (enc:=PV.int) (f:=fun c=>some (.int (c % 10 ^ 9 % ((ws.length:Int) + 1)))) ?_ (fun d hd Z hZ=>?_)
 rotate_left
 ·walk_at "cp"
  walk_at "pr"
  all_goals try (first | decide | exact ⟨by decide,by decide,by decide⟩ | omega | (rw [List.length_map]; omega))
  rw [List.length_map]
  exact hZ
 rw [Sh (Di ns (some 3) (some 64)) fun c=>c % 10 ^ 9 % ((ws.length:Int) + 1)]
 walk_at "px"
 rotate_left
 ·simp only [List.length_map,List.length_cons,List.length_nil]; omega
 rw [List.length_map]
 refine AdE (ns:=0 :: (ws.length:Int) :: (Di ns (some 3) (some 64)).map fun c=>c % 10 ^ 9 % ((ws.length:Int) + 1)) (fun L hp hs=>?_) ?_
 rotate_left
 ·simp only [List.length_cons,List.length_map]; omega
 have hL:Ab2 ws.length L:=Agx hp hs (fun x hx=>by
  obtain ⟨c,_,rfl⟩:=List.mem_map.mp hx
  have e1:=Int.emod_nonneg (c % 10 ^ 9) (show ((ws.length:Int) + 1) ≠ 0 by omega)
  have e2:=Int.emod_lt_of_pos (c % 10 ^ 9) (show (0:Int) < (ws.length:Int) + 1 by omega)
  omega)
 have Ll:L.length <= 62:=by rw [hp.length_eq]; simp only [List.length_cons,List.length_map]; omega
 walk_at "pr"
 rw [Nl,Nl,Ais,show (some (1:Int)) = some ((1:Nat):Int) from rfl,Akc,AfY]
 refine ⟨fun k ρ=>∃ v14 v15 v16,ρ = [.bo (.scr ns),.sh (.tup [.lst ((List.range 28).map fun k=>.int (f k)),.lst (W.map sgP),.lst (M.map prP),.lst (J.map jnP)]),.sh (.dk (kkD W M)),.sh (.int c),.sh (.bk W M J),.sh (.lst (ts.map .int)),.sh (.lst (ws.map fun g:List Int=>PV.lst (g.map .int))),.sh (.int i),.sh (.int j),.sh (.lst (ts.map .int)),.sh v10,.sh v11,.sh (.lst (L.map .int)),.sh (.lst ((ws.take ((L[k]?).getD 0).toNat).flatten.map .int)),v14,v15,v16],⟨_,_,_,by rw [hL.fst]; rfl⟩,?_,?_⟩
 ·rintro k p ρ hp ⟨v14,v15,v16,rfl⟩
  rw [List.getElem?_map] at hp
  obtain ⟨⟨a,b⟩,hk,rfl⟩:=Option.map_eq_some_iff.mp hp
  obtain ⟨ha,hb⟩:=Ah8 hk
  obtain ⟨h0,h1,h2⟩:=hL.le ha hb
  walk_at "pr"
  refine ⟨W,M,J,ts,a,b,rfl,by omega,fun _=>?_,fun h=>(h (by rw [hgs]; exact ⟨h0,h1,h2⟩)).elim⟩
  rw [hgs,Ahy h0 h1]
  have e1:(ws.take b.toNat).flatten = (ws.take a.toNat).flatten ++ ((ws.take b.toNat).drop a.toNat).flatten:=by
   rw [<- List.flatten_append]
   congr 1
   have:=List.take_append_drop a.toNat (ws.take b.toNat)
   rw [List.take_take,Nat.min_eq_left (by omega)] at this
   exact this.symm
  have e2:=Je ws b.toNat
  rw [e1,fl,List.length_append] at e2
  have ea:((L[k]?).getD 0).toNat = a.toNat:=by rw [ha]; rfl
  have eb:((L[k + 1]?).getD 0).toNat = b.toNat:=by rw [hb]; rfl
  rw [ea,eb,e1]
  walk_at "pr"
  all_goals try (simp only [List.length_map]; omega)
  exact ⟨_,_,_,by rw [List.map_append]⟩
 ·rintro ρ ⟨v14,v15,v16,rfl⟩
  have el:(((L.take (L.length - 1)).zip (L.drop 1)).map fun z:Int × Int=>PV.tup [.int z.1,.int z.2]).length = L.length - 1:=by
   rw [List.length_map,List.length_zip,List.length_take,List.length_drop]; omega
  rw [el,hL.lst]
  walk_at "pr"
  rw [show (some (ws.length:Int)).getD 0 = (ws.length:Int) from rfl,Int.toNat_natCast,List.take_length,fl]
  refine Acf ?_
  rw [decide_eq_true rfl]
  walk_at "pr"
  refine Acf ?_
  rw [decide_eq_true rfl]
  exact q
end
def _root_.PySem.W.Fast.tw10816418465907994027:Nat:=0
def _root_.PySem.W.Fast.tw11819906424469756420:Nat:=0
def _root_.PySem.W.Fast.tw1248357118113966351:Nat:=0
def _root_.PySem.W.Fast.tw13298398868430045999:Nat:=0
def _root_.PySem.W.Fast.tw13363412133604513097:Nat:=0
def _root_.PySem.W.Fast.tw1453403726273416768:Nat:=0
def _root_.PySem.W.Fast.tw15006931744895949641:Nat:=0
def _root_.PySem.W.Fast.tw15186794146807648430:Nat:=0
def _root_.PySem.W.Fast.tw15195634474015787605:Nat:=0
def _root_.PySem.W.Fast.tw1535559078870909010:Nat:=0
def _root_.PySem.W.Fast.tw15448364994872751223:Nat:=0
def _root_.PySem.W.Fast.tw16118370194723265186:Nat:=0
def _root_.PySem.W.Fast.tw16930589821057912988:Nat:=0
def _root_.PySem.W.Fast.tw238056107820074059:Nat:=0
def _root_.PySem.W.Fast.tw2387699918423660809:Nat:=0
def _root_.PySem.W.Fast.tw2591495329654728592:Nat:=0
def _root_.PySem.W.Fast.tw3713137161012419941:Nat:=0
def _root_.PySem.W.Fast.tw3989800718383750246:Nat:=0
def _root_.PySem.W.Fast.tw4055807366861020887:Nat:=0
def _root_.PySem.W.Fast.tw4236798217972799295:Nat:=0
def _root_.PySem.W.Fast.tw4512767185849494463:Nat:=0
def _root_.PySem.W.Fast.tw5495567061745998896:Nat:=0
def _root_.PySem.W.Fast.tw5541685479743618363:Nat:=0
def _root_.PySem.W.Fast.tw5730626543081771655:Nat:=0
def _root_.PySem.W.Fast.tw5941521640922041517:Nat:=0
def _root_.PySem.W.Fast.tw7420799660126385102:Nat:=0
def _root_.PySem.W.Fast.tw7636698484574129732:Nat:=0
def _root_.PySem.W.Fast.tw8628838225080549106:Nat:=0
def _root_.PySem.W.Fast.tw8734517818648367563:Nat:=0
def _root_.PySem.W.Fast.tw9512218673599295511:Nat:=0
theorem all_mk {l:PySem.W.OpenLaw} {w:World} {K:PySem.W.Frag} {h:Heap} {mg:Str->Option Value} {fa:Addr} (X:K.In h) (G:h.Ns mainGlobals mg) (hfa:mg "law" = some (.ref fa)) {f_qbd f_qbk f_qz f_qh f_qbb f_qbf f_qb f_qc f_qa f_qbm f_qbh f_qf f_qm f_qo f_qs f_qx f_qn f_qk f_qd f_qr f_qi f_qt f_qbj f_qq f_qu f_qbg f_qe f_ql f_qbl f_qbn f_qy f_qp f_qbc f_qbi f_qbe f_qbp C_Book C_HandsError C_NoBook C_NoPlace C_NoStep C_NoWhat C_NoWidth a_JOINED_KINDS a_TOLD_KINDS:Addr} {od_JOINED_KINDS:Option Addr} {its_JOINED_KINDS:Array Value} {n_JOINED_KINDS:Nat} {sl_JOINED_KINDS:Array (Option Value)} {u_MOST_GOINGS:Value} {od_TOLD_KINDS:Option Addr} {its_TOLD_KINDS:Array Value} {n_TOLD_KINDS:Nat} {sl_TOLD_KINDS:Array (Option Value)} {od_qbd an_qbd od_qbk an_qbk od_qz an_qz od_qh an_qh od_qbb an_qbb od_qbf an_qbf od_qb an_qb od_qc an_qc od_qa an_qa od_qbm an_qbm od_qbh an_qbh od_qf an_qf od_qm an_qm od_qo an_qo od_qs an_qs od_qx an_qx od_qn an_qn od_qk an_qk od_qd an_qd od_qr an_qr od_qi an_qi od_qt an_qt od_qbj an_qbj od_qq an_qq od_qu an_qu od_qbg an_qbg od_qe an_qe od_ql an_ql od_qbl an_qbl od_qbn an_qbn od_qy an_qy od_qp an_qp od_qbc an_qbc od_qbi an_qbi od_qbe an_qbe od_qbp an_qbp:Option Addr} {sl_qbd sl_qbk sl_qz sl_qh sl_qbb sl_qbf sl_qb sl_qc sl_qa sl_qbm sl_qbh sl_qf sl_qm sl_qo sl_qs sl_qx sl_qn sl_qk sl_qd sl_qr sl_qi sl_qt sl_qbj sl_qq sl_qu sl_qbg sl_qe sl_ql sl_qbl sl_qbn sl_qy sl_qp sl_qbc sl_qbi sl_qbe sl_qbp:Array (Option Value)} {oc_qbd kV_qbd dc_qbd pm_qbd cd_qbd ct_qbd oc_qbk kV_qbk dc_qbk pm_qbk cd_qbk ct_qbk oc_qz kV_qz dc_qz pm_qz cd_qz ct_qz oc_qh kV_qh dc_qh pm_qh cd_qh ct_qh oc_qbb kV_qbb dc_qbb pm_qbb cd_qbb ct_qbb oc_qbf kV_qbf dc_qbf pm_qbf cd_qbf ct_qbf oc_qb kV_qb dc_qb pm_qb cd_qb ct_qb oc_qc kV_qc dc_qc pm_qc cd_qc ct_qc oc_qa kV_qa dc_qa pm_qa cd_qa ct_qa oc_qbm kV_qbm dc_qbm pm_qbm cd_qbm ct_qbm oc_qbh kV_qbh dc_qbh pm_qbh cd_qbh ct_qbh oc_qf kV_qf dc_qf pm_qf cd_qf ct_qf oc_qm kV_qm dc_qm pm_qm cd_qm ct_qm oc_qo kV_qo dc_qo pm_qo cd_qo ct_qo oc_qs kV_qs dc_qs pm_qs cd_qs ct_qs oc_qx kV_qx dc_qx pm_qx cd_qx ct_qx oc_qn kV_qn dc_qn pm_qn cd_qn ct_qn oc_qk kV_qk dc_qk pm_qk cd_qk ct_qk oc_qd kV_qd dc_qd pm_qd cd_qd ct_qd oc_qr kV_qr dc_qr pm_qr cd_qr ct_qr oc_qi kV_qi dc_qi pm_qi cd_qi ct_qi oc_qt kV_qt dc_qt pm_qt cd_qt ct_qt oc_qbj kV_qbj dc_qbj pm_qbj cd_qbj ct_qbj oc_qq kV_qq dc_qq pm_qq cd_qq ct_qq oc_qu kV_qu dc_qu pm_qu cd_qu ct_qu oc_qbg kV_qbg dc_qbg pm_qbg cd_qbg ct_qbg oc_qe kV_qe dc_qe pm_qe cd_qe ct_qe oc_ql kV_ql dc_ql pm_ql cd_ql ct_ql oc_qbl kV_qbl dc_qbl pm_qbl cd_qbl ct_qbl oc_qbn kV_qbn dc_qbn pm_qbn cd_qbn ct_qbn oc_qy kV_qy dc_qy pm_qy cd_qy ct_qy oc_qp kV_qp dc_qp pm_qp cd_qp ct_qp oc_qbc kV_qbc dc_qbc pm_qbc cd_qbc ct_qbc oc_qbi kV_qbi dc_qbi pm_qbi cd_qbi ct_qbi oc_qbe kV_qbe dc_qbe pm_qbe cd_qbe ct_qbe oc_qbp kV_qbp dc_qbp pm_qbp cd_qbp ct_qbp:Value}
  (aC_Book:PySem.W.nsIn K mainGlobals "Book" = some (some (.ref C_Book)))
  (h_qbd_a:PySem.W.nsIn K mainGlobals "_law_signs" = some (some (.ref f_qbd)))
  (h_qbd_l:K.lookup f_qbd = some ⟨oc_qbd,od_qbd,.func (PySem.W.fnOf "_law_signs" "_law_signs" (Bl Lv) (Bk Lv) (Bc Lv) .none kV_qbd dc_qbd pm_qbd an_qbd cd_qbd ct_qbd),sl_qbd⟩)
  (h_qbd_c:PySem.W.codeIn K cd_qbd "_law_signs" = true)
  (h_qbd_k:PySem.W.keepIn K (.ref f_qbd) = true)
  (h_qbk_a:PySem.W.nsIn K mainGlobals "_law_told" = some (some (.ref f_qbk)))
  (h_qbk_l:K.lookup f_qbk = some ⟨oc_qbk,od_qbk,.func (PySem.W.fnOf "_law_told" "_law_told" (Bl Lr) (Bk Lr) (Bc Lr) .none kV_qbk dc_qbk pm_qbk an_qbk cd_qbk ct_qbk),sl_qbk⟩)
  (h_qbk_c:PySem.W.codeIn K cd_qbk "_law_told" = true)
  (h_qbk_k:PySem.W.keepIn K (.ref f_qbk) = true)
  (h_qz_a:PySem.W.nsIn K mainGlobals "_law_joins" = some (some (.ref f_qz)))
  (h_qz_l:K.lookup f_qz = some ⟨oc_qz,od_qz,.func (PySem.W.fnOf "_law_joins" "_law_joins" (Bl Qm) (Bk Qm) (Bc Qm) .none kV_qz dc_qz pm_qz an_qz cd_qz ct_qz),sl_qz⟩)
  (h_qz_c:PySem.W.codeIn K cd_qz "_law_joins" = true)
  (h_qz_k:PySem.W.keepIn K (.ref f_qz) = true)
  (h_qh_a:PySem.W.nsIn K mainGlobals "_law_cell_at" = some (some (.ref f_qh)))
  (h_qh_l:K.lookup f_qh = some ⟨oc_qh,od_qh,.func (PySem.W.fnOf "_law_cell_at" "_law_cell_at" (Bl Rc) (Bk Rc) (Bc Rc) .none kV_qh dc_qh pm_qh an_qh cd_qh ct_qh),sl_qh⟩)
  (h_qh_c:PySem.W.codeIn K cd_qh "_law_cell_at" = true)
  (h_qh_k:PySem.W.keepIn K (.ref f_qh) = true)
  (h_qbb_a:PySem.W.nsIn K mainGlobals "_law_lists" = some (some (.ref f_qbb)))
  (h_qbb_l:K.lookup f_qbb = some ⟨oc_qbb,od_qbb,.func (PySem.W.fnOf "_law_lists" "_law_lists" (Bl Lp) (Bk Lp) (Bc Lp) .none kV_qbb dc_qbb pm_qbb an_qbb cd_qbb ct_qbb),sl_qbb⟩)
  (h_qbb_c:PySem.W.codeIn K cd_qbb "_law_lists" = true)
  (h_qbb_k:PySem.W.keepIn K (.ref f_qbb) = true)
  (h_qbf_a:PySem.W.nsIn K mainGlobals "_law_words" = some (some (.ref f_qbf)))
  (h_qbf_l:K.lookup f_qbf = some ⟨oc_qbf,od_qbf,.func (PySem.W.fnOf "_law_words" "_law_words" (Bl Nb) (Bk Nb) (Bc Nb) .none kV_qbf dc_qbf pm_qbf an_qbf cd_qbf ct_qbf),sl_qbf⟩)
  (h_qbf_c:PySem.W.codeIn K cd_qbf "_law_words" = true)
  (h_qbf_k:PySem.W.keepIn K (.ref f_qbf) = true)
  (h_qb_a:PySem.W.nsIn K mainGlobals "refuse_unless" = some (some (.ref f_qb)))
  (h_qb_l:K.lookup f_qb = some ⟨oc_qb,od_qb,.func (PySem.W.fnOf "refuse_unless" "refuse_unless" (Bl Oz) (Bk Oz) (Bc Oz) .none kV_qb dc_qb pm_qb an_qb cd_qb ct_qb),sl_qb⟩)
  (h_qb_c:PySem.W.codeIn K cd_qb "refuse_unless" = true)
  (h_qb_k:PySem.W.keepIn K (.ref f_qb) = true)
  (h_qc_a:PySem.W.nsIn K mainGlobals "check_tuples" = some (some (.ref f_qc)))
  (h_qc_l:K.lookup f_qc = some ⟨oc_qc,od_qc,.func (PySem.W.fnOf "check_tuples" "check_tuples" (Bl Qr) (Bk Qr) (Bc Qr) .none kV_qc dc_qc pm_qc an_qc cd_qc ct_qc),sl_qc⟩)
  (h_qc_c:PySem.W.codeIn K cd_qc "check_tuples" = true)
  (h_qc_k:PySem.W.keepIn K (.ref f_qc) = true)
  (h_qa_a:PySem.W.nsIn K mainGlobals "is_whole_number" = some (some (.ref f_qa)))
  (h_qa_l:K.lookup f_qa = some ⟨oc_qa,od_qa,.func (PySem.W.fnOf "is_whole_number" "is_whole_number" (Bl Qs) (Bk Qs) (Bc Qs) .none kV_qa dc_qa pm_qa an_qa cd_qa ct_qa),sl_qa⟩)
  (h_qa_c:PySem.W.codeIn K cd_qa "is_whole_number" = true)
  (h_qa_k:PySem.W.keepIn K (.ref f_qa) = true)
  (h_qbm_a:PySem.W.nsIn K mainGlobals "is_sign" = some (some (.ref f_qbm)))
  (h_qbm_l:K.lookup f_qbm = some ⟨oc_qbm,od_qbm,.func (PySem.W.fnOf "is_sign" "is_sign" (Bl Lx) (Bk Lx) (Bc Lx) .none kV_qbm dc_qbm pm_qbm an_qbm cd_qbm ct_qbm),sl_qbm⟩)
  (h_qbm_c:PySem.W.codeIn K cd_qbm "is_sign" = true)
  (h_qbm_k:PySem.W.keepIn K (.ref f_qbm) = true)
  (h_qbh_a:PySem.W.nsIn K mainGlobals "add_kind" = some (some (.ref f_qbh)))
  (h_qbh_l:K.lookup f_qbh = some ⟨oc_qbh,od_qbh,.func (PySem.W.fnOf "add_kind" "add_kind" (Bl Lw) (Bk Lw) (Bc Lw) .none kV_qbh dc_qbh pm_qbh an_qbh cd_qbh ct_qbh),sl_qbh⟩)
  (h_qbh_c:PySem.W.codeIn K cd_qbh "add_kind" = true)
  (h_qbh_k:PySem.W.keepIn K (.ref f_qbh) = true)
  (h_qf_a:PySem.W.nsIn K mainGlobals "is_told_kind" = some (some (.ref f_qf)))
  (h_qf_l:K.lookup f_qf = some ⟨oc_qf,od_qf,.func (PySem.W.fnOf "is_told_kind" "is_told_kind" (Bl Qt) (Bk Qt) (Bc Qt) .none kV_qf dc_qf pm_qf an_qf cd_qf ct_qf),sl_qf⟩)
  (h_qf_c:PySem.W.codeIn K cd_qf "is_told_kind" = true)
  (h_qf_k:PySem.W.keepIn K (.ref f_qf) = true)
  (h_qm_a:PySem.W.nsIn K mainGlobals "is_rank_of" = some (some (.ref f_qm)))
  (h_qm_l:K.lookup f_qm = some ⟨oc_qm,od_qm,.func (PySem.W.fnOf "is_rank_of" "is_rank_of" (Bl Ra) (Bk Ra) (Bc Ra) .none kV_qm dc_qm pm_qm an_qm cd_qm ct_qm),sl_qm⟩)
  (h_qm_c:PySem.W.codeIn K cd_qm "is_rank_of" = true)
  (h_qm_k:PySem.W.keepIn K (.ref f_qm) = true)
  (h_qo_a:PySem.W.nsIn K mainGlobals "kinds_told" = some (some (.ref f_qo)))
  (h_qo_l:K.lookup f_qo = some ⟨oc_qo,od_qo,.func (PySem.W.fnOf "kinds_told" "kinds_told" (Bl Qd) (Bk Qd) (Bc Qd) .none kV_qo dc_qo pm_qo an_qo cd_qo ct_qo),sl_qo⟩)
  (h_qo_c:PySem.W.codeIn K cd_qo "kinds_told" = true)
  (h_qo_k:PySem.W.keepIn K (.ref f_qo) = true)
  (h_qs_a:PySem.W.nsIn K mainGlobals "ranks_told" = some (some (.ref f_qs)))
  (h_qs_l:K.lookup f_qs = some ⟨oc_qs,od_qs,.func (PySem.W.fnOf "ranks_told" "ranks_told" (Bl Ql) (Bk Ql) (Bc Ql) .none kV_qs dc_qs pm_qs an_qs cd_qs ct_qs),sl_qs⟩)
  (h_qs_c:PySem.W.codeIn K cd_qs "ranks_told" = true)
  (h_qs_k:PySem.W.keepIn K (.ref f_qs) = true)
  (h_qx_a:PySem.W.nsIn K mainGlobals "both_ways" = some (some (.ref f_qx)))
  (h_qx_l:K.lookup f_qx = some ⟨oc_qx,od_qx,.func (PySem.W.fnOf "both_ways" "both_ways" (Bl Qb) (Bk Qb) (Bc Qb) .none kV_qx dc_qx pm_qx an_qx cd_qx ct_qx),sl_qx⟩)
  (h_qx_c:PySem.W.codeIn K cd_qx "both_ways" = true)
  (h_qx_k:PySem.W.keepIn K (.ref f_qx) = true)
  (h_qn_a:PySem.W.nsIn K mainGlobals "kind_among" = some (some (.ref f_qn)))
  (h_qn_l:K.lookup f_qn = some ⟨oc_qn,od_qn,.func (PySem.W.fnOf "kind_among" "kind_among" (Bl Re) (Bk Re) (Bc Re) .none kV_qn dc_qn pm_qn an_qn cd_qn ct_qn),sl_qn⟩)
  (h_qn_c:PySem.W.codeIn K cd_qn "kind_among" = true)
  (h_qn_k:PySem.W.keepIn K (.ref f_qn) = true)
  (h_qk_a:PySem.W.nsIn K mainGlobals "check_join" = some (some (.ref f_qk)))
  (h_qk_l:K.lookup f_qk = some ⟨oc_qk,od_qk,.func (PySem.W.fnOf "check_join" "check_join" (Bl Qx) (Bk Qx) (Bc Qx) .none kV_qk dc_qk pm_qk an_qk cd_qk ct_qk),sl_qk⟩)
  (h_qk_c:PySem.W.codeIn K cd_qk "check_join" = true)
  (h_qk_k:PySem.W.keepIn K (.ref f_qk) = true)
  (h_qd_a:PySem.W.nsIn K mainGlobals "ends_in_time" = some (some (.ref f_qd)))
  (h_qd_l:K.lookup f_qd = some ⟨oc_qd,od_qd,.func (PySem.W.fnOf "ends_in_time" "ends_in_time" (Bl Qp) (Bk Qp) (Bc Qp) .none kV_qd dc_qd pm_qd an_qd cd_qd ct_qd),sl_qd⟩)
  (h_qd_c:PySem.W.codeIn K cd_qd "ends_in_time" = true)
  (h_qd_k:PySem.W.keepIn K (.ref f_qd) = true)
  (h_qr_a:PySem.W.nsIn K mainGlobals "pairs_told" = some (some (.ref f_qr)))
  (h_qr_l:K.lookup f_qr = some ⟨oc_qr,od_qr,.func (PySem.W.fnOf "pairs_told" "pairs_told" (Bl Qw) (Bk Qw) (Bc Qw) .none kV_qr dc_qr pm_qr an_qr cd_qr ct_qr),sl_qr⟩)
  (h_qr_c:PySem.W.codeIn K cd_qr "pairs_told" = true)
  (h_qr_k:PySem.W.keepIn K (.ref f_qr) = true)
  (h_qi_a:PySem.W.nsIn K mainGlobals "wholes_told" = some (some (.ref f_qi)))
  (h_qi_l:K.lookup f_qi = some ⟨oc_qi,od_qi,.func (PySem.W.fnOf "wholes_told" "wholes_told" (Bl Ov) (Bk Ov) (Bc Ov) .none kV_qi dc_qi pm_qi an_qi cd_qi ct_qi),sl_qi⟩)
  (h_qi_c:PySem.W.codeIn K cd_qi "wholes_told" = true)
  (h_qi_k:PySem.W.keepIn K (.ref f_qi) = true)
  (h_qt_a:PySem.W.findIn K (.ref C_Book) "__init__" = some (some (.ref f_qt)))
  (h_qt_i:PySem.W.isFn K (.ref f_qt) = true)
  (h_qt_l:K.lookup f_qt = some ⟨oc_qt,od_qt,.func (PySem.W.fnOf "__init__" "Book.__init__" (Bl Qv) (Bk Qv) (Bc Qv) .none kV_qt dc_qt pm_qt an_qt cd_qt ct_qt),sl_qt⟩)
  (h_qt_c:PySem.W.codeIn K cd_qt "Book.__init__" = true)
  (h_qt_k:PySem.W.keepIn K (.ref f_qt) = true)
  (h_qbj_a:PySem.W.nsIn K mainGlobals "_law_text" = some (some (.ref f_qbj)))
  (h_qbj_l:K.lookup f_qbj = some ⟨oc_qbj,od_qbj,.func (PySem.W.fnOf "_law_text" "_law_text" (Bl Na) (Bk Na) (Bc Na) .none kV_qbj dc_qbj pm_qbj an_qbj cd_qbj ct_qbj),sl_qbj⟩)
  (h_qbj_c:PySem.W.codeIn K cd_qbj "_law_text" = true)
  (h_qbj_k:PySem.W.keepIn K (.ref f_qbj) = true)
  (h_qq_a:PySem.W.nsIn K mainGlobals "_law_wholes" = some (some (.ref f_qq)))
  (h_qq_l:K.lookup f_qq = some ⟨oc_qq,od_qq,.func (PySem.W.fnOf "_law_wholes" "_law_wholes" (Bl Rr) (Bk Rr) (Bc Rr) .none kV_qq dc_qq pm_qq an_qq cd_qq ct_qq),sl_qq⟩)
  (h_qq_c:PySem.W.codeIn K cd_qq "_law_wholes" = true)
  (h_qq_k:PySem.W.keepIn K (.ref f_qq) = true)
  (h_qu_a:PySem.W.findIn K (.ref C_Book) "kind" = some (some (.ref f_qu)))
  (h_qu_i:PySem.W.isFn K (.ref f_qu) = true)
  (h_qu_l:K.lookup f_qu = some ⟨oc_qu,od_qu,.func (PySem.W.fnOf "kind" "Book.kind" (Bl Qy) (Bk Qy) (Bc Qy) .none kV_qu dc_qu pm_qu an_qu cd_qu ct_qu),sl_qu⟩)
  (h_qu_c:PySem.W.codeIn K cd_qu "Book.kind" = true)
  (h_qu_k:PySem.W.keepIn K (.ref f_qu) = true)
  (h_qbg_a:PySem.W.nsIn K mainGlobals "wholes_of" = some (some (.ref f_qbg)))
  (h_qbg_l:K.lookup f_qbg = some ⟨oc_qbg,od_qbg,.func (PySem.W.fnOf "wholes_of" "wholes_of" (Bl Ln) (Bk Ln) (Bc Ln) .none kV_qbg dc_qbg pm_qbg an_qbg cd_qbg ct_qbg),sl_qbg⟩)
  (h_qbg_c:PySem.W.codeIn K cd_qbg "wholes_of" = true)
  (h_qbg_k:PySem.W.keepIn K (.ref f_qbg) = true)
  (h_qe_a:PySem.W.nsIn K mainGlobals "is_number_to" = some (some (.ref f_qe)))
  (h_qe_l:K.lookup f_qe = some ⟨oc_qe,od_qe,.func (PySem.W.fnOf "is_number_to" "is_number_to" (Bl Rh) (Bk Rh) (Bc Rh) .none kV_qe dc_qe pm_qe an_qe cd_qe ct_qe),sl_qe⟩)
  (h_qe_c:PySem.W.codeIn K cd_qe "is_number_to" = true)
  (h_qe_k:PySem.W.keepIn K (.ref f_qe) = true)
  (h_ql_a:PySem.W.nsIn K mainGlobals "check_span" = some (some (.ref f_ql)))
  (h_ql_l:K.lookup f_ql = some ⟨oc_ql,od_ql,.func (PySem.W.fnOf "check_span" "check_span" (Bl Rf) (Bk Rf) (Bc Rf) .none kV_ql dc_ql pm_ql an_ql cd_ql ct_ql),sl_ql⟩)
  (h_ql_c:PySem.W.codeIn K cd_ql "check_span" = true)
  (h_ql_k:PySem.W.keepIn K (.ref f_ql) = true)
  (h_qbl_a:PySem.W.nsIn K mainGlobals "signs_of" = some (some (.ref f_qbl)))
  (h_qbl_l:K.lookup f_qbl = some ⟨oc_qbl,od_qbl,.func (PySem.W.fnOf "signs_of" "signs_of" (Bl Ly) (Bk Ly) (Bc Ly) .none kV_qbl dc_qbl pm_qbl an_qbl cd_qbl ct_qbl),sl_qbl⟩)
  (h_qbl_c:PySem.W.codeIn K cd_qbl "signs_of" = true)
  (h_qbl_k:PySem.W.keepIn K (.ref f_qbl) = true)
  (h_qbn_a:PySem.W.nsIn K mainGlobals "part_of" = some (some (.ref f_qbn)))
  (h_qbn_l:K.lookup f_qbn = some ⟨oc_qbn,od_qbn,.func (PySem.W.fnOf "part_of" "part_of" (Bl Lz) (Bk Lz) (Bc Lz) .none kV_qbn dc_qbn pm_qbn an_qbn cd_qbn ct_qbn),sl_qbn⟩)
  (h_qbn_c:PySem.W.codeIn K cd_qbn "part_of" = true)
  (h_qbn_k:PySem.W.keepIn K (.ref f_qbn) = true)
  (h_qy_a:PySem.W.nsIn K mainGlobals "_law_asked" = some (some (.ref f_qy)))
  (h_qy_l:K.lookup f_qy = some ⟨oc_qy,od_qy,.func (PySem.W.fnOf "_law_asked" "_law_asked" (Bl Oy) (Bk Oy) (Bc Oy) .none kV_qy dc_qy pm_qy an_qy cd_qy ct_qy),sl_qy⟩)
  (h_qy_c:PySem.W.codeIn K cd_qy "_law_asked" = true)
  (h_qy_k:PySem.W.keepIn K (.ref f_qy) = true)
  (h_qp_a:PySem.W.nsIn K mainGlobals "_law_groups" = some (some (.ref f_qp)))
  (h_qp_l:K.lookup f_qp = some ⟨oc_qp,od_qp,.func (PySem.W.fnOf "_law_groups" "_law_groups" (Bl Qa) (Bk Qa) (Bc Qa) .none kV_qp dc_qp pm_qp an_qp cd_qp ct_qp),sl_qp⟩)
  (h_qp_c:PySem.W.codeIn K cd_qp "_law_groups" = true)
  (h_qp_k:PySem.W.keepIn K (.ref f_qp) = true)
  (h_qbc_a:PySem.W.nsIn K mainGlobals "_law_marky" = some (some (.ref f_qbc)))
  (h_qbc_l:K.lookup f_qbc = some ⟨oc_qbc,od_qbc,.func (PySem.W.fnOf "_law_marky" "_law_marky" (Bl Lq) (Bk Lq) (Bc Lq) .none kV_qbc dc_qbc pm_qbc an_qbc cd_qbc ct_qbc),sl_qbc⟩)
  (h_qbc_c:PySem.W.codeIn K cd_qbc "_law_marky" = true)
  (h_qbc_k:PySem.W.keepIn K (.ref f_qbc) = true)
  (h_qbi_a:PySem.W.nsIn K mainGlobals "_law_flat" = some (some (.ref f_qbi)))
  (h_qbi_l:K.lookup f_qbi = some ⟨oc_qbi,od_qbi,.func (PySem.W.fnOf "_law_flat" "_law_flat" (Bl Lu) (Bk Lu) (Bc Lu) .none kV_qbi dc_qbi pm_qbi an_qbi cd_qbi ct_qbi),sl_qbi⟩)
  (h_qbi_c:PySem.W.codeIn K cd_qbi "_law_flat" = true)
  (h_qbi_k:PySem.W.keepIn K (.ref f_qbi) = true)
  (h_qbe_a:PySem.W.nsIn K mainGlobals "_law_whole" = some (some (.ref f_qbe)))
  (h_qbe_l:K.lookup f_qbe = some ⟨oc_qbe,od_qbe,.func (PySem.W.fnOf "_law_whole" "_law_whole" (Bl Lo) (Bk Lo) (Bc Lo) .none kV_qbe dc_qbe pm_qbe an_qbe cd_qbe ct_qbe),sl_qbe⟩)
  (h_qbe_c:PySem.W.codeIn K cd_qbe "_law_whole" = true)
  (h_qbe_k:PySem.W.keepIn K (.ref f_qbe) = true)
  (h_qbp_a:PySem.W.nsIn K mainGlobals "law" = some (some (.ref f_qbp)))
  (h_qbp_l:K.lookup f_qbp = some ⟨oc_qbp,od_qbp,.func (PySem.W.fnOf "law" "law" (Bl Gs) (Bk Gs) (Bc Gs) .none kV_qbp dc_qbp pm_qbp an_qbp cd_qbp ct_qbp),sl_qbp⟩)
  (h_qbp_c:PySem.W.codeIn K cd_qbp "law" = true)
  (h_qbp_k:PySem.W.keepIn K (.ref f_qbp) = true)
  (pg_Book:PySem.W.plainGet K C_Book Str.empty = true)
  (hd_Book:PySem.W.hasDictIn K C_Book = true)
  (po_Book:PySem.W.plainOver K C_Book = true)
  (sa_Book:PySem.W.findIn K (.ref C_Book) "__setattr__" = some (some (.builtin "object.__setattr__")))
  (mk_Book:PySem.W.makesIn K C_Book = true)
  (kc_Book:PySem.W.keepIn K (.ref C_Book) = true)
  (n_Book_kinds:PySem.W.findIn K (.ref C_Book) "kinds" = some none)
  (n_Book_ranks:PySem.W.findIn K (.ref C_Book) "ranks" = some none)
  (n_Book_mates:PySem.W.findIn K (.ref C_Book) "mates" = some none)
  (n_Book_pairs:PySem.W.findIn K (.ref C_Book) "pairs" = some none)
  (n_Book_wholes:PySem.W.findIn K (.ref C_Book) "wholes" = some none)
  (aC_HandsError:PySem.W.nsIn K mainGlobals "HandsError" = some (some (.ref C_HandsError)))
  (x_HandsError:PySem.W.excIn K C_HandsError [.type "ValueError",.type "Exception",.type "BaseException",.type "object"] "ValueError.__new__" = true)
  (aC_NoBook:PySem.W.nsIn K mainGlobals "NoBook" = some (some (.ref C_NoBook)))
  (x_NoBook:PySem.W.excIn K C_NoBook [.type "ValueError",.type "Exception",.type "BaseException",.type "object"] "ValueError.__new__" = true)
  (aC_NoPlace:PySem.W.nsIn K mainGlobals "NoPlace" = some (some (.ref C_NoPlace)))
  (x_NoPlace:PySem.W.excIn K C_NoPlace [.type "ValueError",.type "Exception",.type "BaseException",.type "object"] "ValueError.__new__" = true)
  (aC_NoStep:PySem.W.nsIn K mainGlobals "NoStep" = some (some (.ref C_NoStep)))
  (x_NoStep:PySem.W.excIn K C_NoStep [.type "ValueError",.type "Exception",.type "BaseException",.type "object"] "ValueError.__new__" = true)
  (aC_NoWhat:PySem.W.nsIn K mainGlobals "NoWhat" = some (some (.ref C_NoWhat)))
  (x_NoWhat:PySem.W.excIn K C_NoWhat [.type "ValueError",.type "Exception",.type "BaseException",.type "object"] "ValueError.__new__" = true)
  (aC_NoWidth:PySem.W.nsIn K mainGlobals "NoWidth" = some (some (.ref C_NoWidth)))
  (x_NoWidth:PySem.W.excIn K C_NoWidth [.type "ValueError",.type "Exception",.type "BaseException",.type "object"] "ValueError.__new__" = true)
  (r_NoPlace_HandsError:PySem.W.mroIn K C_NoPlace (.ref C_HandsError) = some true)
  (Ncd_NoPlace:PySem.W.isClsIn K C_NoPlace = true)
  (Nga_NoPlace:PySem.W.findIn K (.ref C_NoPlace) "__getattribute__" = some (some (.builtin "BaseException.__getattribute__")))
  (Ngx_NoPlace:PySem.W.findIn K (.ref C_NoPlace) "__getattr__" = some none)
  (Ncl_NoPlace:PySem.W.findIn K (.ref C_NoPlace) "__class__" = some (some (.builtin "object.__class__")))
  (Nsg_NoPlace:PySem.W.specialIn K (.builtin "object.__class__") "__get__" = some (some (.builtin "getset_descriptor.__get__")))
  (Ntk_NoPlace:PySem.W.takesIn K (.builtin "object.__class__") = some true)
  (NmB_NoPlace:PySem.W.mroIn K C_NoPlace (.type "BaseException") = some true)
  (NmO_NoPlace:PySem.W.mroIn K C_NoPlace (.type "object") = some true)
  (i_NoPlace_NoPlace:PySem.W.kitOne K (.ref C_NoPlace) (.ref C_NoPlace) = some true)
  (i_NoPlace_ValueError:PySem.W.kitOne K (.ref C_NoPlace) (.type "ValueError") = some true)
  (i_NoPlace_NoBook:PySem.W.kitOne K (.ref C_NoPlace) (.ref C_NoBook) = some false)
  (i_NoPlace_NoStep:PySem.W.kitOne K (.ref C_NoPlace) (.ref C_NoStep) = some false)
  (i_NoPlace_NoWhat:PySem.W.kitOne K (.ref C_NoPlace) (.ref C_NoWhat) = some false)
  (i_NoPlace_NoWidth:PySem.W.kitOne K (.ref C_NoPlace) (.ref C_NoWidth) = some false)
  (z_ValueError:PySem.W.nsIn K mainGlobals "ValueError" = some none)
  (z_all:PySem.W.nsIn K mainGlobals "all" = some none)
  (z_bool:PySem.W.nsIn K mainGlobals "bool" = some none)
  (z_int:PySem.W.nsIn K mainGlobals "int" = some none)
  (z_isinstance:PySem.W.nsIn K mainGlobals "isinstance" = some none)
  (z_len:PySem.W.nsIn K mainGlobals "len" = some none)
  (z_list:PySem.W.nsIn K mainGlobals "list" = some none)
  (z_range:PySem.W.nsIn K mainGlobals "range" = some none)
  (z_sorted:PySem.W.nsIn K mainGlobals "sorted" = some none)
  (z_str:PySem.W.nsIn K mainGlobals "str" = some none)
  (z_tuple:PySem.W.nsIn K mainGlobals "tuple" = some none)
  (z_zip:PySem.W.nsIn K mainGlobals "zip" = some none)
  (g_JOINED_KINDS:PySem.W.nsIn K mainGlobals "JOINED_KINDS" = some (some (.ref a_JOINED_KINDS)))
  (l_JOINED_KINDS:K.lookup a_JOINED_KINDS = some ⟨.type "tuple",od_JOINED_KINDS,.seq its_JOINED_KINDS n_JOINED_KINDS,sl_JOINED_KINDS⟩)
  (s_JOINED_KINDS:its_JOINED_KINDS.size <= sizeLine)
  (v_JOINED_KINDS:Vals [.str "fore",.str "back",.str "num",.str "blank",.str "plain"] its_JOINED_KINDS.toList)
  (g_MOST_GOINGS:PySem.W.nsIn K mainGlobals "MOST_GOINGS" = some (some u_MOST_GOINGS))
  (r_MOST_GOINGS:RelV (.int 7) u_MOST_GOINGS)
  (g_TOLD_KINDS:PySem.W.nsIn K mainGlobals "TOLD_KINDS" = some (some (.ref a_TOLD_KINDS)))
  (l_TOLD_KINDS:K.lookup a_TOLD_KINDS = some ⟨.type "tuple",od_TOLD_KINDS,.seq its_TOLD_KINDS n_TOLD_KINDS,sl_TOLD_KINDS⟩)
  (s_TOLD_KINDS:its_TOLD_KINDS.size <= sizeLine)
  (v_TOLD_KINDS:Vals [.str "fore",.str "back",.str "num",.str "blank",.str "mark",.str "forein",.str "backin",.str "out"] its_TOLD_KINDS.toList)
  : ∃ fd:FuncData,(∀ (s:Shared) (v:Value),BindsTo s fd ⟨[v],[]⟩ [("_law_script",v)])/\∀ base:Heap,K.In base->base.Ns mainGlobals mg->FnOk l.prog w K mg base (CX1 l.prog w) 7 fa fd ["_law_script"] (Uk K):=by
 have e:=hfa.symm.trans (PySem.W.mg_of X G h_qbp_a)
 cases e
 have T:Txt K mg ⟨f_qbd,PySem.W.fnOf "_law_signs" "_law_signs" (Bl Lv) (Bk Lv) (Bc Lv) .none kV_qbd dc_qbd pm_qbd an_qbd cd_qbd ct_qbd,f_qbk,PySem.W.fnOf "_law_told" "_law_told" (Bl Lr) (Bk Lr) (Bc Lr) .none kV_qbk dc_qbk pm_qbk an_qbk cd_qbk ct_qbk,f_qz,PySem.W.fnOf "_law_joins" "_law_joins" (Bl Qm) (Bk Qm) (Bc Qm) .none kV_qz dc_qz pm_qz an_qz cd_qz ct_qz,f_qh,PySem.W.fnOf "_law_cell_at" "_law_cell_at" (Bl Rc) (Bk Rc) (Bc Rc) .none kV_qh dc_qh pm_qh an_qh cd_qh ct_qh,f_qbb,PySem.W.fnOf "_law_lists" "_law_lists" (Bl Lp) (Bk Lp) (Bc Lp) .none kV_qbb dc_qbb pm_qbb an_qbb cd_qbb ct_qbb,f_qbf,PySem.W.fnOf "_law_words" "_law_words" (Bl Nb) (Bk Nb) (Bc Nb) .none kV_qbf dc_qbf pm_qbf an_qbf cd_qbf ct_qbf,f_qb,PySem.W.fnOf "refuse_unless" "refuse_unless" (Bl Oz) (Bk Oz) (Bc Oz) .none kV_qb dc_qb pm_qb an_qb cd_qb ct_qb,f_qc,PySem.W.fnOf "check_tuples" "check_tuples" (Bl Qr) (Bk Qr) (Bc Qr) .none kV_qc dc_qc pm_qc an_qc cd_qc ct_qc,f_qa,PySem.W.fnOf "is_whole_number" "is_whole_number" (Bl Qs) (Bk Qs) (Bc Qs) .none kV_qa dc_qa pm_qa an_qa cd_qa ct_qa,f_qbm,PySem.W.fnOf "is_sign" "is_sign" (Bl Lx) (Bk Lx) (Bc Lx) .none kV_qbm dc_qbm pm_qbm an_qbm cd_qbm ct_qbm,f_qbh,PySem.W.fnOf "add_kind" "add_kind" (Bl Lw) (Bk Lw) (Bc Lw) .none kV_qbh dc_qbh pm_qbh an_qbh cd_qbh ct_qbh,f_qf,PySem.W.fnOf "is_told_kind" "is_told_kind" (Bl Qt) (Bk Qt) (Bc Qt) .none kV_qf dc_qf pm_qf an_qf cd_qf ct_qf,f_qm,PySem.W.fnOf "is_rank_of" "is_rank_of" (Bl Ra) (Bk Ra) (Bc Ra) .none kV_qm dc_qm pm_qm an_qm cd_qm ct_qm,f_qo,PySem.W.fnOf "kinds_told" "kinds_told" (Bl Qd) (Bk Qd) (Bc Qd) .none kV_qo dc_qo pm_qo an_qo cd_qo ct_qo,f_qs,PySem.W.fnOf "ranks_told" "ranks_told" (Bl Ql) (Bk Ql) (Bc Ql) .none kV_qs dc_qs pm_qs an_qs cd_qs ct_qs,f_qx,PySem.W.fnOf "both_ways" "both_ways" (Bl Qb) (Bk Qb) (Bc Qb) .none kV_qx dc_qx pm_qx an_qx cd_qx ct_qx,f_qn,PySem.W.fnOf "kind_among" "kind_among" (Bl Re) (Bk Re) (Bc Re) .none kV_qn dc_qn pm_qn an_qn cd_qn ct_qn,f_qk,PySem.W.fnOf "check_join" "check_join" (Bl Qx) (Bk Qx) (Bc Qx) .none kV_qk dc_qk pm_qk an_qk cd_qk ct_qk,f_qd,PySem.W.fnOf "ends_in_time" "ends_in_time" (Bl Qp) (Bk Qp) (Bc Qp) .none kV_qd dc_qd pm_qd an_qd cd_qd ct_qd,f_qr,PySem.W.fnOf "pairs_told" "pairs_told" (Bl Qw) (Bk Qw) (Bc Qw) .none kV_qr dc_qr pm_qr an_qr cd_qr ct_qr,f_qi,PySem.W.fnOf "wholes_told" "wholes_told" (Bl Ov) (Bk Ov) (Bc Ov) .none kV_qi dc_qi pm_qi an_qi cd_qi ct_qi,f_qt,PySem.W.fnOf "__init__" "Book.__init__" (Bl Qv) (Bk Qv) (Bc Qv) .none kV_qt dc_qt pm_qt an_qt cd_qt ct_qt,f_qbj,PySem.W.fnOf "_law_text" "_law_text" (Bl Na) (Bk Na) (Bc Na) .none kV_qbj dc_qbj pm_qbj an_qbj cd_qbj ct_qbj,f_qq,PySem.W.fnOf "_law_wholes" "_law_wholes" (Bl Rr) (Bk Rr) (Bc Rr) .none kV_qq dc_qq pm_qq an_qq cd_qq ct_qq,f_qu,PySem.W.fnOf "kind" "Book.kind" (Bl Qy) (Bk Qy) (Bc Qy) .none kV_qu dc_qu pm_qu an_qu cd_qu ct_qu,f_qbg,PySem.W.fnOf "wholes_of" "wholes_of" (Bl Ln) (Bk Ln) (Bc Ln) .none kV_qbg dc_qbg pm_qbg an_qbg cd_qbg ct_qbg,f_qe,PySem.W.fnOf "is_number_to" "is_number_to" (Bl Rh) (Bk Rh) (Bc Rh) .none kV_qe dc_qe pm_qe an_qe cd_qe ct_qe,f_ql,PySem.W.fnOf "check_span" "check_span" (Bl Rf) (Bk Rf) (Bc Rf) .none kV_ql dc_ql pm_ql an_ql cd_ql ct_ql,f_qbl,PySem.W.fnOf "signs_of" "signs_of" (Bl Ly) (Bk Ly) (Bc Ly) .none kV_qbl dc_qbl pm_qbl an_qbl cd_qbl ct_qbl,f_qbn,PySem.W.fnOf "part_of" "part_of" (Bl Lz) (Bk Lz) (Bc Lz) .none kV_qbn dc_qbn pm_qbn an_qbn cd_qbn ct_qbn,f_qy,PySem.W.fnOf "_law_asked" "_law_asked" (Bl Oy) (Bk Oy) (Bc Oy) .none kV_qy dc_qy pm_qy an_qy cd_qy ct_qy,f_qp,PySem.W.fnOf "_law_groups" "_law_groups" (Bl Qa) (Bk Qa) (Bc Qa) .none kV_qp dc_qp pm_qp an_qp cd_qp ct_qp,f_qbc,PySem.W.fnOf "_law_marky" "_law_marky" (Bl Lq) (Bk Lq) (Bc Lq) .none kV_qbc dc_qbc pm_qbc an_qbc cd_qbc ct_qbc,f_qbi,PySem.W.fnOf "_law_flat" "_law_flat" (Bl Lu) (Bk Lu) (Bc Lu) .none kV_qbi dc_qbi pm_qbi an_qbi cd_qbi ct_qbi,f_qbe,PySem.W.fnOf "_law_whole" "_law_whole" (Bl Lo) (Bk Lo) (Bc Lo) .none kV_qbe dc_qbe pm_qbe an_qbe cd_qbe ct_qbe,fa,PySem.W.fnOf "law" "law" (Bl Gs) (Bk Gs) (Bc Gs) .none kV_qbp dc_qbp pm_qbp an_qbp cd_qbp ct_qbp,C_Book,a_JOINED_KINDS,a_TOLD_KINDS,C_HandsError,C_NoBook,C_NoPlace,C_NoStep,C_NoWhat,C_NoWidth⟩:={
  F_qbd:=Cf (st:=Lv) h_qbd_l h_qbd_c h_qbd_k
  m_qbd:=PySem.W.mg_of X G h_qbd_a
  F_qbk:=Cf (st:=Lr) h_qbk_l h_qbk_c h_qbk_k
  m_qbk:=PySem.W.mg_of X G h_qbk_a
  F_qz:=Cf (st:=Qm) h_qz_l h_qz_c h_qz_k
  m_qz:=PySem.W.mg_of X G h_qz_a
  F_qh:=Cf (st:=Rc) h_qh_l h_qh_c h_qh_k
  m_qh:=PySem.W.mg_of X G h_qh_a
  F_qbb:=Cf (st:=Lp) h_qbb_l h_qbb_c h_qbb_k
  m_qbb:=PySem.W.mg_of X G h_qbb_a
  F_qbf:=Cf (st:=Nb) h_qbf_l h_qbf_c h_qbf_k
  m_qbf:=PySem.W.mg_of X G h_qbf_a
  F_qb:=Cf (st:=Oz) h_qb_l h_qb_c h_qb_k
  m_qb:=PySem.W.mg_of X G h_qb_a
  F_qc:=Cf (st:=Qr) h_qc_l h_qc_c h_qc_k
  m_qc:=PySem.W.mg_of X G h_qc_a
  F_qa:=Cf (st:=Qs) h_qa_l h_qa_c h_qa_k
  m_qa:=PySem.W.mg_of X G h_qa_a
  F_qbm:=Cf (st:=Lx) h_qbm_l h_qbm_c h_qbm_k
  m_qbm:=PySem.W.mg_of X G h_qbm_a
  F_qbh:=Cf (st:=Lw) h_qbh_l h_qbh_c h_qbh_k
  m_qbh:=PySem.W.mg_of X G h_qbh_a
  F_qf:=Cf (st:=Qt) h_qf_l h_qf_c h_qf_k
  m_qf:=PySem.W.mg_of X G h_qf_a
  F_qm:=Cf (st:=Ra) h_qm_l h_qm_c h_qm_k
  m_qm:=PySem.W.mg_of X G h_qm_a
  F_qo:=Cf (st:=Qd) h_qo_l h_qo_c h_qo_k
  m_qo:=PySem.W.mg_of X G h_qo_a
  F_qs:=Cf (st:=Ql) h_qs_l h_qs_c h_qs_k
  m_qs:=PySem.W.mg_of X G h_qs_a
  F_qx:=Cf (st:=Qb) h_qx_l h_qx_c h_qx_k
  m_qx:=PySem.W.mg_of X G h_qx_a
  F_qn:=Cf (st:=Re) h_qn_l h_qn_c h_qn_k
  m_qn:=PySem.W.mg_of X G h_qn_a
  F_qk:=Cf (st:=Qx) h_qk_l h_qk_c h_qk_k
  m_qk:=PySem.W.mg_of X G h_qk_a
  F_qd:=Cf (st:=Qp) h_qd_l h_qd_c h_qd_k
  m_qd:=PySem.W.mg_of X G h_qd_a
  F_qr:=Cf (st:=Qw) h_qr_l h_qr_c h_qr_k
  m_qr:=PySem.W.mg_of X G h_qr_a
  F_qi:=Cf (st:=Ov) h_qi_l h_qi_c h_qi_k
  m_qi:=PySem.W.mg_of X G h_qi_a
  F_qt:=Cf (st:=Qv) h_qt_l h_qt_c h_qt_k
  F_qbj:=Cf (st:=Na) h_qbj_l h_qbj_c h_qbj_k
  m_qbj:=PySem.W.mg_of X G h_qbj_a
  F_qq:=Cf (st:=Rr) h_qq_l h_qq_c h_qq_k
  m_qq:=PySem.W.mg_of X G h_qq_a
  F_qu:=Cf (st:=Qy) h_qu_l h_qu_c h_qu_k
  M_qu:=⟨h_qu_a,h_qu_i,h_qu_k⟩
  F_qbg:=Cf (st:=Ln) h_qbg_l h_qbg_c h_qbg_k
  m_qbg:=PySem.W.mg_of X G h_qbg_a
  F_qe:=Cf (st:=Rh) h_qe_l h_qe_c h_qe_k
  m_qe:=PySem.W.mg_of X G h_qe_a
  F_ql:=Cf (st:=Rf) h_ql_l h_ql_c h_ql_k
  m_ql:=PySem.W.mg_of X G h_ql_a
  F_qbl:=Cf (st:=Ly) h_qbl_l h_qbl_c h_qbl_k
  m_qbl:=PySem.W.mg_of X G h_qbl_a
  F_qbn:=Cf (st:=Lz) h_qbn_l h_qbn_c h_qbn_k
  m_qbn:=PySem.W.mg_of X G h_qbn_a
  F_qy:=Cf (st:=Oy) h_qy_l h_qy_c h_qy_k
  m_qy:=PySem.W.mg_of X G h_qy_a
  F_qp:=Cf (st:=Qa) h_qp_l h_qp_c h_qp_k
  m_qp:=PySem.W.mg_of X G h_qp_a
  F_qbc:=Cf (st:=Lq) h_qbc_l h_qbc_c h_qbc_k
  m_qbc:=PySem.W.mg_of X G h_qbc_a
  F_qbi:=Cf (st:=Lu) h_qbi_l h_qbi_c h_qbi_k
  m_qbi:=PySem.W.mg_of X G h_qbi_a
  F_qbe:=Cf (st:=Lo) h_qbe_l h_qbe_c h_qbe_k
  m_qbe:=PySem.W.mg_of X G h_qbe_a
  F_qbp:=Cf (st:=Gs) h_qbp_l h_qbp_c h_qbp_k
  m_qbp:=PySem.W.mg_of X G h_qbp_a
  m_Book:=PySem.W.mg_of X G aC_Book
  cl_Book:=⟨pg_Book,hd_Book,po_Book,sa_Book⟩
  K_Book:=⟨mk_Book,h_qt_a,h_qt_i,kc_Book⟩
  n_Book_kinds:=n_Book_kinds
  n_Book_ranks:=n_Book_ranks
  n_Book_mates:=n_Book_mates
  n_Book_pairs:=n_Book_pairs
  n_Book_wholes:=n_Book_wholes
  m_HandsError:=PySem.W.mg_of X G aC_HandsError
  x_HandsError:=x_HandsError
  m_NoBook:=PySem.W.mg_of X G aC_NoBook
  x_NoBook:=x_NoBook
  m_NoPlace:=PySem.W.mg_of X G aC_NoPlace
  x_NoPlace:=x_NoPlace
  m_NoStep:=PySem.W.mg_of X G aC_NoStep
  x_NoStep:=x_NoStep
  m_NoWhat:=PySem.W.mg_of X G aC_NoWhat
  x_NoWhat:=x_NoWhat
  m_NoWidth:=PySem.W.mg_of X G aC_NoWidth
  x_NoWidth:=x_NoWidth
  r_NoPlace_HandsError:=r_NoPlace_HandsError
  N_NoPlace:=⟨Ncd_NoPlace,Nga_NoPlace,Ngx_NoPlace,Ncl_NoPlace,Nsg_NoPlace,Ntk_NoPlace,NmB_NoPlace,NmO_NoPlace⟩
  i_NoPlace_NoPlace:=i_NoPlace_NoPlace
  i_NoPlace_ValueError:=i_NoPlace_ValueError
  i_NoPlace_NoBook:=i_NoPlace_NoBook
  i_NoPlace_NoStep:=i_NoPlace_NoStep
  i_NoPlace_NoWhat:=i_NoPlace_NoWhat
  i_NoPlace_NoWidth:=i_NoPlace_NoWidth
  z_ValueError:=PySem.W.mg_none_of X G z_ValueError
  z_all:=PySem.W.mg_none_of X G z_all
  z_bool:=PySem.W.mg_none_of X G z_bool
  z_int:=PySem.W.mg_none_of X G z_int
  z_isinstance:=PySem.W.mg_none_of X G z_isinstance
  z_len:=PySem.W.mg_none_of X G z_len
  z_list:=PySem.W.mg_none_of X G z_list
  z_range:=PySem.W.mg_none_of X G z_range
  z_sorted:=PySem.W.mg_none_of X G z_sorted
  z_str:=PySem.W.mg_none_of X G z_str
  z_tuple:=PySem.W.mg_none_of X G z_tuple
  z_zip:=PySem.W.mg_none_of X G z_zip
  g_JOINED_KINDS:=PySem.W.mg_of X G g_JOINED_KINDS
  q_JOINED_KINDS:=fun _=>.inr ⟨_,_,_,l_JOINED_KINDS,rfl,rfl,s_JOINED_KINDS,v_JOINED_KINDS⟩
  g_MOST_GOINGS:=⟨_,PySem.W.mg_of X G g_MOST_GOINGS,r_MOST_GOINGS⟩
  g_TOLD_KINDS:=PySem.W.mg_of X G g_TOLD_KINDS
  q_TOLD_KINDS:=fun _=>.inr ⟨_,_,_,l_TOLD_KINDS,rfl,rfl,s_TOLD_KINDS,v_TOLD_KINDS⟩ }
 exact ⟨PySem.W.fnOf "law" "law" (Bl Gs) (Bk Gs) (Bc Gs) .none kV_qbp dc_qbp pm_qbp an_qbp cd_qbp ct_qbp,fun s v=>.of_eq rfl,fun base _ _=>(AhQ T).imp Agq⟩
theorem walk {l:PySem.W.OpenLaw} {q:Program} {loose:List Str} {XP:(Str->Option Value)->Heap->Prop} {YP:World->Heap->Prop} {d:DefRec} {K:Params->PySem.W.Frag} (hn:l.most = some 63) (hdf:d.params.defaults = [])
  (hY:∀ (w:World) (h:Heap),YP w h->(K w.params).In h)
  (F:∀ (w:World) (mg:Str->Option Value) (fa:Addr) (h:Heap),(K w.params).In h->h.Ns mainGlobals mg->mg d.name = some (.ref fa) ->
   ∃ fd:FuncData,(∀ (s:Shared) (u:Value),BindsTo s fd ⟨[u],[]⟩ [("_law_script",u)])/\∀ base:Heap,(K w.params).In base->base.Ns mainGlobals mg->FnOk l.prog w (K w.params) mg base (CX1 l.prog w) 7 fa fd ["_law_script"] (Uk (K w.params))) :
  PySem.W.WalkO q loose XP YP l.row.toRowW d [] (fun f vs=>PySem.call f vs) :=
 L2.AkW (n:=63) (k:=7) (x:="_law_script") (CX:=fun w=>(CX1 l.prog w)) (sp:=fun w=>Uk (K w.params)) hn (by decide) hdf ⟨rfl,by decide,by decide⟩ hY F (fun _ _ a ns hl _ hS=>⟨a,ns,rfl,hS,hl,fun _=>rfl⟩) fun _ _ _ _ _ z=>by obtain ⟨_,_,_,_,_,_,_,_,_,_,_,_,_,_,z⟩:=z; exact z
end My
open PySem PySem.W PyProof.Rows
set_option maxRecDepth 100000 in
set_option maxHeartbeats 0 in
theorem PySem.Challenge.cw_bothhands_k74_parts_holds : PySem.Challenge.rw_bothhands_k74_parts.Holds := by
 w_on; o_law; k_head; (case hw=>w_witness2)
 k_fill
 refine My.walk (l:=PySem.Challenge.rw_bothhands_k74_parts) rfl rfl (fun w h Y=>PySem.W.kIn_of Y) ?F
 case F =>
  intro w mg fa h KX G hmg
  refine' My.all_mk KX G hmg ?aC_Book ?h_qbd_a ?h_qbd_l ?h_qbd_c ?h_qbd_k ?h_qbk_a ?h_qbk_l ?h_qbk_c ?h_qbk_k ?h_qz_a ?h_qz_l ?h_qz_c ?h_qz_k ?h_qh_a ?h_qh_l ?h_qh_c ?h_qh_k ?h_qbb_a ?h_qbb_l ?h_qbb_c ?h_qbb_k ?h_qbf_a ?h_qbf_l ?h_qbf_c ?h_qbf_k ?h_qb_a ?h_qb_l ?h_qb_c ?h_qb_k ?h_qc_a ?h_qc_l ?h_qc_c ?h_qc_k ?h_qa_a ?h_qa_l ?h_qa_c ?h_qa_k ?h_qbm_a ?h_qbm_l ?h_qbm_c ?h_qbm_k ?h_qbh_a ?h_qbh_l ?h_qbh_c ?h_qbh_k ?h_qf_a ?h_qf_l ?h_qf_c ?h_qf_k ?h_qm_a ?h_qm_l ?h_qm_c ?h_qm_k ?h_qo_a ?h_qo_l ?h_qo_c ?h_qo_k ?h_qs_a ?h_qs_l ?h_qs_c ?h_qs_k ?h_qx_a ?h_qx_l ?h_qx_c ?h_qx_k ?h_qn_a ?h_qn_l ?h_qn_c ?h_qn_k ?h_qk_a ?h_qk_l ?h_qk_c ?h_qk_k ?h_qd_a ?h_qd_l ?h_qd_c ?h_qd_k ?h_qr_a ?h_qr_l ?h_qr_c ?h_qr_k ?h_qi_a ?h_qi_l ?h_qi_c ?h_qi_k ?h_qt_a ?h_qt_i ?h_qt_l ?h_qt_c ?h_qt_k ?h_qbj_a ?h_qbj_l ?h_qbj_c ?h_qbj_k ?h_qq_a ?h_qq_l ?h_qq_c ?h_qq_k ?h_qu_a ?h_qu_i ?h_qu_l ?h_qu_c ?h_qu_k ?h_qbg_a ?h_qbg_l ?h_qbg_c ?h_qbg_k ?h_qe_a ?h_qe_l ?h_qe_c ?h_qe_k ?h_ql_a ?h_ql_l ?h_ql_c ?h_ql_k ?h_qbl_a ?h_qbl_l ?h_qbl_c ?h_qbl_k ?h_qbn_a ?h_qbn_l ?h_qbn_c ?h_qbn_k ?h_qy_a ?h_qy_l ?h_qy_c ?h_qy_k ?h_qp_a ?h_qp_l ?h_qp_c ?h_qp_k ?h_qbc_a ?h_qbc_l ?h_qbc_c ?h_qbc_k ?h_qbi_a ?h_qbi_l ?h_qbi_c ?h_qbi_k ?h_qbe_a ?h_qbe_l ?h_qbe_c ?h_qbe_k ?h_qbp_a ?h_qbp_l ?h_qbp_c ?h_qbp_k ?pg_Book ?hd_Book ?po_Book ?sa_Book ?mk_Book ?kc_Book ?n_Book_kinds ?n_Book_ranks ?n_Book_mates ?n_Book_pairs ?n_Book_wholes ?aC_HandsError ?x_HandsError ?aC_NoBook ?x_NoBook ?aC_NoPlace ?x_NoPlace ?aC_NoStep ?x_NoStep ?aC_NoWhat ?x_NoWhat ?aC_NoWidth ?x_NoWidth ?r_NoPlace_HandsError ?Ncd_NoPlace ?Nga_NoPlace ?Ngx_NoPlace ?Ncl_NoPlace ?Nsg_NoPlace ?Ntk_NoPlace ?NmB_NoPlace ?NmO_NoPlace ?i_NoPlace_NoPlace ?i_NoPlace_ValueError ?i_NoPlace_NoBook ?i_NoPlace_NoStep ?i_NoPlace_NoWhat ?i_NoPlace_NoWidth ?z_ValueError ?z_all ?z_bool ?z_int ?z_isinstance ?z_len ?z_list ?z_range ?z_sorted ?z_str ?z_tuple ?z_zip ?g_JOINED_KINDS ?l_JOINED_KINDS ?s_JOINED_KINDS ?v_JOINED_KINDS ?g_MOST_GOINGS ?r_MOST_GOINGS ?g_TOLD_KINDS ?l_TOLD_KINDS ?s_TOLD_KINDS ?v_TOLD_KINDS
  (case aC_Book=>k_is)
  (case h_qbd_a=>k_is)
  (case h_qbd_l=>k_is)
  (case h_qbd_c=>k_is)
  (case h_qbd_k=>k_is)
  (case h_qbk_a=>k_is)
  (case h_qbk_l=>k_is)
  (case h_qbk_c=>k_is)
  (case h_qbk_k=>k_is)
  (case h_qz_a=>k_is)
  (case h_qz_l=>k_is)
  (case h_qz_c=>k_is)
  (case h_qz_k=>k_is)
  (case h_qh_a=>k_is)
  (case h_qh_l=>k_is)
  (case h_qh_c=>k_is)
  (case h_qh_k=>k_is)
  (case h_qbb_a=>k_is)
  (case h_qbb_l=>k_is)
  (case h_qbb_c=>k_is)
  (case h_qbb_k=>k_is)
  (case h_qbf_a=>k_is)
  (case h_qbf_l=>k_is)
  (case h_qbf_c=>k_is)
  (case h_qbf_k=>k_is)
  (case h_qb_a=>k_is)
  (case h_qb_l=>k_is)
  (case h_qb_c=>k_is)
  (case h_qb_k=>k_is)
  (case h_qc_a=>k_is)
  (case h_qc_l=>k_is)
  (case h_qc_c=>k_is)
  (case h_qc_k=>k_is)
  (case h_qa_a=>k_is)
  (case h_qa_l=>k_is)
  (case h_qa_c=>k_is)
  (case h_qa_k=>k_is)
  (case h_qbm_a=>k_is)
  (case h_qbm_l=>k_is)
  (case h_qbm_c=>k_is)
  (case h_qbm_k=>k_is)
  (case h_qbh_a=>k_is)
  (case h_qbh_l=>k_is)
  (case h_qbh_c=>k_is)
  (case h_qbh_k=>k_is)
  (case h_qf_a=>k_is)
  (case h_qf_l=>k_is)
  (case h_qf_c=>k_is)
  (case h_qf_k=>k_is)
  (case h_qm_a=>k_is)
  (case h_qm_l=>k_is)
  (case h_qm_c=>k_is)
  (case h_qm_k=>k_is)
  (case h_qo_a=>k_is)
  (case h_qo_l=>k_is)
  (case h_qo_c=>k_is)
  (case h_qo_k=>k_is)
  (case h_qs_a=>k_is)
  (case h_qs_l=>k_is)
  (case h_qs_c=>k_is)
  (case h_qs_k=>k_is)
  (case h_qx_a=>k_is)
  (case h_qx_l=>k_is)
  (case h_qx_c=>k_is)
  (case h_qx_k=>k_is)
  (case h_qn_a=>k_is)
  (case h_qn_l=>k_is)
  (case h_qn_c=>k_is)
  (case h_qn_k=>k_is)
  (case h_qk_a=>k_is)
  (case h_qk_l=>k_is)
  (case h_qk_c=>k_is)
  (case h_qk_k=>k_is)
  (case h_qd_a=>k_is)
  (case h_qd_l=>k_is)
  (case h_qd_c=>k_is)
  (case h_qd_k=>k_is)
  (case h_qr_a=>k_is)
  (case h_qr_l=>k_is)
  (case h_qr_c=>k_is)
  (case h_qr_k=>k_is)
  (case h_qi_a=>k_is)
  (case h_qi_l=>k_is)
  (case h_qi_c=>k_is)
  (case h_qi_k=>k_is)
  (case h_qt_a=>k_is)
  (case h_qt_i=>k_is)
  (case h_qt_l=>k_is)
  (case h_qt_c=>k_is)
  (case h_qt_k=>k_is)
  (case h_qbj_a=>k_is)
  (case h_qbj_l=>k_is)
  (case h_qbj_c=>k_is)
  (case h_qbj_k=>k_is)
  (case h_qq_a=>k_is)
  (case h_qq_l=>k_is)
  (case h_qq_c=>k_is)
  (case h_qq_k=>k_is)
  (case h_qu_a=>k_is)
  (case h_qu_i=>k_is)
  (case h_qu_l=>k_is)
  (case h_qu_c=>k_is)
  (case h_qu_k=>k_is)
  (case h_qbg_a=>k_is)
  (case h_qbg_l=>k_is)
  (case h_qbg_c=>k_is)
  (case h_qbg_k=>k_is)
  (case h_qe_a=>k_is)
  (case h_qe_l=>k_is)
  (case h_qe_c=>k_is)
  (case h_qe_k=>k_is)
  (case h_ql_a=>k_is)
  (case h_ql_l=>k_is)
  (case h_ql_c=>k_is)
  (case h_ql_k=>k_is)
  (case h_qbl_a=>k_is)
  (case h_qbl_l=>k_is)
  (case h_qbl_c=>k_is)
  (case h_qbl_k=>k_is)
  (case h_qbn_a=>k_is)
  (case h_qbn_l=>k_is)
  (case h_qbn_c=>k_is)
  (case h_qbn_k=>k_is)
  (case h_qy_a=>k_is)
  (case h_qy_l=>k_is)
  (case h_qy_c=>k_is)
  (case h_qy_k=>k_is)
  (case h_qp_a=>k_is)
  (case h_qp_l=>k_is)
  (case h_qp_c=>k_is)
  (case h_qp_k=>k_is)
  (case h_qbc_a=>k_is)
  (case h_qbc_l=>k_is)
  (case h_qbc_c=>k_is)
  (case h_qbc_k=>k_is)
  (case h_qbi_a=>k_is)
  (case h_qbi_l=>k_is)
  (case h_qbi_c=>k_is)
  (case h_qbi_k=>k_is)
  (case h_qbe_a=>k_is)
  (case h_qbe_l=>k_is)
  (case h_qbe_c=>k_is)
  (case h_qbe_k=>k_is)
  (case h_qbp_a=>k_is)
  (case h_qbp_l=>k_is)
  (case h_qbp_c=>k_is)
  (case h_qbp_k=>k_is)
  (case pg_Book=>k_is)
  (case hd_Book=>k_is)
  (case po_Book=>k_is)
  (case sa_Book=>k_is)
  (case mk_Book=>k_is)
  (case kc_Book=>k_is)
  (case n_Book_kinds=>k_is)
  (case n_Book_ranks=>k_is)
  (case n_Book_mates=>k_is)
  (case n_Book_pairs=>k_is)
  (case n_Book_wholes=>k_is)
  (case aC_HandsError=>k_is)
  (case x_HandsError=>k_exc)
  (case aC_NoBook=>k_is)
  (case x_NoBook=>k_exc)
  (case aC_NoPlace=>k_is)
  (case x_NoPlace=>k_exc)
  (case aC_NoStep=>k_is)
  (case x_NoStep=>k_exc)
  (case aC_NoWhat=>k_is)
  (case x_NoWhat=>k_exc)
  (case aC_NoWidth=>k_is)
  (case x_NoWidth=>k_exc)
  (case r_NoPlace_HandsError=>k_is)
  (case Ncd_NoPlace=>k_is)
  (case Nga_NoPlace=>k_is)
  (case Ngx_NoPlace=>k_is)
  (case Ncl_NoPlace=>k_is)
  (case Nsg_NoPlace=>k_is)
  (case Ntk_NoPlace=>k_is)
  (case NmB_NoPlace=>k_is)
  (case NmO_NoPlace=>k_is)
  (case i_NoPlace_NoPlace=>kit_is)
  (case i_NoPlace_ValueError=>kit_is)
  (case i_NoPlace_NoBook=>kit_is)
  (case i_NoPlace_NoStep=>kit_is)
  (case i_NoPlace_NoWhat=>kit_is)
  (case i_NoPlace_NoWidth=>kit_is)
  (case z_ValueError=>k_is)
  (case z_all=>k_is)
  (case z_bool=>k_is)
  (case z_int=>k_is)
  (case z_isinstance=>k_is)
  (case z_len=>k_is)
  (case z_list=>k_is)
  (case z_range=>k_is)
  (case z_sorted=>k_is)
  (case z_str=>k_is)
  (case z_tuple=>k_is)
  (case z_zip=>k_is)
  (case g_JOINED_KINDS=>k_is)
  (case l_JOINED_KINDS=>k_is)
  (case s_JOINED_KINDS=>decide)
  (case v_JOINED_KINDS=>exact .cons ⟨_,rfl⟩ (.cons ⟨_,rfl⟩ (.cons ⟨_,rfl⟩ (.cons ⟨_,rfl⟩ (.cons ⟨_,rfl⟩ (.nil))))))
  (case g_MOST_GOINGS=>k_is)
  (case r_MOST_GOINGS=>exact ⟨_,rfl⟩)
  (case g_TOLD_KINDS=>k_is)
  (case l_TOLD_KINDS=>k_is)
  (case s_TOLD_KINDS=>decide)
  (case v_TOLD_KINDS=>exact .cons ⟨_,rfl⟩ (.cons ⟨_,rfl⟩ (.cons ⟨_,rfl⟩ (.cons ⟨_,rfl⟩ (.cons ⟨_,rfl⟩ (.cons ⟨_,rfl⟩ (.cons ⟨_,rfl⟩ (.cons ⟨_,rfl⟩ (.nil)))))))))
